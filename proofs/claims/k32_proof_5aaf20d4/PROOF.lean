import PyProof.Rows.All
import Wide.All
import OpenK.AllK
import Wide.FinOn
import Lean
import PyProof.EqAt
import PyProof.EqKinds
import PyProof.TupleCall
import PySem.Challenge.RW_ringmeet_k32_quiet_machines
set_option Elab.async false
set_option compiler.extract_closed false
set_option linter.all false
set_option maxRecDepth 100000
set_option maxHeartbeats 4000000
section
namespace L2
open PySem PySem.Spec PyProof.Rows
noncomputable abbrev Key := Sum Int Str
noncomputable def keyIs : Key → Value → Bool
 | .inl k, v => Value.isInt k v
 | .inr x, v => Value.isStrOf x v
noncomputable def keyH (w : World) : Key → Int
 | .inl k => hashInt k
 | .inr x => hashStr w x
theorem keyIs_shape : ∀ {k : Key} {v : Value}, keyIs k v = true → (∃ i t, k = Sum.inl i ∧ v = Value.int i t) ∨ (∃ x t, k = Sum.inr x ∧ v = Value.str x t)
 | .inl i, v, h => by
   obtain ⟨t, e⟩ := Value.isInt_shape (k := i) (v := v) h
   exact .inl ⟨i, t, rfl, e⟩
 | .inr x, v, h => by
   obtain ⟨t, e⟩ := Value.isStrOf_shape (x := x) (v := v) h
   exact .inr ⟨x, t, rfl, e⟩
theorem keyIs_int (i : Int) (t : Tok) : keyIs (.inl i) (.int i t) = true := by simp [keyIs, Value.isInt]
theorem keyIs_str (x : Str) (t : Tok) : keyIs (.inr x) (.str x t) = true := by simp [keyIs, Value.isStrOf]
theorem key_ll (a b : Int) : decide ((Sum.inl a : Key) = Sum.inl b) = (a == b) := by
 by_cases e : a = b
 · subst e; simp
 · have h : ¬ (Sum.inl a : Key) = Sum.inl b := fun q => e (Sum.inl.inj q)
   rw [decide_eq_false h]
   exact (beq_eq_false_iff_ne.mpr e).symm
theorem key_rr (a b : Str) : decide ((Sum.inr a : Key) = Sum.inr b) = decide (a = b) := by
 by_cases e : a = b
 · subst e; simp
 · have h : ¬ (Sum.inr a : Key) = Sum.inr b := fun q => e (Sum.inr.inj q)
   rw [decide_eq_false h, decide_eq_false e]
theorem key_lr (a : Int) (b : Str) : decide ((Sum.inl a : Key) = Sum.inr b) = false := decide_eq_false (fun q => nomatch q)
theorem key_rl (a : Str) (b : Int) : decide ((Sum.inr a : Key) = Sum.inl b) = false := decide_eq_false (fun q => nomatch q)
noncomputable def mixKind (prog : Program) (w : World) : PySem.KeyKind prog w Key where
 is := keyIs
 hash := keyH w
 inj := fun v a b ha hb => by
   rcases keyIs_shape ha with ⟨i, t, rfl, rfl⟩ | ⟨x, t, rfl, rfl⟩
   · rcases keyIs_shape hb with ⟨j, u, rfl, e⟩ | ⟨y, u, rfl, e⟩
     · injection e with e1 _; rw [e1]
     · exact nomatch e
   · rcases keyIs_shape hb with ⟨j, u, rfl, e⟩ | ⟨y, u, rfl, e⟩
     · exact nomatch e
     · injection e with e1 _; rw [e1]
 byValue := fun k v h => by
   rcases keyIs_shape h with ⟨i, t, rfl, rfl⟩ | ⟨x, t, rfl, rfl⟩ <;> rfl
 pyHash := fun hv h => by
   rcases keyIs_shape hv with ⟨i, t, rfl, rfl⟩ | ⟨x, t, rfl, rfl⟩
   · exact wpAny_pyHash_int h
   · exact wpAny_pyHash_str h
 eqBool := fun hu hv h => by
   rcases keyIs_shape hu with ⟨i, t, rfl, rfl⟩ | ⟨x, t, rfl, rfl⟩
   · rcases keyIs_shape hv with ⟨j, u, rfl, rfl⟩ | ⟨y, u, rfl, rfl⟩
     · rw [key_ll] at h; exact wpAny_eqBool_int h
     · rw [key_lr] at h; exact SeqAt.EqAt.int_str i t y u _ _ _ _ h
   · rcases keyIs_shape hv with ⟨j, u, rfl, rfl⟩ | ⟨y, u, rfl, rfl⟩
     · rw [key_rl] at h; exact SeqAt.EqAt.str_int x t j u _ _ _ _ h
     · rw [key_rr] at h; exact wpAny_eqBool_str h
 «strs» := fun k x t v h => by
   rcases keyIs_shape h with ⟨i, u, rfl, e⟩ | ⟨y, u, rfl, e⟩
   · exact nomatch e
   · injection e with e1 _
     subst e1
     cases v <;> rfl
theorem mixKind_int (prog : Program) (w : World) (i : Int) (t : Tok) : (mixKind prog w).is (.inl i) (.int i t) = true := keyIs_int i t
theorem mixKind_str (prog : Program) (w : World) (x : Str) (t : Tok) : (mixKind prog w).is (.inr x) (.str x t) = true := keyIs_str x t
end L2
namespace L2
open PySem PySem.Spec PyProof.Rows
inductive V where
 | non | bl (b : Bool) | int (i : Int) | str (x : Str) | byt (b : Array UInt8) | flt (b : UInt64) | ref (a : Addr) | ty (n : String)
 deriving DecidableEq
noncomputable def RelV : V → Value → Prop
 | .non, u => u = Value.none
 | .bl b, u => u = Value.bool b
 | .int i, u => ∃ t, u = Value.int i t
 | .str x, u => ∃ t, u = Value.str x t
 | .byt b, u => ∃ t, u = Value.bytes b t
 | .flt b, u => ∃ t, u = Value.float b t
 | .ref a, u => u = Value.ref a
 | .ty n, u => u = Value.type n
noncomputable abbrev Vals : List V → List Value → Prop := Paired RelV
theorem Vals.length {xs : List V} {us : List Value} (r : Vals xs us) : xs.length = us.length := Paired.length r
theorem Vals.get : ∀ {xs : List V} {us : List Value} {i : Nat} {x : V}, Vals xs us → xs[i]? = some x → ∃ u, us[i]? = some u ∧ RelV x u
 | _, _, _, _, .nil, e => by simp at e
 | _, _, 0, _, .cons r _, e => by simp at e; subst e; exact ⟨_, rfl, r⟩
 | _, _, i + 1, x, .cons _ t, e => by
   obtain ⟨u, h1, h2⟩ := Vals.get (i := i) (x := x) t (by simpa using e)
   exact ⟨u, by simpa using h1, h2⟩
theorem Vals.set {x : V} {u : Value} (r : RelV x u) : ∀ {xs : List V} {us : List Value} (i : Nat), Vals xs us → Vals (xs.set i x) (us.set i u)
 | _, _, _, .nil => .nil
 | _, _, 0, .cons _ t => .cons r t
 | _, _, i + 1, .cons q t => .cons q (Vals.set r i t)
theorem Vals.append : ∀ {xs ys : List V} {us ws : List Value}, Vals xs us → Vals ys ws → Vals (xs ++ ys) (us ++ ws)
 | _, _, _, _, .nil, s => s
 | _, _, _, _, .cons r t, s => .cons r (Vals.append t s)
theorem Vals.take : ∀ {xs : List V} {us : List Value} (n : Nat), Vals xs us → Vals (xs.take n) (us.take n)
 | _, _, 0, _ => .nil
 | _, _, _ + 1, .nil => .nil
 | _, _, n + 1, .cons r t => .cons r (Vals.take n t)
theorem Vals.drop : ∀ {xs : List V} {us : List Value} (n : Nat), Vals xs us → Vals (xs.drop n) (us.drop n)
 | _, _, 0, r => r
 | _, _, _ + 1, .nil => .nil
 | _, _, n + 1, .cons _ t => Vals.drop n t
noncomputable def RelO : Option V → Option Value → Prop
 | some v, some u => RelV v u
 | none, none => True
 | _, _ => False
noncomputable def KV {κ : Type} : List (κ × V) → List (κ × Value) → Prop := Paired fun (p : κ × V) (q : κ × Value) => p.1 = q.1 ∧ RelV p.2 q.2
noncomputable def kV : Key → V
 | .inl i => .int i
 | .inr x => .str x
inductive HO where
 /-- a list -/
 | lst (xs : List V)
 /-- a tuple (never changes) -/
 | tup (xs : List V)
 /-- a dict whose keys are ints and texts; one whose keys are tuples of ints and texts (the empty one is both) -/
 | dK (kvs : List (Key × V)) | dT (kvs : List (List Key × V))
 /-- a set of ints: its members, its size -/
 | set (S : Int → Bool) (n : Nat)
 /-- an instance of the class at C, its dict at dx, its attributes -/
 | ins (C dx : Addr) (fs : List (Str × V))
 /-- the dict of the instance at x -/
 | own (x : Addr)
 /-- the dict of an exception -/
 | xd (fs : List (Str × V))
 /-- a bound method, f of x -/
 | met (f x : Addr)
 /-- a range object lo, lo + 1, .. below hi -/
 | rng (lo hi : Int)
 /-- a thing that is known to the object (the script; a dict while a loop walks it): read, never written while it is so -/
 | frz (o : Obj) (u : HO)
 /-- a code object's table -/
 | tbl (ps : Array Value)
 /-- any other thing, by what is true of its one object (a def of one's own: SetO a S n := HO.ext fun h => ..) -/
 | ext (φ : Heap → Prop)
noncomputable abbrev Hp := Addr → Option HO
noncomputable def upd (H : Hp) (a : Addr) (o : HO) : Hp := fun b => if b = a then some o else H b
theorem upd_same {H : Hp} {a : Addr} {o : HO} : upd H a o a = some o := by unfold upd; rw [if_pos rfl]
theorem upd_ne {H : Hp} {a b : Addr} {o : HO} (h : b ≠ a) : upd H a o b = H b := by unfold upd; rw [if_neg h]
theorem ne_of {H : Hp} {a b : Addr} {o u : HO} (h : H a = some o) (h' : H b = some u) (d : o ≠ u) : a ≠ b := by
 intro e; subst e; rw [h] at h'; exact d (Option.some.inj h')
theorem ne_of_none {H : Hp} {a b : Addr} {o : HO} (h : H a = some o) (h' : H b = none) : a ≠ b := by
 intro e; subst e; rw [h] at h'; cases h'
section
variable (P : Program) (w : World)
noncomputable def ObjOk (H : Hp) (h : Heap) (a : Addr) : HO → Prop
 | .lst xs => xs.length ≤ sizeLine ∧ ∃ (its : List Value) (n : Nat), Vals xs its ∧ h.get? a = some { cls := .type "list", data := .seq its.toArray n }
 | .tup xs => xs.length ≤ sizeLine ∧ ∃ its : List Value, Vals xs its ∧ IsTup h a its.toArray
 | .dK kvs => kvs.length ≤ sizeLine ∧ (a == sysModules) = false ∧ ∃ vs, KV kvs vs ∧ h.DictOf (mixKind P w) a vs
 | .dT kvs => kvs.length ≤ sizeLine ∧ (a == sysModules) = false ∧ ∃ xs : List (List Key × Addr × Value),
     Paired (fun (p : List Key × V) (q : List Key × Addr × Value) => p.1 = q.1 ∧ H q.2.1 = some (.tup (p.1.map kV)) ∧ RelV p.2 q.2.2) kvs xs ∧
     ∃ o es ep, h.get? a = some o ∧ o.ExactDict ∧ o.data = .dict es ep ∧ es.toList = xs.map (entryOfKey (tupleKind (mixKind P w))) ∧ (xs.map (·.1)).Nodup
 | .set S n => h.SetOf (intKind P w) a S n
 | .ins C dx fs => H dx = some (.own a) ∧ fs.length ≤ 1000 ∧ dx ≠ a ∧ h.get? a = some (PySem.W.instObj C dx) ∧
     ∃ mA, h.Ns1 dx mA ∧ (∀ f, RelO (fs.lookup f) (mA f)) ∧ PySem.Within mA (fs.map (·.1))
 | .own _ => ∃ o, h.get? a = some o
 | .xd fs => ∃ mA, h.Ns1 a mA ∧ ∀ f, RelO (fs.lookup f) (mA f)
 | .rng lo hi => ∃ t u v, h.get? a = some { cls := .type "range", data := .fields #[.int lo t, .int hi u, .int 1 v] }
 | .frz o u => h.get? a = some o ∧ ObjOk H h a u
 | .tbl ps => h.get? a = some { cls := .none, data := .fields ps }
 | .met f x => h.get? a = some (PySem.W.methodObj (.ref f) (.ref x))
 | .ext φ => φ h ∧ (∃ o, h.get? a = some o) ∧ ∀ h1 h2 : Heap, φ h1 → (∀ o, h1.get? a = some o → h2.get? a = some o) → φ h2
noncomputable def HOk (H : Hp) (h : Heap) : Prop := ∀ a o, H a = some o → ObjOk P w H h a o
end
section
variable {P : Program} {w : World} {H H' : Hp} {h h' : Heap} {a : Addr} {o : HO}
theorem ObjOk.lt (x : ObjOk P w H h a o) : a < h.objs.size := by
 cases o with
 | lst xs => obtain ⟨_, _, _, _, e⟩ := x; exact Heap.lt_size e
 | tup xs => obtain ⟨_, _, _, p⟩ := x; exact p.lt
 | dK kvs => obtain ⟨_, _, _, _, o, _, _, e, _⟩ := x; exact Heap.lt_size e
 | dT kvs => obtain ⟨_, _, _, _, o, _, _, e, _⟩ := x; exact Heap.lt_size e
 | set S n => obtain ⟨o, _, _, _, e, _⟩ := x; exact Heap.lt_size e
 | ins C dx fs => obtain ⟨_, _, _, e, _⟩ := x; exact Heap.lt_size e
 | own y => obtain ⟨_, e⟩ := x; exact Heap.lt_size e
 | xd fs => obtain ⟨_, ⟨_, _, _, e, _⟩, _⟩ := x; exact Heap.lt_size e
 | rng lo hi => obtain ⟨_, _, _, e⟩ := x; exact Heap.lt_size e
 | frz ob u => obtain ⟨e, _⟩ := x; exact Heap.lt_size e
 | tbl ps => exact Heap.lt_size (show h.get? a = some _ from x)
 | met f y => exact Heap.lt_size (show h.get? a = some _ from x)
 | ext φ => obtain ⟨_, ⟨_, e⟩, _⟩ := x; exact Heap.lt_size e
theorem Paired.mapP {α β : Type} {F G : α → β → Prop} : ∀ {l₁ : List α} {l₂ : List β}, Paired F l₁ l₂ → (∀ a b, F a b → G a b) → Paired G l₁ l₂
 | _, _, .nil, _ => .nil
 | _, _, .cons r t, f => .cons (f _ _ r) (Paired.mapP t f)
theorem ObjOk.stay (x : ObjOk P w H h a o) (k : ∀ b u, (b = a ∨ H b = some (.own a)) → h.get? b = some u → h'.get? b = some u)
   (ho : ∀ b, H b = some (.own a) → H' b = some (.own a)) (ht : ∀ b xs, H b = some (.tup xs) → H' b = some (.tup xs)) : ObjOk P w H' h' a o := by
 induction o with
 | lst xs => obtain ⟨z, its, n, r, e⟩ := x; exact ⟨z, its, n, r, k _ _ (.inl rfl) e⟩
 | tup xs => obtain ⟨z, its, r, ob, e, c⟩ := x; exact ⟨z, its, r, ob, k _ _ (.inl rfl) e, c⟩
 | dK kvs => obtain ⟨z, y, vs, r, ob, es, ep, e, c⟩ := x; exact ⟨z, y, vs, r, ob, es, ep, k _ _ (.inl rfl) e, c⟩
 | dT kvs =>
   obtain ⟨z, y, xs, r, ob, es, ep, e, c⟩ := x
   exact ⟨z, y, xs, Paired.mapP r fun p q z => ⟨z.1, ht _ _ z.2.1, z.2.2⟩, ob, es, ep, k _ _ (.inl rfl) e, c⟩
 | set S n => obtain ⟨ob, es, ep, t, e, c⟩ := x; exact ⟨ob, es, ep, t, k _ _ (.inl rfl) e, c⟩
 | ins C dx fs =>
   obtain ⟨d, z, ne, e, mA, ⟨od, es, ep, e2, c⟩, r⟩ := x
   exact ⟨ho _ d, z, ne, k _ _ (.inl rfl) e, mA, ⟨od, es, ep, k _ _ (.inr d) e2, c⟩, r⟩
 | own y => obtain ⟨ob, e⟩ := x; exact ⟨ob, k _ _ (.inl rfl) e⟩
 | xd fs => obtain ⟨mA, ⟨od, es, ep, e, c⟩, r⟩ := x; exact ⟨mA, ⟨od, es, ep, k _ _ (.inl rfl) e, c⟩, r⟩
 | rng lo hi => obtain ⟨t, u, v, e⟩ := x; exact ⟨t, u, v, k _ _ (.inl rfl) e⟩
 | frz ob u ih => obtain ⟨e, q⟩ := x; exact ⟨k _ _ (.inl rfl) e, ih q⟩
 | tbl ps =>
   have e : h.get? a = some { cls := .none, data := .fields ps } := x
   show h'.get? a = some { cls := .none, data := .fields ps }
   exact k a _ (.inl rfl) e
 | met f y =>
   have e : h.get? a = some (PySem.W.methodObj (.ref f) (.ref y)) := x
   show h'.get? a = some (PySem.W.methodObj (.ref f) (.ref y))
   exact k a _ (.inl rfl) e
 | ext φ => obtain ⟨p, ⟨o, e⟩, st⟩ := x; exact ⟨st _ _ p fun o q => k _ _ (.inl rfl) q, ⟨o, k _ _ (.inl rfl) e⟩, st⟩
theorem HOk.lt (x : HOk P w H h) (e : H a = some o) : a < h.objs.size := (x a o e).lt
theorem HOk.fresh (x : HOk P w H h) (e : h.objs.size ≤ a) : H a = none := by
 cases q : H a with
 | none => rfl
 | some u => exact absurd (Nat.lt_of_lt_of_le (x.lt q) e) (Nat.lt_irrefl _)
theorem HOk.kept (x : HOk P w H h) (k : ∀ b u, h.get? b = some u → h'.get? b = some u) : HOk P w H h' := fun a o e =>
 (x a o e).stay (fun b u _ q => k b u q) (fun _ q => q) fun _ _ q => q
theorem HOk.laid (x : HOk P w H h) (k : ∀ b u, h.get? b = some u → h'.get? b = some u) (hp : h.objs.size ≤ a) (new : ObjOk P w (upd H a o) h' a o) : HOk P w (upd H a o) h' := fun b u e => by
 have hn := x.fresh hp
 by_cases hb : b = a
 · subst hb; rw [upd_same] at e; cases e; exact new
 · rw [upd_ne hb] at e
   exact (x b u e).stay (fun c v _ q => k c v q) (fun c q => by rw [upd_ne (ne_of_none q hn)]; exact q) fun c xs q => by rw [upd_ne (ne_of_none q hn)]; exact q
end
noncomputable def Rd (H : Hp) (a : Addr) (u : HO) : Prop := H a = some u ∨ ∃ o, H a = some (.frz o u)
theorem Rd.of {H : Hp} {a : Addr} {u : HO} (h : H a = some u) : Rd H a u := .inl h
theorem Rd.ok {P : Program} {w : World} {H : Hp} {h : Heap} {a : Addr} {u : HO} (r : Rd H a u) (x : HOk P w H h) : ObjOk P w H h a u := by
 rcases r with r | ⟨o, r⟩
 · exact x a u r
 · obtain ⟨_, q⟩ := x a _ r
   exact q
noncomputable def Mut : Option HO → Prop
 | some (.lst _) => True
 | some (.dK _) => True
 | some (.dT _) => True
 | some (.set _ _) => True
 | some (.ins _ _ _) => True
 | some (.ext _) => True
 | _ => False
section
variable {P : Program} {w : World} {H : Hp} {h h' : Heap} {x e : Addr} {o' : HO}
theorem HOk.write (ok : HOk P w H h) (mu : Mut (H x)) (he : e = x ∨ H e = some (.own x)) (k : ∀ b u, b ≠ e → h.get? b = some u → h'.get? b = some u) (heo : ∃ u, h'.get? e = some u)
   (new : ObjOk P w (upd H x o') h' x o') : HOk P w (upd H x o') h' := fun b u q => by
 have nown : ∀ c y, H c = some (.own y) → c ≠ x := fun c y r z => by subst z; rw [r] at mu; exact mu
 have ntup : ∀ c xs, H c = some (.tup xs) → c ≠ x := fun c xs r z => by subst z; rw [r] at mu; exact mu
 by_cases hb : b = x
 · subst hb; rw [upd_same] at q; cases q; exact new
 · rw [upd_ne hb] at q
   by_cases hbe : b = e
   · have q' : H b = some (.own x) := by
       rcases he with z | z
       · exact absurd (hbe.trans z) hb
       · rw [hbe]; exact z
     rw [q] at q'; cases q'
     obtain ⟨v, hv⟩ := heo
     exact ⟨v, by rw [hbe]; exact hv⟩
   · refine (ok b u q).stay (fun c v hc r => k c v ?_ r) (fun c r => by rw [upd_ne (nown c b r)]; exact r) fun c xs r => by rw [upd_ne (ntup c xs r)]; exact r
     rcases hc with rfl | hc
     · exact hbe
     · rintro rfl
       rcases he with z | z
       · exact nown c b hc z
       · rw [hc] at z; cases z; exact hb rfl
end
structure Un (fs ex : List Addr) (H H' : Hp) (h h' : Heap) : Prop where
 keep : ∀ b o, h.get? b = some o → H b = none → b ∉ fs → b ∉ ex → h'.get? b = some o
 slot : ∀ b o, h.get? b = some o → H b = none → b ∈ fs → b ∉ ex → ∃ sl, h'.get? b = some { o with slots := sl }
 free : ∀ b o, h.get? b = some o → H b = none → b ∉ ex → H' b = none
 there : ∀ b o, h.get? b = some o → b ∉ ex → ∃ o', h'.get? b = some o'
 tups : ∀ b xs, H b = some (.tup xs) → H' b = some (.tup xs)
 frzs : ∀ b o u, H b = some (.frz o u) → H' b = some (.frz o u)
 tbls : ∀ b ps, H b = some (.tbl ps) → ∃ more, H' b = some (.tbl (ps ++ more))
section
variable {fs fs' ex ex' : List Addr} {H H1 H2 : Hp} {h h1 h2 h' : Heap} {a x e : Addr} {o : HO}
theorem Un.any (u : Un fs ex H H1 h h1) {b : Addr} {ob : Obj} (q : h.get? b = some ob) (n : H b = none) (hx : b ∉ ex) : ∃ sl, h1.get? b = some { ob with slots := sl } := by
 by_cases hb : b ∈ fs
 · exact u.slot b ob q n hb hx
 · exact ⟨ob.slots, u.keep b ob q n hb hx⟩
theorem Un.trans (a : Un fs ex H H1 h h1) (b : Un fs ex H1 H2 h1 h2) : Un fs ex H H2 h h2 where
 keep := fun c ob q n hc hx => b.keep c ob (a.keep c ob q n hc hx) (a.free c ob q n hx) hc hx
 slot := fun c ob q n hc hx => by
   obtain ⟨sl, e1⟩ := a.slot c ob q n hc hx
   obtain ⟨sl', e2⟩ := b.slot c _ e1 (a.free c ob q n hx) hc hx
   exact ⟨sl', e2⟩
 free := fun c ob q n hx => by
   obtain ⟨o', e1⟩ := a.there c ob q hx
   exact b.free c o' e1 (a.free c ob q n hx) hx
 there := fun c ob q hx => by
   obtain ⟨o', e1⟩ := a.there c ob q hx
   exact b.there c o' e1 hx
 tups := fun c xs q => b.tups c xs (a.tups c xs q)
 frzs := fun c ob xs q => b.frzs c ob xs (a.frzs c ob xs q)
 tbls := fun c ps q => by
   obtain ⟨m1, e1⟩ := a.tbls c ps q
   obtain ⟨m2, e2⟩ := b.tbls c _ e1
   exact ⟨m1 ++ m2, by rw [e2, Array.append_assoc]⟩
theorem Un.kept (k : ∀ b u, h.get? b = some u → h'.get? b = some u) : Un fs ex H H h h' :=
 ⟨fun b ob q _ _ _ => k b ob q, fun b ob q _ _ _ => ⟨ob.slots, k b ob q⟩, fun _ _ _ n _ => n, fun b ob q _ => ⟨ob, k b ob q⟩, fun _ _ q => q, fun _ _ _ q => q, fun _ ps q => ⟨#[], by rw [q]; simp⟩⟩
theorem Un.refl : Un fs ex H H h h := Un.kept fun _ _ q => q
theorem Un.laid (k : ∀ b u, h.get? b = some u → h'.get? b = some u) (hp : h.objs.size ≤ a) (hn : H a = none) : Un fs ex H (upd H a o) h h' where
 keep := fun b u q _ _ _ => k b u q
 slot := fun b u q _ _ _ => ⟨u.slots, k b u q⟩
 free := fun b u q n _ => by rw [upd_ne (Nat.ne_of_lt (Nat.lt_of_lt_of_le (Heap.lt_size q) hp))]; exact n
 there := fun b u q _ => ⟨u, k b u q⟩
 tups := fun b xs q => by rw [upd_ne (ne_of_none q hn)]; exact q
 frzs := fun b u xs q => by rw [upd_ne (ne_of_none q hn)]; exact q
 tbls := fun b ps q => ⟨#[], by rw [upd_ne (ne_of_none q hn), q]; simp⟩
theorem Un.write (mu : Mut (H x)) (he : e = x ∨ H e = some (.own x)) (k : ∀ b u, b ≠ e → h.get? b = some u → h'.get? b = some u) (heo : ∃ u, h'.get? e = some u) : Un fs ex H (upd H x o) h h' := by
 have hx : ∀ b, H b = none → b ≠ x := fun b n z => by subst z; rw [n] at mu; exact mu
 have hb : ∀ b, H b = none → b ≠ e := fun b n z => by
   subst z
   rcases he with r | r
   · exact hx b n r
   · rw [n] at r; cases r
 have hm : ∀ b u, H b = some u → ¬ Mut (some u) → b ≠ x := fun b u q nm z => by subst z; rw [q] at mu; exact nm mu
 refine ⟨fun b u q n _ _ => k b u (hb b n) q, fun b u q n _ _ => ⟨u.slots, k b u (hb b n) q⟩, fun b u q n _ => by rw [upd_ne (hx b n)]; exact n, fun b u q _ => ?_,
   fun b xs q => by rw [upd_ne (hm b _ q fun z => z)]; exact q, fun b u xs q => by rw [upd_ne (hm b _ q fun z => z)]; exact q, fun b ps q => ⟨#[], by rw [upd_ne (hm b _ q fun z => z), q]; simp⟩⟩
 by_cases hbe : b = e
 · subst hbe; exact heo
 · exact ⟨u, k b u hbe q⟩
theorem Un.mono (u : Un fs ex H H1 h h1) (hs : ∀ b ∈ fs, b ∈ fs') (hx : ∀ b ∈ ex, b ∈ ex') : Un fs' ex' H H1 h h1 :=
 ⟨fun b ob q n hb he => u.keep b ob q n (fun z => hb (hs b z)) fun z => he (hx b z), fun _ _ q n _ he => u.any q n fun z => he (hx _ z), fun b ob q n he => u.free b ob q n fun z => he (hx b z), fun b ob q he => u.there b ob q fun z => he (hx b z), u.tups, u.frzs, u.tbls⟩
end
noncomputable def trk (h : Heap) (H : Hp) : List Addr := (List.range h.objs.size).filter fun a => (H a).isSome
noncomputable def hidT (h : Heap) (H : Hp) : Heap := PySem.W.hideAll h (trk h H)
theorem hidT_size (h : Heap) (H : Hp) : (hidT h H).objs.size = h.objs.size := PySem.W.hideAll_size _ _
theorem hidT_get {h : Heap} {H : Hp} {b : Addr} {o : Obj} (e : h.get? b = some o) (n : H b = none) : (hidT h H).get? b = some o :=
 PySem.W.hideAll_get _ e fun hm => by
   have q : (H b).isSome = true := (List.mem_filter.mp hm).2
   rw [n] at q; simp at q
theorem of_hidT {h : Heap} {H : Hp} {b : Addr} {o : Obj} (e : (hidT h H).get? b = some o) : h.get? b = some o ∧ H b = none := by
 have e' : h.get? b = some o := PySem.W.of_hideAll (trk h H) e
 refine ⟨e', ?_⟩
 cases q : H b with
 | none => rfl
 | some x =>
   have hm : b ∈ trk h H := List.mem_filter.mpr ⟨List.mem_range.mpr (Heap.lt_size e'), by simp [q]⟩
   have z : (hidT h H).get? b = none := PySem.W.hideAll_none (trk h H) hm
   rw [z] at e; cases e
noncomputable def allNews (g h : Heap) (L : Addr) : List (Addr × Obj) := (List.range h.objs.size).filterMap fun a => if a = L ∨ (g.get? a).isSome = true then none else (h.get? a).map fun o => (a, o)
noncomputable def rest (g h : Heap) (L d : Addr) : List (Addr × Obj) := (allNews g h L).filter fun p => decide (p.1 ≠ d)
end L2
namespace L2
open PySem PySem.Spec PyProof.Rows
structure Mod (K : PySem.W.Frag) (mg : Str → Option Value) (base : Heap) : Prop where
 kin : K.In base
 glob : base.Ns mainGlobals mg
 blt : ∃ mb, base.Ns builtinsNs mb ∧ ∀ x : Str, x ≠ "__name__" → mb x = bootBuiltins x
 nolimit : base.NoLimit
structure Cx where
 prog : Program
 w : World
 K : PySem.W.Frag
 mg : Str → Option Value
 base : Heap
 A : Around
 N : List Str
 s₀ : Shared
 H₀ : Hp
 env : Env
 outer : List Env
 stack : List Env
 ex : List Addr
 fn : Str → Bool
 calm : Bool
 pn : List (Addr × Obj)
 xe : Value → Shared → Prop
noncomputable def frs (l : List Env) : List Addr := l.filterMap (·.frame)
noncomputable abbrev Cx.fs (X : Cx) : List Addr := frs X.outer
noncomputable def Vis (sc : Scope) (x : Str) : Prop := sc.names.lookup x = some .local ∨ sc.names.lookup x = some .cell ∨ sc.names.lookup x = some .free
noncomputable def Loc (sc : Scope) (x : Str) : Prop := sc.names.lookup x = some .local ∨ sc.names.lookup x = some .cell
noncomputable def Look (env : Env) (h : Heap) (m : Str → Option Value) (x : Str) (u : Value) : Prop :=
 (env.kindOf x = some .local ∧ m x = some u) ∨ ((env.kindOf x = some .cell ∨ env.kindOf x = some .free) ∧ ∃ c, env.cells.lookup x = some c ∧ h.IsCell c (some u))
structure Cx.Ok (X : Cx) : Prop where
 mod : Mod X.K X.mg X.base
 kind : X.env.scope.kind = .function
 glob : X.env.globals = mainGlobals
 blt : X.env.builtins = builtinsNs
 above : X.s₀.heap.objs.size ≤ X.env.locals
 inj : ∀ x y c, X.env.cells.lookup x = some c → X.env.cells.lookup y = some c → x = y
 has : ∀ x, (X.env.kindOf x = some .cell ∨ X.env.kindOf x = some .free) → ∃ c, X.env.cells.lookup x = some c
 cab : ∀ x c, X.fn x = true → X.env.cells.lookup x = some c → X.s₀.heap.objs.size ≤ c
 hd : X.calm = true → X.A.handled = none
 frames : X.A.frames = some X.stack
 stk : X.stack = X.outer ∨ (X.stack = X.env :: X.outer ∧ X.env.frame = some X.env.locals)
 exf : ∀ b ∈ X.ex, b ≠ X.env.locals ∧ ∀ x c, X.env.cells.lookup x = some c → c ≠ b
 bs : ∀ b o, X.base.get? b = some o → X.s₀.heap.get? b = some o ∧ X.H₀ b = none
 bsz : X.base.objs.size ≤ X.s₀.heap.objs.size
 noex : ∀ b o, X.base.get? b = some o → b ∉ X.ex
 exfs : ∀ b ∈ X.ex, b ∉ X.fs
 funs : X.s₀.heap.FunFrames X.base X.outer
 frf : ∀ b ∈ X.fs, X.H₀ b = none
structure Inv (X : Cx) (pins : List (Addr × Obj)) (σ : List (Option V)) (H : Hp) (s : Shared) : Prop where
 ok : X.Ok
 os : s.os = X.s₀.os
 bare : AllBare s.gens
 base : Un X.fs X.ex X.H₀ H X.s₀.heap s.heap
 loc : ∃ m, s.heap.Ns X.env.locals m ∧ ∀ (i : Nat) (x : Str) (v : V), X.N[i]? = some x → σ[i]? = some (some v) → Vis X.env.scope x → ∃ u, RelV v u ∧ Look X.env s.heap m x u
 cell : ∀ x c, X.env.cells.lookup x = some c → ∃ v, s.heap.IsCell c v
 free : H X.env.locals = none
 freeC : ∀ x c, X.env.cells.lookup x = some c → H c = none
 pin : ∀ p ∈ X.pn ++ pins, s.heap.get? p.1 = some p.2 ∧ H p.1 = none ∧ p.1 ≠ X.env.locals ∧ p.1 ∉ X.fs ∧ ∀ v, p.2.data ≠ .cell v
 hok : HOk X.prog X.w H s.heap
 len : σ.length = X.N.length
section
variable {X : Cx} {pins : List (Addr × Obj)} {σ : List (Option V)} {H H' : Hp} {s : Shared} {h' : Heap}
theorem Cx.Ok.nofr (ok : X.Ok) {b : Addr} {o : Obj} (e : X.base.get? b = some o) : b ∉ X.fs := fun hb => by
 have := (ok.funs.mem hb).1
 rw [e] at this; cases this
theorem Inv.bs (I : Inv X pins σ H s) : ∀ b o, X.base.get? b = some o → s.heap.get? b = some o ∧ H b = none := fun b o e =>
 ⟨I.base.keep b o (I.ok.bs b o e).1 (I.ok.bs b o e).2 (I.ok.nofr e) (I.ok.noex b o e), I.base.free b o (I.ok.bs b o e).1 (I.ok.bs b o e).2 (I.ok.noex b o e)⟩
theorem Inv.bk (I : Inv X pins σ H s) : ∀ b o, X.base.get? b = some o → s.heap.get? b = some o := fun b o e => (I.bs b o e).1
theorem Inv.mod (I : Inv X pins σ H s) : Mod X.K X.mg X.base := I.ok.mod
theorem Inv.kIn (I : Inv X pins σ H s) : X.K.In s.heap := I.ok.mod.kin.keeps I.bk
theorem Inv.lt (I : Inv X pins σ H s) : X.env.locals < s.heap.objs.size := let ⟨_, hn, _⟩ := I.loc; hn.lt
theorem Inv.sz (I : Inv X pins σ H s) : X.s₀.heap.objs.size ≤ s.heap.objs.size := Nat.le_trans I.ok.above (Nat.le_of_lt I.lt)
theorem Inv.nofs (I : Inv X pins σ H s) {a : Addr} (h : s.heap.objs.size ≤ a) : a ∉ X.fs := fun hb => by
 obtain ⟨_, o, ho, _⟩ := I.ok.funs.mem hb
 exact absurd (Nat.lt_of_lt_of_le (Heap.lt_size ho) (Nat.le_trans I.sz h)) (Nat.lt_irrefl _)
theorem Inv.cne (I : Inv X pins σ H s) : ∀ x c, X.env.cells.lookup x = some c → c ≠ X.env.locals := fun x c e z => by
 obtain ⟨v, o, ho, hd⟩ := I.cell x c e
 obtain ⟨m, ⟨o', es, ep, ho', hd', _⟩, _⟩ := I.loc
 rw [z, ho'] at ho; cases ho; rw [hd'] at hd; cases hd
theorem Inv.funs (I : Inv X pins σ H s) : s.heap.FunFrames X.base X.outer := by
 have all : ∀ (l : List Env), (∀ b ∈ frs l, b ∈ X.fs) → X.s₀.heap.FunFrames X.base l → s.heap.FunFrames X.base l := by
   intro l
   induction l with
   | nil => intro _ _; trivial
   | cons env r ih =>
     intro hs hl
     obtain ⟨hk, ⟨L, o, hf, hn, ho, hd⟩, hr⟩ := hl
     have hL : L ∈ X.fs := hs L (by unfold frs; rw [List.filterMap_cons, hf]; exact List.mem_cons_self)
     obtain ⟨sl, e⟩ := I.base.slot L o ho (I.ok.frf L hL) hL fun z => I.ok.exfs L z hL
     exact ⟨hk, ⟨L, _, hf, hn, e, hd⟩, ih (fun b hb => hs b (by unfold frs; rw [List.filterMap_cons, hf]; exact List.mem_cons_of_mem _ hb)) hr⟩
 exact all X.outer (fun _ hb => hb) I.ok.funs
theorem Inv.stack (I : Inv X pins σ H s) : s.heap.FunFrames X.base X.stack := by
 rcases I.ok.stk with e | ⟨e, hf⟩
 · rw [e]; exact I.funs
 · rw [e]
   obtain ⟨m, hn, _⟩ := I.loc
   refine .cons (by rw [I.ok.kind]; decide) hf hn ?_ I.funs
   exact Heap.get?_none_of_le (Nat.le_trans I.ok.bsz I.ok.above)
theorem Inv.stkSub (I : Inv X pins σ H s) : ∀ b ∈ frs X.stack, b ∈ X.env.locals :: X.fs := fun b hb => by
 rcases I.ok.stk with e | ⟨e, hf⟩
 · rw [e] at hb; exact List.mem_cons_of_mem _ hb
 · rw [e] at hb
   unfold frs at hb
   rw [List.filterMap_cons, hf] at hb
   exact hb
theorem Inv.stkFree (I : Inv X pins σ H s) : ∀ b ∈ frs X.stack, H b = none := fun b hb => by
 rcases List.mem_cons.mp (I.stkSub b hb) with e | hb
 · rw [e]; exact I.free
 · obtain ⟨_, o, ho, _⟩ := I.ok.funs.mem hb
   exact I.base.free b o ho (I.ok.frf b hb) fun z => I.ok.exfs b z hb
theorem Inv.step {g' : Array GenState} {t' : Nat} {d' : Drawn} {ch : List Addr} (I : Inv X pins σ H s)
   (hch : ∀ b ∈ ch, (b ∈ X.ex ∨ X.s₀.heap.objs.size ≤ b) ∧ b ≠ X.env.locals ∧ (∀ x c, X.env.cells.lookup x = some c → c ≠ b) ∧ ∀ p ∈ X.pn ++ pins, p.1 ≠ b)
   (keep : ∀ b o, b ≠ X.env.locals → b ∉ X.fs → b ∉ ch → s.heap.get? b = some o → H b = none → h'.get? b = some o)
   (slot : ∀ b o, b ≠ X.env.locals → b ∈ X.fs → b ∉ ch → s.heap.get? b = some o → H b = none → ∃ sl, h'.get? b = some { o with slots := sl }) (free : ∀ b o, b ∉ ch → s.heap.get? b = some o → H b = none → H' b = none)
   (there : ∀ b o, b ∉ ch → s.heap.get? b = some o → ∃ o', h'.get? b = some o')
   (tups : ∀ b xs, H b = some (.tup xs) → H' b = some (.tup xs)) (frzs : ∀ b o u, H b = some (.frz o u) → H' b = some (.frz o u)) (tbls : ∀ b ps, H b = some (.tbl ps) → ∃ more, H' b = some (.tbl (ps ++ more)))
   (ns : ∀ m, s.heap.Ns X.env.locals m → h'.Ns X.env.locals m) (hok : HOk X.prog X.w H' h') (hg : AllBare g') :
   Inv X pins σ H' { s with heap := h', gens := g', drawn := d', toks := t' } := by
 have neL : ∀ b o, X.s₀.heap.get? b = some o → b ≠ X.env.locals := fun b o e => Nat.ne_of_lt (Nat.lt_of_lt_of_le (Heap.lt_size e) I.ok.above)
 have neC : ∀ b o, X.s₀.heap.get? b = some o → b ∉ X.ex → b ∉ ch := fun b o e hx hb => by
   rcases (hch b hb).1 with z | z
   · exact hx z
   · exact absurd (Nat.lt_of_lt_of_le (Heap.lt_size e) z) (Nat.lt_irrefl _)
 have cellK : ∀ x c, X.env.cells.lookup x = some c → ∀ v, s.heap.IsCell c v → h'.IsCell c v := fun x c e v ⟨o, ho, hd⟩ => by
   have nch : c ∉ ch := fun z => (hch c z).2.2.1 x c e rfl
   by_cases hc : c ∈ X.fs
   · obtain ⟨sl, q⟩ := slot c o (I.cne x c e) hc nch ho (I.freeC x c e)
     exact ⟨_, q, hd⟩
   · exact ⟨o, keep c o (I.cne x c e) hc nch ho (I.freeC x c e), hd⟩
 refine ⟨I.ok, I.os, hg, ⟨fun b o e n hb hx => ?_, fun b o e n hb hx => ?_, fun b o e n hx => ?_, fun b o e hx => ?_, fun b xs e => tups b xs (I.base.tups b xs e), fun b o xs e => frzs b o xs (I.base.frzs b o xs e), fun b ps e => ?_⟩, ?_, fun x c e => ?_, ?_, fun x c e => ?_, fun p hp => ?_, hok, I.len⟩
 · exact keep b o (neL b o e) hb (neC b o e hx) (I.base.keep b o e n hb hx) (I.base.free b o e n hx)
 · obtain ⟨sl, e1⟩ := I.base.slot b o e n hb hx
   obtain ⟨sl', e2⟩ := slot b _ (neL b o e) hb (neC b o e hx) e1 (I.base.free b o e n hx)
   exact ⟨sl', e2⟩
 · obtain ⟨o', e1⟩ := I.base.there b o e hx
   exact free b o' (neC b o e hx) e1 (I.base.free b o e n hx)
 · obtain ⟨o', e1⟩ := I.base.there b o e hx
   exact there b o' (neC b o e hx) e1
 · obtain ⟨m1, e1⟩ := I.base.tbls b ps e
   obtain ⟨m2, e2⟩ := tbls b _ e1
   exact ⟨m1 ++ m2, by rw [e2, Array.append_assoc]⟩
 · obtain ⟨m, hn, hl⟩ := I.loc
   refine ⟨m, ns m hn, fun i x v e1 e2 e3 => ?_⟩
   obtain ⟨u, r, l⟩ := hl i x v e1 e2 e3
   refine ⟨u, r, ?_⟩
   rcases l with l | ⟨k, c, e, z⟩
   · exact .inl l
   · exact .inr ⟨k, c, e, cellK x c e _ z⟩
 · obtain ⟨v, z⟩ := I.cell x c e
   exact ⟨v, cellK x c e v z⟩
 · obtain ⟨m, ⟨o, _, _, ho, _⟩, _⟩ := I.loc
   exact free _ o (fun z => (hch _ z).2.1 rfl) ho I.free
 · obtain ⟨v, o, ho, hd⟩ := I.cell x c e
   exact free c o (fun z => (hch c z).2.2.1 x c e rfl) ho (I.freeC x c e)
 · obtain ⟨e, n, ne, nf, d⟩ := I.pin p hp
   have nch : p.1 ∉ ch := fun z => (hch p.1 z).2.2.2 p hp rfl
   exact ⟨keep p.1 p.2 ne nf nch e n, free p.1 p.2 nch e n, ne, nf, d⟩
theorem Inv.un {t' : Nat} (I : Inv X pins σ H s) (u : Un X.fs [] H H' s.heap h') (hok : HOk X.prog X.w H' h') : Inv X pins σ H' { s with heap := h', toks := t' } := by
 obtain ⟨m, ⟨o, es, ep, ho, r⟩, _⟩ := id I.loc
 obtain ⟨sl, hL⟩ := u.any ho I.free (by simp)
 exact I.step (g' := s.gens) (d' := s.drawn) (ch := []) (fun _ z => nomatch z) (fun b o _ hb _ e n => u.keep b o e n hb (by simp)) (fun b o _ hb _ e n => u.slot b o e n hb (by simp)) (fun b o _ e n => u.free b o e n (by simp)) (fun b o _ e => u.there b o e (by simp)) u.tups u.frzs u.tbls (fun m' hm => by
   obtain ⟨o', es', ep', ho', r'⟩ := hm
   rw [ho] at ho'; cases ho'
   exact ⟨_, es', ep', hL, r'⟩) hok I.bare
theorem Inv.call {g' : Array GenState} {t' : Nat} {d' : Drawn} {ch : List Addr} (I : Inv X pins σ H s) (u : Un (frs X.stack) ch H H' s.heap h') (hok : HOk X.prog X.w H' h') (hg : AllBare g')
   (hch : ∀ b ∈ ch, (b ∈ X.ex ∨ X.s₀.heap.objs.size ≤ b) ∧ b ≠ X.env.locals ∧ (∀ x c, X.env.cells.lookup x = some c → c ≠ b) ∧ ∀ p ∈ X.pn ++ pins, p.1 ≠ b) :
   Inv X pins σ H' { s with heap := h', gens := g', drawn := d', toks := t' } := by
 obtain ⟨m, ⟨o, es, ep, ho, r⟩, _⟩ := id I.loc
 obtain ⟨sl, hL⟩ := u.any ho I.free fun z => (hch _ z).2.1 rfl
 exact I.step (ch := ch) hch (fun b o hL hb hc e n => u.keep b o e n (fun z => (List.mem_cons.mp (I.stkSub b z)).elim hL hb) hc) (fun b o _ _ hc e n => u.any e n hc) (fun b o hc e n => u.free b o e n hc) (fun b o hc e => u.there b o e hc) u.tups u.frzs u.tbls (fun m' hm => by
   obtain ⟨o', es', ep', ho', r'⟩ := hm
   rw [ho] at ho'; cases ho'
   exact ⟨_, es', ep', hL, r'⟩) hok hg
theorem Inv.turned {t' : Nat} {it : Addr} (I : Inv X pins σ H s) (k : ∀ b o, b ≠ it → s.heap.get? b = some o → h'.get? b = some o) (hn : H it = none) (hL : it ≠ X.env.locals)
   (h1 : it ∈ X.ex ∨ X.s₀.heap.objs.size ≤ it) (h2 : ∀ x c, X.env.cells.lookup x = some c → c ≠ it) (h3 : ∀ p ∈ X.pn ++ pins, p.1 ≠ it) : Inv X pins σ H { s with heap := h', toks := t' } := by
 have nit : ∀ b u, H b = some u → b ≠ it := fun b u e z => by rw [z, hn] at e; cases e
 refine I.step (g' := s.gens) (d' := s.drawn) (ch := [it]) (fun b hb => ?_) (fun b o _ _ hc e _ => k b o (fun z => hc (by simp [z])) e) (fun b o _ _ hc e _ => ⟨o.slots, k b o (fun z => hc (by simp [z])) e⟩) (fun _ _ _ _ n => n)
   (fun b o hc e => ⟨o, k b o (fun z => hc (by simp [z])) e⟩) (fun _ _ e => e) (fun _ _ _ e => e) (fun b ps e => ⟨#[], by rw [e]; simp⟩) (fun m hm => ?_) (fun b u e => ?_) I.bare
 · have e : b = it := by simpa using hb
   subst e
   exact ⟨h1, hL, h2, h3⟩
 · obtain ⟨o, es, ep, ho, r⟩ := hm
   exact ⟨o, es, ep, k _ o (Ne.symm hL) ho, r⟩
 · refine (I.hok b u e).stay (fun c v hc q => k c v ?_ q) (fun _ q => q) fun _ _ q => q
   rcases hc with z | z
   · rw [z]; exact nit b u e
   · exact nit c _ z
theorem Inv.tok (I : Inv X pins σ H s) (t : Nat) : Inv X pins σ H { s with toks := t } := I.un (h' := s.heap) (t' := t) Un.refl I.hok
theorem Inv.kept {t' : Nat} (I : Inv X pins σ H s) (k : ∀ b u, s.heap.get? b = some u → h'.get? b = some u) : Inv X pins σ H { s with heap := h', toks := t' } := I.un (Un.kept k) (I.hok.kept k)
theorem Inv.laid {a : Addr} {o : HO} {t' : Nat} (I : Inv X pins σ H s) (k : ∀ b u, s.heap.get? b = some u → h'.get? b = some u) (hp : s.heap.objs.size ≤ a) (new : ObjOk X.prog X.w (upd H a o) h' a o) :
   Inv X pins σ (upd H a o) { s with heap := h', toks := t' } := I.un (Un.laid k hp (I.hok.fresh hp)) (I.hok.laid k hp new)
theorem Inv.write {x e : Addr} {o : HO} {t' : Nat} (I : Inv X pins σ H s) (mu : Mut (H x)) (he : e = x ∨ H e = some (.own x)) (k : ∀ b u, b ≠ e → s.heap.get? b = some u → h'.get? b = some u) (heo : ∃ u, h'.get? e = some u)
   (new : ObjOk X.prog X.w (upd H x o) h' x o) : Inv X pins σ (upd H x o) { s with heap := h', toks := t' } := I.un (Un.write mu he k heo) (I.hok.write mu he k heo new)
theorem Inv.pins_of {pins' : List (Addr × Obj)} (I : Inv X pins σ H s) (h : ∀ p ∈ pins', s.heap.get? p.1 = some p.2 ∧ H p.1 = none ∧ p.1 ≠ X.env.locals ∧ p.1 ∉ X.fs ∧ ∀ v, p.2.data ≠ .cell v) : Inv X pins' σ H s :=
 ⟨I.ok, I.os, I.bare, I.base, I.loc, I.cell, I.free, I.freeC, fun p hp => (List.mem_append.mp hp).elim (fun z => I.pin p (List.mem_append_left _ z)) (h p), I.hok, I.len⟩
theorem nodup_ix {N : List Str} (hN : N.Nodup) {i j : Nat} {x : Str} (a : N[i]? = some x) (b : N[j]? = some x) : i = j := by
 obtain ⟨h1, e1⟩ := List.getElem?_eq_some_iff.mp a
 obtain ⟨h2, e2⟩ := List.getElem?_eq_some_iff.mp b
 exact (List.getElem_inj hN).mp (e1.trans e2.symm)
theorem store_ok2 {M : Model} {A : Around} {E : Value → Shared → Prop} {i : Nat} {x : Str} {v : V} {u : Value} {Q : Unit → Shared → Prop} (I : Inv X pins σ H s) (hN : X.N.Nodup) (hi : X.N[i]? = some x) (hx : Loc X.env.scope x) (r : RelV v u)
   (h : ∀ s', Inv X pins (σ.set i (some v)) H s' → (∃ a, Heap.SameBut a s.heap s'.heap ∧ (a = X.env.locals ∨ X.env.cells.lookup x = some a)) → Q () s') (hf : X.fn x = true ∨ X.env.scope.names.lookup x = some .local := by first | exact .inl rfl | exact .inr rfl | assumption) : wpAny M A (storeName X.env x u) Q E s := by
 obtain ⟨m, hn, hl⟩ := id I.loc
 have hcls : (X.env.scope.kind == .class || (X.env.scope.kind == .module && X.env.locals != X.env.globals)) = false := by rw [I.ok.kind]; rfl
 have hiσ : i < σ.length := by rw [I.len]; exact (List.getElem?_eq_some_iff.mp hi).1
 have cne := I.cne
 have tracked : ∀ {a : Addr} {h' : Heap}, (∃ o, s.heap.get? a = some o ∧ H a = none) → Heap.SameBut a s.heap h' → HOk X.prog X.w H h' := fun {a h'} ha hs b ob e => by
   obtain ⟨_, _, hfree⟩ := ha
   refine (I.hok b ob e).stay (fun c w' hc q => (hs.2 c ?_).trans q) (fun _ q => q) fun _ _ q => q
   rintro rfl
   rcases hc with rfl | hc
   · rw [hfree] at e; cases e
   · rw [hfree] at hc; cases hc
 rcases hx with hk | hk
 · refine wpAny_storeName_local hk hn (fun h' hn' hs => ?_) hcls
   obtain ⟨oL, _, _, hoL, _⟩ := id hn
   refine h _ ⟨I.ok, I.os, I.bare, ⟨fun b o e n hb hx => ?_, fun b o e n hb hx => ?_, I.base.free, fun b o e hx => ?_, I.base.tups, I.base.frzs, I.base.tbls⟩, ⟨_, hn', fun j y v' e1 e2 e3 => ?_⟩, fun y c e => ?_, I.free, I.freeC, fun p hp => ?_, tracked ⟨oL, hoL, I.free⟩ hs, by simpa using I.len⟩ ⟨_, hs, .inl rfl⟩
   · exact (hs.2 b (Nat.ne_of_lt (Nat.lt_of_lt_of_le (Heap.lt_size e) I.ok.above))).trans (I.base.keep b o e n hb hx)
   · obtain ⟨sl, e1⟩ := I.base.slot b o e n hb hx
     exact ⟨sl, (hs.2 b (Nat.ne_of_lt (Nat.lt_of_lt_of_le (Heap.lt_size e) I.ok.above))).trans e1⟩
   · obtain ⟨o', e1⟩ := I.base.there b o e hx
     exact ⟨o', (hs.2 b (Nat.ne_of_lt (Nat.lt_of_lt_of_le (Heap.lt_size e) I.ok.above))).trans e1⟩
   · by_cases hj : j = i
     · subst hj
       rw [hi] at e1; cases e1
       rw [List.getElem?_set_self hiσ] at e2
       cases e2
       exact ⟨u, r, .inl ⟨hk, by simp⟩⟩
     · rw [List.getElem?_set_ne (Ne.symm hj)] at e2
       obtain ⟨u', r', q⟩ := hl j y v' e1 e2 e3
       refine ⟨u', r', ?_⟩
       rcases q with ⟨k, e⟩ | ⟨k, c, e, z⟩
       · refine .inl ⟨k, ?_⟩
         have : y ≠ x := fun e => hj (nodup_ix hN e1 (e ▸ hi))
         simp [this, e]
       · exact .inr ⟨k, c, e, z.sameBut hs (cne y c e)⟩
   · obtain ⟨w', z⟩ := I.cell y c e
     exact ⟨w', z.sameBut hs (cne y c e)⟩
   · obtain ⟨e, n, ne, nf, d⟩ := I.pin p hp
     exact ⟨(hs.2 p.1 ne).trans e, n, ne, nf, d⟩
 · have hfn : X.fn x = true := by
     rcases hf with z | z
     · exact z
     · rw [z] at hk; cases hk
   obtain ⟨c, hc⟩ := I.ok.has x (.inl hk)
   obtain ⟨w', z⟩ := I.cell x c hc
   refine wpAny_storeName_cell I.ok.kind hk hc z (fun h' hc' hs => ?_)
   obtain ⟨oc, hoc, hocd⟩ := id z
   refine h { s with heap := h' } ⟨I.ok, I.os, I.bare, ⟨fun b o e n hb hx => ?_, fun b o e n hb hx => ?_, I.base.free, fun b o e hx => ?_, I.base.tups, I.base.frzs, I.base.tbls⟩, ⟨m, hn.sameBut hs (Ne.symm (cne x c hc)), fun j y v' e1 e2 e3 => ?_⟩, fun y c' e => ?_, I.free, I.freeC, fun p hp => ?_, tracked ⟨oc, hoc, I.freeC x c hc⟩ hs, by simpa using I.len⟩ ⟨c, hs, .inr hc⟩
   · exact (hs.2 b (Nat.ne_of_lt (Nat.lt_of_lt_of_le (Heap.lt_size e) (I.ok.cab x c hfn hc)))).trans (I.base.keep b o e n hb hx)
   · obtain ⟨sl, e1⟩ := I.base.slot b o e n hb hx
     exact ⟨sl, (hs.2 b (Nat.ne_of_lt (Nat.lt_of_lt_of_le (Heap.lt_size e) (I.ok.cab x c hfn hc)))).trans e1⟩
   · obtain ⟨o', e1⟩ := I.base.there b o e hx
     exact ⟨o', (hs.2 b (Nat.ne_of_lt (Nat.lt_of_lt_of_le (Heap.lt_size e) (I.ok.cab x c hfn hc)))).trans e1⟩
   · by_cases hj : j = i
     · subst hj
       rw [hi] at e1; cases e1
       rw [List.getElem?_set_self hiσ] at e2
       cases e2
       exact ⟨u, r, .inr ⟨.inl hk, c, hc, hc'⟩⟩
     · rw [List.getElem?_set_ne (Ne.symm hj)] at e2
       obtain ⟨u', r', q⟩ := hl j y v' e1 e2 e3
       refine ⟨u', r', ?_⟩
       rcases q with q | ⟨k, c', e, z'⟩
       · exact .inl q
       · refine .inr ⟨k, c', e, z'.sameBut hs ?_⟩
         rintro rfl
         exact hj (nodup_ix hN e1 (I.ok.inj _ _ _ e hc ▸ hi))
   · by_cases hcc : c' = c
     · subst hcc; exact ⟨_, hc'⟩
     · obtain ⟨w2, z2⟩ := I.cell y c' e
       exact ⟨w2, z2.sameBut hs hcc⟩
   · obtain ⟨e, n, ne, nf, d⟩ := I.pin p hp
     refine ⟨(hs.2 p.1 ?_).trans e, n, ne, nf, d⟩
     intro q
     rw [q, hoc] at e
     have q' : oc = p.2 := Option.some.inj e
     exact d w' (by rw [← q']; exact hocd)
theorem store_ok {M : Model} {A : Around} {E : Value → Shared → Prop} {i : Nat} {x : Str} {v : V} {u : Value} {Q : Unit → Shared → Prop} (I : Inv X pins σ H s) (hN : X.N.Nodup) (hi : X.N[i]? = some x) (hx : Loc X.env.scope x) (r : RelV v u)
   (h : ∀ s', Inv X pins (σ.set i (some v)) H s' → Q () s') (hf : X.fn x = true ∨ X.env.scope.names.lookup x = some .local := by first | exact .inl rfl | exact .inr rfl | assumption) : wpAny M A (storeName X.env x u) Q E s :=
 store_ok2 I hN hi hx r (fun s' I' _ => h s' I') hf
theorem Inv.call' {s' : Shared} {ch : List Addr} (I : Inv X pins σ H s) (ho : s'.os = s.os) (u : Un (frs X.stack) ch H H' s.heap s'.heap) (hok : HOk X.prog X.w H' s'.heap) (hg : AllBare s'.gens)
   (hch : ∀ b ∈ ch, (b ∈ X.ex ∨ X.s₀.heap.objs.size ≤ b) ∧ b ≠ X.env.locals ∧ (∀ x c, X.env.cells.lookup x = some c → c ≠ b) ∧ ∀ p ∈ X.pn ++ pins, p.1 ≠ b) : Inv X pins σ H' s' := by
 obtain ⟨h', g', d', t', o'⟩ := s'
 have e : o' = s.os := ho
 subst e
 exact I.call (g' := g') (t' := t') (d' := d') u hok hg hch
end
noncomputable abbrev XK := Value → Option Addr → Hp → Prop
noncomputable abbrev St := List (Option V)
noncomputable abbrev VK := V → Hp → Prop
noncomputable abbrev TE := St → Hp → VK → Prop
noncomputable abbrev TT := St → Hp → (Bool → Hp → Prop) → Prop
noncomputable abbrev TA := St → Hp → (List V → Hp → Prop) → Prop
structure Ends where
 nx : St → Hp → Prop
 rt : VK
 bk : St → Hp → Prop := fun _ _ => False
 ct : St → Hp → Prop := fun _ _ => False
noncomputable abbrev TS := Ends → St → Hp → Prop
noncomputable def EP (X : Cx) (pins : List (Addr × Obj)) (σ : St) (Q : VK) (u : Value) (s' : Shared) : Prop := ∃ v H', Inv X pins σ H' s' ∧ RelV v u ∧ Q v H'
noncomputable def TP (X : Cx) (pins : List (Addr × Obj)) (σ : St) (Q : Bool → Hp → Prop) (b : Bool) (s' : Shared) : Prop := ∃ H', Inv X pins σ H' s' ∧ Q b H'
noncomputable def AP (X : Cx) (pins : List (Addr × Obj)) (σ : St) (Q : List V → Hp → Prop) (us : List Value) (s' : Shared) : Prop := ∃ vs H', Inv X pins σ H' s' ∧ Vals vs us ∧ Q vs H'
noncomputable def SP (X : Cx) (pins : List (Addr × Obj)) (D : Ends) (f : Flow) (s' : Shared) : Prop :=
 match f with
 | .next => ∃ σ' H', Inv X pins σ' H' s' ∧ D.nx σ' H'
 | .brk => ∃ σ' H', Inv X pins σ' H' s' ∧ D.bk σ' H'
 | .cont => ∃ σ' H', Inv X pins σ' H' s' ∧ D.ct σ' H'
 | .ret u => ∃ v σ' H', Inv X pins σ' H' s' ∧ RelV v u ∧ D.rt v H'
noncomputable def PE (X : Cx) (e : Expr) (t : TE) : Prop :=
 ∀ (pins : List (Addr × Obj)) (s : Shared) (σ : St) (H : Hp) (Q : VK), Inv X pins σ H s → t σ H Q → wpAny (model X.prog X.w) X.A (eval e X.env) (EP X pins σ Q) X.xe s
noncomputable def PT (X : Cx) (e : Expr) (t : TT) : Prop :=
 ∀ (pins : List (Addr × Obj)) (s : Shared) (σ : St) (H : Hp) (Q : Bool → Hp → Prop), Inv X pins σ H s → t σ H Q → wpAny (model X.prog X.w) X.A (isTrue e X.env (eval e X.env)) (TP X pins σ Q) X.xe s
noncomputable def PW (X : Cx) (e : Expr) (t : TT) : Prop :=
 ∀ (whole : Sem Value) (pins : List (Addr × Obj)) (s : Shared) (σ : St) (H : Hp) (Q : Bool → Hp → Prop), Inv X pins σ H s → t σ H Q → wpAny (model X.prog X.w) X.A (isTrue e X.env whole) (TP X pins σ Q) X.xe s
theorem PW.pt {X : Cx} {e : Expr} {t : TT} (h : PW X e t) : PT X e t := h _
noncomputable def PA (X : Cx) (es : List Expr) (t : TA) : Prop :=
 ∀ (pos : Pos) (pins : List (Addr × Obj)) (s : Shared) (σ : St) (H : Hp) (Q : List V → Hp → Prop), Inv X pins σ H s → t σ H Q → wpAny (model X.prog X.w) X.A (spliced (backTo pos (starEach es X.env))) (AP X pins σ Q) X.xe s
noncomputable def PS (X : Cx) (st : Stmt) (t : TS) : Prop :=
 ∀ (pins : List (Addr × Obj)) (s : Shared) (σ : St) (H : Hp) (D : Ends), Inv X pins σ H s → t D σ H → wpAny (model X.prog X.w) X.A (exec st X.env) (SP X pins D) X.xe s
noncomputable def PSs (X : Cx) (st : List Stmt) (t : TS) : Prop :=
 ∀ (pins : List (Addr × Obj)) (s : Shared) (σ : St) (H : Hp) (D : Ends), Inv X pins σ H s → t D σ H → wpAny (model X.prog X.w) X.A (execs st X.env) (SP X pins D) X.xe s
theorem thn {α : Type} {t : Sem α} {Q Q' : α → Shared → Prop} {M : Model} {A : Around} {E : Value → Shared → Prop} {s : Shared} (h : wpAny M A t Q E s) (hQ : ∀ a s, Q a s → Q' a s) : wpAny M A t Q' E s := wpAny_mono h hQ fun _ _ x => x
end L2
namespace L2
open PySem PySem.Spec PyProof.Rows
section
variable {X : Cx}
theorem bin {a b : Expr} {ta tb : TE} (ha : PE X a ta) (hb : PE X b tb) {pins : List (Addr × Obj)} {s : Shared} {σ : St} {H : Hp} {R : V → V → Hp → Prop} (I : Inv X pins σ H s) (h : ta σ H fun x H1 => tb σ H1 fun y H2 => R x y H2)
   {α : Type} {Q : α → Shared → Prop} {f : Value → Value → Sem α}
   (hf : ∀ v u s2 x y H2, Inv X pins σ H2 s2 → RelV x v → RelV y u → R x y H2 → wpAny (model X.prog X.w) X.A (f v u) Q X.xe s2) :
   wpAny (model X.prog X.w) X.A (eval a X.env) (fun v s₁ => wpAny (model X.prog X.w) X.A (eval b X.env) (fun u s₂ => wpAny (model X.prog X.w) X.A (f v u) Q X.xe s₂) X.xe s₁) X.xe s := by
 refine thn (ha pins s σ H _ I h) fun v s1 ⟨x, H1, I1, r1, q1⟩ => ?_
 refine thn (hb pins s1 σ H1 _ I1 q1) fun u s2 ⟨y, H2, I2, r2, q2⟩ => ?_
 exact hf v u s2 x y H2 I2 r1 r2 q2
noncomputable def tVar (i : Nat) : TE := fun σ H Q => ∃ v, σ[i]? = some (some v) ∧ Q v H
noncomputable def tC (v : V) : TE := fun _ H Q => Q v H
theorem pe_var {i : Nat} {x : Str} {pos : Pos} (hN : X.N[i]? = some x) (hv : Vis X.env.scope x) (hd : (x == ("__debug__" : Str)) = false := by decide) (hcd : (x == ("__classdict__" : Str)) = false := by decide) : PE X (.Name x pos) (tVar i) := by
 intro pins s σ H Q I h
 obtain ⟨v, e, h⟩ := h
 obtain ⟨m, hn, hl⟩ := I.loc
 obtain ⟨u, r, l⟩ := hl i x v hN e hv
 have fin : EP X pins σ Q u s := ⟨v, H, I, r, h⟩
 rcases l with ⟨hk, hm⟩ | ⟨hk, c, hc, hcell⟩
 · exact wpAny_Name (wpAny_loadName_local I.ok.kind hk hn hm fin) hd
 · rcases hk with hk | hk
   · exact wpAny_Name (wpAny_loadName_cell I.ok.kind hk hc hcell fin) hd
   · exact wpAny_Name (wpAny_loadName_free I.ok.kind hk hc hcell fin hcd) hd
theorem pe_int {i j pos} : PE X (.Constant (.int i) j pos) (tC (.int i)) := fun _ _ _ H _ I h => wpAny_Constant_int ⟨.int i, H, I.tok _, ⟨_, rfl⟩, h⟩
theorem pe_bl {b j pos} : PE X (.Constant (.bool b) j pos) (tC (.bl b)) := fun _ _ _ H _ I h => Constant_bool ⟨.bl b, H, I, rfl, h⟩
theorem pe_non {j pos} : PE X (.Constant .none j pos) (tC .non) := fun _ _ _ H _ I h => Constant_none ⟨.non, H, I, rfl, h⟩
theorem pe_str {x j pos} : PE X (.Constant (.str x) j pos) (tC (.str x)) := fun _ _ _ H _ I h => Calls.Constant_str ⟨.str x, H, I.tok _, ⟨_, rfl⟩, h⟩
noncomputable def Gl (X : Cx) (x : Str) : Prop := X.env.kindOf x = some .globalImplicit
theorem ld_glob {E : Value → Shared → Prop} {pins : List (Addr × Obj)} {s : Shared} {σ : St} {H : Hp} {x : Str} {u : Value} {pos : Pos} {Q : Value → Shared → Prop} (I : Inv X pins σ H s) (hg : Gl X x) (hm : X.mg x = some u) (h : Q u s)
   (hd : (x == ("__debug__" : Str)) = false := by decide) : wpAny (model X.prog X.w) X.A (eval (.Name x pos) X.env) Q E s :=
 Calls.Name_function_global I.ok.kind hg (Calls.loadGlobal_global (by rw [I.ok.glob]; exact I.mod.glob.keeps I.bk) hm h) hd
theorem ld_blt {E : Value → Shared → Prop} {pins : List (Addr × Obj)} {s : Shared} {σ : St} {H : Hp} {x : Str} {u : Value} {pos : Pos} {Q : Value → Shared → Prop} (I : Inv X pins σ H s) (hg : Gl X x) (hm : X.mg x = none) (hv : bootBuiltins x = some u) (h : Q u s)
   (hn : x ≠ "__name__" := by decide) (hd : (x == ("__debug__" : Str)) = false := by decide) : wpAny (model X.prog X.w) X.A (eval (.Name x pos) X.env) Q E s := by
 obtain ⟨mb, h1, h2⟩ := I.mod.blt
 exact Calls.Name_function_global I.ok.kind hg (Calls.loadGlobal_builtin (by rw [I.ok.glob]; exact I.mod.glob.keeps I.bk) hm (by rw [I.ok.blt]; exact h1.keeps I.bk) ((h2 x hn).trans hv) h) hd
variable {a b : Expr} {ta tb : TE} {pos : Pos}
noncomputable def tB (t : TE) : TT := fun σ H Q => t σ H fun x H1 => ∃ c, x = .bl c ∧ Q c H1
variable {tA tB' : TT} {rest : List Expr}
noncomputable def tAnd (t u : TT) : TT := fun σ H Q => t σ H fun c H1 => if c = true then u σ H1 Q else Q false H1
noncomputable def tNot (t : TT) : TT := fun σ H Q => t σ H fun c H1 => Q (!c) H1
theorem pw_and1 (ha : PT X a tA) : PW X (.BoolOp .And [a] pos) tA := by
 intro wh pins s σ H Q I h
 refine isTrue_and (thn (ha pins s σ H Q I h) fun c s1 e => ?_)
 cases c with
 | true => exact isTrue_and_nil e
 | false => exact e
theorem pw_and (ha : PT X a tA) (hb : PW X (.BoolOp .And (b :: rest) pos) tB') : PW X (.BoolOp .And (a :: b :: rest) pos) (tAnd tA tB') := by
 intro wh pins s σ H Q I h
 refine isTrue_and (thn (ha pins s σ H _ I h) fun c s1 ⟨H1, I1, q1⟩ => ?_)
 cases c with
 | true => exact hb wh pins s1 σ H1 Q I1 q1
 | false => exact ⟨H1, I1, q1⟩
theorem pt_not (ha : PT X a tA) : PT X (.UnaryOp .Not a pos) (tNot tA) := by
 intro pins s σ H Q I h
 exact isTrue_not (ha pins s σ H (fun c H1 => Q (!c) H1) I h)
noncomputable def tAndV (ta tb : TE) : TE := fun σ H Q => ta σ H fun x H1 => ∃ c, x = .bl c ∧ if c = true then tb σ H1 Q else Q (.bl false) H1
noncomputable def tOrV (ta tb : TE) : TE := fun σ H Q => ta σ H fun x H1 => ∃ c, x = .bl c ∧ if c = true then Q (.bl true) H1 else tb σ H1 Q
theorem pe_one {op} {t : TE} (h : PE X a t) : PE X (.BoolOp op [a] pos) t := fun pins s σ H Q I hw => BoolOp_one (h pins s σ H Q I hw)
theorem pe_and (ha : PE X a ta) (hb : PE X (.BoolOp .And (b :: rest) pos) tb) : PE X (.BoolOp .And (a :: b :: rest) pos) (tAndV ta tb) := by
 intro pins s σ H Q I h
 refine BoolOp_and (thn (ha pins s σ H _ I h) fun v s1 ⟨x, H1, I1, r1, q1⟩ => ?_)
 obtain ⟨c, rfl, q1⟩ := q1
 cases r1
 refine wpAny_truthy_bool ?_
 cases c with
 | true => exact hb pins s1 σ H1 Q I1 q1
 | false => exact ⟨.bl false, H1, I1, rfl, q1⟩
theorem pe_or (ha : PE X a ta) (hb : PE X (.BoolOp .Or (b :: rest) pos) tb) : PE X (.BoolOp .Or (a :: b :: rest) pos) (tOrV ta tb) := by
 intro pins s σ H Q I h
 refine BoolOp_or (thn (ha pins s σ H _ I h) fun v s1 ⟨x, H1, I1, r1, q1⟩ => ?_)
 obtain ⟨c, rfl, q1⟩ := q1
 cases r1
 refine wpAny_truthy_bool ?_
 cases c with
 | false => exact hb pins s1 σ H1 Q I1 q1
 | true => exact ⟨.bl true, H1, I1, rfl, q1⟩
noncomputable def tIf (t : TT) (ta tb : TE) : TE := fun σ H Q => t σ H fun c H1 => if c = true then ta σ H1 Q else tb σ H1 Q
theorem pe_ifExp {c : Expr} (hc : PT X c tA) (ha : PE X a ta) (hb : PE X b tb) : PE X (.IfExp c a b pos) (tIf tA ta tb) := by
 intro pins s σ H Q I h
 refine wpAny_IfExp (thn (hc pins s σ H _ I h) fun d s1 ⟨H1, I1, q1⟩ => ?_)
 cases d with
 | true => exact ha pins s1 σ H1 Q I1 q1
 | false => exact hb pins s1 σ H1 Q I1 q1
end
end L2
namespace L2
open PySem PySem.Spec PyProof.Rows
noncomputable def SqL (K : PySem.W.Frag) (H : Hp) (a : Addr) (xs : List V) : Prop :=
 Rd H a (.lst xs) ∨
   ∃ (o : Obj) (its : Array Value) (n : Nat), K.lookup a = some o ∧ o.cls = .type "list" ∧ o.dict = none ∧ o.data = .seq its n ∧ its.size ≤ sizeLine ∧ Vals xs its.toList
noncomputable def SqT (K : PySem.W.Frag) (H : Hp) (a : Addr) (xs : List V) : Prop :=
 Rd H a (.tup xs) ∨
   ∃ (o : Obj) (its : Array Value) (n : Nat), K.lookup a = some o ∧ o.cls = .type "tuple" ∧ o.data = .seq its n ∧ its.size ≤ sizeLine ∧ Vals xs its.toList
noncomputable def absV : Value → Option V
 | .none => some .non
 | .bool b => some (.bl b)
 | .int i _ => some (.int i)
 | .str x _ => some (.str x)
 | .bytes b _ => some (.byt b)
 | .float b _ => some (.flt b)
 | .ref a => some (.ref a)
 | .type n => some (.ty n)
 | _ => none
theorem RelV.abs {x : V} {u : Value} (r : RelV x u) : absV u = some x := by
 cases x with
 | non => cases r; rfl
 | bl _ => cases r; rfl
 | int _ => obtain ⟨t, rfl⟩ := r; rfl
 | str _ => obtain ⟨t, rfl⟩ := r; rfl
 | byt _ => obtain ⟨t, rfl⟩ := r; rfl
 | flt _ => obtain ⟨t, rfl⟩ := r; rfl
 | ref _ => cases r; rfl
 | ty _ => cases r; rfl
theorem RelV.inj {x y : V} {u : Value} (r : RelV x u) (q : RelV y u) : x = y := Option.some.inj (r.abs.symm.trans q.abs)
theorem Vals.inj : ∀ {xs ys : List V} {us : List Value}, Vals xs us → Vals ys us → xs = ys
 | _, _, _, .nil, .nil => rfl
 | _, _, _, .cons r t, .cons r' t' => by rw [r.inj r', Vals.inj t t']
section
variable {X : Cx} {pins : List (Addr × Obj)} {σ : St} {H : Hp} {s : Shared} {a : Addr} {xs ys : List V}
theorem SqL.of {K : PySem.W.Frag} (h : H a = some (.lst xs)) : SqL K H a xs := .inl (.inl h)
theorem SqT.of {K : PySem.W.Frag} (h : H a = some (.tup xs)) : SqT K H a xs := .inl (.inl h)
theorem Inv.list (I : Inv X pins σ H s) (h : SqL X.K H a xs) : ∃ its : List Value, Vals xs its ∧ PlainL s.heap a its.toArray ∧ xs.length ≤ sizeLine := by
 rcases h with h | ⟨o, its, n, hk, hc, hd, hs, hz, r⟩
 · obtain ⟨z, its, n, r, e⟩ := h.ok I.hok
   exact ⟨its, r, ⟨_, n, e, rfl, rfl, rfl⟩, z⟩
 · refine ⟨its.toList, r, ⟨o, n, I.kIn a o hk, hc, hd, by simpa using hs⟩, ?_⟩
   have e := r.length
   simp only [Array.length_toList] at e
   omega
theorem Inv.tuple (I : Inv X pins σ H s) (h : SqT X.K H a xs) : ∃ its : List Value, Vals xs its ∧ IsTup s.heap a its.toArray ∧ xs.length ≤ sizeLine := by
 rcases h with h | ⟨o, its, n, hk, hc, hs, hz, r⟩
 · obtain ⟨z, its, r, p⟩ := h.ok I.hok
   exact ⟨its, r, p, z⟩
 · refine ⟨its.toList, r, ⟨o, I.kIn a o hk, hc, n, by simpa using hs⟩, ?_⟩
   have e := r.length
   simp only [Array.length_toList] at e
   omega
theorem Inv.list_inj (I : Inv X pins σ H s) (h : SqL X.K H a xs) (h' : SqL X.K H a ys) : xs = ys := by
 obtain ⟨its, r, ⟨o, n, e, _, _, d⟩, _⟩ := I.list h
 obtain ⟨its', r', ⟨o', n', e', _, _, d'⟩, _⟩ := I.list h'
 rw [e] at e'; cases e'
 rw [d] at d'
 injection d' with d1 _
 have : its = its' := by simpa using congrArg Array.toList d1
 subst this
 exact r.inj r'
theorem Inv.tuple_inj (I : Inv X pins σ H s) (h : SqT X.K H a xs) (h' : SqT X.K H a ys) : xs = ys := by
 obtain ⟨its, r, ⟨o, e, _, n, d⟩, _⟩ := I.tuple h
 obtain ⟨its', r', ⟨o', e', _, n', d'⟩, _⟩ := I.tuple h'
 rw [e] at e'; cases e'
 rw [d] at d'
 injection d' with d1 _
 have : its = its' := by simpa using congrArg Array.toList d1
 subst this
 exact r.inj r'
end
noncomputable abbrev Cx.wish (X : Cx) (E : Value → Shared → Prop) : Cx := { X with xe := E }
noncomputable abbrev Cx.nox (X : Cx) : Cx := X.wish fun _ _ => False
theorem Cx.Ok.wish {X : Cx} (ok : X.Ok) (E : Value → Shared → Prop) : (X.wish E).Ok :=
 ⟨ok.mod, ok.kind, ok.glob, ok.blt, ok.above, ok.inj, ok.has, ok.cab, ok.hd, ok.frames, ok.stk, ok.exf, ok.bs, ok.bsz, ok.noex, ok.exfs, ok.funs, ok.frf⟩
theorem Cx.Ok.unwish {X : Cx} {E : Value → Shared → Prop} (ok : (X.wish E).Ok) : X.Ok :=
 ⟨ok.mod, ok.kind, ok.glob, ok.blt, ok.above, ok.inj, ok.has, ok.cab, ok.hd, ok.frames, ok.stk, ok.exf, ok.bs, ok.bsz, ok.noex, ok.exfs, ok.funs, ok.frf⟩
section
variable {X : Cx} {pins : List (Addr × Obj)} {σ : St} {H : Hp} {s : Shared} {E : Value → Shared → Prop}
theorem Inv.wish (I : Inv X pins σ H s) (E : Value → Shared → Prop) : Inv (X.wish E) pins σ H s := ⟨I.ok.wish E, I.os, I.bare, I.base, I.loc, I.cell, I.free, I.freeC, I.pin, I.hok, I.len⟩
theorem Inv.unwish (I : Inv (X.wish E) pins σ H s) : Inv X pins σ H s := ⟨I.ok.unwish, I.os, I.bare, I.base, I.loc, I.cell, I.free, I.freeC, I.pin, I.hok, I.len⟩
theorem SP.unwish {D : Ends} {f : Flow} {s' : Shared} (h : SP (X.wish E) pins D f s') : SP X pins D f s' := by
 cases f with
 | next => obtain ⟨σ', H', I, q⟩ := h; exact ⟨σ', H', I.unwish, q⟩
 | brk => obtain ⟨σ', H', I, q⟩ := h; exact ⟨σ', H', I.unwish, q⟩
 | cont => obtain ⟨σ', H', I, q⟩ := h; exact ⟨σ', H', I.unwish, q⟩
 | ret u => obtain ⟨v, σ', H', I, r, q⟩ := h; exact ⟨v, σ', H', I.unwish, r, q⟩
theorem PSs.nox {st : List Stmt} {t : TS} (h : PSs X.nox st t) : PSs X st t := fun pins s σ H D I hw =>
 wpAny_mono (h pins s σ H D (I.wish _) hw) (fun _ _ q => q.unwish) fun _ _ z => False.elim z
end
section
variable {X : Cx} {st : Stmt} {rest : List Stmt} {t u : TS} {e : Expr} {te : TE} {pos : Pos}
noncomputable def tNext : TS := fun D σ H => D.nx σ H
noncomputable def tSeq (t u : TS) : TS := fun D σ H => t { D with nx := u D } σ H
theorem pss_nil : PSs X [] tNext := fun _ _ σ H _ I h => wpAny_execs_nil ⟨σ, H, I, h⟩
theorem pss_cons (h1 : PS X st t) (h2 : PSs X rest u) : PSs X (st :: rest) (tSeq t u) := by
 intro pins s σ H D I h
 refine wpAny_execs_cons (thn (h1 pins s σ H { D with nx := u D } I h) fun f s1 q => ?_)
 cases f with
 | next =>
   obtain ⟨σ', H', I', q⟩ := q
   exact h2 pins s1 σ' H' D I' q
 | ret v => exact q
 | brk => exact q
 | cont => exact q
theorem pss_one (h1 : PS X st t) : PSs X [st] t := by
 intro pins s σ H D I h
 refine wpAny_execs_cons (thn (h1 pins s σ H D I h) fun f s1 q => ?_)
 cases f with
 | next => exact wpAny_execs_nil q
 | ret v => exact q
 | brk => exact q
 | cont => exact q
theorem Inv.quiet {pins : List (Addr × Obj)} {σ : St} {H : Hp} {s : Shared} (I : Inv X pins σ H s) : interactive X.env = false := by simp [interactive, I.ok.kind]
noncomputable def tDrop (te : TE) : TS := fun D σ H => te σ H fun _ H1 => D.nx σ H1
theorem ps_expr (he : PE X e te) (hs : swapsWith e none pos.line X.env = pure false := by rfl) : PS X (.Expr e pos) (tDrop te) := by
 intro pins s σ H D I h
 exact wpAny_Expr_any (thn (he pins s σ H _ I h) fun v s1 ⟨x, H1, I1, r1, q1⟩ => ⟨σ, H1, I1, q1⟩) I.quiet hs
noncomputable def tRet (te : TE) : TS := fun D σ H => te σ H D.rt
theorem ps_ret (he : PE X e te) : PS X (.Return (some e) pos) (tRet te) := by
 intro pins s σ H D I h
 exact wpAny_Return_some (thn (he pins s σ H _ I h) fun v s1 ⟨x, H1, I1, r1, q1⟩ => ⟨x, σ, H1, I1, r1, q1⟩)
noncomputable def tIfS (c : TT) (t u : TS) : TS := fun D σ H => c σ H fun b H1 => if b = true then t D σ H1 else u D σ H1
theorem ps_if {c : Expr} {a b : List Stmt} {tc : TT} (hc : PT X c tc) (ha : PSs X a t) (hb : PSs X b u) : PS X (.If c a b pos) (tIfS tc t u) := by
 intro pins s σ H D I h
 refine wpAny_If (thn (hc pins s σ H _ I h) fun d s1 ⟨H1, I1, q1⟩ => ?_)
 cases d with
 | true => exact ha pins s1 σ H1 D I1 q1
 | false => exact hb pins s1 σ H1 D I1 q1
end
noncomputable abbrev TG := V → St → Hp → (St → Hp → Prop) → Prop
noncomputable abbrev TGs := List V → St → Hp → (St → Hp → Prop) → Prop
noncomputable def PG (X : Cx) (target : Expr) (t : TG) : Prop :=
 ∀ (pins : List (Addr × Obj)) (s : Shared) (σ : St) (H : Hp) (v : V) (u : Value) (Q : St → Hp → Prop), Inv X pins σ H s → RelV v u → t v σ H Q →
   wpAny (model X.prog X.w) X.A (assign target X.env u) (fun _ s' => ∃ σ' H', Inv X pins σ' H' s' ∧ Q σ' H') X.xe s
noncomputable def PGs (X : Cx) (ts : List Expr) (t : TGs) : Prop :=
 ∀ (pins : List (Addr × Obj)) (s : Shared) (σ : St) (H : Hp) (vs : List V) (us : List Value) (Q : St → Hp → Prop), Inv X pins σ H s → Vals vs us → t vs σ H Q →
   wpAny (model X.prog X.w) X.A (assignInOrder ((assignEach ts X.env).map (·.2)) us) (fun _ s' => ∃ σ' H', Inv X pins σ' H' s' ∧ Q σ' H') X.xe s
noncomputable abbrev TSet := V → V → V → Hp → (Hp → Prop) → Prop
noncomputable def PSet (X : Cx) (t : TSet) : Prop :=
 ∀ (pins : List (Addr × Obj)) (s : Shared) (σ : St) (H : Hp) (o i v : V) (ov iv u : Value) (Q : Hp → Prop), Inv X pins σ H s → RelV o ov → RelV i iv → RelV v u → t o i v H Q →
   wpAny (model X.prog X.w) X.A (setItem ov iv u) (fun _ s' => ∃ H', Inv X pins σ H' s' ∧ Q H') X.xe s
section
variable {X : Cx} {pos : Pos}
noncomputable def gName (i : Nat) : TG := fun v σ H Q => Q (σ.set i (some v)) H
theorem pg_name {i : Nat} {x : Str} (hN : X.N.Nodup) (hi : X.N[i]? = some x) (hx : Loc X.env.scope x) (hf : X.fn x = true ∨ X.env.scope.names.lookup x = some .local := by first | exact .inl rfl | exact .inr rfl | assumption) : PG X (.Name x pos) (gName i) := by
 intro pins s σ H v u Q I r h
 exact wpAny_assign_Name (store_ok I hN hi hx r (fun s' I' => ⟨_, H, I', h⟩) hf)
noncomputable def gNil : TGs := fun vs σ H Q => vs = [] ∧ Q σ H
noncomputable def gCons (t : TG) (u : TGs) : TGs := fun vs σ H Q => ∃ v r, vs = v :: r ∧ t v σ H fun σ' H' => u r σ' H' Q
theorem pgs_nil : PGs X [] gNil := by
 intro pins s σ H vs us Q I r h
 obtain ⟨e, h⟩ := h
 subst e
 cases r
 exact assignInOrder_nil ⟨σ, H, I, h⟩
theorem pgs_cons {e : Expr} {es : List Expr} {t : TG} {u : TGs} (h1 : PG X e t) (h2 : PGs X es u)
   (hs : (assignEach (e :: es) X.env).map (·.2) = assign e X.env :: (assignEach es X.env).map (·.2) := by rfl) : PGs X (e :: es) (gCons t u) := by
 intro pins s σ H vs us Q I r h
 obtain ⟨v, vr, e1, h⟩ := h
 subst e1
 cases r with
 | cons r rr =>
   rw [hs]
   refine assignInOrder_cons (thn (h1 pins s σ H _ _ _ I r h) fun _ s1 ⟨σ1, H1, I1, q1⟩ => ?_)
   exact h2 pins s1 σ1 H1 _ _ Q I1 rr q1
noncomputable def gTup (K : PySem.W.Frag) (n : Nat) (t : TGs) : TG := fun v σ H Q => ∃ a xs, v = .ref a ∧ SqT K H a xs ∧ xs.length = n ∧ t xs σ H Q
theorem pg_tup {es : List Expr} {k : Nat} {t : TGs} {n : Nat} (hc : X.calm = true) (h : PGs X es t)
   (hn : (assignEach es X.env).length = n := by rfl) (hst : (assignEach es X.env).findIdx? (·.1) = none := by rfl) : PG X (.Tuple es k pos) (gTup X.K n t) := by
 intro pins s σ H v u Q I r hw
 obtain ⟨a, xs, e1, hq, hl, hw⟩ := hw
 subst e1
 cases r
 obtain ⟨its, rv, ht, hz⟩ := I.tuple hq
 refine assign_Tuple_tuple (I.ok.hd hc) ht (by simp [hn, ← hl, rv.length]) hst fun h' hx => ?_
 have I1 : Inv X pins σ H { s with heap := h' } := I.kept (t' := s.toks) fun b o e => hx b o (Nat.ne_of_lt (Heap.lt_size e)) e
 exact h pins _ σ H xs _ Q I1 (by simpa using rv) hw
noncomputable def gSub (to ti : TE) (t : TSet) : TG := fun v σ H Q => to σ H fun o H1 => ti σ H1 fun i H2 => t o i v H2 fun H3 => Q σ H3
theorem pg_sub {o i : Expr} {to ti : TE} {t : TSet} (ho : PE X o to) (hi : PE X i ti) (hs : PSet X t)
   (ha : ∀ v, assign (.Subscript o i pos) X.env v = (do
     let ov ← holding [v] (eval o X.env)
     let iv ← holding [v, ov] (eval i X.env)
     standAt pos
     holding [v, ov, iv] (setItem ov iv v)
     release [v, ov, iv] []) := by intro _; rfl) : PG X (.Subscript o i pos) (gSub to ti t) := by
 intro pins s σ H v u Q I r h
 rw [ha]
 refine wpAny_bind (wpAny_holding (thn (ho pins s σ H _ I h) fun ov s1 ⟨x, H1, I1, r1, q1⟩ => ?_))
 refine wpAny_bind (wpAny_holding (thn (hi pins s1 σ H1 _ I1 q1) fun iv s2 ⟨y, H2, I2, r2, q2⟩ => ?_))
 refine wpAny_bind (wpAny_standAt (wpAny_bind (wpAny_holding (thn (hs pins s2 σ H2 x y v ov iv u _ I2 r1 r2 r q2) fun _ s3 ⟨H3, I3, q3⟩ => ?_))))
 exact wpAny_release ⟨σ, H3, I3, q3⟩
noncomputable def tAsg (te : TE) (g : TG) : TS := fun D σ H => te σ H fun x H1 => g x σ H1 D.nx
theorem ps_asg {tg e : Expr} {te : TE} {g : TG} (he : PE X e te) (hg : PG X tg g) (hs : swapsWithSole [tg] e pos.line X.env = pure false := by rfl) (hw : swappedStores [tg] e X.env = pure none := by rfl)
   (h1 : (assignEach [tg] X.env).map (·.2) = [assign tg X.env] := by rfl) : PS X (.Assign [tg] e pos) (tAsg te g) := by
 intro pins s σ H D I h
 refine wpAny_Assign_stores (thn (he pins s σ H _ I h) fun v s1 ⟨x, H1, I1, r1, q1⟩ => ?_) hs hw
 rw [h1]
 exact thn (hg pins s1 σ H1 x v _ I1 r1 q1) fun _ s2 q => q
theorem ps_set {i : Nat} {x : Str} {e : Expr} {te : TE} {pos' : Pos} (hN : X.N.Nodup) (hi : X.N[i]? = some x) (hx : Loc X.env.scope x) (he : PE X e te) (hs : swapsWith e (some (.Name x pos')) pos.line X.env = pure false := by rfl) (hf : X.fn x = true ∨ X.env.scope.names.lookup x = some .local := by first | exact .inl rfl | exact .inr rfl | assumption) :
   PS X (.Assign [.Name x pos'] e pos) (tAsg te (gName i)) := by
 intro pins s σ H D I h
 refine wpAny_Assign_Name (thn (he pins s σ H _ I h) fun v s1 ⟨y, H1, I1, r1, q1⟩ => ?_) hs
 exact store_ok I1 hN hi hx r1 (fun s2 I2 => ⟨_, H1, I2, q1⟩) hf
end
section
variable {X : Cx} {pos : Pos}
end
structure It where
 go : Nat → Hp → Prop
 yld : Nat → Hp → V → Hp → Prop
 stop : Nat → Hp → Prop
noncomputable def FpOk (X : Cx) (pins : List (Addr × Obj)) (H : Hp) (b : Addr) : Prop :=
 H b = none ∧ b ≠ X.env.locals ∧ b ∉ X.fs ∧ (b ∈ X.ex ∨ X.s₀.heap.objs.size ≤ b) ∧ (∀ x c, X.env.cells.lookup x = some c → c ≠ b) ∧ ∀ p ∈ X.pn ++ pins, p.1 ≠ b
theorem Inv.fpOk {X : Cx} {pins : List (Addr × Obj)} {σ : St} {H H' : Hp} {s : Shared} {b : Addr} (I : Inv X pins σ H s) (hb : s.heap.objs.size ≤ b) (hn : H' b = none) : FpOk X pins H' b := by
 refine ⟨hn, Nat.ne_of_gt (Nat.lt_of_lt_of_le I.lt hb), I.nofs hb, .inr (Nat.le_trans I.sz hb), fun x c e z => ?_, fun p hp z => ?_⟩
 · obtain ⟨v, q⟩ := I.cell x c e
   exact absurd (Nat.lt_of_lt_of_le q.lt (by rw [z]; exact hb)) (Nat.lt_irrefl _)
 · exact absurd (Nat.lt_of_lt_of_le (Heap.lt_size (I.pin p hp).1) (by rw [z]; exact hb)) (Nat.lt_irrefl _)
structure Turn (P : Program) (w : World) (K : PySem.W.Frag) (tg : Expr) (J : It) (fp : List Addr) (it : Addr) (tn : Nat → Heap → Prop) : Prop where
 mem : it ∈ fp
 obj : ∀ i h, tn i h → ∀ b ∈ fp, ∃ o, h.get? b = some o ∧ ∀ v, o.data ≠ .cell v
 keep : ∀ i h h', tn i h → (∀ b ∈ fp, ∀ o, h.get? b = some o → h'.get? b = some o) → tn i h'
 item : ∀ (X : Cx), X.prog = P → X.w = w → X.K = K → X.calm = true → ∀ (i : Nat) (pins : List (Addr × Obj)) (s : Shared) (σ : St) (H : Hp) (E : Value → Shared → Prop), Inv X pins σ H s → (∀ b ∈ fp, FpOk X pins H b) → tn i s.heap → J.go i H →
   wpAny (model P w) X.A (pyNext (.ref it)) (fun r s1 => ∃ u, r = some u ∧
     wpAny (model P w) X.A (letOwnedTupleGo tg (.ref it) u) (fun _ s2 => ∃ x H', Inv X pins σ H' s2 ∧ RelV x u ∧ J.yld i H x H' ∧ tn (i + 1) s2.heap ∧ ∀ b ∈ fp, H' b = none) E s1) E s
 done : ∀ (X : Cx), X.prog = P → X.w = w → X.K = K → X.calm = true → ∀ (i : Nat) (pins : List (Addr × Obj)) (s : Shared) (σ : St) (H : Hp) (E : Value → Shared → Prop), Inv X pins σ H s → (∀ b ∈ fp, FpOk X pins H b) → tn i s.heap → J.stop i H →
   wpAny (model P w) X.A (pyNext (.ref it)) (fun r s1 => r = none ∧ Inv X pins σ H s1) E s
 self : ∀ (A : Around) (i : Nat) (s : Shared) (Q : Value → Shared → Prop) (E : Value → Shared → Prop), tn i s.heap → Q (.ref it) s → wpAny (model P w) A (pyIter (.ref it)) Q E s
noncomputable abbrev TI := St → Hp → (It → Hp → Prop) → Prop
noncomputable def PIE (X : Cx) (pins : List (Addr × Obj)) (σ : St) (tg : Expr) (R : It → Hp → Prop) (itv : Value) (s2 : Shared) : Prop :=
 ∃ (it : Addr) (fp : List Addr) (tn : Nat → Heap → Prop) (J : It) (H' : Hp), itv = .ref it ∧ Inv X pins σ H' s2 ∧ Turn X.prog X.w X.K tg J fp it tn ∧ tn 0 s2.heap ∧ (∀ b ∈ fp, FpOk X pins H' b) ∧ R J H'
noncomputable def PI (X : Cx) (tg iter : Expr) (wi : TI) : Prop :=
 ∀ (pins : List (Addr × Obj)) (s : Shared) (σ : St) (H : Hp) (R : It → Hp → Prop), Inv X pins σ H s → wi σ H R →
   wpAny (model X.prog X.w) X.A (eval iter X.env) (fun v s1 => wpAny (model X.prog X.w) X.A (pyIter v) (PIE X pins σ tg R) X.xe s1) X.xe s
theorem go_of {M : Model} {A : Around} {E : Value → Shared → Prop} {s : Shared} {tg : Expr} {it : Addr} {u : Value} {o : Obj} {n : String} {vs : Array Value} {Q : Unit → Shared → Prop} (ho : s.heap.get? it = some o) (hc : o.cls = .type n) (hd : o.data = .fields vs)
   (hn : ["enumerate", "zip", "dict_itemiterator", "dict_reverseitemiterator", "odict_iterator", "itertools.zip_longest", "itertools.pairwise"].contains n = false) (hQ : Q () s) : wpAny M A (letOwnedTupleGo tg (.ref it) u) Q E s := by
 unfold letOwnedTupleGo
 cases tg <;> first
   | exact wpAny_pure hQ
   | (cases u <;> first
       | exact wpAny_pure hQ
       | (refine wpAny_bind (wpAny_load ho ?_)
          rw [hc, hd]
          show wpAny M A (if (["enumerate", "zip", "dict_itemiterator", "dict_reverseitemiterator", "odict_iterator", "itertools.zip_longest", "itertools.pairwise"].contains n && vs[0]? == some (rawInt _)) = true then _ else _) Q E s
          rw [if_neg (by intro h; rw [hn, Bool.false_and] at h; cases h)]
          exact wpAny_pure hQ))
noncomputable def Itl (K : PySem.W.Frag) (a : Addr) : It :=
 ⟨fun i H => ∃ xs x, SqL K H a xs ∧ xs[i]? = some x, fun i H x H' => H' = H ∧ ∀ xs, SqL K H a xs → xs[i]? = some x, fun i H => ∃ xs, SqL K H a xs ∧ xs.length ≤ i⟩
noncomputable def Itt (K : PySem.W.Frag) (a : Addr) : It :=
 ⟨fun i H => ∃ xs x, SqT K H a xs ∧ xs[i]? = some x, fun i H x H' => H' = H ∧ ∀ xs, SqT K H a xs → xs[i]? = some x, fun i H => ∃ xs, SqT K H a xs ∧ xs.length ≤ i⟩
noncomputable def Itr (lo : Int) (n : Nat) : It := ⟨fun i _ => i < n, fun i H x H' => H' = H ∧ x = .int (lo + i), fun i _ => n ≤ i⟩
theorem turn_list {P : Program} {w : World} {K : PySem.W.Frag} {tg : Expr} (a it : Addr) : Turn P w K tg (Itl K a) [it] it (fun i h => h.IsListIter it a i) where
 mem := by simp
 obj := fun i h st b hb => by
   have e : b = it := by simpa using hb
   subst e
   obtain ⟨o, e, c, d⟩ := st
   exact ⟨o, e, fun v z => by rw [d] at z; cases z⟩
 keep := fun i h h' st k => st.at fun o e => k it (by simp) o e
 item := by
   intro X hP hw hK hc i pins s σ H E I hf st hg
   subst hP hw hK
   obtain ⟨xs, x, hq, hx⟩ := hg
   obtain ⟨its, rv, p, hz⟩ := I.list hq
   obtain ⟨u, hu, ru⟩ := rv.get hx
   obtain ⟨f0, f1, f2, f3, f4, f5⟩ := hf it (by simp)
   refine wpAny_pyNext_list_item st p.isList (x := u) (by simpa using hu) fun h' st' sb => ?_
   have I1 : Inv X pins σ H { s with heap := h' } := I.turned (t' := s.toks) (fun b o hb e => (sb.2 b hb).trans e) f0 f1 f3 f4 f5
   obtain ⟨o, e, c, d⟩ := id st'
   exact ⟨u, rfl, go_of (s := { s with heap := h' }) e c d (by decide) ⟨x, H, I1, ru, ⟨rfl, fun ys hy => by rw [I.list_inj hy hq]; exact hx⟩, st', fun b hb => (hf b hb).1⟩⟩
 done := by
   intro X hP hw hK hc i pins s σ H E I hf st hg
   subst hP hw hK
   obtain ⟨xs, hq, hx⟩ := hg
   obtain ⟨its, rv, p, hz⟩ := I.list hq
   obtain ⟨f0, f1, f2, f3, f4, f5⟩ := hf it (by simp)
   have hl := rv.length
   exact wpAny_pyNext_list_end (I.ok.hd hc) st p.isList (by simp; omega) fun h' eb => ⟨rfl, I.turned (t' := s.toks) (fun b o hb e => eb b o hb e) f0 f1 f3 f4 f5⟩
 self := fun _ _ _ _ _ st h => wpAny_pyIter_listiter st h
theorem turn_tuple {P : Program} {w : World} {K : PySem.W.Frag} {tg : Expr} (a it : Addr) : Turn P w K tg (Itt K a) [it] it (fun i h => h.IsTupleIter it a i) where
 mem := by simp
 obj := fun i h st b hb => by
   have e : b = it := by simpa using hb
   subst e
   obtain ⟨o, e, c, d⟩ := st
   exact ⟨o, e, fun v z => by rw [d] at z; cases z⟩
 keep := fun i h h' st k => st.at fun o e => k it (by simp) o e
 item := by
   intro X hP hw hK hc i pins s σ H E I hf st hg
   subst hP hw hK
   obtain ⟨xs, x, hq, hx⟩ := hg
   obtain ⟨its, rv, p, hz⟩ := I.tuple hq
   obtain ⟨u, hu, ru⟩ := rv.get hx
   obtain ⟨f0, f1, f2, f3, f4, f5⟩ := hf it (by simp)
   refine wpAny_pyNext_tuple_item st (show s.heap.IsTuple a its.toArray from p) (x := u) (by simpa using hu) fun h' st' sb => ?_
   have I1 : Inv X pins σ H { s with heap := h' } := I.turned (t' := s.toks) (fun b o hb e => (sb.2 b hb).trans e) f0 f1 f3 f4 f5
   obtain ⟨o, e, c, d⟩ := id st'
   exact ⟨u, rfl, go_of (s := { s with heap := h' }) e c d (by decide) ⟨x, H, I1, ru, ⟨rfl, fun ys hy => by rw [I.tuple_inj hy hq]; exact hx⟩, st', fun b hb => (hf b hb).1⟩⟩
 done := by
   intro X hP hw hK hc i pins s σ H E I hf st hg
   subst hP hw hK
   obtain ⟨xs, hq, hx⟩ := hg
   obtain ⟨its, rv, p, hz⟩ := I.tuple hq
   obtain ⟨f0, f1, f2, f3, f4, f5⟩ := hf it (by simp)
   have hl := rv.length
   exact wpAny_pyNext_tuple_end (I.ok.hd hc) st (show s.heap.IsTuple a its.toArray from p) (by simp; omega) fun h' eb => ⟨rfl, I.turned (t' := s.toks) (fun b o hb e => eb b o hb e) f0 f1 f3 f4 f5⟩
 self := fun _ _ _ _ _ st h => wpAny_pyIter_tupleiter st h
theorem turn_range {P : Program} {w : World} {K : PySem.W.Frag} {tg : Expr} (it : Addr) (lo : Int) (n : Nat) : Turn P w K tg (Itr lo n) [it] it (fun i h => IsRangeIter h it (lo + (i : Nat) * 1) ((n : Int) - (i : Nat)) 1) where
 mem := by simp
 obj := fun i h st b hb => by
   have e : b = it := by simpa using hb
   subst e
   exact ⟨_, st, fun v z => by
     have z' : Data.fields _ = Data.cell v := z
     cases z'⟩
 keep := fun i h h' st k => k it (by simp) _ st
 item := by
   intro X hP hw hK hc i pins s σ H E I hf st hg
   subst hP hw hK
   obtain ⟨f0, f1, f2, f3, f4, f5⟩ := hf it (by simp)
   have W := Walks.range (prog := X.prog) (w := X.w) (I.ok.hd hc) it lo 1 n
   refine W.item i s _ _ hg st fun v h' tk hv st' kk => ?_
   obtain ⟨t, rfl⟩ := hv
   have I1 : Inv X pins σ H { s with heap := h', toks := tk } := I.turned (fun b o hb e => kk b o (by simpa using hb) e) f0 f1 f3 f4 f5
   refine ⟨_, rfl, go_of (s := { s with heap := h', toks := tk }) (n := "range_iterator") st' rfl rfl (by decide) ⟨.int (lo + i), H, I1, ⟨t, ?_⟩, ⟨rfl, rfl⟩, st', fun b hb => (hf b hb).1⟩⟩
   rw [Int.mul_one]
 done := by
   intro X hP hw hK hc i pins s σ H E I hf st hg
   subst hP hw hK
   obtain ⟨f0, f1, f2, f3, f4, f5⟩ := hf it (by simp)
   exact wpAny_pyNext_range_end (I.ok.hd hc) st (by have : n ≤ i := hg; omega) fun h' eb => ⟨rfl, I.turned (t' := s.toks) (fun b o hb e => eb b o hb e) f0 f1 f3 f4 f5⟩
 self := fun _ _ _ _ _ st h => wpAny_pyIter_rangeiter st h
end L2
namespace L2
open PySem PySem.Spec PyProof.Rows
section
variable {X : Cx} {tg : Expr}
noncomputable def iList (K : PySem.W.Frag) (tl : TE) : TI := fun σ H R => tl σ H fun x H1 => ∃ a, x = .ref a ∧ (∃ xs, SqL K H1 a xs) ∧ R (Itl K a) H1
noncomputable def iTup (K : PySem.W.Frag) (tl : TE) : TI := fun σ H R => tl σ H fun x H1 => ∃ a, x = .ref a ∧ (∃ xs, SqT K H1 a xs) ∧ R (Itt K a) H1
theorem pi_list {l : Expr} {tl : TE} (hl : PE X l tl) : PI X tg l (iList X.K tl) := by
 intro pins s σ H R I h
 refine thn (hl pins s σ H _ I h) fun v s1 ⟨x, H1, I1, r1, q1⟩ => ?_
 obtain ⟨a, e, ⟨xs, hq⟩, q⟩ := q1
 subst e
 cases r1
 obtain ⟨its, rv, p, hz⟩ := I1.list hq
 refine wpAny_pyIter_list p.isList ?_
 refine ⟨s1.heap.objs.size, [s1.heap.objs.size], _, _, H1, rfl, I1.kept (t' := s1.toks) fun b o e => Heap.get?_push_of_some _ e, turn_list a _, ⟨_, Heap.get?_push_size _ rfl, rfl, rfl⟩, fun b hb => ?_, q⟩
 have e : b = s1.heap.objs.size := by simpa using hb
 subst e
 exact I1.fpOk (Nat.le_refl _) (I1.hok.fresh (Nat.le_refl _))
theorem pi_tup {l : Expr} {tl : TE} (hl : PE X l tl) : PI X tg l (iTup X.K tl) := by
 intro pins s σ H R I h
 refine thn (hl pins s σ H _ I h) fun v s1 ⟨x, H1, I1, r1, q1⟩ => ?_
 obtain ⟨a, e, ⟨xs, hq⟩, q⟩ := q1
 subst e
 cases r1
 obtain ⟨its, rv, p, hz⟩ := I1.tuple hq
 refine wpAny_pyIter_tuple (show s1.heap.IsTuple a its.toArray from p) ?_
 refine ⟨s1.heap.objs.size, [s1.heap.objs.size], _, _, H1, rfl, I1.kept (t' := s1.toks) fun b o e => Heap.get?_push_of_some _ e, turn_tuple a _, ⟨_, Heap.get?_push_size _ rfl, rfl, rfl⟩, fun b hb => ?_, q⟩
 have e : b = s1.heap.objs.size := by simpa using hb
 subst e
 exact I1.fpOk (Nat.le_refl _) (I1.hok.fresh (Nat.le_refl _))
theorem range_it {pins : List (Addr × Obj)} {σ : St} {H : Hp} {s : Shared} {R : It → Hp → Prop} {E : Value → Shared → Prop} {lo hi : Int} {t u v : Tok} {tk : Nat} (I : Inv X pins σ H s) (h1 : -(2 ^ 62) ≤ lo) (h2 : lo < 2 ^ 62) (h3 : -(2 ^ 62) ≤ hi) (h4 : hi < 2 ^ 62)
   (q : R (Itr lo (hi - lo).toNat) H) : wpAny (model X.prog X.w) X.A (pyIter (.ref s.heap.objs.size)) (PIE X pins σ tg R) E { s with heap := s.heap.push { cls := .type "range", data := .fields #[.int lo t, .int hi u, .int 1 v] }, toks := tk } := by
 refine wpAny_pyIter_range (IsRange.new ..) (small_one h1 h2 h3 h4) ?_
 have I1 : Inv X pins σ H { s with heap := s.heap.push { cls := .type "range", data := .fields #[.int lo t, .int hi u, .int 1 v] }, toks := tk } := I.kept fun b o e => Heap.get?_push_of_some _ e
 refine ⟨(s.heap.push { cls := .type "range", data := .fields #[.int lo t, .int hi u, .int 1 v] }).objs.size, [(s.heap.push { cls := .type "range", data := .fields #[.int lo t, .int hi u, .int 1 v] }).objs.size], _, _, H, rfl,
   I1.kept (t' := tk) fun b o e => Heap.get?_push_of_some _ e, turn_range _ lo (hi - lo).toNat, ?_, fun b hb => ?_, q⟩
 · have e1 : lo + ((0 : Nat) : Int) * 1 = lo := by simp
   have e2 : (((hi - lo).toNat : Nat) : Int) - ((0 : Nat) : Int) = Builtin.Range.rangeSize lo hi 1 := by rw [rangeSize_one]; split <;> omega
   show IsRangeIter _ _ (lo + ((0 : Nat) : Int) * 1) ((((hi - lo).toNat : Nat) : Int) - ((0 : Nat) : Int)) 1
   rw [e1, e2]
   exact Heap.get?_push_size _ rfl
 · have e : b = (s.heap.push { cls := .type "range", data := .fields #[.int lo t, .int hi u, .int 1 v] }).objs.size := by simpa using hb
   subst e
   exact I1.fpOk (Nat.le_refl _) (I1.hok.fresh (Nat.le_refl _))
noncomputable def iRng1 (ta : TA) : TI := fun σ H R => ta σ H fun vs H1 => ∃ j : Int, vs = [.int j] ∧ -(2 ^ 62) ≤ j ∧ j < 2 ^ 62 ∧ R (Itr 0 j.toNat) H1
theorem pi_range1 {a : Expr} {ta : TA} {p pos : Pos} (hg : Gl X "range") (hm : X.mg "range" = none) (ha : PA X [a] ta) (hs : starEach [a] X.env = [(false, eval a X.env)] := by rfl) : PI X tg (.Call (.Name "range" p) [a] [] pos) (iRng1 ta) := by
 intro pins s σ H R I h
 refine Call_ (ld_blt I hg hm boot_range (PyProof.Rows.callWith_type1 (thn (ha pos pins s σ H _ I h) fun us s1 ⟨vs, H1, I1, r1, q1⟩ => ?_) hs rfl))
 obtain ⟨j, e, q1, q2, q⟩ := q1
 subst e
 cases r1 with
 | cons r rr =>
   cases rr
   obtain ⟨t, rfl⟩ := r
   exact call_range_1 (range_it I1 (by omega) (by omega) q1 q2 (by simpa using q))
noncomputable def tFor (wi : TI) (g : TG) (tb : TS) : TS := fun D σ H => wi σ H fun J H1 => ∃ W : Nat → Nat → St → Hp → Prop, (∃ m, W 0 m σ H1) ∧ ∀ i m σ H, W i m σ H →
 (J.stop i H ∧ D.nx σ H) ∨ (J.go i H ∧ ∃ N : St → Hp → Prop, (∀ σ' H', N σ' H' → ∃ m', m' < m ∧ W (i + 1) m' σ' H') ∧ ∀ x H', J.yld i H x H' → g x σ H' fun σ2 H2 => tb { D with nx := N, ct := N, bk := D.nx } σ2 H2)
noncomputable def pinsAt (fp : List Addr) (h : Heap) : List (Addr × Obj) := fp.filterMap fun b => (h.get? b).map fun o => (b, o)
theorem mem_pinsAt {fp : List Addr} {h : Heap} {b : Addr} {o : Obj} (hb : b ∈ fp) (e : h.get? b = some o) : (b, o) ∈ pinsAt fp h := List.mem_filterMap.mpr ⟨b, hb, by rw [e]; rfl⟩
theorem of_pinsAt {fp : List Addr} {h : Heap} {p : Addr × Obj} (hp : p ∈ pinsAt fp h) : p.1 ∈ fp ∧ h.get? p.1 = some p.2 := by
 obtain ⟨b, hb, e⟩ := List.mem_filterMap.mp hp
 cases q : h.get? b with
 | none => rw [q] at e; cases e
 | some o =>
   rw [q] at e
   have e' : (b, o) = p := Option.some.inj e
   subst e'
   exact ⟨hb, q⟩
theorem Inv.pinned {pins : List (Addr × Obj)} {σ : St} {H : Hp} {s : Shared} {fp : List Addr} (I : Inv X pins σ H s) (hf : ∀ b ∈ fp, FpOk X pins H b) (ho : ∀ b ∈ fp, ∃ o, s.heap.get? b = some o ∧ ∀ v, o.data ≠ .cell v) : Inv X (pins ++ pinsAt fp s.heap) σ H s :=
 I.pins_of fun p hp => (List.mem_append.mp hp).elim (fun z => I.pin p (List.mem_append_right _ z)) fun z => by
   obtain ⟨hb, e⟩ := of_pinsAt z
   obtain ⟨f0, f1, f2, _⟩ := hf p.1 hb
   obtain ⟨o, e', d⟩ := ho p.1 hb
   rw [e] at e'; cases e'
   exact ⟨e, f0, f1, f2, d⟩
theorem Inv.unpinned {pins pl : List (Addr × Obj)} {σ : St} {H : Hp} {s : Shared} (I : Inv X (pins ++ pl) σ H s) : Inv X pins σ H s := I.pins_of fun p hp => I.pin p (List.mem_append_right _ (List.mem_append_left _ hp))
theorem ps_for {iter : Expr} {body : List Stmt} {wi : TI} {g : TG} {tb : TS} {pos : Pos} (hp : PassesOwn (model X.prog X.w) X.A X.env X.xe) (hc : X.calm = true) (hi : PI X tg iter wi) (hg : PG X tg g) (hb : PSs X body tb)
   (hs : ∀ x, foldedSetIterable iter X.env x = pure x := by intro _; rfl) : PS X (.For tg iter body [] pos) (tFor wi g tb) := by
 intro pins s σ H D I h
 refine wpAny_For (thn (hi pins s σ H _ I h) fun v s1 h1 => thn h1 fun itv s2 h2 => ?_) hs
 obtain ⟨it, fp, tn, J, H2, e, I2, T, st2, f2, W, ⟨m0, w0⟩, turn⟩ := h2
 subst e
 -- what stays true of the iterator's objects through the loop
 have stat : ∀ {H' : Hp}, (∀ b ∈ fp, H' b = none) → ∀ b ∈ fp, FpOk X pins H' b := fun hn b hb => ⟨hn b hb, (f2 b hb).2⟩
 refine codeAny_forLoop_any (fun n s' => ∃ i σ' H', Inv X pins σ' H' s' ∧ tn i s'.heap ∧ (∀ b ∈ fp, H' b = none) ∧ W i n σ' H') ?_ m0 ⟨0, σ, H2, I2, st2, fun b hb => (f2 b hb).1, w0⟩
 rintro n s3 ⟨i, σ3, H3, I3, st3, fr3, w3⟩
 rcases turn i n σ3 H3 w3 with ⟨stop, qn⟩ | ⟨go, N, hN, step⟩
 · refine wpAny_passesOwn hp (thn (T.done X rfl rfl rfl hc i pins s3 σ3 H3 X.xe I3 (stat fr3) st3 stop) fun r s4 ⟨hr, I4⟩ => ?_)
   subst hr
   exact wpAny_execs_nil ⟨σ3, H3, I4, qn⟩
 · refine wpAny_passesOwn hp (thn (T.item X rfl rfl rfl hc i pins s3 σ3 H3 X.xe I3 (stat fr3) st3 go) fun r s4 ⟨u, hr, h4⟩ => ?_)
   subst hr
   refine wpAny_passesOwn hp (thn h4 fun _ s5 ⟨x, H5, I5, r5, y5, st5, fr5⟩ => ?_)
   have I5' := I5.pinned (stat fr5) (T.obj _ _ st5)
   refine wpAny_passesOwn hp (thn (hg _ s5 σ3 H5 x u _ I5' r5 (step x H5 y5)) fun _ s6 ⟨σ6, H6, I6, q6⟩ => ?_)
   refine wpAny_passesOwn hp (thn (hb _ s6 σ6 H6 _ I6 q6) fun f s7 q7 => ?_)
   have again : ∀ {σ7 : St} {H7 : Hp}, Inv X (pins ++ pinsAt fp s5.heap) σ7 H7 s7 → N σ7 H7 → ∃ m, m < n ∧ ∃ i σ' H', Inv X pins σ' H' s7 ∧ tn i s7.heap ∧ (∀ b ∈ fp, H' b = none) ∧ W i m σ' H' := fun {σ7 H7} I7 n7 => by
     obtain ⟨m', hm, w7⟩ := hN σ7 H7 n7
     refine ⟨m', hm, i + 1, σ7, H7, I7.unpinned, T.keep _ _ _ st5 fun b hb o e => (I7.pin (b, o) (List.mem_append_right _ (List.mem_append_right _ (mem_pinsAt hb e)))).1, fun b hb => ?_, w7⟩
     obtain ⟨o, e, d⟩ := T.obj _ _ st5 b hb
     exact (I7.pin (b, o) (List.mem_append_right _ (List.mem_append_right _ (mem_pinsAt hb e)))).2.1
   cases f with
   | next => obtain ⟨σ7, H7, I7, n7⟩ := q7; exact again I7 n7
   | cont => obtain ⟨σ7, H7, I7, n7⟩ := q7; exact again I7 n7
   | brk => obtain ⟨σ7, H7, I7, q7⟩ := q7; exact ⟨σ7, H7, I7.unpinned, q7⟩
   | ret v => obtain ⟨x7, σ7, H7, I7, r7, q7⟩ := q7; exact ⟨x7, σ7, H7, I7.unpinned, r7, q7⟩
end
end L2
namespace L2
open PySem PySem.Spec PyProof.Rows
noncomputable abbrev R2 := V → V → Hp → VK → Prop
noncomputable def OpR (X : Cx) (f : Value → Value → Sem Value) (r : R2) : Prop :=
 ∀ (pins : List (Addr × Obj)) (s : Shared) (σ : St) (H : Hp) (x y : V) (v u : Value) (Q : VK), Inv X pins σ H s → RelV x v → RelV y u → r x y H Q →
   wpAny (model X.prog X.w) X.A (f v u) (EP X pins σ Q) X.xe s
noncomputable def CallR (X : Cx) (f : Value) (r : List V → Hp → VK → Prop) : Prop :=
 ∀ (pins : List (Addr × Obj)) (s : Shared) (σ : St) (H : Hp) (xs : List V) (us : List Value) (Q : VK), Inv X pins σ H s → Vals xs us → r xs H Q →
   wpAny (model X.prog X.w) X.A (call f us) (EP X pins σ Q) X.xe s
noncomputable def TruR (X : Cx) (r : V → Hp → (Bool → Hp → Prop) → Prop) : Prop :=
 ∀ (pins : List (Addr × Obj)) (s : Shared) (σ : St) (H : Hp) (x : V) (v : Value) (Q : Bool → Hp → Prop), Inv X pins σ H s → RelV x v → r x H Q →
   wpAny (model X.prog X.w) X.A (truthy v) (TP X pins σ Q) X.xe s
noncomputable def tOp (r : R2) (ta tb : TE) : TE := fun σ H Q => ta σ H fun x H1 => tb σ H1 fun y H2 => r x y H2 Q
noncomputable def rI (C : Int → Int → Prop) (g : Int → Int → V) : R2 := fun x y H Q => ∃ i j, x = .int i ∧ y = .int j ∧ C i j ∧ Q (g i j) H
noncomputable def rI0 (g : Int → Int → V) : R2 := fun x y H Q => ∃ i j, x = .int i ∧ y = .int j ∧ Q (g i j) H
noncomputable def rU (g : Int → V) : V → Hp → VK → Prop := fun x H Q => ∃ i, x = .int i ∧ Q (g i) H
section
variable {X : Cx} {a b c : Expr} {ta tb tc : TE} {pos : Pos}
theorem binT (ha : PE X a ta) (hb : PE X b tb) {pins : List (Addr × Obj)} {s : Shared} {σ : St} {H : Hp} {R : V → V → Hp → Prop} (I : Inv X pins σ H s)
   (h : ta σ H fun x H1 => tb σ H1 fun y H2 => R x y H2) {Q : Value → Shared → Prop} {f : Value → Value → Sem Value}
   (hf : ∀ v u s2 x y H2, Inv X pins σ H2 s2 → RelV x v → RelV y u → R x y H2 → wpAny (model X.prog X.w) X.A (f v u) Q X.xe s2) :
   wpAny (model X.prog X.w) X.A (eval a X.env) (fun v s₁ => wpAny (model X.prog X.w) X.A (eval b X.env) (fun u s₂ => wpAny (model X.prog X.w) X.A (f v u) Q X.xe s₂) X.xe s₁) X.xe s := by
 refine thn (ha pins s σ H _ I h) fun v s1 ⟨x, H1, I1, r1, q1⟩ => ?_
 refine thn (hb pins s1 σ H1 _ I1 q1) fun u s2 ⟨y, H2, I2, r2, q2⟩ => ?_
 exact hf v u s2 x y H2 I2 r1 r2 q2
theorem pe_op {op : Operator} {r : R2} (ho : OpR X (binaryOp op) r) (ha : PE X a ta) (hb : PE X b tb) : PE X (.BinOp a op b pos) (tOp r ta tb) := by
 intro pins s σ H Q I h
 exact wpAny_BinOp (binT ha hb I h fun v u s2 x y H2 I2 rx ry q => ho pins s2 σ H2 x y v u Q I2 rx ry q)
theorem opI {f : Value → Value → Sem Value} {C : Int → Int → Prop} {g : Int → Int → Int}
   (rule : ∀ (i j : Int) (t u : Tok) (s : Shared) (Q : Value → Shared → Prop) (E : Value → Shared → Prop), C i j → Q (.int (g i j) s.toks) { s with toks := s.toks + 1 } → wpAny (model X.prog X.w) X.A (f (.int i t) (.int j u)) Q E s) :
   OpR X f (rI C fun i j => .int (g i j)) := by
 intro pins s σ H x y v u Q I rx ry h
 obtain ⟨i, j, rfl, rfl, hc, q⟩ := h
 obtain ⟨t, rfl⟩ := rx
 obtain ⟨t', rfl⟩ := ry
 exact rule i j t t' s _ _ hc ⟨.int (g i j), H, I.tok _, ⟨_, rfl⟩, q⟩
theorem opI0 {f : Value → Value → Sem Value} {g : Int → Int → Int}
   (rule : ∀ (i j : Int) (t u : Tok) (s : Shared) (Q : Value → Shared → Prop) (E : Value → Shared → Prop), Q (.int (g i j) s.toks) { s with toks := s.toks + 1 } → wpAny (model X.prog X.w) X.A (f (.int i t) (.int j u)) Q E s) :
   OpR X f (rI0 fun i j => .int (g i j)) := by
 intro pins s σ H x y v u Q I rx ry h
 obtain ⟨i, j, rfl, rfl, q⟩ := h
 obtain ⟨t, rfl⟩ := rx
 obtain ⟨t', rfl⟩ := ry
 exact rule i j t t' s _ _ ⟨.int (g i j), H, I.tok _, ⟨_, rfl⟩, q⟩
theorem opB0 {f : Value → Value → Sem Value} {g : Int → Int → Bool}
   (rule : ∀ (i j : Int) (t u : Tok) (s : Shared) (Q : Value → Shared → Prop) (E : Value → Shared → Prop), Q (.bool (g i j)) s → wpAny (model X.prog X.w) X.A (f (.int i t) (.int j u)) Q E s) :
   OpR X f (rI0 fun i j => .bl (g i j)) := by
 intro pins s σ H x y v u Q I rx ry h
 obtain ⟨i, j, rfl, rfl, q⟩ := h
 obtain ⟨t, rfl⟩ := rx
 obtain ⟨t', rfl⟩ := ry
 exact rule i j t t' s _ _ ⟨.bl (g i j), H, I, rfl, q⟩
noncomputable def CDiv (i j : Int) : Prop := 0 < j ∧ j < 1073741824
noncomputable def CPow (i j : Int) : Prop := 0 ≤ j ∧ j ≤ 1000000 ∧ i.natAbs < 2 ^ 64
theorem op_add : OpR X (binaryOp .Add) (rI0 fun i j => .int (i + j)) := opI0 fun _ _ _ _ _ _ _ q => add_int q
theorem op_fdiv : OpR X (binaryOp .FloorDiv) (rI CDiv fun i j => .int (i / j)) := opI fun i j _ _ _ _ _ hc q => by
 have h1 : (0 : Int) < j := hc.1
 have h2 : j < 1073741824 := hc.2
 exact floordiv_int (by omega) (by rw [Int.fdiv_eq_ediv_of_nonneg i (by omega)]; exact q) (.inl (PyProof.noPylong_small (by omega)))
theorem op_mod : OpR X (binaryOp .Mod) (rI (fun _ j => 0 < j) fun i j => .int (i % j)) := opI fun i j _ _ _ _ _ hc q => by
 have h1 : (0 : Int) < j := hc
 exact mod_int' (by omega) (by rw [Int.fmod_eq_emod_of_nonneg i (by omega)]; exact q)
theorem op_pow : OpR X (binaryOp .Pow) (rI CPow fun i j => .int (i ^ j.toNat)) := opI fun _ _ _ _ _ _ _ hc q => pow_int_small hc.1 hc.2.1 hc.2.2 q
end
section
variable {X : Cx} {a b c : Expr} {ta tb tc : TE} {pos : Pos}
theorem fin_bl {pins : List (Addr × Obj)} {σ : St} {H : Hp} {s : Shared} {Q : VK} {k k' : Bool} (I : Inv X pins σ H s) (q : Q (.bl k) H) (e : k = k') : EP X pins σ Q (.bool k') s := by
 subst e
 exact ⟨.bl k, H, I, rfl, q⟩
theorem op_le : OpR X (compareOp .LtE) (rI0 fun i j => .bl (decide (i ≤ j))) := opB0 fun _ _ _ _ _ _ _ q => le_int q
theorem op_gt : OpR X (compareOp .Gt) (rI0 fun i j => .bl (decide (j < i))) := opB0 fun _ _ _ _ _ _ _ q => gt_int q
theorem op_ge : OpR X (compareOp .GtE) (rI0 fun i j => .bl (decide (j ≤ i))) := opB0 fun _ _ _ _ _ _ _ q => ge_int q
theorem op_isN : OpR X (compareOp .Is) (fun x y H Q => y = .non ∧ Q (.bl (decide (x = .non))) H) := by
 intro pins s σ H x y v u Q I rx ry h
 obtain ⟨rfl, q⟩ := h
 cases ry
 refine is_none_gen (fin_bl I q ?_)
 cases x <;> first
   | (cases rx; rfl)
   | (obtain ⟨t, rfl⟩ := rx; rfl)
theorem nomark (b : Expr) {op : CmpOp} (h : op ≠ .In := by decide) (h2 : op ≠ .NotIn := by decide) : behindInMarks op b = false := by
 have e1 : (op == CmpOp.In) = false := by cases op <;> first | rfl | exact absurd rfl h
 have e2 : (op == CmpOp.NotIn) = false := by cases op <;> first | rfl | exact absurd rfl h2
 cases b <;> simp [behindInMarks, e1, e2]
theorem pe_cmpR {op : CmpOp} {r : R2} (ho : OpR X (compareOp op) r) (ha : PE X a ta) (hb : PE X b tb) (hm : behindInMarks op b = false) : PE X (.Compare a [op] [b] pos) (tOp r ta tb) := by
 intro pins s σ H Q I h
 exact wpAny_Compare1 (binT ha hb I h fun v u s2 x y H2 I2 rx ry q => ho pins s2 σ H2 x y v u Q I2 rx ry q) hm
noncomputable def tTest (t : TE) : TT := fun σ H Q => t σ H fun x H' => ∃ k, x = .bl k ∧ Q k H'
theorem pt_cmpR {op : CmpOp} {r : R2} (ho : OpR X (compareOp op) r) (ha : PE X a ta) (hb : PE X b tb) (hm : behindInMarks op b = false) : PT X (.Compare a [op] [b] pos) (tTest (tOp r ta tb)) := by
 intro pins s σ H Q I h
 refine wpAny_isTrue_Compare1 (thn (ha pins s σ H _ I h) fun v s1 ⟨x, H1, I1, r1, q1⟩ => thn (hb pins s1 σ H1 _ I1 q1) fun u s2 ⟨y, H2, I2, r2, q2⟩ =>
   thn (ho pins s2 σ H2 x y v u _ I2 r1 r2 q2) fun c s3 ⟨z, H3, I3, r3, k, e, q3⟩ => ?_) hm
 subst e
 cases r3
 exact wpAny_truthy_bool ⟨H3, I3, q3⟩
noncomputable def TruV (K : PySem.W.Frag) (x : V) (H : Hp) (k : Bool) : Prop :=
 match x with
 | .non => k = false
 | .bl b => k = b
 | .int i => k = (i != 0)
 | .str y => y.length ≤ sizeLine ∧ k = ((y.length : Int) != 0)
 | .byt y => y.size ≤ sizeLine ∧ k = ((y.size : Int) != 0)
 | .ref p => (∃ xs, SqL K H p xs ∧ k = !xs.isEmpty) ∨ (∃ xs, SqT K H p xs ∧ k = !xs.isEmpty) ∨ ∃ kvs, H p = some (.dK kvs) ∧ k = !kvs.isEmpty
 | _ => False
theorem isEmpty_kv {κ : Type} {kvs : List (κ × V)} {vs : List (κ × Value)} (r : KV kvs vs) : (!vs.isEmpty) = !kvs.isEmpty := by
 cases r <;> rfl
theorem isEmpty_of {xs : List V} {its : List Value} (r : Vals xs its) : (!its.toArray.isEmpty) = !xs.isEmpty := by
 cases r <;> simp
theorem line63 : (sizeLine : Nat) < 2 ^ 63 := by rw [sizeLine_eq]; decide
theorem tru_ok : TruR X (fun x H Q => ∃ k, TruV X.K x H k ∧ Q k H) := by
 intro pins s σ H x v Q I rx h
 obtain ⟨k, e, q⟩ := h
 have hl := line63
 have hs : sizeLine = 16777216 := sizeLine_eq
 cases x with
 | non =>
   cases rx
   have e' : k = false := e
   subst e'
   exact truthy_none ⟨H, I, q⟩
 | bl b =>
   cases rx
   have e' : k = b := e
   subst e'
   exact wpAny_truthy_bool ⟨H, I, q⟩
 | int i =>
   obtain ⟨t, rfl⟩ := rx
   have e' : k = (i != 0) := e
   subst e'
   exact PySem.P.truthy_int ⟨H, I, q⟩
 | str y =>
   obtain ⟨t, rfl⟩ := rx
   obtain ⟨hy, e'⟩ : y.length ≤ sizeLine ∧ k = ((y.length : Int) != 0) := e
   subst e'
   exact PySem.P.truthy_str (by omega) ⟨H, I.tok _, q⟩
 | byt y =>
   obtain ⟨t, rfl⟩ := rx
   obtain ⟨hy, e'⟩ : y.size ≤ sizeLine ∧ k = ((y.size : Int) != 0) := e
   subst e'
   exact PySem.W.truthy_bytes (by omega) ⟨H, I.tok _, q⟩
 | ref p =>
   cases rx
   have e' : (∃ xs, SqL X.K H p xs ∧ k = !xs.isEmpty) ∨ (∃ xs, SqT X.K H p xs ∧ k = !xs.isEmpty) ∨ ∃ kvs, H p = some (.dK kvs) ∧ k = !kvs.isEmpty := e
   rcases e' with ⟨xs, hx, e'⟩ | ⟨xs, hx, e'⟩ | ⟨kvs, hx, e'⟩
   · subst e'
     obtain ⟨its, r, pl, hz⟩ := I.list hx
     have hlen := r.length
     exact wpAny_truthy_list pl.isList (by simp only [List.size_toArray]; omega) ⟨H, I.tok _, by rw [isEmpty_of r]; exact q⟩
   · subst e'
     obtain ⟨its, r, pl, hz⟩ := I.tuple hx
     have hlen := r.length
     exact truthy_tuple pl (by simp only [List.size_toArray]; omega) ⟨H, I.tok _, by rw [isEmpty_of r]; exact q⟩
   · subst e'
     obtain ⟨hz, hS, vs, r, m⟩ : kvs.length ≤ sizeLine ∧ (p == sysModules) = false ∧ ∃ vs, KV kvs vs ∧ s.heap.DictOf (mixKind X.prog X.w) p vs := I.hok p _ hx
     have hlen : kvs.length = vs.length := Paired.length r
     exact wpAny_truthy_dict hS m (by omega) ⟨H, I.tok _, by rw [isEmpty_kv r]; exact q⟩
 | _ => exact (show False from e).elim
theorem pt_truth (ha : PE X a ta) (he : ∀ whole, isTrue a X.env whole = (do let v ← whole; standAt a.pos; holding [v] (truthy v))) :
   PT X a (fun σ H Q => ta σ H fun x H' => ∃ k, TruV X.K x H' k ∧ Q k H') := by
 intro pins s σ H Q I h
 exact isTrue_plain (thn (ha pins s σ H _ I h) fun v s1 ⟨x, H1, I1, r1, q1⟩ => tru_ok pins s1 σ H1 x v Q I1 r1 q1) (he _)
theorem op_add_str : OpR X (binaryOp .Add) (fun x y H Q => ∃ i j, x = .str i ∧ y = .str j ∧ i.length + j.length ≤ sizeLine ∧ Q (.str (i ++ j)) H) := by
 intro pins s σ H x y v u Q I rx ry h
 obtain ⟨i, j, rfl, rfl, hz, q⟩ := h
 obtain ⟨t, rfl⟩ := rx
 obtain ⟨t', rfl⟩ := ry
 exact add_str (fun t' tk => ⟨.str (i ++ j), H, I.tok _, ⟨_, rfl⟩, q⟩) hz
theorem vals1 {x : V} {us : List Value} (r : Vals [x] us) : ∃ u, us = [u] ∧ RelV x u := by
 cases r with
 | cons r1 r2 => cases r2; exact ⟨_, rfl, r1⟩
theorem vals2 {x y : V} {us : List Value} (r : Vals [x, y] us) : ∃ u w', us = [u, w'] ∧ RelV x u ∧ RelV y w' := by
 cases r with
 | cons r1 r2 =>
   cases r2 with
   | cons r3 r4 => cases r4; exact ⟨_, _, rfl, r1, r3⟩
theorem call_max2 (hc : X.calm = true) : CallR X (.builtin "max") (fun xs H Q => ∃ i j, xs = [.int i, .int j] ∧ Q (.int (if j > i then j else i)) H) := by
 intro pins s σ H xs us Q I r h
 obtain ⟨i, j, rfl, q⟩ := h
 obtain ⟨u, w', rfl, ⟨t, rfl⟩, ⟨t', rfl⟩⟩ := vals2 r
 refine max_two_ints (I.ok.hd hc) fun h' tk k => ⟨_, H, I.kept k, ?_, q⟩
 by_cases hj : j > i
 · rw [if_pos hj, if_pos hj]; exact ⟨_, rfl⟩
 · rw [if_neg hj, if_neg hj]; exact ⟨_, rfl⟩
theorem call_min2 (hc : X.calm = true) : CallR X (.builtin "min") (fun xs H Q => ∃ i j, xs = [.int i, .int j] ∧ Q (.int (if j < i then j else i)) H) := by
 intro pins s σ H xs us Q I r h
 obtain ⟨i, j, rfl, q⟩ := h
 obtain ⟨u, w', rfl, ⟨t, rfl⟩, ⟨t', rfl⟩⟩ := vals2 r
 refine min_two_ints (I.ok.hd hc) fun h' tk k => ⟨_, H, I.kept k, ?_, q⟩
 by_cases hj : j < i
 · rw [if_pos hj, if_pos hj]; exact ⟨_, rfl⟩
 · rw [if_neg hj, if_neg hj]; exact ⟨_, rfl⟩
theorem call_int1 : CallR X (.type "int") (fun xs H Q => (∃ i, xs = [.int i] ∧ Q (.int i) H) ∨ ∃ k, xs = [.bl k] ∧ Q (.int (if k then 1 else 0)) H) := by
 intro pins s σ H xs us Q I r h
 rcases h with ⟨i, rfl, q⟩ | ⟨k, rfl, q⟩
 · obtain ⟨u, rfl, t, rfl⟩ := vals1 r
   exact call_int_int ⟨.int i, H, I, ⟨_, rfl⟩, q⟩
 · obtain ⟨u, rfl, r1⟩ := vals1 r
   cases r1
   exact call_int_bool ⟨.int (if k then 1 else 0), H, I.tok _, ⟨_, rfl⟩, q⟩
end
end L2
namespace L2
open PySem PySem.Spec PyProof.Rows
section
variable {prog : Program} {w : World} {A : Around} {E : Value → Shared → Prop} {s : Shared} {K : PySem.W.Frag} {x dx C f : Addr} {mA : Str → Option Value} {name : Str} {v : Value}
end
theorem RelO.some_of {v : V} {o : Option Value} (r : RelO (some v) o) : ∃ u, o = some u ∧ RelV v u := by
 cases o with
 | none => exact (show False from r).elim
 | some u => exact ⟨u, rfl, r⟩
section
variable {P : Program} {w : World} {H H' : Hp} {h h' : Heap} {a C dx : Addr} {fs fs' : List (Str × V)}
end
section
variable {X : Cx} {pins : List (Addr × Obj)} {σ : St} {H : Hp} {s : Shared} {a C dx : Addr} {fs : List (Str × V)} {f : Str} {v : V} {A : Around} {E : Value → Shared → Prop}
end
section
variable {X : Cx} {o e value : Expr} {f : Str} {pos pos' tpos : Pos} {ta tv : TE}
end
section
variable {X : Cx} {pins : List (Addr × Obj)} {σ : St} {H : Hp} {s : Shared} {A : Around} {E : Value → Shared → Prop} {Q : Value → Shared → Prop} {c : Value} {b : Bool}
end
end L2
namespace L2
open PySem PySem.Spec PyProof.Rows
structure Room (k : Nat) (A : Around) : Prop where
 hd : A.handled = none
 dp : A.depth + 3 * k + 5 < recursionLimit
 un : A.units + 16 * k + 200 < cLine
 gd : A.guards = some []
theorem Room.mono {j k : Nat} {A : Around} (r : Room k A) (h : j ≤ k) : Room j A := ⟨r.hd, by have := r.dp; omega, by have := r.un; omega, r.gd⟩
theorem Room.deeper {k : Nat} {A : Around} (r : Room (k + 1) A) (env : Env) : Room k (A.deeper env) :=
 ⟨r.hd, by have := r.dp; show A.depth + 1 + 3 * k + 5 < _; omega, by have := r.un; show A.units + 3 + 16 * k + 200 < _; omega, r.gd⟩
theorem Room.depth {k : Nat} {A : Around} (r : Room k A) : A.depth < recursionLimit := by have := r.dp; omega
theorem Room.units {k : Nat} {A : Around} (r : Room k A) : A.units + 64 < cLine := by have := r.un; omega
noncomputable def tNil : TA := fun _ H Q => Q [] H
noncomputable def tCons (ta : TE) (tr : TA) : TA := fun σ H Q => ta σ H fun x H1 => tr σ H1 fun xs H2 => Q (x :: xs) H2
section
variable {X : Cx} {e : Expr} {es : List Expr} {te : TE} {t : TA} {pos : Pos}
theorem pa_nil : PA X [] tNil := fun _ _ _ _ H Q I h => Calls.spliced_nil ⟨[], H, I, .nil, h⟩
theorem pa_cons (ha : PE X e te) (hr : PA X es t) (hs : starEach (e :: es) X.env = (false, eval e X.env) :: starEach es X.env := by rfl) : PA X (e :: es) (tCons te t) := by
 intro pos pins s σ H Q I h
 rw [hs]
 show wpAny _ _ (spliced ((false, eval e X.env) :: backTo pos (starEach es X.env))) _ _ s
 refine Calls.spliced_cons (thn (ha pins s σ H _ I h) fun u s1 ⟨x, H1, I1, r1, q1⟩ => ?_)
 exact thn (hr pos pins s1 σ H1 _ I1 q1) fun us s2 ⟨xs, H2, I2, r2, q2⟩ => ⟨x :: xs, H2, I2, .cons r1 r2, q2⟩
noncomputable def tTup (t : TA) : TE := fun σ H Q => t σ H fun xs H1 => xs.length ≤ sizeLine ∧ ∀ p, H1 p = none → Q (.ref p) (upd H1 p (.tup xs))
noncomputable def tLst (t : TA) : TE := fun σ H Q => t σ H fun xs H1 => xs.length ≤ sizeLine ∧ ∀ p, H1 p = none → Q (.ref p) (upd H1 p (.lst xs))
theorem pe_tup {x1} (h : PA X es t) : PE X (.Tuple es x1 pos) (tTup t) := by
 intro pins s σ H Q I hq
 refine wpAny_Tuple_spliced (thn (h pos pins s σ H _ I hq) fun us s1 ⟨xs, H1, I1, r, z, q⟩ => ⟨by rw [← r.length]; exact z, ?_⟩)
 have hf : H1 s1.heap.objs.size = none := I1.hok.fresh (Nat.le_refl _)
 refine ⟨.ref s1.heap.objs.size, upd H1 s1.heap.objs.size (.tup xs), I1.laid (t' := s1.toks) (fun b u e => Heap.get?_push_of_some _ e) (Nat.le_refl _) ?_, rfl, q _ hf⟩
 exact ⟨z, us, r, ⟨_, Heap.get?_push_size _ rfl, rfl, _, rfl⟩⟩
theorem pe_lst (h : PA X es t) : PE X (.List es pos) (tLst t) := by
 intro pins s σ H Q I hq
 refine wpAny_List_spliced (thn (h pos pins s σ H _ I hq) fun us s1 ⟨xs, H1, I1, r, z, q⟩ => ⟨by rw [← r.length]; exact z, ?_⟩)
 have hf : H1 s1.heap.objs.size = none := I1.hok.fresh (Nat.le_refl _)
 refine ⟨.ref s1.heap.objs.size, upd H1 s1.heap.objs.size (.lst xs), I1.laid (t' := s1.toks) (fun b u e => Heap.get?_push_of_some _ e) (Nat.le_refl _) ?_, rfl, q _ hf⟩
 exact ⟨z, us, 0, r, Heap.get?_push_size _ rfl⟩
end
noncomputable abbrev Sp := List V → Hp → VK → XK → Prop
noncomputable abbrev CXT := List Env → Hp → Shared → XK → Value → Shared → Prop
structure Env0 (P : Program) (w : World) (K : PySem.W.Frag) (mg : Str → Option Value) (base : Heap) (A : Around) (outer : List Env) (s : Shared) (H : Hp) : Prop where
 frames : A.frames = some outer
 mod : Mod K mg base
 bs : ∀ b o, base.get? b = some o → s.heap.get? b = some o ∧ H b = none
 bsz : base.objs.size ≤ s.heap.objs.size
 funs : s.heap.FunFrames base outer
 frf : ∀ b ∈ frs outer, H b = none
 hok : HOk P w H s.heap
 bare : AllBare s.gens
noncomputable def CE (outer : List Env) (P : Program) (w : World) (H : Hp) (s : Shared) (Q : VK) (u : Value) (s' : Shared) : Prop :=
 ∃ v H', s'.os = s.os ∧ AllBare s'.gens ∧ Un (frs outer) [] H H' s.heap s'.heap ∧ HOk P w H' s'.heap ∧ RelV v u ∧ Q v H'
noncomputable def CR (CX : CXT) (outer : List Env) (P : Program) (w : World) (H : Hp) (s : Shared) (Q : VK) (E : XK) (r : Result) (s' : Shared) : Prop :=
 match r with
 | .ok (.ret u) => CE outer P w H s Q u s'
 | .ok _ => False
 | .error e => CX outer H s E e s'
structure FnOk (P : Program) (w : World) (K : PySem.W.Frag) (mg : Str → Option Value) (base : Heap) (CX : CXT) (k : Nat) (f : Addr) (fd : FuncData) (ps : List Str) (sp : Sp) : Prop where
 len : ∀ vs H Q E, sp vs H Q E → vs.length = ps.length
 run : ∀ (A : Around) (outer : List Env) (s : Shared) (H : Hp) (args : Args) (us : List Value) (vs : List V) (Q : VK) (E : XK), Room k A → Env0 P w K mg base A outer s H → BindsTo s fd args (ps.zip us) → Vals vs us → sp vs H Q E →
   codeAny (model P w) A (.call (.ref f) args) (CR CX outer P w H s Q E) s
theorem FnOk.mono {P : Program} {w : World} {K : PySem.W.Frag} {mg : Str → Option Value} {base : Heap} {CX : CXT} {j k : Nat} {f : Addr} {fd : FuncData} {ps : List Str} {sp : Sp} (F : FnOk P w K mg base CX j f fd ps sp) (h : j ≤ k) :
   FnOk P w K mg base CX k f fd ps sp := ⟨F.len, fun A outer s H args us vs Q E hr => F.run A outer s H args us vs Q E (hr.mono h)⟩
section
variable {X : Cx} {pins : List (Addr × Obj)} {σ : St} {H : Hp} {s s' : Shared}
theorem Inv.env0 (I : Inv X pins σ H s) : Env0 X.prog X.w X.K X.mg X.base X.A X.stack s H :=
 ⟨I.ok.frames, I.ok.mod, I.bs, Nat.le_trans I.ok.bsz I.sz, I.stack, I.stkFree, I.hok, I.bare⟩
theorem Inv.after {Q : VK} {u : Value} (I : Inv X pins σ H s) (h : CE X.stack X.prog X.w H s Q u s') : EP X pins σ Q u s' := by
 obtain ⟨v, H', os, bare, un, hok, r, q⟩ := h
 obtain ⟨hh, g, d, t, os'⟩ := s'
 obtain rfl : os' = s.os := os
 exact ⟨v, H', I.call (h' := hh) (g' := g) (d' := d) (t' := t) (ch := []) un hok bare (fun b z => absurd z (by simp)), r, q⟩
end
noncomputable def tCall (sp : Sp) (dvs : List V) (E : XK) (t : TA) : TE := fun σ H Q => t σ H fun vs H1 => sp (vs ++ dvs) H1 Q E
noncomputable def Binds (K : PySem.W.Frag) (fd : FuncData) (ps : List Str) (ds : List Value) : Prop :=
 ∀ (s : Shared) (us : List Value), K.In s.heap → (us ++ ds).length = ps.length → BindsTo s fd ⟨us, []⟩ (ps.zip (us ++ ds))
theorem Binds.all {K : PySem.W.Frag} {fd : FuncData} {ps : List Str} (h : ∀ us : List Value, us.length = ps.length → bindArgs fd ⟨us, []⟩ = pure (ps.zip us)) : Binds K fd ps [] := fun s us _ hl => by
 rw [List.append_nil] at hl ⊢
 exact .of_eq (h us hl)
noncomputable def Passes (CX : CXT) (X : Cx) (E : XK) : Prop := ∀ (pins : List (Addr × Obj)) (σ : St) (H : Hp) (s : Shared) (e : Value) (s' : Shared), Inv X pins σ H s → CX X.stack H s E e s' → X.xe e s'
section
variable {X : Cx} {CX : CXT} {k : Nat} {f C : Addr} {fd : FuncData} {ps : List Str} {sp : Sp} {dvs : List V} {ds : List Value} {E : XK} {x m : Str} {p pos apos : Pos} {e o : Expr} {es : List Expr} {ta : TE} {t : TA}
theorem run_fn {pins : List (Addr × Obj)} {σ : St} {H : Hp} {s : Shared} {Q : VK} {us : List Value} {vs : List V} (F : FnOk X.prog X.w X.K X.mg X.base CX k f fd ps sp) (hr : Room k X.A) (hb : Binds X.K fd ps ds) (hd : Vals dvs ds) (hx : Passes CX X E)
   (I : Inv X pins σ H s) (r : Vals vs us) (h : sp (vs ++ dvs) H Q E) : wpAny (model X.prog X.w) X.A (call (.ref f) us) (EP X pins σ Q) X.xe s := by
 have r2 : Vals (vs ++ dvs) (us ++ ds) := r.append hd
 have hl : (us ++ ds).length = ps.length := by rw [← r2.length]; exact F.len _ _ _ _ h
 refine wpAny_call (codeAny_mono (F.run X.A X.stack s H ⟨us, []⟩ (us ++ ds) (vs ++ dvs) Q E hr I.env0 (hb s us I.kIn hl) r2 h) fun r s' hq => ?_)
 cases r with
 | error e => exact hx pins σ H s e s' I hq
 | ok fl =>
   cases fl with
   | ret u => exact I.after hq
   | next => exact False.elim hq
   | brk => exact False.elim hq
   | cont => exact False.elim hq
theorem pe_call (F : FnOk X.prog X.w X.K X.mg X.base CX k f fd ps sp) (hr : Room k X.A) (hg : Gl X x) (hm : X.mg x = some (.ref f)) (hk : PySem.W.keepIn X.K (.ref f) = true) (hb : Binds X.K fd ps ds) (hd : Vals dvs ds) (hx : Passes CX X E)
   (ha : PA X (e :: es) t) (hdb : (x == ("__debug__" : Str)) = false := by decide) (he : starEach (e :: es) X.env = (false, eval e X.env) :: starEach es X.env := by rfl) (hpl : (backTo pos (starEach es X.env)).any (·.1) = false := by rfl) :
   PE X (.Call (.Name x p) (e :: es) [] pos) (tCall sp dvs E t) := by
 intro pins s σ H Q I h
 refine wpAny_Call_Name_kw (ld_glob I hg hm ?_ hdb)
 refine PySem.W.callWith_K (h₀ := X.base) I.ok.mod.kin hk (thn (ha pos pins s σ H _ I h) fun us s1 ⟨vs, H1, I1, r, q⟩ => ⟨I1.kIn, ?_⟩) he hpl
 exact run_fn F hr hb hd hx I1 r q
end
section
variable {X : Cx} {CX : CXT} {k : Nat} {f C : Addr} {fd : FuncData} {ps ks : List Str} {sp : Sp} {E : XK} {x m : Str} {p pos apos kpos : Pos} {e o : Expr} {es : List Expr} {kws : List Keyword} {te ta : TE} {t tk : TA} {nm : Option Str}
variable {g : List Value → List Value → List Value} {gV : List V → List V → List V}
end
structure FnScope (N P : List Str) (sc : Scope) : Prop where
 kind : sc.kind = .function
 co : sc.isCoroutine = false
 gen : sc.isGenerator = false
 nd : N.Nodup
 pre : N.take P.length = P
 par : ∀ x ∈ P, sc.names.lookup x = some .local ∨ sc.names.lookup x = some .cell
 nofree : ∀ y ∈ sc.names, y.2 ≠ .free
theorem bindL_out {kindOf : Str → Option NameKind} {x : Str} : ∀ {binds : List (Str × Value)} {m : Str → Option Value}, (∀ v, (x, v) ∉ binds) → bindL kindOf binds m x = m x
 | [], _, _ => rfl
 | (n, v) :: r, m, h => by
   unfold bindL
   rw [bindL_out fun w hw => h w (List.mem_cons_of_mem _ hw)]
   split
   · have : x ≠ n := by rintro rfl; exact h v List.mem_cons_self
     simp [this]
   · rfl
theorem bindC_out {kindOf : Str → Option NameKind} {x : Str} : ∀ {binds : List (Str × Value)} {m : Str → Option Value}, (∀ v, (x, v) ∉ binds) → bindC kindOf binds m x = m x
 | [], _, _ => rfl
 | (n, v) :: r, m, h => by
   unfold bindC
   rw [bindC_out fun w hw => h w (List.mem_cons_of_mem _ hw)]
   split
   · rfl
   · have : x ≠ n := by rintro rfl; exact h v List.mem_cons_self
     simp [this]
theorem bindL_get {kindOf : Str → Option NameKind} {x : Str} {v : Value} : ∀ {P : List Str} {vs : List Value} {i : Nat} {m : Str → Option Value}, P.Nodup → P[i]? = some x → vs[i]? = some v → kindOf x = some .local →
   bindL kindOf (P.zip vs) m x = some v
 | [], _, _, _, _, h, _, _ => by simp at h
 | _ :: _, [], _, _, _, _, h, _ => by simp at h
 | p :: P, w :: vs, 0, m, nd, h1, h2, hk => by
   simp at h1 h2; subst h1; subst h2
   show bindL kindOf ((p, w) :: P.zip vs) m p = _
   unfold bindL
   rw [bindL_out fun v hv => (List.nodup_cons.mp nd).1 (List.of_mem_zip hv).1, if_pos hk]
   simp
 | p :: P, w :: vs, i + 1, m, nd, h1, h2, hk => by
   show bindL kindOf ((p, w) :: P.zip vs) m x = _
   unfold bindL
   exact bindL_get (i := i) (List.nodup_cons.mp nd).2 (by simpa using h1) (by simpa using h2) hk
theorem bindC_get {kindOf : Str → Option NameKind} {x : Str} {v : Value} : ∀ {P : List Str} {vs : List Value} {i : Nat} {m : Str → Option Value}, P.Nodup → P[i]? = some x → vs[i]? = some v → kindOf x ≠ some .local →
   bindC kindOf (P.zip vs) m x = some v
 | [], _, _, _, _, h, _, _ => by simp at h
 | _ :: _, [], _, _, _, _, h, _ => by simp at h
 | p :: P, w :: vs, 0, m, nd, h1, h2, hk => by
   simp at h1 h2; subst h1; subst h2
   show bindC kindOf ((p, w) :: P.zip vs) m p = _
   unfold bindC
   rw [bindC_out fun v hv => (List.nodup_cons.mp nd).1 (List.of_mem_zip hv).1, if_neg hk]
   simp
 | p :: P, w :: vs, i + 1, m, nd, h1, h2, hk => by
   show bindC kindOf ((p, w) :: P.zip vs) m x = _
   unfold bindC
   exact bindC_get (i := i) (List.nodup_cons.mp nd).2 (by simpa using h1) (by simpa using h2) hk
noncomputable def start (N : List Str) (vs : List V) : St := vs.map some ++ List.replicate (N.length - vs.length) none
noncomputable def cxOf (CX : CXT) (P : Program) (w : World) (K : PySem.W.Frag) (mg : Str → Option Value) (base : Heap) (N : List Str) (qual : Str) (scope : Scope) (f : Addr) (cd : Value) (A : Around) (outer : List Env) (s : Shared) (H : Hp) (E : XK) : Cx where
 prog := P
 w := w
 K := K
 mg := mg
 base := base
 A := A.deeper (envOfC qual scope s.heap.objs.size f cd)
 N := N
 s₀ := s
 H₀ := H
 env := envOfC qual scope s.heap.objs.size f cd
 outer := outer
 stack := envOfC qual scope s.heap.objs.size f cd :: outer
 ex := []
 calm := true
 fn := fun _ => true
 pn := []
 xe := fun e s' => wpAny (model P w) (A.deeper (envOfC qual scope s.heap.objs.size f cd)) (leaving (envOfC qual scope s.heap.objs.size f cd) e) (fun _ s'' => CX outer H s E e s'') (fun e' s'' => CX outer H s E e' s'') s'
theorem cell_has {sc : Scope} {n : Nat} {x : Str} (h : sc.names.lookup x = some .cell) : ∃ c, (cellsFrom n sc.names []).lookup x = some c := by
 have q := PySem.W.cellsFrom_some sc.names n [] (.inl h)
 exact Option.isSome_iff_exists.mp q
theorem inv_start {CX : CXT} {P : Program} {w : World} {K : PySem.W.Frag} {mg : Str → Option Value} {base : Heap} {N ps : List Str} {qual : Str} {scope : Scope} {f : Addr} {cd : Value} {A : Around} {outer : List Env} {s s1 : Shared} {H : Hp} {E : XK} {us : List Value} {vs : List V}
   (S : FnScope N ps scope) (hd : A.handled = none) (e0 : Env0 P w K mg base A outer s H) (hl : vs.length = ps.length) (r : Vals vs us)
   (x : InCallC s s.heap.objs.size (bindL (envOfC qual scope s.heap.objs.size f cd).kindOf (ps.zip us) fun _ => none) (cellsFrom (s.heap.objs.size + 1) scope.names []) (bindC (envOfC qual scope s.heap.objs.size f cd).kindOf (ps.zip us) fun _ => none) s1) :
   Inv (cxOf CX P w K mg base N qual scope f cd A outer s H E) [] (start N vs) H s1 := by
 have hpl : ps.length ≤ N.length := by have := congrArg List.length S.pre; rw [List.length_take] at this; omega
 obtain ⟨h1, tk, rfl, hk⟩ := x.done
 have noA : ∀ b : Addr, b ∉ (cxOf CX P w K mg base N qual scope f cd A outer s H E).ex := fun b z => absurd (show b ∈ ([] : List Addr) from z) (by simp)
 refine ⟨⟨e0.mod, S.kind, rfl, rfl, Nat.le_refl _, fun y z c h1 h2 => ?_, fun y hy => ?_, fun y c _ h => ?_, fun _ => hd, Around.frames_deeper e0.frames, .inr ⟨rfl, rfl⟩, fun b z => absurd z (noA b), e0.bs, e0.bsz, fun b _ _ => noA b, fun b z => absurd z (noA b), e0.funs, e0.frf⟩,
   rfl, e0.bare, Un.kept hk, ⟨_, x.toInCall.ns, fun i y v h1 h2 h3 => ?_⟩, fun y c h => ⟨_, x.cell y c h⟩, e0.hok.fresh (Nat.le_refl _), fun y c h => ?_, fun p hp => absurd (show p ∈ ([] : List (Addr × Obj)) from hp) (by simp), e0.hok.kept hk, ?_⟩
 · exact name_of_addr x.apart (PySem.mem_of_lookup h1) (PySem.mem_of_lookup h2)
 · have hy : scope.names.lookup y = some .cell ∨ scope.names.lookup y = some .free := hy
   rcases hy with hy | hy
   · exact cell_has hy
   · exact absurd rfl (S.nofree _ (PySem.mem_of_lookup hy))
 · exact Nat.le_of_lt (x.above y c (PySem.mem_of_lookup h))
 · have hi : i < vs.length := by
     unfold start at h2
     by_cases hi : i < vs.length
     · exact hi
     · rw [List.getElem?_append_right (by simpa using hi)] at h2
       rw [List.getElem?_replicate] at h2
       split at h2 <;> cases h2
   have ha : vs[i]? = some v := by
     unfold start at h2
     rw [List.getElem?_append_left (by simpa using hi), List.getElem?_map] at h2
     cases e : vs[i]? with
     | none => rw [e] at h2; cases h2
     | some a => rw [e] at h2; cases h2; rfl
   obtain ⟨u, hu, rv⟩ := r.get ha
   have hp : ps[i]? = some y := by
     rw [← S.pre, List.getElem?_take_of_lt (by omega)]; exact h1
   have ndP : ps.Nodup := by rw [← S.pre]; exact S.nd.sublist (List.take_sublist _ _)
   refine ⟨u, rv, ?_⟩
   rcases S.par y (List.mem_of_getElem? hp) with k | k
   · exact .inl ⟨k, bindL_get ndP hp hu k⟩
   · obtain ⟨c, e⟩ := cell_has (n := s.heap.objs.size + 1) k
     refine .inr ⟨.inl k, c, e, ?_⟩
     have q := x.cell y c e
     rw [bindC_get ndP hp hu (by show scope.names.lookup y ≠ _; rw [k]; decide)] at q
     exact q
 · exact e0.hok.fresh (Nat.le_of_lt (x.above y c (PySem.mem_of_lookup h)))
 · unfold start
   show _ = N.length
   rw [List.length_append, List.length_map, List.length_replicate]
   omega
theorem fn_of {CX : CXT} {P : Program} {w : World} {K : PySem.W.Frag} {mg : Str → Option Value} {base : Heap} {k : Nat} {f : Addr} {name qual : Str} {params : Arguments} {body : List Stmt} {scope : Scope} {dV kV doc pm cdv ct oc : Value} {an od : Option Addr}
   {osl : Array (Option Value)} {N ps : List Str} {sp : Sp} (lk : K.lookup f = some ⟨oc, od, .func (PySem.W.fnOf name qual params body scope dV kV doc pm an cdv ct), osl⟩) (hcd : PySem.W.codeIn K cdv qual = true) (S : FnScope N ps scope)
   (len : ∀ vs H Q E, sp vs H Q E → vs.length = ps.length)
   (hbody : ∀ (A : Around) (outer : List Env) (s : Shared) (H : Hp) (vs : List V) (Q : VK) (E : XK), Room k (A.deeper (envOfC qual scope s.heap.objs.size f cdv)) → sp vs H Q E →
     ∃ t, PSs (cxOf CX P w K mg base N qual scope f cdv A outer s H E) body t ∧ t { nx := fun _ H' => Q .non H', rt := Q } (start N vs) H) :
   FnOk P w K mg base CX (k + 1) f (PySem.W.fnOf name qual params body scope dV kV doc pm an cdv ct) ps sp := by
 refine ⟨len, fun A outer s H args us vs Q E hr e0 hb r hsp => ?_⟩
 have hl := len _ _ _ _ hsp
 have KX : K.In s.heap := e0.mod.kin.keeps fun b o e => (e0.bs b o e).1
 have lim : s.heap.NoLimit := e0.mod.nolimit.keeps fun b o e => (e0.bs b o e).1
 have hkind : ∀ y ∈ ps.zip us, scope.names.lookup y.1 = some .local ∨ (scope.names.lookup y.1 = some .cell ∧ ((cellsFrom (s.heap.objs.size + 1) scope.names []).lookup y.1).isSome = true) := fun ⟨n, v⟩ hy => by
   rcases S.par n (List.of_mem_zip hy).1 with q | q
   · exact .inl q
   · exact .inr ⟨q, PySem.W.cellsFrom_some _ _ _ (.inl q)⟩
 refine codeAny_call_function hr.depth (KX _ _ lk) rfl S.co S.gen rfl (PySem.W.codeRec_of KX hcd) (hb _ _ _ _ ?_)
 refine wpAny_newFunctionEnv_cells S.kind hkind fun env he s1 x => ?_
 subst he
 refine ⟨lim.keeps x.toInCall.keep, codeAny_func ?_⟩
 obtain ⟨t, ht, hq⟩ := hbody A outer s H vs Q E (hr.deeper _) hsp
 have I : Inv (cxOf CX P w K mg base N qual scope f cdv A outer s H E) [] (start N vs) H s1 := inv_start S hr.hd e0 hl r x
 refine wpAny_mono (ht [] s1 (start N vs) H _ I hq) (fun fl s' hs => ?_) fun e s' hs => hs
 have fin : ∀ {σ' : St} {H' : Hp} {v : V} {u : Value}, Inv (cxOf CX P w K mg base N qual scope f cdv A outer s H E) [] σ' H' s' → RelV v u → Q v H' → CE outer P w H s Q u s' :=
   fun {σ' H' v u} J rv q => ⟨v, H', J.os, J.bare, J.base, J.hok, rv, q⟩
 cases fl with
 | ret u =>
   obtain ⟨v, σ', H', J, rv, q⟩ := hs
   exact fin J rv q
 | next =>
   obtain ⟨σ', H', J, q⟩ := hs
   exact fin (v := V.non) (u := Value.none) J rfl q
 | brk =>
   obtain ⟨_, _, _, q⟩ := hs
   exact False.elim q
 | cont =>
   obtain ⟨_, _, _, q⟩ := hs
   exact False.elim q
end L2
namespace L2
open PySem PySem.Spec PyProof.Rows
section
variable {X : Cx} {x : Str} {p pos : Pos} {e : Expr} {es : List Expr} {t : TA} {id T : String} {r : List V → Hp → VK → Prop}
noncomputable def tCB (r : List V → Hp → VK → Prop) (t : TA) : TE := fun σ H Q => t σ H fun vs H1 => r vs H1 Q
theorem pe_callB (hc : CallR X (.builtin id) r) (hg : Gl X x) (hm : X.mg x = none) (hv : bootBuiltins x = some (.builtin id)) (ha : PA X (e :: es) t) (hn : x ≠ "__name__" := by decide) (hdb : (x == ("__debug__" : Str)) = false := by decide)
   (he : starEach (e :: es) X.env = (false, eval e X.env) :: starEach es X.env := by rfl) (hpl : (backTo pos (starEach es X.env)).any (·.1) = false := by rfl) : PE X (.Call (.Name x p) (e :: es) [] pos) (tCB r t) := by
 intro pins s σ H Q I h
 refine wpAny_Call_Name_kw (ld_blt I hg hm hv ?_ hn hdb)
 exact PyProof.Rows.callWith_builtin1 (thn (ha pos pins s σ H _ I h) fun us s1 ⟨vs, H1, I1, r1, q1⟩ => hc pins s1 σ H1 vs us Q I1 r1 q1) he hpl
theorem pe_callTy (hc : CallR X (.type T) r) (hg : Gl X x) (hm : X.mg x = none) (hv : bootBuiltins x = some (.type T)) (ha : PA X (e :: es) t) (hn : x ≠ "__name__" := by decide) (hdb : (x == ("__debug__" : Str)) = false := by decide)
   (he : starEach (e :: es) X.env = (false, eval e X.env) :: starEach es X.env := by rfl) (hpl : (backTo pos (starEach es X.env)).any (·.1) = false := by rfl) : PE X (.Call (.Name x p) (e :: es) [] pos) (tCB r t) := by
 intro pins s σ H Q I h
 refine wpAny_Call_Name_kw (ld_blt I hg hm hv ?_ hn hdb)
 exact PyProof.Rows.callWith_type1 (thn (ha pos pins s σ H _ I h) fun us s1 ⟨vs, H1, I1, r1, q1⟩ => hc pins s1 σ H1 vs us Q I1 r1 q1) he hpl
end
end L2
namespace HT
open PySem PyProof.Rows
section
open PySem.SeqAt
open PySem.AutoSeq1 (wpAny_loadPart')
open PySem.MeetsSeq PySem.MeetsSeq2 PySem.MeetsSeq3
end
section
variable {prog : Program} {w : World} {A : Around} {E : Value → Shared → Prop} {s : Shared}
theorem cat_tup {t b : Addr} {vs ws : List Value} {Q : Value → Shared → Prop} (ht : IsTup s.heap t vs.toArray) (hb : IsTup s.heap b ws.toArray) (hv : vs ≠ [])
   (h1 : ws = [] → Q (.ref t) s) (h2 : ws ≠ [] → Q (.ref s.heap.objs.size) { s with heap := s.heap.push { cls := .type "tuple", data := .seq (vs ++ ws).toArray } })
   (hsz : vs.length + ws.length ≤ sizeLine) : wpAny (model prog w) A (binaryOp .Add (.ref t) (.ref b)) Q E s := by
 obtain ⟨⟨cls, dd, data, sl⟩, ho, hc, n, hd⟩ := id ht
 obtain ⟨⟨cls2, dd2, data2, sl2⟩, ho2, hc2, n2, hd2⟩ := id hb
 simp only at hc hd hc2 hd2
 subst hc hd hc2 hd2
 have e : vs.toArray ++ ws.toArray = (vs ++ ws).toArray := by simp
 by_cases hw : ws = []
 · exact concat_meets ⟨_, ho, rfl⟩ ⟨_, ho2, rfl⟩ noFill_tuple_add seq_tuple_add PySem.F.slot_tuple_add PySem.F.entry_tuple_add (PySem.F.args_tuple_add_2 _ _)
     (tuple_addW1 t b vs.toArray ws.toArray n n2 dd dd2 sl sl2 (by simpa using hv) (by simp [hw])) ⟨ho, ho2, h1 hw⟩
 · refine concat_meets ⟨_, ho, rfl⟩ ⟨_, ho2, rfl⟩ noFill_tuple_add seq_tuple_add PySem.F.slot_tuple_add PySem.F.entry_tuple_add (PySem.F.args_tuple_add_2 _ _)
     (tuple_addW2 t b vs.toArray ws.toArray n n2 dd dd2 sl sl2 (by simpa using hv) (by simpa using hw) (by rw [List.size_toArray, List.size_toArray]; exact hsz)) ⟨ho, ho2, ?_⟩
   rw [e]
   exact h2 hw
noncomputable def sIx (n d : Nat) : Option Int → Nat
 | none => d
 | some v => if v < 0 then (v + (n : Int)).toNat else min v.toNat n
end
end HT
namespace L2
open PySem PySem.Spec PyProof.Rows
noncomputable abbrev TO := St → Hp → (Option Int → Hp → Prop) → Prop
section
variable {X : Cx} {e : Expr} {te : TE} {lo hi : Option Expr} {tl th : TO} {pos p2 : Pos}
noncomputable def SlR (X : Cx) (r : V → Option Int → Option Int → Hp → VK → Prop) : Prop :=
 ∀ (pins : List (Addr × Obj)) (s : Shared) (σ : St) (H : Hp) (x : V) (v vl vu : Value) (lo hi : Option Int) (sl : Addr) (Q : VK), Inv X pins σ H s → RelV x v → s.heap.IsSliceOf sl vl vu .none → IsPart vl lo → IsPart vu hi → r x lo hi H Q →
   ∃ T id, typeLookup (.type T) "__getitem__" = pure (some (.builtin id)) ∧ s.TypeIs v T ∧ wpAny (model X.prog X.w) X.A (getItem v (.ref sl)) (EP X pins σ Q) X.xe s
noncomputable def cutV (xs : List V) (lo hi : Option Int) : List V := (xs.drop (HT.sIx xs.length 0 lo)).take (HT.sIx xs.length xs.length hi - HT.sIx xs.length 0 lo)
theorem cutV_length (xs : List V) (lo hi : Option Int) : (cutV xs lo hi).length ≤ xs.length := by
 unfold cutV
 rw [List.length_take, List.length_drop]
 omega
noncomputable def rCatT (K : PySem.W.Frag) : R2 := fun x y H Q => ∃ a b xs ys, x = .ref a ∧ y = .ref b ∧ SqT K H a xs ∧ SqT K H b ys ∧ xs ≠ [] ∧ xs.length + ys.length ≤ sizeLine ∧
 (ys = [] → Q (.ref a) H) ∧ (ys ≠ [] → ∀ p, H p = none → Q (.ref p) (upd H p (.tup (xs ++ ys))))
theorem Vals.nil_iff {xs : List V} {us : List Value} (r : Vals xs us) : us = [] ↔ xs = [] := by
 cases r with
 | nil => simp
 | cons _ _ => simp
theorem op_catT : OpR X (binaryOp .Add) (rCatT X.K) := by
 intro pins s σ H x y v u Q I rx ry h
 obtain ⟨a, b, xs, ys, rfl, rfl, ha, hb, hx, hz, q1, q2⟩ := h
 cases rx
 cases ry
 obtain ⟨its, r1, p1, _⟩ := I.tuple ha
 obtain ⟨its2, r2, p2, _⟩ := I.tuple hb
 refine HT.cat_tup p1 p2 (fun z => hx (r1.nil_iff.mp z)) (fun z => ⟨.ref a, H, I, rfl, q1 (r2.nil_iff.mp z)⟩) (fun z => ?_) (by rw [← r1.length, ← r2.length]; exact hz)
 refine ⟨.ref s.heap.objs.size, _, I.laid (t' := s.toks) (o := .tup (xs ++ ys)) (fun b ob q => Heap.get?_push_of_some _ q) (Nat.le_refl _) ?_, rfl, q2 (fun w => z (r2.nil_iff.mpr w)) _ (I.hok.fresh (Nat.le_refl _))⟩
 exact ⟨by rw [List.length_append]; exact hz, _, r1.append r2, IsTup.new _ _⟩
end
end L2
namespace L2
open PySem PySem.Spec PyProof.Rows
noncomputable def ixN (n : Nat) (i : Int) : Option Nat := if 0 ≤ i then (if i < n then some i.toNat else none) else if -(n : Int) ≤ i then some (i + n).toNat else none
noncomputable def atI {α : Type} (xs : List α) (i : Int) : Option α := (ixN xs.length i).bind fun j => xs[j]?
theorem ixN_seq {n : Nat} {i : Int} {j : Nat} (h : ixN n i = some j) : seqIndex? i n = some j ∧ j < n ∧ -(n : Int) ≤ i ∧ i < n := by
 unfold ixN at h
 by_cases h0 : 0 ≤ i
 · rw [if_pos h0] at h
   by_cases h1 : i < n
   · rw [if_pos h1] at h
     have e : i.toNat = j := Option.some.inj h
     exact ⟨by rw [seqIndex_of h0 h1, e], by omega, by omega, h1⟩
   · rw [if_neg h1] at h; cases h
 · rw [if_neg h0] at h
   by_cases h1 : -(n : Int) ≤ i
   · rw [if_pos h1] at h
     have e : (i + n).toNat = j := Option.some.inj h
     exact ⟨by rw [seqIndex_neg (by omega) h1, e], by omega, h1, by omega⟩
   · rw [if_neg h1] at h; cases h
theorem atI_get {α : Type} {xs : List α} {i : Int} {v : α} (h : atI xs i = some v) : ∃ j, seqIndex? i xs.length = some j ∧ xs[j]? = some v ∧ j < xs.length ∧ -(xs.length : Int) ≤ i ∧ i < xs.length := by
 unfold atI at h
 cases e : ixN xs.length i with
 | none => rw [e] at h; cases h
 | some j =>
   rw [e] at h
   obtain ⟨h1, h2, h3, h4⟩ := ixN_seq e
   exact ⟨j, h1, h, h2, h3, h4⟩
noncomputable def PlainIx (b : Expr) : Prop := ∀ o i, subscripted b false o i = operate [o, i] (getItem o i)
noncomputable def IxR (X : Cx) (r : R2) : Prop :=
 ∀ (value slice : Expr) (pins : List (Addr × Obj)) (s : Shared) (σ : St) (H : Hp) (x y : V) (v u : Value) (Q : VK), Inv X pins σ H s → RelV x v → RelV y u → r x y H Q →
   subscripted slice false v u = operate [v, u] (getItem v u) → wpAny (model X.prog X.w) X.A (subscriptTail value slice v u) (EP X pins σ Q) X.xe s
noncomputable def MtR (X : Cx) (id : String) (r : V → List V → Hp → VK → Prop) : Prop :=
 ∀ (pins : List (Addr × Obj)) (s : Shared) (σ : St) (H : Hp) (x : V) (xs : List V) (v : Value) (us : List Value) (Q : VK), Inv X pins σ H s → RelV x v → Vals xs us → r x xs H Q →
   wpAny (model X.prog X.w) X.A (call (.builtin id) (v :: us)) (EP X pins σ Q) X.xe s
section
variable {X : Cx} {a b : Expr} {ta tb : TE} {pos : Pos}
theorem pe_ix {r : R2} (hr : IxR X r) (ha : PE X a ta) (hb : PE X b tb) (hs : PlainIx b) : PE X (.Subscript a b pos) (tOp r ta tb) := by
 intro pins s σ H Q I h
 exact Subscript_ (binT ha hb I h fun v u s2 x y H2 I2 rx ry q => hr a b pins s2 σ H2 x y v u Q I2 rx ry q (hs _ _))
noncomputable def rIxL (K : PySem.W.Frag) : R2 := fun x y H Q => ∃ p xs i v, x = .ref p ∧ y = .int i ∧ SqL K H p xs ∧ atI xs i = some v ∧ Q v H
noncomputable def rIxT (K : PySem.W.Frag) : R2 := fun x y H Q => ∃ p xs i v, x = .ref p ∧ y = .int i ∧ SqT K H p xs ∧ atI xs i = some v ∧ Q v H
theorem ix_list : IxR X (rIxL X.K) := by
 intro value slice pins s σ H x y v u Q I rx ry h hs
 obtain ⟨p, xs, i, z, rfl, rfl, hq, he, q⟩ := h
 cases rx
 obtain ⟨t, rfl⟩ := ry
 obtain ⟨its, r, pl, hz⟩ := I.list hq
 obtain ⟨j, h1, h2, h3, h4, h5⟩ := atI_get he
 obtain ⟨w, ew, rw'⟩ := r.get h2
 have hl := r.length
 have hn := line63
 have fin : EP X pins σ Q w s := ⟨z, H, I, rw', q⟩
 by_cases h0 : 0 ≤ i
 · have hj : i.toNat = j := by
     rw [seqIndex_of h0 h5] at h1
     exact Option.some.inj h1
   exact item_listR pl.isList h0 (by omega) (by rw [hj]; simpa using ew) fin hs
 · have hj : (i + (its.toArray.size : Int)).toNat = j := by
     rw [seqIndex_neg (by omega) h4] at h1
     rw [List.size_toArray, ← hl]
     exact Option.some.inj h1
   exact subscriptTail_builtinR (x := w) pl.isList.typeIs slot_list_getitem.lookup
     (wpAny_getItem_list_neg (Q := fun r s' => r = w ∧ EP X pins σ Q r s') pl.isList (by omega) (by rw [List.size_toArray] <;> omega) (by omega) (by rw [hj]; simpa using ew) ⟨rfl, fin⟩) hs
theorem ix_tup : IxR X (rIxT X.K) := by
 intro value slice pins s σ H x y v u Q I rx ry h hs
 obtain ⟨p, xs, i, z, rfl, rfl, hq, he, q⟩ := h
 cases rx
 obtain ⟨t, rfl⟩ := ry
 obtain ⟨its, r, pl, hz⟩ := I.tuple hq
 obtain ⟨j, h1, h2, h3, h4, h5⟩ := atI_get he
 obtain ⟨w, ew, rw'⟩ := r.get h2
 have hl := r.length
 have hn := line63
 have fin : EP X pins σ Q w s := ⟨z, H, I, rw', q⟩
 exact subscriptTail_builtinR (x := w) pl.typeIs slot_tuple_getitem.lookup
   (getItem_tuple (j := j) (Q := fun r s' => r = w ∧ EP X pins σ Q r s') pl (by omega) (by omega) (by rw [List.size_toArray, ← hl]; exact h1) (by simpa using ew) ⟨rfl, fin⟩) hs
theorem mapSeq_set (its : List Value) (n j : Nat) (u : Value) : Obj.mapSeq (·.setIfInBounds j u) { cls := .type "list", data := .seq its.toArray n } = { cls := .type "list", data := .seq (its.set j u).toArray n } := by
 simp [Obj.mapSeq]
theorem Inv.lst {pins : List (Addr × Obj)} {σ : St} {H : Hp} {s : Shared} {p : Addr} {xs : List V} (I : Inv X pins σ H s) (h : H p = some (.lst xs)) :
   ∃ (its : List Value) (n : Nat), Vals xs its ∧ s.heap.get? p = some { cls := .type "list", data := .seq its.toArray n } ∧ xs.length ≤ sizeLine := by
 obtain ⟨z, its, n, r, e⟩ := I.hok p _ h
 exact ⟨its, n, r, e, z⟩
theorem Inv.lstUpd {pins : List (Addr × Obj)} {σ : St} {H : Hp} {s : Shared} {p : Addr} {xs ys : List V} {its its' : List Value} {n n' : Nat} {f : Obj → Obj} (I : Inv X pins σ H s) (h : H p = some (.lst xs))
   (ho : s.heap.get? p = some { cls := .type "list", data := .seq its.toArray n }) (hf : f { cls := .type "list", data := .seq its.toArray n } = { cls := .type "list", data := .seq its'.toArray n' }) (r : Vals ys its') (hz : ys.length ≤ sizeLine) (t : Nat) :
   Inv X pins σ (upd H p (.lst ys)) { s with heap := s.heap.update p f, toks := t } := by
 have e : (s.heap.update p f).get? p = some { cls := .type "list", data := .seq its'.toArray n' } := by
   rw [Heap.get?_update_self f ho (by rw [hf] <;> rfl), hf]
 refine I.write (x := p) (e := p) (by rw [h]; trivial) (.inl rfl) (fun b u hb q => (Heap.get?_update_other _ _ (Ne.symm hb)).trans q) ⟨_, e⟩ ?_
 exact ⟨hz, its', n', r, e⟩
noncomputable def rSetL : V → V → V → Hp → (Hp → Prop) → Prop := fun o i v H Q => ∃ p xs k j, o = .ref p ∧ i = .int k ∧ H p = some (.lst xs) ∧ ixN xs.length k = some j ∧ Q (upd H p (.lst (xs.set j v)))
theorem set_list : PSet X rSetL := by
 intro pins s σ H o i v ov iv u Q I ro ri rv h
 obtain ⟨p, xs, k, j, rfl, rfl, hp, hj, q⟩ := h
 cases ro
 obtain ⟨t, rfl⟩ := ri
 obtain ⟨its, n, r, ho, hz⟩ := I.lst hp
 obtain ⟨h1, h2, h3, h4⟩ := ixN_seq hj
 have hl := r.length
 have hn := line63
 have I' : Inv X pins σ (upd H p (.lst (xs.set j v))) { s with heap := s.heap.update p (Obj.mapSeq (·.setIfInBounds j u)) } :=
   I.lstUpd hp ho (mapSeq_set its n j u) (r.set rv j) (by rw [List.length_set]; exact hz) s.toks
 by_cases h0 : 0 ≤ k
 · have hk : k.toNat = j := by
     rw [seqIndex_of h0 h4] at h1
     exact Option.some.inj h1
   exact PySem.W.ki_setAt ho h0 (by omega) (by rw [List.size_toArray, ← hl]; exact h4) (by rw [hk]; exact ⟨_, I', q⟩)
 · have hk : (k + (its.toArray.size : Int)).toNat = j := by
     rw [seqIndex_neg (by omega) h3] at h1
     rw [List.size_toArray, ← hl]
     exact Option.some.inj h1
   exact PySem.W.ki_setBack ho (by omega) (by rw [List.size_toArray, ← hl]; exact h3) (by omega) (by rw [hk]; exact ⟨_, I', q⟩)
theorem slice_bounds (lo hi : Option Int) (n : Nat) : (sliceBounds lo hi none n).1 = ((HT.sIx n 0 lo : Nat) : Int) ∧ (sliceBounds lo hi none n).2.1 = ((HT.sIx n n hi : Nat) : Int) ∧ (sliceBounds lo hi none n).2.2 = 1 := by
 refine ⟨?_, ?_, rfl⟩
 · cases lo with
   | none => simp [sliceBounds, HT.sIx]
   | some i =>
     simp only [sliceBounds, HT.sIx, Option.getD_none, show (1 : Int) > 0 by decide, if_true]
     by_cases h : i < 0
     · simp only [h, if_true] <;> omega
     · simp only [h, if_false] <;> omega
 · cases hi with
   | none => simp [sliceBounds, HT.sIx]
   | some i =>
     simp only [sliceBounds, HT.sIx, Option.getD_none, show (1 : Int) > 0 by decide, if_true]
     by_cases h : i < 0
     · simp only [h, if_true] <;> omega
     · simp only [h, if_false] <;> omega
theorem slicePick_cut (its : List Value) (lo hi : Option Int) : slicePick its.toArray lo hi none = ((its.drop (HT.sIx its.length 0 lo)).take (HT.sIx its.length its.length hi - HT.sIx its.length 0 lo)).toArray := by
 obtain ⟨h1, h2, h3⟩ := slice_bounds lo hi its.toArray.size
 unfold slicePick
 rw [h1, h2, h3]
 simp only [sliceRange_one, pick_run, List.size_toArray] <;> rfl
noncomputable def rSlL (K : PySem.W.Frag) : V → Option Int → Option Int → Hp → VK → Prop := fun x lo hi H Q => ∃ a xs, x = .ref a ∧ SqL K H a xs ∧ ∀ p, H p = none → Q (.ref p) (upd H p (.lst (cutV xs lo hi)))
theorem sl_list : SlR X (rSlL X.K) := by
 intro pins s σ H x v vl vu lo hi sl Q I rx hs pl pu h
 obtain ⟨a, xs, rfl, hx, q⟩ := h
 cases rx
 obtain ⟨its, r, ht, hz⟩ := I.list hx
 have hlen := r.length
 refine ⟨"list", _, slot_list_getitem.lookup, ht.isList.typeIs, ?_⟩
 refine wpAny_getItem_list_slice ht.isList hs pl pu .none (by simp) ?_ (by rw [List.size_toArray] <;> omega)
 rw [slicePick_cut, ← hlen]
 refine ⟨.ref s.heap.objs.size, _, I.laid (t' := s.toks) (o := .lst (cutV xs lo hi)) (fun b ob q => Heap.get?_push_of_some _ q) (Nat.le_refl _) ?_, rfl, q _ (I.hok.fresh (Nat.le_refl _))⟩
 exact ⟨Nat.le_trans (cutV_length xs lo hi) hz, _, 0, (r.drop (HT.sIx xs.length 0 lo)).take (HT.sIx xs.length xs.length hi - HT.sIx xs.length 0 lo), Heap.get?_push_size _ rfl⟩
noncomputable def flatV : V → Bool
 | .non => true
 | .bl _ => true
 | .int _ => true
 | .str _ => true
 | _ => false
noncomputable def eqV : V → V → Bool
 | .non, .non => true
 | .bl a, .bl b => a == b
 | .bl a, .int b => (if a then 1 else 0) == b
 | .int a, .bl b => a == (if b then 1 else 0)
 | .int a, .int b => a == b
 | .str a, .str b => a == b
 | _, _ => false
theorem eqAt_V {A : Around} {s : Shared} {y x : V} {u v : Value} (ry : RelV y u) (rx : RelV x v) (fy : flatV y = true) (fx : flatV x = true) : SeqAt.EqAt A s u v (eqV y x) := by
 cases y with
 | non =>
   cases ry
   cases x with
   | non => cases rx; exact SeqAt.EqAt.same _
   | bl b => cases rx; exact SeqAt.EqAt.none_bool b
   | int b => obtain ⟨t, rfl⟩ := rx; exact SeqAt.EqAt.none_int b t
   | str b => obtain ⟨t, rfl⟩ := rx; exact SeqAt.EqAt.none_str b t
   | _ => exact absurd (show false = true from fx) Bool.false_ne_true
 | bl a =>
   cases ry
   cases x with
   | non => cases rx; exact SeqAt.EqAt.bool_none a
   | bl b => cases rx; exact SeqAt.EqAt.bool_bool a b
   | int b => obtain ⟨t, rfl⟩ := rx; exact SeqAt.EqAt.bool_int a b t
   | str b => obtain ⟨t, rfl⟩ := rx; exact SeqAt.EqAt.bool_str a b t
   | _ => exact absurd (show false = true from fx) Bool.false_ne_true
 | int a =>
   obtain ⟨t', rfl⟩ := ry
   cases x with
   | non => cases rx; exact SeqAt.EqAt.int_none a t'
   | bl b => cases rx; exact SeqAt.EqAt.int_bool a t' b
   | int b => obtain ⟨t, rfl⟩ := rx; exact SeqAt.EqAt.int_int a t' b t
   | str b => obtain ⟨t, rfl⟩ := rx; exact SeqAt.EqAt.int_str a t' b t
   | _ => exact absurd (show false = true from fx) Bool.false_ne_true
 | str a =>
   obtain ⟨t', rfl⟩ := ry
   cases x with
   | non => cases rx; exact SeqAt.EqAt.str_none a t'
   | bl b => cases rx; exact SeqAt.EqAt.str_bool a t' b
   | int b => obtain ⟨t, rfl⟩ := rx; exact SeqAt.EqAt.str_int a t' b t
   | str b => obtain ⟨t, rfl⟩ := rx; exact SeqAt.EqAt.str_str a t' b t
   | _ => exact absurd (show false = true from fx) Bool.false_ne_true
 | _ => exact absurd (show false = true from fy) Bool.false_ne_true
theorem call_len_seq : CallR X (.builtin "len") (fun xs H Q => ∃ p ys, xs = [.ref p] ∧ (SqL X.K H p ys ∨ SqT X.K H p ys) ∧ Q (.int ys.length) H) := by
 intro pins s σ H xs us Q I r h
 obtain ⟨p, ys, rfl, hq, q⟩ := h
 obtain ⟨u, rfl, rx⟩ := vals1 r
 cases rx
 have hn := line63
 rcases hq with hq | hq
 · obtain ⟨its, r', pl, hz⟩ := I.list hq
   have hlen := r'.length
   exact Calls.call_len_list pl.isList (by simp only [List.size_toArray] <;> omega) ⟨.int ys.length, H, I.tok _, ⟨s.toks + 1, by rw [List.size_toArray, hlen]⟩, q⟩
 · obtain ⟨its, r', pl, hz⟩ := I.tuple hq
   have hlen := r'.length
   exact len_tuple pl (by simp only [List.size_toArray] <;> omega) ⟨.int ys.length, H, I.tok _, ⟨s.toks + 1, by rw [List.size_toArray, hlen]⟩, q⟩
theorem call_len_str : CallR X (.builtin "len") (fun xs H Q => ∃ z, xs = [.str z] ∧ z.length ≤ sizeLine ∧ Q (.int z.length) H) := by
 intro pins s σ H xs us Q I r h
 obtain ⟨z, rfl, hz, q⟩ := h
 obtain ⟨u, rfl, t, rfl⟩ := vals1 r
 have hn := line63
 exact len_str (by omega) ⟨.int z.length, H, I.tok _, ⟨_, rfl⟩, q⟩
theorem call_list_of : CallR X (.type "list") (fun xs H Q => ∃ p ys, xs = [.ref p] ∧ (SqL X.K H p ys ∨ SqT X.K H p ys) ∧ ∀ l, H l = none → Q (.ref l) (upd H l (.lst ys))) := by
 intro pins s σ H xs us Q I r h
 obtain ⟨p, ys, rfl, hq, q⟩ := h
 obtain ⟨u, rfl, rx⟩ := vals1 r
 cases rx
 have fin : ∀ (its : List Value), Vals ys its → ys.length ≤ sizeLine → ∀ (h' : Heap) (c' : Nat), (∀ b o', s.heap.get? b = some o' → h'.get? b = some o') →
     h'.get? s.heap.objs.size = some { cls := .type "list", dict := none, data := .seq its.toArray c', slots := #[] } → EP X pins σ Q (.ref s.heap.objs.size) { s with heap := h' } := fun its r' hz h' c' kp e =>
   ⟨.ref s.heap.objs.size, _, I.laid (t' := s.toks) kp (Nat.le_refl _) (show ObjOk X.prog X.w _ h' _ (.lst ys) from ⟨hz, its, c', r', e⟩), rfl, q _ (I.hok.fresh (Nat.le_refl _))⟩
 rcases hq with hq | hq
 · obtain ⟨its, r', pl, hz⟩ := I.list hq
   have hlen := r'.length
   obtain ⟨o, ho, hc, n, hd⟩ := pl.isList
   exact call_list_seq p (.inl rfl) ho hc hd (fun h' c' kp e => fin its r' hz h' c' kp e) (by simp only [List.size_toArray] <;> omega)
 · obtain ⟨its, r', pl, hz⟩ := I.tuple hq
   have hlen := r'.length
   obtain ⟨o, ho, hc, n, hd⟩ := pl
   exact call_list_seq p (.inr rfl) ho hc hd (fun h' c' kp e => fin its r' hz h' c' kp e) (by simp only [List.size_toArray] <;> omega)
theorem call_tuple_of : CallR X (.type "tuple") (fun xs H Q => ∃ p ys, xs = [.ref p] ∧ ((SqL X.K H p ys ∧ ∀ l, H l = none → Q (.ref l) (upd H l (.tup ys))) ∨ (SqT X.K H p ys ∧ Q (.ref p) H))) := by
 intro pins s σ H xs us Q I r h
 obtain ⟨p, ys, rfl, h⟩ := h
 obtain ⟨u, rfl, rx⟩ := vals1 r
 cases rx
 rcases h with ⟨hq, q⟩ | ⟨hq, q⟩
 · obtain ⟨its, r', pl, hz⟩ := I.list hq
   have hlen := r'.length
   refine call_tuple_list pl.isList (fun h' kp => ?_) (by simp only [List.size_toArray] <;> omega)
   have I1 : Inv X pins σ H { s with heap := h' } := I.kept (t' := s.toks) kp
   have I2 : Inv X pins σ (upd H h'.objs.size (.tup ys)) { s with heap := h'.push { cls := .type "tuple", data := .seq its.toArray } } :=
     I1.laid (t' := s.toks) (fun b o e => Heap.get?_push_of_some _ e) (Nat.le_refl _) (show ObjOk X.prog X.w _ _ _ (.tup ys) from ⟨hz, its, r', IsTup.new _ _⟩)
   exact ⟨.ref h'.objs.size, _, I2, rfl, q _ (I1.hok.fresh (Nat.le_refl _))⟩
 · obtain ⟨its, r', pl, hz⟩ := I.tuple hq
   exact call_tuple_same pl ⟨.ref p, H, I, rfl, q⟩
noncomputable def tyV (K : PySem.W.Frag) (T : String) (x : V) (H : Hp) : Prop := match x with
 | .str _ => T = "str"
 | .int _ => T = "int"
 | .ref p => (T = "list" ∧ ∃ xs, SqL K H p xs) ∨ (T = "tuple" ∧ ∃ o, K.lookup p = some o ∧ o.cls = .type "tuple" ∧ o.dict = none) ∨
     (T = "dict" ∧ ((∃ kvs, H p = some (.dK kvs)) ∨ ∃ kvs, H p = some (.dT kvs))) ∨ (T = "set" ∧ ∃ S n, H p = some (.set S n))
 | _ => False
theorem tyV_is {pins : List (Addr × Obj)} {σ : St} {H : Hp} {s : Shared} {T : String} {x : V} {v : Value} (I : Inv X pins σ H s) (r : RelV x v) (ty : tyV X.K T x H) :
   s.TypeIs v T ∧ ∀ a, v = .ref a → ∃ ob, s.heap.get? a = some ob ∧ ob.dict = none := by
 cases x with
 | str z =>
   obtain ⟨t, rfl⟩ := r
   cases (show T = "str" from ty)
   exact ⟨typeIs_str s z t, fun _ e => nomatch e⟩
 | int i =>
   obtain ⟨t, rfl⟩ := r
   cases (show T = "int" from ty)
   exact ⟨typeIs_int s i t, fun _ e => nomatch e⟩
 | ref p =>
   cases r
   rcases ty with ⟨rfl, xs, hq⟩ | ⟨rfl, o, hk, hc, hd⟩ | ⟨rfl, hk⟩ | ⟨rfl, S, n, hk⟩
   · obtain ⟨its, _, pl, _⟩ := I.list hq
     refine ⟨pl.isList.typeIs, fun a e => ?_⟩
     cases e
     obtain ⟨o, n, e, c, hd, _⟩ := pl
     exact ⟨o, e, hd⟩
   · refine ⟨⟨o, I.kIn p o hk, hc⟩, fun a e => ?_⟩
     cases e
     exact ⟨o, I.kIn _ o hk, hd⟩
   · have z : ∃ o, s.heap.get? p = some o ∧ o.ExactDict := by
       rcases hk with ⟨kvs, hk⟩ | ⟨kvs, hk⟩
       · obtain ⟨_, _, _, _, o, _, _, e, ex, _⟩ := I.hok p _ hk
         exact ⟨o, e, ex⟩
       · obtain ⟨_, _, _, _, o, _, _, e, ex, _⟩ := I.hok p _ hk
         exact ⟨o, e, ex⟩
     obtain ⟨o, e, ex⟩ := z
     refine ⟨⟨o, e, ex.1⟩, fun a e2 => ?_⟩
     cases e2
     exact ⟨o, e, ex.2.1⟩
   · obtain ⟨o, _, _, _, e, ex, _⟩ := I.hok p _ hk
     refine ⟨⟨o, e, ex.1⟩, fun a e2 => ?_⟩
     cases e2
     exact ⟨o, e, ex.2.1⟩
 | _ => exact False.elim ty
noncomputable def tBM (K : PySem.W.Frag) (T : String) (r : V → List V → Hp → VK → Prop) (to : TE) (t : TA) : TE := fun σ H Q => to σ H fun x H1 => tyV K T x H1 ∧ t σ H1 fun xs H2 => r x xs H2 Q
variable {o e : Expr} {es : List Expr} {to : TE} {t : TA} {name : Str} {apos cpos : Pos} {T id : String} {r : V → List V → Hp → VK → Prop}
theorem pe_bm (pa : PlainAttrs T) (slot : Slot T name id) (hty : typeOf (.builtin id) = pure (.type "method_descriptor")) (hm : MtR X id r) (ho : PE X o to) (ha : PA X (e :: es) t)
   (hbase : attributeBase o name X.env (eval o X.env) = eval o X.env := by rfl)
   (hfew : ((backTo cpos (starEach (e :: es) X.env)).all (fun x => !x.1) && (backToKw cpos (keywordEach [] X.env)).all (fun x => x.1.isSome)
     && decide ((e :: es).length + ([] : List Keyword).length + (if ([] : List Keyword).isEmpty then 0 else 1) < 30)) = true := by rfl)
   (hline : (apos.endLine == cpos.line) = true := by rfl) (hs : starEach (e :: es) X.env = (false, eval e X.env) :: starEach es X.env := by rfl) (hplain : (backTo cpos (starEach es X.env)).any (·.1) = false := by rfl) :
   PE X (.Call (.Attribute o name apos) (e :: es) [] cpos) (tBM X.K T r to t) := by
 intro pins s σ H Q I h
 refine wpAny_Call_method_late hbase hfew hline rfl (thn (ho pins s σ H _ I h) fun v s1 ⟨x, H1, I1, r1, ty, q1⟩ => ?_)
 obtain ⟨h1, h2⟩ := tyV_is I1 r1 ty
 refine ⟨T, id, pa, slot, hty, h1, h2, ?_⟩
 have hA := ha cpos pins s1 σ H1 _ I1 q1
 rw [hs] at hA ⊢
 refine Calls.callWith_builtin (by show (false || (backTo cpos (starEach es X.env)).any (·.1)) = false; rw [hplain] <;> rfl) (Calls.evalArgs_plain ?_)
 exact thn hA fun us s2 ⟨vs, H2, I2, r2, q2⟩ => hm pins s2 σ H2 x vs v us Q I2 r1 r2 q2
end
end L2
namespace L2
open PySem PySem.Spec PyProof.Rows
noncomputable def MtM (X : Cx) (id : String) (r : V → List V → Hp → VK → Prop) : Prop :=
 ∀ (pins : List (Addr × Obj)) (s : Shared) (σ : St) (H : Hp) (x : V) (xs : List V) (v : Value) (us : List Value) (Q : VK), Inv X pins σ H s → RelV x v → Vals xs us → r x xs H Q →
   wpAny (model X.prog X.w) X.A (call (.builtin id) (v :: us)) (EP X pins σ Q) X.xe s
theorem Vals.one : ∀ {x : V} {us : List Value}, Vals [x] us → ∃ u, us = [u] ∧ RelV x u
 | _, _, .cons r .nil => ⟨_, rfl, r⟩
section
variable {X : Cx} {pins : List (Addr × Obj)} {σ : St} {H : Hp} {s : Shared} {l b : Addr} {xs ys zs : List V}
theorem Inv.lset {its its' : List Value} {n : Nat} {f : Array Value → Array Value} {t' : Nat} (I : Inv X pins σ H s) (hH : H l = some (.lst xs))
   (e : s.heap.get? l = some { cls := .type "list", data := .seq its.toArray n }) (hf : f its.toArray = its'.toArray) (hv : Vals ys its') (hz : ys.length ≤ sizeLine) :
   Inv X pins σ (upd H l (.lst ys)) { s with heap := s.heap.update l (Obj.mapSeq f), toks := t' } := by
 have q := PySem.IsL.update e f
 rw [hf] at q
 refine I.write (x := l) (e := l) (by rw [hH]; exact trivial) (.inl rfl) (fun b' u hb hu => (Heap.get?_update_other s.heap (Obj.mapSeq f) (Ne.symm hb)).trans hu) ⟨_, q⟩ ?_
 exact ⟨hz, its', _, hv, q⟩
theorem Inv.lnew {its : List Value} {t' : Nat} (I : Inv X pins σ H s) (hv : Vals ys its) (hz : ys.length ≤ sizeLine) :
   Inv X pins σ (upd H s.heap.objs.size (.lst ys)) { s with heap := s.heap.push { cls := .type "list", data := .seq its.toArray }, toks := t' } :=
 I.laid (fun _ _ q => Heap.get?_push_of_some _ q) (Nat.le_refl _) ⟨hz, its, 0, hv, Heap.get?_push_size _ rfl⟩
theorem Inv.fresh (I : Inv X pins σ H s) : H s.heap.objs.size = none := I.hok.fresh (Nat.le_refl _)
theorem Inv.lstM (I : Inv X pins σ H s) (hH : H l = some (.lst xs)) : xs.length ≤ sizeLine ∧ ∃ (its : List Value) (n : Nat), Vals xs its ∧ xs.length = its.length ∧ s.heap.get? l = some { cls := .type "list", data := .seq its.toArray n } := by
 obtain ⟨z, its, n, r, e⟩ := I.hok l _ hH
 exact ⟨z, its, n, r, r.length, e⟩
theorem notLongL {n : Nat} (h : n ≤ sizeLine) : Builtin.List.listTooLong n = false := by
 unfold Builtin.List.listTooLong
 exact decide_eq_false (by omega)
end
section
variable {X : Cx}
noncomputable def rAppend : V → List V → Hp → VK → Prop := fun x vs H Q => ∃ l xs y, x = .ref l ∧ vs = [y] ∧ H l = some (.lst xs) ∧ xs.length < sizeLine ∧ Q .non (upd H l (.lst (xs ++ [y])))
theorem mt_append : MtM X "list.append" rAppend := by
 intro pins s σ H x vs v us Q I rx rv h
 obtain ⟨l, xs, y, rfl, rfl, hH, hz, q⟩ := h
 cases rx
 obtain ⟨u, rfl, ru⟩ := rv.one
 obtain ⟨z, its, n, r, hl, e⟩ := I.lstM hH
 refine call_meets F.slot_list_append ⟨_, e, rfl⟩ F.entry_list_append (F.args_list_append_2 _ _) (PySem.list_append l its.toArray n u (by rw [List.size_toArray]; omega)) ⟨e, ?_⟩
 refine ⟨.non, _, I.lset (its' := its ++ [u]) hH e (by simp) (r.append (.cons ru .nil)) ?_, rfl, q⟩
 rw [List.length_append, List.length_singleton]
 omega
noncomputable def rExtend : V → List V → Hp → VK → Prop := fun x vs H Q => ∃ l b xs zs, x = .ref l ∧ vs = [.ref b] ∧ H l = some (.lst xs) ∧ H b = some (.lst zs) ∧ xs.length + zs.length ≤ sizeLine ∧ Q .non (upd H l (.lst (xs ++ zs)))
theorem mt_extend : MtM X "list.extend" rExtend := by
 intro pins s σ H x vs v us Q I rx rv h
 obtain ⟨l, b, xs, zs, rfl, rfl, hH, hB, hz, q⟩ := h
 cases rx
 obtain ⟨u, rfl, ru⟩ := rv.one
 cases ru
 obtain ⟨z, its, n, r, hl, e⟩ := I.lstM hH
 obtain ⟨z2, its2, n2, r2, hl2, e2⟩ := I.lstM hB
 have hsz : its.toArray.size + its2.toArray.size ≤ sizeLine := by rw [List.size_toArray, List.size_toArray]; omega
 have hlong : ¬ (!its.toArray.isEmpty && Builtin.List.listTooLong (its.toArray.size + its2.toArray.size)) = true := by
   rw [notLongL hsz, Bool.and_false]
   exact Bool.false_ne_true
 refine call_meets F.slot_list_extend ⟨_, e, rfl⟩ F.entry_list_extend (F.args_list_extend_2 _ _)
   (AutoSeq1.list_extend_list_list_0 l its.toArray n b its2.toArray n2 hlong (by rw [List.size_toArray]; omega) (by omega)) ⟨e, e2, ?_⟩
 refine ⟨.non, _, I.lset (its' := its ++ its2) hH e (by simp) (r.append r2) ?_, rfl, q⟩
 rw [List.length_append]
 omega
noncomputable def rCat : R2 := fun x y H Q => ∃ l b xs zs, x = .ref l ∧ y = .ref b ∧ H l = some (.lst xs) ∧ H b = some (.lst zs) ∧ xs.length + zs.length ≤ sizeLine ∧ ∀ p, H p = none → Q (.ref p) (upd H p (.lst (xs ++ zs)))
theorem op_cat : OpR X (binaryOp .Add) rCat := by
 intro pins s σ H x y v u Q I rx ry h
 obtain ⟨l, b, xs, zs, rfl, rfl, hH, hB, hz, q⟩ := h
 cases rx
 cases ry
 obtain ⟨z, its, n, r, hl, e⟩ := I.lstM hH
 obtain ⟨z2, its2, n2, r2, hl2, e2⟩ := I.lstM hB
 refine PySem.P.add_list e e2 ?_ (by rw [List.size_toArray, List.size_toArray]; omega)
 have ea : its.toArray ++ its2.toArray = (its ++ its2).toArray := by simp
 rw [ea]
 exact ⟨.ref _, _, I.lnew (t' := s.toks) (r.append r2) (by rw [List.length_append]; omega), rfl, q _ I.fresh⟩
end
section
variable {prog : Program} {w : World} {A : Around} {E : Value → Shared → Prop} {s : Shared}
end
section
variable {X : Cx}
end
end L2
namespace Att
open PySem PySem.W PySem.Calls PyProof.Rows
theorem ints_of_wellAll {P : Params} {h : Heap} : ∀ (ns : List Int) (vs : List Value), WellAll P h vs (ns.map WData.int) → IntsAre vs ns := by
 intro ns
 induction ns with
 | nil =>
   intro vs w
   rw [List.map_nil] at w
   cases w
   exact .nil
 | cons n ns ih =>
   intro vs w
   rw [List.map_cons] at w
   cases w with
   | cons a b =>
     cases a
     exact .cons _ _ (ih _ b)
theorem script_of {l : OpenLaw} {n : Nat} (hn : l.most = some n) {P : Params} {h : Heap} {args : List WData} {vals : List Value}
   (hpre : l.row.toRowW.claim.pre args = true) (hwl : WellAll P h vals args) :
   ∃ a vs ns, vals = [Value.ref a] ∧ args = [WData.list (ns.map WData.int)] ∧ h.get? a = some { cls := .type "list", data := .seq vs.toArray } ∧ IntsAre vs ns ∧ ns.length ≤ n := by
 have hsh : WShape.hasAll [] args [.list .int] = true := (pre_splitW hpre).1
 have hc : l.pre.holds [] { args := args } = true := (pre_splitW hpre).2
 obtain ⟨d, r, rfl, h1, h2⟩ := hasAllW_cons hsh
 obtain rfl := hasAllW_nil h2
 obtain ⟨xs, rfl, h3⟩ := hasW_list h1
 obtain ⟨ns, rfl⟩ := items_int h3
 have hlen : ns.length ≤ n := by
   unfold OpenLaw.pre at hc
   have h4 : (WTm.not (.lt (.lit (.int (n : Int))) (.len (.arg 0)))).holds [] { args := [.list (ns.map .int)] } = true := by
     have h4 := (holds_andW hc).1
     rw [hn] at h4
     exact h4
   have h5 := condW_of h4 (w_not (w_lt w_lit (w_len_list (w_arg rfl))))
   rw [List.length_map] at h5
   refine Nat.le_of_not_lt fun q => ?_
   have q' : (n : Int) < ((ns.length : Nat) : Int) := by omega
   first
     | (rw [decide_eq_true q'] at h5; exact absurd h5 (by decide))
     | (simp at h5; omega)
 cases hwl with
 | cons w1 w2 =>
   cases w2
   cases w1 with
   | list ho hall => exact ⟨_, _, ns, rfl, rfl, ho, ints_of_wellAll ns _ hall, hlen⟩
theorem post_true (l : OpenLaw) (args : List WData) : l.row.toRowW.claim.post args (.bool true) args = true :=
 postW_of (r := l.row.toRowW) (X := (true == true))
   (show WShape.has [] (.bool true) .bool = true by first | rfl | decide | simp [WShape.has, WShape.arms, WShape.armsAll])
   (show (WTm.eq .res (.lit (.bool true))).value [] { args := args, res := some (.bool true), after := args } = some (.bool (true == true)) from w_eq_bool (w_res rfl) w_lit) rfl
theorem attach_call {l : OpenLaw} {n : Nat} {q : Program} {loose : List Str} {XP : (Str → Option Value) → Heap → Prop} {YP : World → Heap → Prop} {d : DefRec}
   (hn : l.most = some n) (hdf : d.params.defaults = [])
   (call : ∀ (w : World) (s₀ s₁ : Shared) (mg mb : Str → Option Value) (fa : Addr) (o : Obj) (pm cd doc : Value) (a : Addr) (vs : List Value) (ns : List Int),
     Ground q loose [] XP w s₀ mg mb s₁.heap → YP w s₁.heap →
     s₁.heap.get? fa = some o → o.data = .func (docDef d.name d.params d.body d.scope pm cd doc) → s₁.heap.CodeRec cd d.name → mg d.name = some (.ref fa) →
     s₁.heap.get? a = some { cls := .type "list", data := .seq vs.toArray } → IntsAre vs ns → ns.length ≤ n → s₁.gens = #[] →
     codeAny (model l.prog w) callerA (.call (.ref fa) ⟨[.ref a], []⟩) (fun r s' => r = .ok (.ret (.bool true)) ∧ OldK s₁.heap s'.heap ∧ s'.os = s₁.os ∧ AllBare s'.gens) s₁) :
   WalkO q loose XP YP l.row.toRowW d [] (fun f vs => PySem.call f vs) := by
 intro w s₀ s₁ mg mb G Y fa o pm cd doc dV kV ho hd hcd hD hmg hg args vals as hpre hlay hrd hwl hlo
 obtain rfl : dV = .none := Dflts.none hD hdf
 obtain rfl : kV = .none := Dflts.noKw hD
 obtain ⟨a, vs, ns, rfl, rfl, hobj, hints, hlen⟩ := script_of hn hpre hwl
 refine enter_call (codeAny_mono (call w s₀ s₁ mg mb fa o pm cd doc a vs ns G Y ho (fd_plain hd) hcd hmg hobj hints hlen hg) fun r s' hq => ?_)
 obtain ⟨rfl, h2, h3, h4⟩ := hq
 exact ⟨.inl ⟨.bool true, .bool true, [], rfl, fun _ => rfl, .bool true, post_true l _, fun _ => ⟨List.Pairwise.nil, fun _ hm => (nomatch hm)⟩⟩, h2, h3, h4⟩
section
variable {prog : Program} {w : World} {A : Around} {E : Value → Shared → Prop} {s : Shared} {K : Frag}
end
end Att
namespace L2
open PySem PySem.Spec PyProof.Rows
theorem vals_ints : ∀ {vs : List Value} {ns : List Int}, IntsAre vs ns → Vals (ns.map V.int) vs
 | _, _, .nil => .nil
 | _, _, .cons n t h => .cons ⟨t, rfl⟩ (vals_ints h)
noncomputable def Only (H : Hp) : Prop := ∀ b, H b = none ∨ ∃ o xs, H b = some (.frz o (.lst xs))
theorem law_call {P : Program} {w : World} {K : PySem.W.Frag} {mg mb : Str → Option Value} {CX : CXT} {k : Nat} {fa a : Addr} {fd : FuncData} {x : Str} {sp : Sp} {s₁ : Shared} {vs : List Value} {ns : List Int}
   (KX : K.In s₁.heap) (hns : s₁.heap.Ns mainGlobals mg) (hb : s₁.heap.Ns builtinsNs mb) (hbb : ∀ x : Str, x ≠ "__name__" → mb x = bootBuiltins x) (hlim : s₁.heap.NoLimit) (hg : s₁.gens = #[])
   (ha : s₁.heap.get? a = some { cls := .type "list", data := .seq vs.toArray }) (hi : IntsAre vs ns) (hl : ns.length ≤ sizeLine) (hr : Room k callerA)
   (F : ∀ base : Heap, K.In base → base.Ns mainGlobals mg → FnOk P w K mg base CX k fa fd [x] sp) (hbind : ∀ (s : Shared) (u : Value), BindsTo s fd ⟨[u], []⟩ [(x, u)])
   (hsp : ∀ H : Hp, Only H → SqL K H a (ns.map V.int) → sp [.ref a] H (fun v _ => v = .bl true) fun _ _ _ => False)
   (hCX : ∀ H e s', CX [] H s₁ (fun _ _ _ => False) e s' → False) :
   codeAny (model P w) callerA (.call (.ref fa) ⟨[.ref a], []⟩) (fun r s' => r = .ok (.ret (.bool true)) ∧ OldK s₁.heap s'.heap ∧ s'.os = s₁.os ∧ AllBare s'.gens) s₁ := by
 have rv := vals_ints hi
 have lenV := hi.length
 -- from an abstract heap in which nothing but the script may be tracked
 have core : ∀ H : Hp, Only H → SqL K H a (ns.map V.int) → HOk P w H s₁.heap → (∀ b, H b ≠ none → b = a) → (H a ≠ none → K.lookup a = none) →
     codeAny (model P w) callerA (.call (.ref fa) ⟨[.ref a], []⟩) (fun r s' => r = .ok (.ret (.bool true)) ∧ OldK s₁.heap s'.heap ∧ s'.os = s₁.os ∧ AllBare s'.gens) s₁ := by
   intro H hO hS hok hA hK
   have base_of : ∀ {b : Addr} {o : Obj}, s₁.heap.get? b = some o → H b = none → (hidT s₁.heap H).get? b = some o := fun e n => hidT_get e n
   have noA : ∀ {b : Addr} {o : Obj} {es : Array DictEntry} {ep : Nat}, s₁.heap.get? b = some o → o.data = .dict es ep → H b = none := fun {b o es ep} e d => by
     cases q : H b with
     | none => rfl
     | some u =>
       have e' : b = a := hA b (by rw [q]; simp)
       subst e'
       rw [ha] at e; cases e
       have d' : Data.seq vs.toArray _ = Data.dict es ep := d
       cases d'
   have nsK : ∀ {b : Addr} {m : Str → Option Value}, s₁.heap.Ns b m → (hidT s₁.heap H).Ns b m := fun {b m} ⟨o, es, ep, e, d, r⟩ => ⟨o, es, ep, base_of e (noA e d), d, r⟩
   have hKb : K.In (hidT s₁.heap H) := fun b o e => base_of (KX b o e) (by
     cases q : H b with
     | none => rfl
     | some u =>
       have e' : b = a := hA b (by rw [q]; simp)
       subst e'
       rw [hK (by rw [q]; simp)] at e; cases e)
   have hM : Mod K mg (hidT s₁.heap H) := ⟨hKb, nsK hns, ⟨mb, nsK hb, hbb⟩, let ⟨mc, h1, h2⟩ := hlim; ⟨mc, nsK h1, h2⟩⟩
   have e0 : Env0 P w K mg (hidT s₁.heap H) callerA [] s₁ H := ⟨rfl, hM, fun b o e => of_hidT e, Nat.le_of_eq (hidT_size _ _), trivial, fun b hb => absurd (show b ∈ ([] : List Addr) from hb) (by simp), hok, .of_eq hg⟩
   refine codeAny_mono ((F _ hKb (nsK hns)).run callerA [] s₁ H ⟨[.ref a], []⟩ [.ref a] [.ref a] _ _ hr e0 (hbind s₁ (.ref a)) (.cons rfl .nil) (hsp H hO hS)) fun r s' h => ?_
   cases r with
   | error e => exact (hCX H e s' h).elim
   | ok fl =>
     cases fl with
     | next => exact False.elim h
     | brk => exact False.elim h
     | cont => exact False.elim h
     | ret u =>
       obtain ⟨v, H', os, bare, un, hok', r', q⟩ := h
       have q' : v = .bl true := q
       subst q'
       obtain rfl : u = Value.bool true := r'
       refine ⟨rfl, OldK.of_keep fun b o e => ?_, os, bare⟩
       cases q : H b with
       | none => exact un.keep b o e q (by intro z; exact absurd (show b ∈ ([] : List Addr) from z) (by simp)) (by simp)
       | some u =>
         rcases hO b with z | ⟨ob, xs, z⟩
         · rw [q] at z; cases z
         · have z2 := un.frzs b ob _ z
           obtain ⟨e1, _⟩ := hok b _ z
           obtain ⟨e2, _⟩ := hok' b _ z2
           rw [e] at e1; cases e1
           exact e2
 cases hk : K.lookup a with
 | some o =>
   -- the script is one of the module's own objects
   have e := KX a o hk
   rw [ha] at e
   cases e
   refine core (fun _ => none) (fun _ => .inl rfl) (.inr ⟨_, vs.toArray, _, hk, rfl, rfl, rfl, by rw [List.size_toArray, lenV]; exact hl, by simpa using rv⟩) (fun b u z => by have z' : (none : Option HO) = some u := z; cases z') (fun b z => absurd rfl z) fun z => absurd rfl z
 | none =>
   refine core (fun b => if b = a then some (.frz { cls := .type "list", data := .seq vs.toArray } (.lst (ns.map V.int))) else none) (fun b => ?_) (.inl (.inr ⟨{ cls := .type "list", data := .seq vs.toArray }, if_pos rfl⟩)) (fun b u z => ?_) (fun b z => ?_) fun _ => hk
   · by_cases hb : b = a
     · exact .inr ⟨_, _, if_pos hb⟩
     · exact .inl (if_neg hb)
   · by_cases hb : b = a
     · have z' := (if_pos hb).symm.trans z
       cases z'
       subst hb
       exact ⟨ha, by rw [List.length_map]; exact hl, vs, _, rv, ha⟩
     · have z' := (if_neg hb).symm.trans z
       cases z'
   · by_cases hb : b = a
     · exact hb
     · exact absurd (if_neg hb) z
end L2
namespace L2
open PySem PySem.Spec PyProof.Rows
theorem walk_of {l : PySem.W.OpenLaw} {n k : Nat} {q : Program} {loose : List Str} {XP : (Str → Option Value) → Heap → Prop} {YP : World → Heap → Prop} {d : DefRec} {K : Params → PySem.W.Frag} {CX : World → CXT} {sp : World → Sp} {x : Str}
   (hn : l.most = some n) (hn2 : n ≤ sizeLine) (hdf : d.params.defaults = []) (hr : Room k callerA)
   (hY : ∀ (w : World) (h : Heap), YP w h → (K w.params).In h)
   (F : ∀ (w : World) (mg : Str → Option Value) (fa : Addr) (h : Heap), (K w.params).In h → h.Ns mainGlobals mg → mg d.name = some (.ref fa) →
     ∃ fd : FuncData, (∀ (s : Shared) (u : Value), BindsTo s fd ⟨[u], []⟩ [(x, u)]) ∧
       ∀ base : Heap, (K w.params).In base → base.Ns mainGlobals mg → FnOk l.prog w (K w.params) mg base (CX w) k fa fd [x] (sp w))
   (hsp : ∀ (w : World) (H : Hp) (a : Addr) (ns : List Int), ns.length ≤ n → Only H → SqL (K w.params) H a (ns.map V.int) → sp w [.ref a] H (fun v _ => v = .bl true) fun _ _ _ => False)
   (hCX : ∀ (w : World) (H : Hp) (s : Shared) (e : Value) (s' : Shared), CX w [] H s (fun _ _ _ => False) e s' → False) :
   PySem.W.WalkO q loose XP YP l.row.toRowW d [] (fun f vs => PySem.call f vs) := by
 refine Att.attach_call hn hdf fun w s₀ s₁ mg mb fa o pm cd doc a vs ns G Y ho hd hcd hmg hobj hints hlen hg => ?_
 have KX := hY w _ Y
 obtain ⟨fd, hb, hF⟩ := F w mg fa _ KX G.T.g hmg
 exact law_call KX G.T.g G.T.b G.T.builtins G.T.nolimit hg hobj hints (Nat.le_trans hlen hn2) hr hF hb (fun H hO hS => hsp w H a ns hlen hO hS) fun H e s' => hCX w H s₁ e s'
end L2
namespace L2
open PySem PySem.Spec PyProof.Rows
noncomputable def defArgs (s : Stmt) : Arguments := match s with
 | .FunctionDef _ a _ _ _ _ _ _ _ _ => a
 | _ => { posonlyargs := [], args := [], vararg := none, kwonlyargs := [], kw_defaults := [], kwarg := none, defaults := [] }
noncomputable def defBody (s : Stmt) : List Stmt := match s with
 | .FunctionDef _ _ b _ _ _ _ _ _ _ => b
 | _ => []
noncomputable def defScope (s : Stmt) : Scope := match s with
 | .FunctionDef _ _ _ _ _ _ sc _ _ _ => sc
 | _ => { kind := .function, names := [], isGenerator := false, isCoroutine := false }
noncomputable abbrev CX0 : CXT := fun _ _ _ _ _ _ => False
noncomputable abbrev E0 : XK := fun _ _ _ => False
theorem pass0 {X : Cx} : Passes CX0 X E0 := fun _ _ _ _ _ _ _ h => h.elim
structure Fun (K : PySem.W.Frag) (x qual : Str) (st : Stmt) (f : Addr) (fd : FuncData) : Prop where
 ex : ∃ (oc : Value) (od : Option Addr) (kV doc pm : Value) (an : Option Addr) (cdv ct : Value) (osl : Array (Option Value)),
   fd = PySem.W.fnOf x qual (defArgs st) (defBody st) (defScope st) .none kV doc pm an cdv ct ∧ K.lookup f = some ⟨oc, od, .func fd, osl⟩ ∧ PySem.W.codeIn K cdv qual = true
 kp : PySem.W.keepIn K (.ref f) = true
section
variable {P : Program} {w : World} {K : PySem.W.Frag} {mg : Str → Option Value} {base : Heap}
theorem Fun.ok {x qual : Str} {st : Stmt} {f : Addr} {fd : FuncData} {N ps : List Str} {k : Nat} {sp : Sp} (F : Fun K x qual st f fd) (S : FnScope N ps (defScope st)) (len : ∀ vs H Q E, sp vs H Q E → vs.length = ps.length)
   (hbody : ∀ (cdv : Value) (A : Around) (outer : List Env) (s : Shared) (H : Hp) (vs : List V) (Q : VK) (E : XK), Room k (A.deeper (envOfC qual (defScope st) s.heap.objs.size f cdv)) → sp vs H Q E →
     ∃ t, PSs (cxOf CX0 P w K mg base N qual (defScope st) f cdv A outer s H E).nox (defBody st) t ∧ t { nx := fun _ H' => Q .non H', rt := Q } (start N vs) H) : FnOk P w K mg base CX0 (k + 1) f fd ps sp := by
 obtain ⟨oc, od, kV, doc, pm, an, cdv, ct, osl, rfl, lk, hcd⟩ := F.ex
 refine fn_of lk hcd S len fun A outer s H vs Q E hr hsp => ?_
 obtain ⟨t, h, q⟩ := hbody cdv A outer s H vs Q E hr hsp
 exact ⟨t, h.nox, q⟩
theorem Fun.binds {x qual : Str} {st : Stmt} {f : Addr} {fd : FuncData} {ps : List Str} (F : Fun K x qual st f fd)
   (h : ∀ (kV doc pm : Value) (an : Option Addr) (cdv ct : Value) (us : List Value), us.length = ps.length → bindArgs (PySem.W.fnOf x qual (defArgs st) (defBody st) (defScope st) .none kV doc pm an cdv ct) ⟨us, []⟩ = pure (ps.zip us)) : Binds K fd ps [] := by
 obtain ⟨oc, od, kV, doc, pm, an, cdv, ct, osl, rfl, lk, hcd⟩ := F.ex
 exact .all (h kV doc pm an cdv ct)
theorem fun_mk {x qual : Str} {st : Stmt} {f : Addr} {oc : Value} {od an : Option Addr} {osl : Array (Option Value)} {kV doc pm cdv ct : Value} (l : K.lookup f = some ⟨oc, od, .func (PySem.W.fnOf x qual (defArgs st) (defBody st) (defScope st) .none kV doc pm an cdv ct), osl⟩)
   (c : PySem.W.codeIn K cdv qual = true) (k : PySem.W.keepIn K (.ref f) = true) : Fun K x qual st f (PySem.W.fnOf x qual (defArgs st) (defBody st) (defScope st) .none kV doc pm an cdv ct) := ⟨⟨oc, od, kV, doc, pm, an, cdv, ct, osl, rfl, l, c⟩, k⟩
end
section
variable {X : Cx}
end
noncomputable def Same (H H' : Hp) : Prop := ∀ b o, H b = some o → H' b = some o
theorem Same.trans {H H1 H2 : Hp} (a : Same H H1) (b : Same H1 H2) : Same H H2 := fun c o h => b c o (a c o h)
theorem Same.free {H H' : Hp} (e : Same H H') {l : Addr} (h : H' l = Option.none) : H l = Option.none := by
 cases q : H l with
 | none => rfl
 | some o =>
   rw [e l o q] at h
   cases h
end L2
end
section
namespace L2
open PySem PySem.Spec PyProof.Rows
section
variable {κ : Type} [DecidableEq κ]
noncomputable def valV (kvs : List (κ × V)) (k : κ) : Option V := (kvs.find? fun kv => decide (kv.1 = k)).map (·.2)
noncomputable def putK (kvs : List (κ × V)) (k : κ) (v : V) : List (κ × V) :=
 if (kvs.any fun kv => decide (kv.1 = k)) = true then kvs.map (fun kv => if kv.1 = k then (kv.1, v) else kv) else kvs ++ [(k, v)]
noncomputable def dropK (kvs : List (κ × V)) (k : κ) : List (κ × V) := kvs.filter fun kv => decide (kv.1 ≠ k)
theorem valV_pos {p : κ × V} {r : List (κ × V)} {k : κ} (e : p.1 = k) : valV (p :: r) k = some p.2 := by simp [valV, List.find?_cons, e]
theorem valV_neg {p : κ × V} {r : List (κ × V)} {k : κ} (e : ¬ p.1 = k) : valV (p :: r) k = valV r k := by simp [valV, List.find?_cons, e]
theorem valV_any (k : κ) : ∀ kvs : List (κ × V), (kvs.any fun kv => decide (kv.1 = k)) = (valV kvs k).isSome
 | [] => rfl
 | p :: r => by
   rw [List.any_cons]
   by_cases e : p.1 = k
   · simp only [valV_pos e, decide_eq_true e, Bool.true_or, Option.isSome_some]
   · rw [valV_neg e, decide_eq_false e, Bool.false_or]; exact valV_any k r
theorem length_putK (kvs : List (κ × V)) (k : κ) (v : V) : (putK kvs k v).length ≤ kvs.length + 1 := by
 unfold putK
 split
 · rw [List.length_map]; omega
 · rw [List.length_append, List.length_cons, List.length_nil]; omega
theorem RelO.isSome_eq {o : Option V} {u : Option Value} (r : RelO o u) : o.isSome = u.isSome := by
 cases o with
 | none => cases u with
   | none => rfl
   | some _ => exact (show False from r).elim
 | some _ => cases u with
   | none => exact (show False from r).elim
   | some _ => rfl
theorem KV.val {kvs : List (κ × V)} {vs : List (κ × Value)} (r : KV kvs vs) (k : κ) : RelO (valV kvs k) (valueAt vs k) := by
 unfold KV at r
 induction r with
 | nil => exact True.intro
 | @cons p q ps qs h t ih =>
   obtain ⟨h1, h2⟩ := h
   by_cases e : p.1 = k
   · have e' : q.1 = k := h1.symm.trans e
     have b : valueAt (q :: qs) k = some q.2 := by simp [valueAt, List.find?_cons, e']
     rw [valV_pos e, b]; exact h2
   · have e' : ¬ q.1 = k := fun z => e (h1.trans z)
     have b : valueAt (q :: qs) k = valueAt qs k := by simp [valueAt, List.find?_cons, e']
     rw [valV_neg e, b]; exact ih
theorem KV.any {kvs : List (κ × V)} {vs : List (κ × Value)} (r : KV kvs vs) (k : κ) : (kvs.any fun kv => decide (kv.1 = k)) = vs.any fun kv => decide (kv.1 = k) := by
 unfold KV at r
 induction r with
 | nil => rfl
 | cons h t ih => rw [List.any_cons, List.any_cons, ih, h.1]
theorem KV.repl {kvs : List (κ × V)} {vs : List (κ × Value)} (r : KV kvs vs) (k : κ) {y : V} {u : Value} (ry : RelV y u) :
   KV (kvs.map fun kv => if kv.1 = k then (kv.1, y) else kv) (vs.map fun kv => if kv.1 = k then (kv.1, u) else kv) := by
 unfold KV at r ⊢
 induction r with
 | nil => exact .nil
 | @cons p q ps qs h t ih =>
   rw [List.map_cons, List.map_cons]
   refine .cons ?_ ih
   obtain ⟨h1, h2⟩ := h
   by_cases e : p.1 = k
   · rw [if_pos e, if_pos (h1.symm.trans e)]; exact ⟨h1, ry⟩
   · rw [if_neg e, if_neg (fun z => e (h1.trans z))]; exact ⟨h1, h2⟩
theorem KV.put {kvs : List (κ × V)} {vs : List (κ × Value)} (r : KV kvs vs) (k : κ) {y : V} {u : Value} (ry : RelV y u) : KV (putK kvs k y) (stored vs k u) := by
 unfold putK stored
 rw [r.any k]
 by_cases e : (vs.any fun kv => decide (kv.1 = k)) = true
 · rw [if_pos e, if_pos e]; exact r.repl k ry
 · rw [if_neg e, if_neg e]; exact Paired.snoc r ⟨rfl, ry⟩
theorem KV.drop {kvs : List (κ × V)} {vs : List (κ × Value)} (r : KV kvs vs) (k : κ) : KV (dropK kvs k) (without vs k) := by
 unfold KV at r ⊢
 unfold dropK without
 induction r with
 | nil => exact .nil
 | @cons p q ps qs h t ih =>
   obtain ⟨h1, h2⟩ := h
   rw [List.filter_cons, List.filter_cons]
   by_cases e : p.1 = k
   · have a : ¬ decide (p.1 ≠ k) = true := by simp [e]
     have b : ¬ decide (q.1 ≠ k) = true := by simp [h1.symm.trans e]
     rw [if_neg a, if_neg b]; exact ih
   · have e' : ¬ q.1 = k := fun z => e (h1.trans z)
     have a : decide (p.1 ≠ k) = true := by simp [e]
     have b : decide (q.1 ≠ k) = true := by simp [e']
     rw [if_pos a, if_pos b]; exact .cons ⟨h1, h2⟩ ih
theorem KV.keys {kvs : List (κ × V)} {vs : List (κ × Value)} (r : KV kvs vs) : kvs.map (·.1) = vs.map (·.1) := by
 unfold KV at r
 induction r with
 | nil => rfl
 | cons h t ih => rw [List.map_cons, List.map_cons, ih, h.1]
theorem KV.length {kvs : List (κ × V)} {vs : List (κ × Value)} (r : KV kvs vs) : kvs.length = vs.length := Paired.length r
end
theorem kV_is {P : Program} {w : World} {k : Key} {u : Value} (r : RelV (kV k) u) : (mixKind P w).is k u = true := by
 cases k with
 | inl i => obtain ⟨t, e⟩ := (show ∃ t, u = Value.int i t from r); subst e; exact mixKind_int P w i t
 | inr x => obtain ⟨t, e⟩ := (show ∃ t, u = Value.str x t from r); subst e; exact mixKind_str P w x t
theorem items_are {P : Program} {w : World} : ∀ {ks : List Key} {us : List Value}, Vals (ks.map kV) us → ItemsAre (mixKind P w) ks us
 | [], _, r => by rw [List.map_nil] at r; cases r; exact .nil
 | k :: ks, _, r => by
   rw [List.map_cons] at r
   cases r with
   | cons h t => exact .cons (kV_is h) (items_are t)
noncomputable abbrev KT (H : Hp) : List (List Key × V) → List (List Key × Addr × Value) → Prop := Paired fun p q => p.1 = q.1 ∧ H q.2.1 = some (.tup (p.1.map kV)) ∧ RelV p.2 q.2.2
theorem KT.val {H : Hp} {kvs : List (List Key × V)} {xs : List (List Key × Addr × Value)} (r : KT H kvs xs) (k : List Key) : RelO (valV kvs k) ((atKey xs k).map (·.2)) := by
 induction r with
 | nil => exact True.intro
 | @cons p q ps qs h t ih =>
   obtain ⟨h1, _, h2⟩ := h
   by_cases e : p.1 = k
   · have e' : q.1 = k := h1.symm.trans e
     have b : atKey (q :: qs) k = some q.2 := by simp [atKey, List.find?_cons, e']
     rw [valV_pos e, b]; exact h2
   · have e' : ¬ q.1 = k := fun z => e (h1.trans z)
     have b : atKey (q :: qs) k = atKey qs k := by simp [atKey, List.find?_cons, e']
     rw [valV_neg e, b]; exact ih
theorem KT.repl {H : Hp} {kvs : List (List Key × V)} {xs : List (List Key × Addr × Value)} (r : KT H kvs xs) (k : List Key) {y : V} {u : Value} (ry : RelV y u) :
   KT H (kvs.map fun kv => if kv.1 = k then (kv.1, y) else kv) (xs.map (putAt k u)) := by
 induction r with
 | nil => exact .nil
 | @cons p q ps qs h t ih =>
   rw [List.map_cons, List.map_cons]
   refine .cons ?_ ih
   obtain ⟨h1, h2, h3⟩ := h
   unfold putAt
   by_cases e : p.1 = k
   · rw [if_pos e, if_pos (h1.symm.trans e)]; exact ⟨h1, h2, ry⟩
   · rw [if_neg e, if_neg (fun z => e (h1.trans z))]; exact ⟨h1, h2, h3⟩
theorem KT.put {H : Hp} {kvs : List (List Key × V)} {xs : List (List Key × Addr × Value)} (r : KT H kvs xs) (k : List Key) {b : Addr} {y : V} {u : Value} (hb : H b = some (.tup (k.map kV))) (ry : RelV y u) :
   KT H (putK kvs k y) (storedH xs k b u) := by
 have e : (kvs.any fun kv => decide (kv.1 = k)) = (atKey xs k).isSome := by
   rw [valV_any, (r.val k).isSome_eq, Option.isSome_map]
 unfold putK storedH
 rw [e]
 by_cases q : (atKey xs k).isSome = true
 · rw [if_pos q, if_pos q]; exact r.repl k ry
 · rw [if_neg q, if_neg q]; exact Paired.snoc r ⟨rfl, hb, ry⟩
theorem KT.keeps {H H' : Hp} {kvs : List (List Key × V)} {xs : List (List Key × Addr × Value)} (r : KT H kvs xs) (ht : ∀ b ys, H b = some (.tup ys) → H' b = some (.tup ys)) : KT H' kvs xs :=
 Paired.mapP r fun _ _ z => ⟨z.1, ht _ _ z.2.1, z.2.2⟩
section
variable {P : Program} {w : World} {H : Hp} {h : Heap} {a : Addr}
theorem rd_of {u : HO} (ok : HOk P w H h) (e : Rd H a u) : ObjOk P w H h a u := e.ok ok
theorem dk_rd {kvs : List (Key × V)} (ok : HOk P w H h) (e : Rd H a (.dK kvs)) : kvs.length ≤ sizeLine ∧ (a == sysModules) = false ∧ ∃ vs, KV kvs vs ∧ h.DictOf (mixKind P w) a vs :=
 show ObjOk P w H h a (.dK kvs) from rd_of ok e
theorem dk_of {kvs : List (Key × V)} (ok : HOk P w H h) (e : H a = some (.dK kvs)) : kvs.length ≤ sizeLine ∧ (a == sysModules) = false ∧ ∃ vs, KV kvs vs ∧ h.DictOf (mixKind P w) a vs := dk_rd ok (.inl e)
theorem key_of {ks : List Key} (ok : HOk P w H h) (e : H a = some (.tup (ks.map kV))) : (tupleKind (mixKind P w)).is h ks a := by
 obtain ⟨_, its, r, o, h1, h2, n, h3⟩ := (show ObjOk P w H h a (.tup (ks.map kV)) from ok a _ e)
 exact ⟨o, its.toArray, n, h1, h2, h3, by simpa using items_are r⟩
theorem dt_rd {kvs : List (List Key × V)} (ok : HOk P w H h) (e : Rd H a (.dT kvs)) : kvs.length ≤ sizeLine ∧ (a == sysModules) = false ∧
   ∃ xs, KT H kvs xs ∧ h.DictOfH (tupleKind (mixKind P w)) a xs := by
 obtain ⟨z, y, xs, r, o, es, ep, h1, h2, h3, h4, h5⟩ := (show ObjOk P w H h a (.dT kvs) from rd_of ok e)
 refine ⟨z, y, xs, r, o, es, ep, h1, h2, h3, h4, fun x hx => ?_, h5⟩
 have all : ∀ {l : List (List Key × V)} {m : List (List Key × Addr × Value)}, KT H l m → ∀ x ∈ m, (tupleKind (mixKind P w)).is h x.1 x.2.1 := by
   intro l m q
   induction q with
   | nil => intro x hx; exact nomatch hx
   | @cons p q ps qs hq t ih =>
     intro x hx
     rcases List.mem_cons.mp hx with e | hx
     · subst e
       exact key_of ok (by rw [← hq.1]; exact hq.2.1)
     · exact ih x hx
 exact all r x hx
theorem dt_of {kvs : List (List Key × V)} (ok : HOk P w H h) (e : H a = some (.dT kvs)) : kvs.length ≤ sizeLine ∧ (a == sysModules) = false ∧
   ∃ xs, KT H kvs xs ∧ h.DictOfH (tupleKind (mixKind P w)) a xs := dt_rd ok (.inl e)
end
noncomputable def DGet (H : Hp) (a : Addr) (y : V) (r : Option V) : Prop :=
 (∃ kvs k, Rd H a (.dK kvs) ∧ y = kV k ∧ r = valV kvs k) ∨ ∃ kvs k b, Rd H a (.dT kvs) ∧ y = .ref b ∧ H b = some (.tup (k.map kV)) ∧ r = valV kvs k
noncomputable def DPut (H : Hp) (a : Addr) (y v : V) (H' : Hp) : Prop :=
 (∃ kvs k, H a = some (.dK kvs) ∧ y = kV k ∧ kvs.length < sizeLine ∧ H' = upd H a (.dK (putK kvs k v))) ∨
 ∃ kvs k b, H a = some (.dT kvs) ∧ y = .ref b ∧ H b = some (.tup (k.map kV)) ∧ kvs.length < sizeLine ∧ H' = upd H a (.dT (putK kvs k v))
theorem DGet.k {H : Hp} {a : Addr} {kvs : List (Key × V)} {k : Key} (e : H a = some (.dK kvs)) : DGet H a (kV k) (valV kvs k) := .inl ⟨kvs, k, .inl e, rfl, rfl⟩
theorem DGet.t {H : Hp} {a b : Addr} {kvs : List (List Key × V)} {k : List Key} (e : H a = some (.dT kvs)) (eb : H b = some (.tup (k.map kV))) : DGet H a (.ref b) (valV kvs k) := .inr ⟨kvs, k, b, .inl e, rfl, eb, rfl⟩
theorem DPut.k {H : Hp} {a : Addr} {kvs : List (Key × V)} {k : Key} {v : V} (e : H a = some (.dK kvs)) (hl : kvs.length < sizeLine) : DPut H a (kV k) v (upd H a (.dK (putK kvs k v))) := .inl ⟨kvs, k, e, rfl, hl, rfl⟩
theorem DPut.t {H : Hp} {a b : Addr} {kvs : List (List Key × V)} {k : List Key} {v : V} (e : H a = some (.dT kvs)) (eb : H b = some (.tup (k.map kV))) (hl : kvs.length < sizeLine) :
   DPut H a (.ref b) v (upd H a (.dT (putK kvs k v))) := .inr ⟨kvs, k, b, e, rfl, eb, hl, rfl⟩
section
variable {X : Cx} {pins : List (Addr × Obj)} {σ : St} {H : Hp} {s : Shared} {a : Addr} {y v : V} {u r : Value} {o : Option V} {A : Around} {E : Value → Shared → Prop}
theorem Inv.big (I : Inv X pins σ H s) : sysModules < s.heap.objs.size := by
 have h : mainGlobals < s.heap.objs.size := (I.mod.glob.keeps I.bk).lt
 exact Nat.lt_trans (by decide) h
theorem d_getItem {Q : Value → Shared → Prop} (hu : A.units + 1 < cLine) (I : Inv X pins σ H s) (g : DGet H a y (some v)) (ry : RelV y u) (h : ∀ w' s', Inv X pins σ H s' → RelV v w' → Q w' s') :
   wpAny (model X.prog X.w) A (getItem (.ref a) u) Q E s := by
 rcases g with ⟨kvs, k, e, ey, l⟩ | ⟨kvs, k, b, e, ey, eb, l⟩
 · subst ey
   obtain ⟨z, hd, vs, rel, dd⟩ := dk_rd I.hok e
   obtain ⟨w', hw, rw'⟩ := RelO.some_of (v := v) (o := valueAt vs k) (by rw [l]; exact rel.val k)
   exact wpAny_getItem_of (kV_is ry) dd.mapOf hw (h w' _ (I.tok _) rw')
 · subst ey
   cases (show u = Value.ref b from ry)
   obtain ⟨z, hd, xs, rel, dd⟩ := dt_rd I.hok e
   obtain ⟨w', hw, rw'⟩ := RelO.some_of (v := v) (o := (atKey xs k).map (·.2)) (by rw [l]; exact rel.val k)
   obtain ⟨p, hp, hp2⟩ := Option.map_eq_some_iff.mp hw
   refine wpAny_getItem_heap (tupleKind_room_in1 hu) (key_of I.hok eb) dd hp ?_
   rw [hp2]
   exact h w' _ (I.tok _) rw'
theorem d_in {Q : Value → Shared → Prop} (hu : A.units + 1 < cLine) (I : Inv X pins σ H s) (g : DGet H a y o) (ry : RelV y u) (h : ∀ s', Inv X pins σ H s' → Q (.bool o.isSome) s') :
   wpAny (model X.prog X.w) A (compareOp .In u (.ref a)) Q E s := by
 rcases g with ⟨kvs, k, e, ey, l⟩ | ⟨kvs, k, b, e, ey, eb, l⟩
 · subst ey
   obtain ⟨z, hd, vs, rel, dd⟩ := dk_rd I.hok e
   refine wpAny_in_of (kV_is ry) hd dd.mapOf ?_
   rw [← (rel.val k).isSome_eq, ← l]
   exact h _ (I.tok _)
 · subst ey
   cases (show u = Value.ref b from ry)
   obtain ⟨z, hd, xs, rel, dd⟩ := dt_rd I.hok e
   refine wpAny_in_heap (tupleKind_room_in1 hu) (key_of I.hok eb) hd dd ?_
   have q := (rel.val k).isSome_eq
   rw [Option.isSome_map] at q
   rw [← q, ← l]
   exact h _ (I.tok _)
theorem d_notIn {Q : Value → Shared → Prop} (hu : A.units + 1 < cLine) (I : Inv X pins σ H s) (g : DGet H a y o) (ry : RelV y u) (h : ∀ s', Inv X pins σ H s' → Q (.bool (!o.isSome)) s') :
   wpAny (model X.prog X.w) A (compareOp .NotIn u (.ref a)) Q E s := by
 rcases g with ⟨kvs, k, e, ey, l⟩ | ⟨kvs, k, b, e, ey, eb, l⟩
 · subst ey
   obtain ⟨z, hd, vs, rel, dd⟩ := dk_rd I.hok e
   refine wpAny_notIn_of (kV_is ry) hd dd.mapOf ?_
   rw [← (rel.val k).isSome_eq, ← l]
   exact h _ (I.tok _)
 · subst ey
   cases (show u = Value.ref b from ry)
   obtain ⟨z, hd, xs, rel, dd⟩ := dt_rd I.hok e
   refine wpAny_notIn_heap (tupleKind_room_in1 hu) (key_of I.hok eb) hd dd ?_
   have q := (rel.val k).isSome_eq
   rw [Option.isSome_map] at q
   rw [← q, ← l]
   exact h _ (I.tok _)
theorem d_write {h' : Heap} {t' : Nat} {ob : HO} (I : Inv X pins σ H s) (mu : Mut (H a)) (hs : Heap.SameBut a s.heap h') (he : ∃ q, h'.get? a = some q) (new : ObjOk X.prog X.w (upd H a ob) h' a ob) :
   Inv X pins σ (upd H a ob) { s with heap := h', toks := t' } :=
 I.write (x := a) (e := a) mu (.inl rfl) (fun b q hb z => (hs.2 b hb).trans z) he new
theorem dk_new {P : Program} {w : World} {H' : Hp} {h' : Heap} {kvs : List (Key × V)} {vs : List (Key × Value)} (z : kvs.length ≤ sizeLine) (hd : (a == sysModules) = false) (rel : KV kvs vs) (dd : h'.DictOf (mixKind P w) a vs) :
   ObjOk P w H' h' a (.dK kvs) := ⟨z, hd, vs, rel, dd⟩
theorem d_setItem {H' : Hp} {Q : Unit → Shared → Prop} (hu : A.units + 1 < cLine) (I : Inv X pins σ H s) (g : DPut H a y v H') (ry : RelV y u) (rv : RelV v r) (h : ∀ s', Inv X pins σ H' s' → Q () s') :
   wpAny (model X.prog X.w) A (setItem (.ref a) u r) Q E s := by
 rcases g with ⟨kvs, k, e, ey, l, eH⟩ | ⟨kvs, k, b, e, ey, eb, l, eH⟩
 · subst ey eH
   obtain ⟨z, hd, vs, rel, dd⟩ := dk_of I.hok e
   have hz : vs.length ≤ sizeLine := by rw [← rel.length]; exact z
   have hl : (putK kvs k v).length ≤ sizeLine := by have := length_putK kvs k v; omega
   refine wpAny_setItem_pairs (hsz := hz) (kV_is ry) dd fun h' dd' hs => h _ ?_
   have he : ∃ q, h'.get? a = some q := let ⟨q, _, _, hq, _⟩ := dd'; ⟨q, hq⟩
   exact d_write I (by rw [e]; exact True.intro) hs he (dk_new hl hd (rel.put k rv) dd')
 · subst ey eH
   cases (show u = Value.ref b from ry)
   obtain ⟨z, hd, xs, rel, dd⟩ := dt_of I.hok e
   have hz : xs.length ≤ sizeLine := by rw [← Paired.length rel]; exact z
   have hl : (putK kvs k v).length ≤ sizeLine := by have := length_putK kvs k v; omega
   refine wpAny_setItem_heap (hsz := hz) (tupleKind_room_in1 hu) (key_of I.hok eb) dd fun h' dd' hs => h _ ?_
   obtain ⟨q, es, ep, hq, h2, h3, h4, _, h5⟩ := dd'
   refine d_write I (by rw [e]; exact True.intro) hs ⟨q, hq⟩ ⟨hl, hd, _, (rel.put k eb rv).keeps fun c ys ec => ?_, q, es, ep, hq, h2, h3, h4, h5⟩
   rw [upd_ne (ne_of ec e (fun z => nomatch z))]
   exact ec
end
section
variable {X : Cx} {pins : List (Addr × Obj)} {σ : St} {H : Hp} {s : Shared} {a : Addr} {kvs : List (Key × V)} {k : Key} {u : Value} {A : Around} {E : Value → Shared → Prop}
end
theorem dict_typeIs {X : Cx} {pins : List (Addr × Obj)} {σ : St} {H : Hp} {s : Shared} {a : Addr} {y : V} {o : Option V} (I : Inv X pins σ H s) (g : DGet H a y o) : s.TypeIs (.ref a) "dict" := by
 rcases g with ⟨kvs, k, e, _, _⟩ | ⟨kvs, k, b, e, _, _, _⟩
 · obtain ⟨_, _, vs, _, dd⟩ := dk_rd I.hok e
   exact dd.typeIs
 · obtain ⟨_, _, xs, _, dd⟩ := dt_rd I.hok e
   exact dd.typeIs
section
variable {X : Cx} {o i e value : Expr} {pos pos' tpos : Pos} {td ty tv : TE}
end
theorem dk_empty {P : Program} {w : World} {H : Hp} (h : Heap) (hb : sysModules < h.objs.size) : ObjOk P w H (h.push { cls := .type "dict", data := .dict #[] }) h.objs.size (.dK []) :=
 ⟨Nat.zero_le _, beq_eq_false_iff_ne.mpr (Ne.symm (Nat.ne_of_lt hb)), [], .nil, Heap.DictOf.new h⟩
noncomputable def tDNewK : TE := fun _ H Q => ∀ p, H p = none → Q (.ref p) (upd H p (.dK []))
section
variable {X : Cx} {pos : Pos}
theorem pe_dnewK : PE X (.Dict [] [] pos) tDNewK := fun pins s σ H Q I h =>
 wpAny_Dict_empty ⟨.ref s.heap.objs.size, _, I.laid (a := s.heap.objs.size) (o := .dK []) (t' := s.toks) (fun _ _ q => Heap.get?_push_of_some _ q) (Nat.le_refl _) (dk_empty s.heap I.big), rfl, h _ (I.hok.fresh (Nat.le_refl _))⟩
end
noncomputable def tPairs : List (TE × TE) → St → Hp → (List (V × V) → Hp → Prop) → Prop
 | [], _, H, Q => Q [] H
 | (tk, tv) :: r, σ, H, Q => tk σ H fun x H1 => tv σ H1 fun y H2 => tPairs r σ H2 fun ps H3 => Q ((x, y) :: ps) H3
noncomputable abbrev VV : List (V × V) → List (Value × Value) → Prop := Paired fun p q => RelV p.1 q.1 ∧ RelV p.2 q.2
noncomputable def PPs (X : Cx) (pos : Pos) (keys : List (Option Expr)) (values : List Expr) (trs : List (TE × TE)) : Prop :=
 ∀ (pins : List (Addr × Obj)) (s : Shared) (σ : St) (H : Hp) (Q : List (V × V) → Hp → Prop), Inv X pins σ H s → tPairs trs σ H Q →
   wpAny (model X.prog X.w) X.A (evalPairs (pairTrees keys values X.env pos)) (fun vs s' => ∃ ps H', Inv X pins σ H' s' ∧ VV ps vs ∧ Q ps H') X.xe s
section
variable {X : Cx} {pins : List (Addr × Obj)} {σ : St} {H : Hp} {s : Shared} {a : Addr} {y d : V} {u r : Value} {o : Option V} {A : Around} {E : Value → Shared → Prop}
end
section
variable {X : Cx} {o e f : Expr} {apos cpos : Pos} {td ty tx : TE}
end
section
variable {X : Cx} {pins : List (Addr × Obj)} {σ : St} {H : Hp} {s : Shared} {a : Addr} {kvs : List (Key × V)} {A : Around} {E : Value → Shared → Prop}
end
section
variable {X : Cx} {pins : List (Addr × Obj)} {σ : St} {H : Hp} {s : Shared} {a : Addr} {y : V} {u : Value} {A : Around} {E : Value → Shared → Prop}
end
end L2
end
section
namespace Mi
open PySem PySem.Spec PyProof.Rows L2
inductive TK where
 | non | int (i : Int) | tup (xs : List TK)
mutual
noncomputable def TK.same : TK → TK → Bool
 | .non, .non => true
 | .int a, .int b => decide (a = b)
 | .tup xs, .tup ys => TK.sames xs ys
 | _, _ => false
noncomputable def TK.sames : List TK → List TK → Bool
 | [], [] => true
 | x :: xs, y :: ys => TK.same x y && TK.sames xs ys
 | _, _ => false
end
mutual
theorem TK.same_eq : ∀ {a b : TK}, TK.same a b = true → a = b
 | .non, .non, _ => rfl
 | .int a, .int b, h => by simp [TK.same] at h; rw [h]
 | .tup xs, .tup ys, h => by rw [TK.same] at h; rw [TK.sames_eq h]
 | .non, .int _, h => by simp [TK.same] at h
 | .non, .tup _, h => by simp [TK.same] at h
 | .int _, .non, h => by simp [TK.same] at h
 | .int _, .tup _, h => by simp [TK.same] at h
 | .tup _, .non, h => by simp [TK.same] at h
 | .tup _, .int _, h => by simp [TK.same] at h
theorem TK.sames_eq : ∀ {a b : List TK}, TK.sames a b = true → a = b
 | [], [], _ => rfl
 | x :: xs, y :: ys, h => by
   rw [TK.sames, Bool.and_eq_true] at h
   rw [TK.same_eq h.1, TK.sames_eq h.2]
 | [], _ :: _, h => by simp [TK.sames] at h
 | _ :: _, [], h => by simp [TK.sames] at h
end
mutual
theorem TK.same_refl : ∀ a : TK, TK.same a a = true
 | .non => rfl
 | .int a => by simp [TK.same]
 | .tup xs => by rw [TK.same]; exact TK.sames_refl xs
theorem TK.sames_refl : ∀ a : List TK, TK.sames a a = true
 | [] => rfl
 | x :: xs => by rw [TK.sames, TK.same_refl x, TK.sames_refl xs]; rfl
end
noncomputable instance : DecidableEq TK := fun a b => if h : TK.same a b = true then isTrue (TK.same_eq h) else isFalse fun e => h (by rw [e]; exact TK.same_refl b)
mutual
noncomputable def TK.hash : TK → Int
 | .non => 0xFCA86420
 | .int i => hashInt i
 | .tup xs => reduceHash (Builtin.Tuple.tupleHashOf (TK.hashes xs))
noncomputable def TK.hashes : List TK → List Int
 | [] => []
 | x :: xs => TK.hash x :: TK.hashes xs
end
mutual
noncomputable def TK.draws : TK → Nat
 | .non => 1
 | .int _ => 1
 | .tup xs => TK.drawsAll xs + 1
noncomputable def TK.drawsAll : List TK → Nat
 | [] => 0
 | x :: xs => TK.draws x + TK.drawsAll xs
end
mutual
noncomputable def TK.dep : TK → Nat
 | .non => 0
 | .int _ => 0
 | .tup xs => TK.depAll xs + 1
noncomputable def TK.depAll : List TK → Nat
 | [] => 0
 | x :: xs => max (TK.dep x) (TK.depAll xs)
end
theorem TK.dep_mem : ∀ {xs : List TK} {x : TK}, x ∈ xs → x.dep ≤ TK.depAll xs
 | y :: ys, x, h => by
   rw [TK.depAll]
   rcases List.mem_cons.mp h with e | e
   · rw [e]; exact Nat.le_max_left _ _
   · exact Nat.le_trans (TK.dep_mem e) (Nat.le_max_right _ _)
theorem TK.hashes_app : ∀ a b : List TK, TK.hashes (a ++ b) = TK.hashes a ++ TK.hashes b
 | [], _ => rfl
 | x :: xs, b => by rw [List.cons_append, TK.hashes, TK.hashes, TK.hashes_app xs b]; rfl
theorem TK.draws_app : ∀ a b : List TK, TK.drawsAll (a ++ b) = TK.drawsAll a + TK.drawsAll b
 | [], _ => by simp [TK.drawsAll]
 | x :: xs, b => by rw [List.cons_append, TK.drawsAll, TK.drawsAll, TK.draws_app xs b, Nat.add_assoc]
end Mi
end
section
namespace Mi
open PySem PySem.Spec PyProof.Rows L2
inductive D where
 | non | bl (b : Bool) | int (i : Int) | str (x : Str) | tup (xs : List D) | rol (xs : List D) | ref (n : Nat)
inductive Ob where
 | lst (xs : List D) | dct (kvs : List (Key × D)) | dcT (kvs : List (TK × D)) | iset (xs : List Int) | dcF (kvs : List (TK × D))
noncomputable abbrev Sto := List Ob
noncomputable abbrev Ev := List (Option D)
noncomputable abbrev FE := Ev → Sto → Option (D × Sto)
noncomputable abbrev FT := Ev → Sto → Option (Bool × Sto)
noncomputable abbrev FA := Ev → Sto → Option (List D × Sto)
noncomputable abbrev FN := List D → Sto → Option (D × Sto)
inductive Fl where
 | nx | rt (d : D) | bk | ct
noncomputable abbrev FS := Ev → Sto → Option (Fl × Ev × Sto)
noncomputable def RoL (K : PySem.W.Frag) (H : Hp) (a : Addr) (xs : List V) : Prop := (∃ o, H a = some (.frz o (.lst xs))) ∨
 ∃ (o : Obj) (its : Array Value) (n : Nat), K.lookup a = some o ∧ o.cls = .type "list" ∧ o.dict = none ∧ o.data = .seq its n ∧ its.size ≤ sizeLine ∧ Vals xs its.toList
theorem RoL.sq {K : PySem.W.Frag} {H : Hp} {a : Addr} {xs : List V} (h : RoL K H a xs) : SqL K H a xs := h.elim (fun ⟨o, q⟩ => .inl (.inr ⟨o, q⟩)) .inr
mutual
inductive Rep (K : PySem.W.Frag) (H : Hp) (mu : List Addr) : D → V → Prop
 | non : Rep K H mu .non .non
 | bl (b : Bool) : Rep K H mu (.bl b) (.bl b)
 | int (i : Int) : Rep K H mu (.int i) (.int i)
 | str (x : Str) : Rep K H mu (.str x) (.str x)
 | tup {ds : List D} {vs : List V} {a : Addr} (h : SqT K H a vs) (r : Reps K H mu ds vs) : Rep K H mu (.tup ds) (.ref a)
 | rol {ds : List D} {vs : List V} {a : Addr} (h : RoL K H a vs) (r : Reps K H mu ds vs) : Rep K H mu (.rol ds) (.ref a)
 | ref {n : Nat} {a : Addr} (h : mu[n]? = some a) : Rep K H mu (.ref n) (.ref a)
inductive Reps (K : PySem.W.Frag) (H : Hp) (mu : List Addr) : List D → List V → Prop
 | nil : Reps K H mu [] []
 | cons {d : D} {v : V} {ds : List D} {vs : List V} (r : Rep K H mu d v) (t : Reps K H mu ds vs) : Reps K H mu (d :: ds) (v :: vs)
end
structure Ext (mu mu' : List Addr) (H H' : Hp) : Prop where
 pre : mu <+: mu'
 old : ∀ a o, H a = some o → a ∉ mu → H' a = some o
 tup : ∀ a xs, Rd H a (.tup xs) → Rd H' a (.tup xs)
 frz : ∀ a o u, H a = some (.frz o u) → H' a = some (.frz o u)
 new : ∀ a ∈ mu', a ∈ mu ∨ H a = none
theorem Ext.refl (mu : List Addr) (H : Hp) : Ext mu mu H H := ⟨List.prefix_rfl, fun _ _ h _ => h, fun _ _ h => h, fun _ _ _ h => h, fun _ h => .inl h⟩
theorem Ext.trans {mu m1 m2 : List Addr} {H H1 H2 : Hp} (a : Ext mu m1 H H1) (b : Ext m1 m2 H1 H2) : Ext mu m2 H H2 where
 pre := a.pre.trans b.pre
 old := fun c o h n => b.old c o (a.old c o h n) fun z => by
   rcases a.new c z with q | q
   · exact n q
   · rw [h] at q; cases q
 tup := fun c xs h => b.tup c xs (a.tup c xs h)
 frz := fun c o u h => b.frz c o u (a.frz c o u h)
 new := fun c h => by
   rcases b.new c h with q | q
   · exact a.new c q
   · by_cases z : c ∈ mu
     · exact .inl z
     · right
       cases e : H c with
       | none => rfl
       | some o => rw [a.old c o e z] at q; cases q
theorem Ext.at {mu mu' : List Addr} {H H' : Hp} (e : Ext mu mu' H H') {n : Nat} {a : Addr} (h : mu[n]? = some a) : mu'[n]? = some a := by
 obtain ⟨t, rfl⟩ := e.pre
 have hl : n < mu.length := (List.getElem?_eq_some_iff.mp h).1
 rw [List.getElem?_append_left hl]; exact h
theorem Ext.back {mu mu' : List Addr} {H H' : Hp} (e : Ext mu mu' H H') : Ext mu mu H H' := ⟨List.prefix_rfl, e.old, e.tup, e.frz, fun _ h => .inl h⟩
structure Exw (mu mu' : List Addr) (H H' : Hp) : Prop where
 pre : mu <+: mu'
 tup : ∀ a xs, Rd H a (.tup xs) → Rd H' a (.tup xs)
 frz : ∀ a o u, H a = some (.frz o u) → H' a = some (.frz o u)
theorem Ext.w {mu mu' : List Addr} {H H' : Hp} (e : Ext mu mu' H H') : Exw mu mu' H H' := ⟨e.pre, e.tup, e.frz⟩
theorem Exw.trans {mu m1 m2 : List Addr} {H H1 H2 : Hp} (a : Exw mu m1 H H1) (b : Exw m1 m2 H1 H2) : Exw mu m2 H H2 := ⟨a.pre.trans b.pre, fun c xs h => b.tup c xs (a.tup c xs h), fun c o u h => b.frz c o u (a.frz c o u h)⟩
theorem Exw.at {mu mu' : List Addr} {H H' : Hp} (e : Exw mu mu' H H') {n : Nat} {a : Addr} (h : mu[n]? = some a) : mu'[n]? = some a := by
 obtain ⟨t, rfl⟩ := e.pre
 have hl : n < mu.length := (List.getElem?_eq_some_iff.mp h).1
 rw [List.getElem?_append_left hl]; exact h
structure Exv (mu mu' : List Addr) (H H' : Hp) : Prop where
 pre : mu <+: mu'
 tup : ∀ a xs, Rd H a (.tup xs) → Rd H' a (.tup xs)
 frl : ∀ a o xs, H a = some (.frz o (.lst xs)) → H' a = some (.frz o (.lst xs))
theorem Exw.v {mu mu' : List Addr} {H H' : Hp} (e : Exw mu mu' H H') : Exv mu mu' H H' := ⟨e.pre, e.tup, fun a o xs h => e.frz a o _ h⟩
theorem Ext.v {mu mu' : List Addr} {H H' : Hp} (e : Ext mu mu' H H') : Exv mu mu' H H' := e.w.v
theorem Exv.at {mu mu' : List Addr} {H H' : Hp} (e : Exv mu mu' H H') {n : Nat} {a : Addr} (h : mu[n]? = some a) : mu'[n]? = some a := by
 obtain ⟨t, rfl⟩ := e.pre
 have hl : n < mu.length := (List.getElem?_eq_some_iff.mp h).1
 rw [List.getElem?_append_left hl]; exact h
theorem SqT.exv {K : PySem.W.Frag} {mu mu' : List Addr} {H H' : Hp} {a : Addr} {vs : List V} (e : Exv mu mu' H H') (h : SqT K H a vs) : SqT K H' a vs := by
 rcases h with h | h
 · exact .inl (e.tup a vs h)
 · exact .inr h
theorem RoL.exv {K : PySem.W.Frag} {mu mu' : List Addr} {H H' : Hp} {a : Addr} {vs : List V} (e : Exv mu mu' H H') (h : RoL K H a vs) : RoL K H' a vs := by
 rcases h with ⟨o, h⟩ | h
 · exact .inl ⟨o, e.frl a o _ h⟩
 · exact .inr h
mutual
theorem Rep.exv {K : PySem.W.Frag} {mu mu' : List Addr} {H H' : Hp} (e : Exv mu mu' H H') : ∀ {d : D} {v : V}, Rep K H mu d v → Rep K H' mu' d v
 | _, _, .non => .non
 | _, _, .bl b => .bl b
 | _, _, .int i => .int i
 | _, _, .str x => .str x
 | _, _, .tup h r => .tup (SqT.exv e h) (Reps.exv e r)
 | _, _, .rol h r => .rol (RoL.exv e h) (Reps.exv e r)
 | _, _, .ref h => .ref (e.at h)
theorem Reps.exv {K : PySem.W.Frag} {mu mu' : List Addr} {H H' : Hp} (e : Exv mu mu' H H') : ∀ {ds : List D} {vs : List V}, Reps K H mu ds vs → Reps K H' mu' ds vs
 | _, _, .nil => .nil
 | _, _, .cons r t => .cons (Rep.exv e r) (Reps.exv e t)
end
section
variable {K : PySem.W.Frag} {mu mu' : List Addr} {H H' : Hp} {a : Addr} {vs : List V}
theorem Rep.exw (e : Exw mu mu' H H') {d : D} {v : V} (h : Rep K H mu d v) : Rep K H' mu' d v := h.exv e.v
theorem Reps.exw (e : Exw mu mu' H H') {ds : List D} (h : Reps K H mu ds vs) : Reps K H' mu' ds vs := h.exv e.v
theorem Rep.ext (e : Ext mu mu' H H') {d : D} {v : V} (h : Rep K H mu d v) : Rep K H' mu' d v := h.exv e.v
theorem Reps.ext (e : Ext mu mu' H H') {ds : List D} (h : Reps K H mu ds vs) : Reps K H' mu' ds vs := h.exv e.v
end
section
variable {K : PySem.W.Frag} {H : Hp} {mu : List Addr}
theorem Reps.length : ∀ {ds : List D} {vs : List V}, Reps K H mu ds vs → ds.length = vs.length
 | _, _, .nil => rfl
 | _, _, .cons _ t => congrArg (· + 1) (Reps.length t)
theorem Reps.get : ∀ {ds : List D} {vs : List V} {i : Nat} {d : D}, Reps K H mu ds vs → ds[i]? = some d → ∃ v, vs[i]? = some v ∧ Rep K H mu d v
 | _, _, _, _, .nil, e => by simp at e
 | _, _, 0, _, .cons r _, e => by simp at e; subst e; exact ⟨_, rfl, r⟩
 | _, _, i + 1, d, .cons _ t, e => by
   obtain ⟨u, h1, h2⟩ := Reps.get (i := i) (d := d) t (by simpa using e)
   exact ⟨u, by simpa using h1, h2⟩
theorem Reps.getV : ∀ {ds : List D} {vs : List V} {i : Nat} {v : V}, Reps K H mu ds vs → vs[i]? = some v → ∃ d, ds[i]? = some d ∧ Rep K H mu d v
 | _, _, _, _, .nil, e => by simp at e
 | _, _, 0, _, .cons r _, e => by simp at e; subst e; exact ⟨_, rfl, r⟩
 | _, _, i + 1, d, .cons _ t, e => by
   obtain ⟨u, h1, h2⟩ := Reps.getV (i := i) (v := d) t (by simpa using e)
   exact ⟨u, by simpa using h1, h2⟩
theorem Reps.append : ∀ {ds es : List D} {vs ws : List V}, Reps K H mu ds vs → Reps K H mu es ws → Reps K H mu (ds ++ es) (vs ++ ws)
 | _, _, _, _, .nil, s => s
 | _, _, _, _, .cons r t, s => .cons r (Reps.append t s)
theorem Reps.take : ∀ {ds : List D} {vs : List V} (n : Nat), Reps K H mu ds vs → Reps K H mu (ds.take n) (vs.take n)
 | _, _, 0, _ => .nil
 | _, _, _ + 1, .nil => .nil
 | _, _, n + 1, .cons r t => .cons r (Reps.take n t)
theorem Reps.drop : ∀ {ds : List D} {vs : List V} (n : Nat), Reps K H mu ds vs → Reps K H mu (ds.drop n) (vs.drop n)
 | _, _, 0, r => r
 | _, _, _ + 1, .nil => .nil
 | _, _, n + 1, .cons _ t => Reps.drop n t
theorem Reps.set {d : D} {v : V} (r : Rep K H mu d v) : ∀ {ds : List D} {vs : List V} (i : Nat), Reps K H mu ds vs → Reps K H mu (ds.set i d) (vs.set i v)
 | _, _, _, .nil => .nil
 | _, _, 0, .cons _ t => .cons r t
 | _, _, i + 1, .cons q t => .cons q (Reps.set r i t)
end
noncomputable def KR {κ : Type} (K : PySem.W.Frag) (H : Hp) (mu : List Addr) : List (κ × D) → List (κ × V) → Prop := Paired fun p q => p.1 = q.1 ∧ Rep K H mu p.2 q.2
mutual
noncomputable def tkD : TK → D
 | .non => .non
 | .int i => .int i
 | .tup xs => .tup (tkDs xs)
noncomputable def tkDs : List TK → List D
 | [] => []
 | x :: xs => tkD x :: tkDs xs
end
noncomputable def DictAt (a : Addr) (xs : List (TK × Addr × Value)) (h : Heap) : Prop := (a == sysModules) = false ∧ (xs.map (·.1)).Nodup ∧ ∃ o es ep, h.get? a = some o ∧ o.ExactDict ∧ o.data = .dict es ep ∧ es.toList = xs.map fun x => (⟨x.1.hash, .ref x.2.1, x.2.2⟩ : DictEntry)
noncomputable def DictO (a : Addr) (xs : List (TK × Addr × Value)) (o : Obj) : Prop := (a == sysModules) = false ∧ (xs.map (·.1)).Nodup ∧ o.ExactDict ∧ ∃ es ep, o.data = .dict es ep ∧ es.toList = xs.map fun x => (⟨x.1.hash, .ref x.2.1, x.2.2⟩ : DictEntry)
noncomputable def KT (K : PySem.W.Frag) (H : Hp) (mu : List Addr) : List (TK × D) → List (TK × Addr × Value) → Prop := Paired fun p q => p.1 = q.1 ∧ p.1.dep ≤ 8 ∧ Rep K H mu (tkD p.1) (.ref q.2.1) ∧ ∃ v, RelV v q.2.2 ∧ Rep K H mu p.2 v
noncomputable def ObR (K : PySem.W.Frag) (H : Hp) (mu : List Addr) (a : Addr) : Ob → Prop
 | .lst ds => ∃ vs, H a = some (.lst vs) ∧ Reps K H mu ds vs
 | .dct kvs => ∃ ws, H a = some (.dK ws) ∧ KR K H mu kvs ws
 | .dcT kvs => ∃ xs, H a = some (.ext (DictAt a xs)) ∧ KT K H mu kvs xs ∧ xs.length ≤ sizeLine
 | .iset xs => H a = some (.set (fun k => xs.contains k) xs.length) ∧ xs.Nodup
 | .dcF kvs => ∃ xs, (∃ o u, H a = some (.frz o u) ∧ DictO a xs o) ∧ KT K H mu kvs xs ∧ xs.length ≤ sizeLine
structure Sim (K : PySem.W.Frag) (H : Hp) (mu : List Addr) (S : Sto) : Prop where
 len : mu.length = S.length
 nd : mu.Nodup
 ob : ∀ (n : Nat) (o : Ob) (a : Addr), S[n]? = some o → mu[n]? = some a → ObR K H mu a o
structure EnvR (K : PySem.W.Frag) (H : Hp) (mu : List Addr) (r : Ev) (σ : L2.St) : Prop where
 len : r.length = σ.length
 val : ∀ (i : Nat) (d : D), r[i]? = some (some d) → ∃ v, σ[i]? = some (some v) ∧ Rep K H mu d v
theorem EnvR.ext {K : PySem.W.Frag} {mu mu' : List Addr} {H H' : Hp} {r : Ev} {σ : L2.St} (e : Ext mu mu' H H') (h : EnvR K H mu r σ) : EnvR K H' mu' r σ := ⟨h.len, fun i d q => by
 obtain ⟨v, e1, r1⟩ := h.val i d q
 exact ⟨v, e1, r1.ext e⟩⟩
theorem KR.ext {κ : Type} {K : PySem.W.Frag} {mu mu' : List Addr} {H H' : Hp} {ks : List (κ × D)} {ws : List (κ × V)} (e : Ext mu mu' H H') (h : KR K H mu ks ws) : KR K H' mu' ks ws :=
 Paired.mapP h fun _ _ z => ⟨z.1, z.2.ext e⟩
theorem KT.ext {K : PySem.W.Frag} {mu mu' : List Addr} {H H' : Hp} {ks : List (TK × D)} {ws : List (TK × Addr × Value)} (e : Ext mu mu' H H') (h : KT K H mu ks ws) : KT K H' mu' ks ws :=
 Paired.mapP h fun _ _ ⟨z, d, k, v, rv, r⟩ => ⟨z, d, k.ext e, v, rv, r.ext e⟩
theorem Sim.nil {K : PySem.W.Frag} {H : Hp} : Sim K H [] [] := ⟨rfl, List.nodup_nil, fun n o a h => by simp at h⟩
theorem Sim.here {K : PySem.W.Frag} {H : Hp} {mu : List Addr} {S : Sto} (s : Sim K H mu S) {a : Addr} (h : a ∈ mu) : ∃ o, H a = some o := by
 obtain ⟨n, hn⟩ := List.getElem?_of_mem h
 have hl : n < S.length := by rw [← s.len]; exact (List.getElem?_eq_some_iff.mp hn).1
 have q := s.ob n _ a (List.getElem?_eq_getElem hl) hn
 cases e : S[n] with
 | lst ds => rw [e] at q; obtain ⟨vs, z, _⟩ := q; exact ⟨_, z⟩
 | dct ks => rw [e] at q; obtain ⟨vs, z, _⟩ := q; exact ⟨_, z⟩
 | dcT ks => rw [e] at q; obtain ⟨vs, z, _⟩ := q; exact ⟨_, z⟩
 | iset xs => rw [e] at q; exact ⟨_, q.1⟩
 | dcF ks => rw [e] at q; obtain ⟨vs, ⟨_, _, z, _⟩, _⟩ := q; exact ⟨_, z⟩
noncomputable def Cont (K : PySem.W.Frag) (mu : List Addr) (H : Hp) (d : D) (S' : Sto) (Q : VK) : Prop := ∀ v H' mu', Ext mu mu' H H' → Rep K H' mu' d v → Sim K H' mu' S' → Q v H'
inductive tM (K : PySem.W.Frag) (m : FE) (σ : L2.St) (H : Hp) (Q : VK) : Prop
 | mk (r : Ev) (mu : List Addr) (S : Sto) (d : D) (S' : Sto) (he : EnvR K H mu r σ) (hs : Sim K H mu S) (hm : m r S = some (d, S')) (hc : Cont K mu H d S' Q)
inductive tMT (K : PySem.W.Frag) (m : FT) (σ : L2.St) (H : Hp) (Q : Bool → Hp → Prop) : Prop
 | mk (r : Ev) (mu : List Addr) (S : Sto) (b : Bool) (S' : Sto) (he : EnvR K H mu r σ) (hs : Sim K H mu S) (hm : m r S = some (b, S')) (hc : ∀ H' mu', Ext mu mu' H H' → Sim K H' mu' S' → Q b H')
inductive tMA (K : PySem.W.Frag) (m : FA) (σ : L2.St) (H : Hp) (Q : List V → Hp → Prop) : Prop
 | mk (r : Ev) (mu : List Addr) (S : Sto) (ds : List D) (S' : Sto) (he : EnvR K H mu r σ) (hs : Sim K H mu S) (hm : m r S = some (ds, S')) (hc : ∀ vs H' mu', Ext mu mu' H H' → Reps K H' mu' ds vs → Sim K H' mu' S' → Q vs H')
noncomputable def tMSC (K : PySem.W.Frag) (mu : List Addr) (H : Hp) (r' : Ev) (S' : Sto) (E : Ends) (f : Fl) : Prop := match f with
 | .nx => ∀ σ' H' mu', Ext mu mu' H H' → EnvR K H' mu' r' σ' → Sim K H' mu' S' → E.nx σ' H'
 | .bk => ∀ σ' H' mu', Ext mu mu' H H' → EnvR K H' mu' r' σ' → Sim K H' mu' S' → E.bk σ' H'
 | .ct => ∀ σ' H' mu', Ext mu mu' H H' → EnvR K H' mu' r' σ' → Sim K H' mu' S' → E.ct σ' H'
 | .rt d => Cont K mu H d S' E.rt
inductive tMS (K : PySem.W.Frag) (m : FS) (E : Ends) (σ : L2.St) (H : Hp) : Prop
 | mk (r : Ev) (mu : List Addr) (S : Sto) (f : Fl) (r' : Ev) (S' : Sto) (he : EnvR K H mu r σ) (hs : Sim K H mu S) (hm : m r S = some (f, r', S')) (hc : tMSC K mu H r' S' E f)
inductive rN (K : PySem.W.Frag) (f : FN) (vs : List V) (H : Hp) (Q : VK) : Prop
 | mk (mu : List Addr) (S : Sto) (ds : List D) (d : D) (S' : Sto) (hr : Reps K H mu ds vs) (hs : Sim K H mu S) (hm : f ds S = some (d, S')) (hc : Cont K mu H d S' Q)
noncomputable abbrev ME (X : Cx) (e : Expr) (m : FE) : Prop := PE X e (tM X.K m)
noncomputable abbrev MT (X : Cx) (e : Expr) (m : FT) : Prop := PT X e (tMT X.K m)
noncomputable abbrev MW (X : Cx) (e : Expr) (m : FT) : Prop := PW X e (tMT X.K m)
noncomputable abbrev MA (X : Cx) (es : List Expr) (m : FA) : Prop := PA X es (tMA X.K m)
noncomputable abbrev MS (X : Cx) (st : Stmt) (m : FS) : Prop := PS X st (tMS X.K m)
noncomputable abbrev MSs (X : Cx) (st : List Stmt) (m : FS) : Prop := PSs X st (tMS X.K m)
section
variable {X : Cx} {e : Expr} {es : List Expr} {st : Stmt} {sts : List Stmt}
theorem pe_imp {t t' : TE} (h : PE X e t) (i : ∀ σ H Q, t' σ H Q → t σ H Q) : PE X e t' := fun pins s σ H Q I q => h pins s σ H Q I (i σ H Q q)
theorem pt_imp {t t' : TT} (h : PT X e t) (i : ∀ σ H Q, t' σ H Q → t σ H Q) : PT X e t' := fun pins s σ H Q I q => h pins s σ H Q I (i σ H Q q)
theorem pw_imp {t t' : TT} (h : PW X e t) (i : ∀ σ H Q, t' σ H Q → t σ H Q) : PW X e t' := fun wh pins s σ H Q I q => h wh pins s σ H Q I (i σ H Q q)
theorem pa_imp {t t' : TA} (h : PA X es t) (i : ∀ σ H Q, t' σ H Q → t σ H Q) : PA X es t' := fun pos pins s σ H Q I q => h pos pins s σ H Q I (i σ H Q q)
theorem ps_imp {t t' : TS} (h : PS X st t) (i : ∀ E σ H, t' E σ H → t E σ H) : PS X st t' := fun pins s σ H E I q => h pins s σ H E I (i E σ H q)
theorem pss_imp {t t' : TS} (h : PSs X sts t) (i : ∀ E σ H, t' E σ H → t E σ H) : PSs X sts t' := fun pins s σ H E I q => h pins s σ H E I (i E σ H q)
end
noncomputable def mV (i : Nat) : FE := fun r S => match r[i]? with
 | some (some d) => some (d, S)
 | _ => none
noncomputable def mC (d : D) : FE := fun _ S => some (d, S)
section
variable {X : Cx} {pos : Pos}
theorem me_var (i : Nat) {x : Str} (hN : X.N[i]? = some x) (hv : Vis X.env.scope x) (hd : (x == ("__debug__" : Str)) = false := by decide) (hcd : (x == ("__classdict__" : Str)) = false := by decide) : ME X (.Name x pos) (mV i) :=
 pe_imp (pe_var hN hv hd hcd) <| by
   rintro σ H Q ⟨r, mu, S, d, S', he, hs, hm, hc⟩
   unfold mV at hm
   split at hm
   · rename_i d' e
     cases hm
     obtain ⟨v, e1, r1⟩ := he.val i _ e
     exact ⟨v, e1, hc v H mu (.refl _ _) r1 hs⟩
   · cases hm
theorem me_c {e : Expr} {v : V} (d : D) (h : PE X e (tC v)) (hr : ∀ H mu, Rep X.K H mu d v) : ME X e (mC d) :=
 pe_imp h <| by
   rintro σ H Q ⟨r, mu, S, d', S', he, hs, hm, hc⟩
   cases hm
   exact hc v H mu (.refl _ _) (hr H mu) hs
theorem me_int {i : Int} {j} : ME X (.Constant (.int i) j pos) (mC (.int i)) := me_c _ pe_int fun _ _ => .int i
theorem me_bl {b : Bool} {j} : ME X (.Constant (.bool b) j pos) (mC (.bl b)) := me_c _ pe_bl fun _ _ => .bl b
theorem me_non {j} : ME X (.Constant .none j pos) (mC .non) := me_c _ pe_non fun _ _ => .non
theorem me_str {x : Str} {j} : ME X (.Constant (.str x) j pos) (mC (.str x)) := me_c _ pe_str fun _ _ => .str x
end
noncomputable def mNil : FA := fun _ S => some ([], S)
noncomputable def mCons (m : FE) (n : FA) : FA := fun r S => (m r S).bind fun p => (n r p.2).bind fun q => some (p.1 :: q.1, q.2)
section
variable {X : Cx} {pos : Pos} {e : Expr} {es : List Expr} {m : FE} {n : FA}
theorem ma_nil : MA X [] mNil := pa_imp pa_nil <| by
 rintro σ H Q ⟨r, mu, S, ds, S', he, hs, hm, hc⟩
 cases hm
 exact hc [] H mu (.refl _ _) .nil hs
theorem ma_cons (h : ME X e m) (ht : MA X es n) (hs : starEach (e :: es) X.env = (false, eval e X.env) :: starEach es X.env := by rfl) : MA X (e :: es) (mCons m n) :=
 pa_imp (pa_cons h ht hs) <| by
   rintro σ H Q ⟨r, mu, S, ds, S', he, hs, hm, hc⟩
   unfold mCons at hm
   obtain ⟨⟨d, S1⟩, e1, hm⟩ := Option.bind_eq_some_iff.mp hm
   obtain ⟨⟨ds1, S2⟩, e2, hm⟩ := Option.bind_eq_some_iff.mp hm
   cases hm
   refine ⟨r, mu, S, d, S1, he, hs, e1, fun v H1 mu1 x1 r1 s1 => ?_⟩
   refine ⟨r, mu1, S1, ds1, _, he.ext x1, s1, e2, fun vs H2 mu2 x2 r2 s2 => ?_⟩
   exact hc _ H2 mu2 (x1.trans x2) (.cons (r1.ext x2) r2) s2
end
noncomputable def m2 (f : FN) (a b : FE) : FE := fun r S => (a r S).bind fun p => (b r p.2).bind fun q => f [p.1, q.1] q.2
noncomputable def m1 (f : FN) (a : FE) : FE := fun r S => (a r S).bind fun p => f [p.1] p.2
noncomputable def mN (f : FN) (a : FA) : FE := fun r S => (a r S).bind fun p => f p.1 p.2
noncomputable abbrev r2 (K : PySem.W.Frag) (f : FN) : R2 := fun x y H Q => rN K f [x, y] H Q
section
variable {X : Cx} {K : PySem.W.Frag} {f : FN} {a b : FE} {σ : L2.St} {H : Hp} {Q : VK}
theorem m2_ok (h : tM K (m2 f a b) σ H Q) : tOp (r2 K f) (tM K a) (tM K b) σ H Q := by
 obtain ⟨r, mu, S, d, S', he, hs, hm, hc⟩ := h
 obtain ⟨⟨d1, S1⟩, e1, hm⟩ := Option.bind_eq_some_iff.mp hm
 obtain ⟨⟨d2, S2⟩, e2, hm⟩ := Option.bind_eq_some_iff.mp hm
 refine ⟨r, mu, S, d1, S1, he, hs, e1, fun v H1 mu1 x1 r1 s1 => ?_⟩
 refine ⟨r, mu1, S1, d2, S2, he.ext x1, s1, e2, fun u H2 mu2 x2 r2 s2 => ?_⟩
 exact ⟨mu2, S2, [d1, d2], d, S', .cons (r1.ext x2) (.cons r2 .nil), s2, hm, fun v H3 mu3 x3 r3 s3 => hc v H3 mu3 ((x1.trans x2).trans x3) r3 s3⟩
theorem mN_ok {a : FA} (h : tM K (mN f a) σ H Q) : tMA K a σ H fun vs H1 => rN K f vs H1 Q := by
 obtain ⟨r, mu, S, d, S', he, hs, hm, hc⟩ := h
 obtain ⟨⟨d1, S1⟩, e1, hm⟩ := Option.bind_eq_some_iff.mp hm
 refine ⟨r, mu, S, d1, S1, he, hs, e1, fun v H1 mu1 x1 r1 s1 => ?_⟩
 exact ⟨mu1, S1, d1, d, S', r1, s1, hm, fun v H3 mu3 x3 r3 s3 => hc v H3 mu3 (x1.trans x3) r3 s3⟩
theorem me_op {op : Operator} {x y : Expr} {pos : Pos} (ho : OpR X (binaryOp op) (r2 X.K f)) (hx : ME X x a) (hy : ME X y b) : ME X (.BinOp x op y pos) (m2 f a b) := pe_imp (pe_op ho hx hy) fun _ _ _ => m2_ok
theorem me_cmp {op : CmpOp} {x y : Expr} {pos : Pos} (ho : OpR X (compareOp op) (r2 X.K f)) (hx : ME X x a) (hy : ME X y b) (hm : behindInMarks op y = false) : ME X (.Compare x [op] [y] pos) (m2 f a b) := pe_imp (pe_cmpR ho hx hy hm) fun _ _ _ => m2_ok
theorem me_ix {x y : Expr} {pos : Pos} (ho : IxR X (r2 X.K f)) (hx : ME X x a) (hy : ME X y b) (hs : PlainIx y) : ME X (.Subscript x y pos) (m2 f a b) := pe_imp (pe_ix ho hx hy hs) fun _ _ _ => m2_ok
theorem me_callB {x : Str} {p pos : Pos} {e : Expr} {es : List Expr} {id : String} {a : FA} (hc : CallR X (.builtin id) (rN X.K f)) (hg : Gl X x) (hm : X.mg x = none) (hv : bootBuiltins x = some (.builtin id)) (ha : MA X (e :: es) a) (hn : x ≠ "__name__" := by decide) (hdb : (x == ("__debug__" : Str)) = false := by decide)
   (he : starEach (e :: es) X.env = (false, eval e X.env) :: starEach es X.env := by rfl) (hpl : (backTo pos (starEach es X.env)).any (·.1) = false := by rfl) : ME X (.Call (.Name x p) (e :: es) [] pos) (mN f a) :=
 pe_imp (pe_callB hc hg hm hv ha hn hdb he hpl) fun _ _ _ => mN_ok
theorem me_callTy {x : Str} {p pos : Pos} {e : Expr} {es : List Expr} {T : String} {a : FA} (hc : CallR X (.type T) (rN X.K f)) (hg : Gl X x) (hm : X.mg x = none) (hv : bootBuiltins x = some (.type T)) (ha : MA X (e :: es) a) (hn : x ≠ "__name__" := by decide) (hdb : (x == ("__debug__" : Str)) = false := by decide)
   (he : starEach (e :: es) X.env = (false, eval e X.env) :: starEach es X.env := by rfl) (hpl : (backTo pos (starEach es X.env)).any (·.1) = false := by rfl) : ME X (.Call (.Name x p) (e :: es) [] pos) (mN f a) :=
 pe_imp (pe_callTy hc hg hm hv ha hn hdb he hpl) fun _ _ _ => mN_ok
end
noncomputable def mB (m : FE) : FT := fun r S => (m r S).bind fun p => match p.1 with
 | .bl b => some (b, p.2)
 | _ => none
theorem mB_ok {K : PySem.W.Frag} {m : FE} {σ : L2.St} {H : Hp} {Q : Bool → Hp → Prop} (h : tMT K (mB m) σ H Q) : tB (tM K m) σ H Q := by
 obtain ⟨r, mu, S, b, S', he, hs, hm, hc⟩ := h
 obtain ⟨⟨d1, S1⟩, e1, hm⟩ := Option.bind_eq_some_iff.mp hm
 cases d1 with
 | bl k =>
   cases hm
   refine ⟨r, mu, S, _, _, he, hs, e1, fun v H1 mu1 x1 r1 s1 => ?_⟩
   cases r1
   exact ⟨_, rfl, hc H1 mu1 x1 s1⟩
 | _ => cases hm
noncomputable def mAnd (a b : FT) : FT := fun r S => (a r S).bind fun p => if p.1 = true then b r p.2 else some (false, p.2)
noncomputable def mOr (a b : FT) : FT := fun r S => (a r S).bind fun p => if p.1 = true then some (true, p.2) else b r p.2
noncomputable def mNot (a : FT) : FT := fun r S => (a r S).bind fun p => some (!p.1, p.2)
noncomputable def mAndV (a b : FE) : FE := fun r S => (a r S).bind fun p => match p.1 with
 | .bl c => if c = true then b r p.2 else some (.bl false, p.2)
 | _ => none
noncomputable def mOrV (a b : FE) : FE := fun r S => (a r S).bind fun p => match p.1 with
 | .bl c => if c = true then some (.bl true, p.2) else b r p.2
 | _ => none
noncomputable def mNotV (a : FE) : FE := fun r S => (a r S).bind fun p => match p.1 with
 | .bl c => some (.bl (!c), p.2)
 | _ => none
noncomputable def mIf (c : FT) (a b : FE) : FE := fun r S => (c r S).bind fun p => if p.1 = true then a r p.2 else b r p.2
section
variable {X : Cx} {x y c : Expr} {rest : List Expr} {pos : Pos} {a b : FT} {f g : FE}
theorem mt_cmp {op : CmpOp} {f : FN} {a b : FE} (ho : OpR X (compareOp op) (r2 X.K f)) (hx : ME X x a) (hy : ME X y b) (hm : behindInMarks op y = false) : MT X (.Compare x [op] [y] pos) (mB (m2 f a b)) :=
 pt_imp (pt_cmpR ho hx hy hm) fun σ H Q h => by
   obtain ⟨r, mu, S, d, S', he, hs, hm, hc⟩ := mB_ok h
   exact m2_ok ⟨r, mu, S, d, S', he, hs, hm, fun v H' mu' x1 r1 s1 => hc v H' mu' x1 r1 s1⟩
theorem mw_and1 (ha : MT X x a) : MW X (.BoolOp .And [x] pos) a := pw_and1 ha
theorem mw_and (ha : MT X x a) (hb : MW X (.BoolOp .And (y :: rest) pos) b) : MW X (.BoolOp .And (x :: y :: rest) pos) (mAnd a b) :=
 pw_imp (pw_and ha hb) <| by
   rintro σ H Q ⟨r, mu, S, k, S', he, hs, hm, hc⟩
   obtain ⟨⟨b1, S1⟩, e1, hm⟩ := Option.bind_eq_some_iff.mp hm
   refine ⟨r, mu, S, b1, S1, he, hs, e1, fun H1 mu1 x1 s1 => ?_⟩
   cases b1 with
   | true => exact ⟨r, mu1, S1, k, S', he.ext x1, s1, hm, fun H2 mu2 x2 s2 => hc H2 mu2 (x1.trans x2) s2⟩
   | false => cases hm; exact hc H1 mu1 x1 s1
theorem mt_w (h : MW X x a) : MT X x a := PW.pt h
theorem mt_not (ha : MT X x a) : MT X (.UnaryOp .Not x pos) (mNot a) :=
 pt_imp (pt_not ha) <| by
   rintro σ H Q ⟨r, mu, S, k, S', he, hs, hm, hc⟩
   obtain ⟨⟨b1, S1⟩, e1, hm⟩ := Option.bind_eq_some_iff.mp hm
   cases hm
   exact ⟨r, mu, S, b1, S1, he, hs, e1, fun H1 mu1 x1 s1 => hc H1 mu1 x1 s1⟩
theorem me_one {op} (h : ME X x f) : ME X (.BoolOp op [x] pos) f := pe_one h
theorem me_and (ha : ME X x f) (hb : ME X (.BoolOp .And (y :: rest) pos) g) : ME X (.BoolOp .And (x :: y :: rest) pos) (mAndV f g) :=
 pe_imp (pe_and ha hb) <| by
   rintro σ H Q ⟨r, mu, S, k, S', he, hs, hm, hc⟩
   obtain ⟨⟨d1, S1⟩, e1, hm⟩ := Option.bind_eq_some_iff.mp hm
   refine ⟨r, mu, S, d1, S1, he, hs, e1, fun v H1 mu1 x1 r1 s1 => ?_⟩
   cases d1 with
   | bl b1 =>
     cases r1
     refine ⟨b1, rfl, ?_⟩
     cases b1 with
     | true => exact ⟨r, mu1, S1, k, S', he.ext x1, s1, hm, fun v2 H2 mu2 x2 r2 s2 => hc v2 H2 mu2 (x1.trans x2) r2 s2⟩
     | false => cases hm; exact hc _ H1 mu1 x1 (.bl false) s1
   | _ => cases hm
theorem me_or (ha : ME X x f) (hb : ME X (.BoolOp .Or (y :: rest) pos) g) : ME X (.BoolOp .Or (x :: y :: rest) pos) (mOrV f g) :=
 pe_imp (pe_or ha hb) <| by
   rintro σ H Q ⟨r, mu, S, k, S', he, hs, hm, hc⟩
   obtain ⟨⟨d1, S1⟩, e1, hm⟩ := Option.bind_eq_some_iff.mp hm
   refine ⟨r, mu, S, d1, S1, he, hs, e1, fun v H1 mu1 x1 r1 s1 => ?_⟩
   cases d1 with
   | bl b1 =>
     cases r1
     refine ⟨b1, rfl, ?_⟩
     cases b1 with
     | false => exact ⟨r, mu1, S1, k, S', he.ext x1, s1, hm, fun v2 H2 mu2 x2 r2 s2 => hc v2 H2 mu2 (x1.trans x2) r2 s2⟩
     | true => cases hm; exact hc _ H1 mu1 x1 (.bl true) s1
   | _ => cases hm
theorem me_if (hc : MT X c a) (hx : ME X x f) (hy : ME X y g) : ME X (.IfExp c x y pos) (mIf a f g) :=
 pe_imp (pe_ifExp hc hx hy) <| by
   rintro σ H Q ⟨r, mu, S, k, S', he, hs, hm, hc⟩
   obtain ⟨⟨b1, S1⟩, e1, hm⟩ := Option.bind_eq_some_iff.mp hm
   refine ⟨r, mu, S, b1, S1, he, hs, e1, fun H1 mu1 x1 s1 => ?_⟩
   cases b1 with
   | true => exact ⟨r, mu1, S1, k, S', he.ext x1, s1, hm, fun v2 H2 mu2 x2 r2 s2 => hc v2 H2 mu2 (x1.trans x2) r2 s2⟩
   | false => exact ⟨r, mu1, S1, k, S', he.ext x1, s1, hm, fun v2 H2 mu2 x2 r2 s2 => hc v2 H2 mu2 (x1.trans x2) r2 s2⟩
end
section
variable {X : Cx} {x y z : Expr} {pos : Pos} {f g : FN} {a b c : FE} {op op' : CmpOp}
end
end Mi
end
section
namespace Mi
open PySem PySem.Spec PyProof.Rows L2
mutual
noncomputable def D.und (n : Nat) : D → Bool
 | .tup xs => D.unds n xs
 | .rol xs => D.unds n xs
 | .ref k => decide (k < n)
 | .non => true
 | .bl _ => true
 | .int _ => true
 | .str _ => true
noncomputable def D.unds (n : Nat) : List D → Bool
 | [] => true
 | d :: ds => D.und n d && D.unds n ds
end
mutual
noncomputable def D.same : D → D → Bool
 | .non, .non => true
 | .bl a, .bl b => a == b
 | .int a, .int b => decide (a = b)
 | .str a, .str b => decide (a = b)
 | .tup xs, .tup ys => D.sames xs ys
 | .rol xs, .rol ys => D.sames xs ys
 | .ref a, .ref b => decide (a = b)
 | _, _ => false
noncomputable def D.sames : List D → List D → Bool
 | [], [] => true
 | x :: xs, y :: ys => D.same x y && D.sames xs ys
 | _, _ => false
end
mutual
theorem D.same_eq : ∀ {a b : D}, D.same a b = true → a = b
 | .non, .non, _ => rfl
 | .non, .bl _, h => by simp [D.same] at h
 | .non, .int _, h => by simp [D.same] at h
 | .non, .str _, h => by simp [D.same] at h
 | .non, .tup _, h => by simp [D.same] at h
 | .non, .rol _, h => by simp [D.same] at h
 | .non, .ref _, h => by simp [D.same] at h
 | .bl _, .non, h => by simp [D.same] at h
 | .bl x, .bl y, h => by simp [D.same] at h; rw [h]
 | .bl _, .int _, h => by simp [D.same] at h
 | .bl _, .str _, h => by simp [D.same] at h
 | .bl _, .tup _, h => by simp [D.same] at h
 | .bl _, .rol _, h => by simp [D.same] at h
 | .bl _, .ref _, h => by simp [D.same] at h
 | .int _, .non, h => by simp [D.same] at h
 | .int _, .bl _, h => by simp [D.same] at h
 | .int x, .int y, h => by simp [D.same] at h; rw [h]
 | .int _, .str _, h => by simp [D.same] at h
 | .int _, .tup _, h => by simp [D.same] at h
 | .int _, .rol _, h => by simp [D.same] at h
 | .int _, .ref _, h => by simp [D.same] at h
 | .str _, .non, h => by simp [D.same] at h
 | .str _, .bl _, h => by simp [D.same] at h
 | .str _, .int _, h => by simp [D.same] at h
 | .str x, .str y, h => by simp [D.same] at h; rw [h]
 | .str _, .tup _, h => by simp [D.same] at h
 | .str _, .rol _, h => by simp [D.same] at h
 | .str _, .ref _, h => by simp [D.same] at h
 | .tup _, .non, h => by simp [D.same] at h
 | .tup _, .bl _, h => by simp [D.same] at h
 | .tup _, .int _, h => by simp [D.same] at h
 | .tup _, .str _, h => by simp [D.same] at h
 | .tup x, .tup y, h => by rw [D.same] at h; rw [D.sames_eq h]
 | .tup _, .rol _, h => by simp [D.same] at h
 | .tup _, .ref _, h => by simp [D.same] at h
 | .rol _, .non, h => by simp [D.same] at h
 | .rol _, .bl _, h => by simp [D.same] at h
 | .rol _, .int _, h => by simp [D.same] at h
 | .rol _, .str _, h => by simp [D.same] at h
 | .rol _, .tup _, h => by simp [D.same] at h
 | .rol x, .rol y, h => by rw [D.same] at h; rw [D.sames_eq h]
 | .rol _, .ref _, h => by simp [D.same] at h
 | .ref _, .non, h => by simp [D.same] at h
 | .ref _, .bl _, h => by simp [D.same] at h
 | .ref _, .int _, h => by simp [D.same] at h
 | .ref _, .str _, h => by simp [D.same] at h
 | .ref _, .tup _, h => by simp [D.same] at h
 | .ref _, .rol _, h => by simp [D.same] at h
 | .ref x, .ref y, h => by simp [D.same] at h; rw [h]
theorem D.sames_eq : ∀ {a b : List D}, D.sames a b = true → a = b
 | [], [], _ => rfl
 | x :: xs, y :: ys, h => by
   rw [D.sames, Bool.and_eq_true] at h
   rw [D.same_eq h.1, D.sames_eq h.2]
 | [], _ :: _, h => by simp [D.sames] at h
 | _ :: _, [], h => by simp [D.sames] at h
end
mutual
theorem D.same_refl : ∀ a : D, D.same a a = true
 | .non => rfl
 | .bl a => by simp [D.same]
 | .int a => by simp [D.same]
 | .str a => by simp [D.same]
 | .tup xs => by rw [D.same]; exact D.sames_refl xs
 | .rol xs => by rw [D.same]; exact D.sames_refl xs
 | .ref a => by simp [D.same]
theorem D.sames_refl : ∀ a : List D, D.sames a a = true
 | [] => rfl
 | x :: xs => by rw [D.sames, D.same_refl x, D.sames_refl xs]; rfl
end
section
variable {K : PySem.W.Frag} {H : Hp} {mu mu' : List Addr}
mutual
theorem Rep.cut {n : Nat} (h : ∀ k, k < n → mu[k]? = mu'[k]?) : ∀ {d : D} {v : V}, Rep K H mu d v → d.und n = true → Rep K H mu' d v
 | _, _, .non, _ => .non
 | _, _, .bl b, _ => .bl b
 | _, _, .int i, _ => .int i
 | _, _, .str x, _ => .str x
 | _, _, .tup q r, e => .tup q (Reps.cut h r (by rw [D.und] at e; exact e))
 | _, _, .rol q r, e => .rol q (Reps.cut h r (by rw [D.und] at e; exact e))
 | _, _, .ref q, e => .ref (by rw [D.und] at e; rw [← h _ (of_decide_eq_true e)]; exact q)
theorem Reps.cut {n : Nat} (h : ∀ k, k < n → mu[k]? = mu'[k]?) : ∀ {ds : List D} {vs : List V}, Reps K H mu ds vs → D.unds n ds = true → Reps K H mu' ds vs
 | _, _, .nil, _ => .nil
 | _, _, .cons r t, e => by
   rw [D.unds, Bool.and_eq_true] at e
   exact .cons (Rep.cut h r e.1) (Reps.cut h t e.2)
end
end
noncomputable def Ob.und (n : Nat) : Ob → Bool
 | .lst xs => D.unds n xs
 | .dct kvs => D.unds n (kvs.map (·.2))
 | .dcT kvs => D.unds n (kvs.map (·.2))
 | .iset _ => true
 | .dcF kvs => D.unds n (kvs.map (·.2))
theorem KR.cut {κ : Type} {K : PySem.W.Frag} {H : Hp} {mu mu' : List Addr} {n : Nat} (h : ∀ k, k < n → mu[k]? = mu'[k]?) : ∀ {ks : List (κ × D)} {ws : List (κ × V)}, KR K H mu ks ws → D.unds n (ks.map (·.2)) = true → KR K H mu' ks ws
 | _, _, .nil, _ => .nil
 | _, _, .cons r t, e => by
   rw [List.map_cons, D.unds, Bool.and_eq_true] at e
   exact .cons ⟨r.1, r.2.cut h e.1⟩ (KR.cut h t e.2)
mutual
theorem tk_und (n : Nat) : ∀ k : TK, (tkD k).und n = true
 | .non => rfl
 | .int _ => rfl
 | .tup xs => by rw [tkD, D.und]; exact tks_und n xs
theorem tks_und (n : Nat) : ∀ ks : List TK, D.unds n (tkDs ks) = true
 | [] => rfl
 | x :: xs => by rw [tkDs, D.unds, tk_und n x, tks_und n xs]; rfl
end
theorem KT.cut {K : PySem.W.Frag} {H : Hp} {mu mu' : List Addr} {n : Nat} (h : ∀ k, k < n → mu[k]? = mu'[k]?) : ∀ {ks : List (TK × D)} {ws : List (TK × Addr × Value)}, KT K H mu ks ws → D.unds n (ks.map (·.2)) = true → KT K H mu' ks ws
 | _, _, .nil, _ => .nil
 | _, _, .cons ⟨z, d, k, v, rv, r⟩ t, e => by
   rw [List.map_cons, D.unds, Bool.and_eq_true] at e
   exact .cons ⟨z, d, k.cut h (tk_und n _), v, rv, r.cut h e.1⟩ (KT.cut h t e.2)
theorem ObR.cut {K : PySem.W.Frag} {H : Hp} {mu mu' : List Addr} {n : Nat} {a : Addr} (h : ∀ k, k < n → mu[k]? = mu'[k]?) : ∀ {o : Ob}, ObR K H mu a o → o.und n = true → ObR K H mu' a o
 | .lst _, ⟨vs, e, r⟩, b => ⟨vs, e, r.cut h b⟩
 | .dct _, ⟨ws, e, r⟩, b => ⟨ws, e, KR.cut h r b⟩
 | .dcT _, ⟨ws, e, r, l⟩, b => ⟨ws, e, KT.cut h r b, l⟩
 | .iset _, q, _ => q
 | .dcF _, ⟨ws, e, r, l⟩, b => ⟨ws, e, KT.cut h r b, l⟩
noncomputable def gc (n : Nat) (p : D × Sto) : D × Sto := if p.1.und n && (p.2.take n).all (Ob.und n) then (p.1, p.2.take n) else p
mutual
noncomputable def D.sh (n : Nat) : D → D
 | .tup xs => .tup (D.shs n xs)
 | .rol xs => .rol (D.shs n xs)
 | .ref k => .ref (n + k)
 | .non => .non
 | .bl b => .bl b
 | .int i => .int i
 | .str x => .str x
noncomputable def D.shs (n : Nat) : List D → List D
 | [] => []
 | d :: ds => D.sh n d :: D.shs n ds
end
noncomputable def Ob.sh (n : Nat) : Ob → Ob
 | .lst xs => .lst (D.shs n xs)
 | .dct kvs => .dct (kvs.map fun p => (p.1, p.2.sh n))
 | .dcT kvs => .dcT (kvs.map fun p => (p.1, p.2.sh n))
 | .iset xs => .iset xs
 | .dcF kvs => .dcF (kvs.map fun p => (p.1, p.2.sh n))
mutual
theorem Rep.sh {K : PySem.W.Frag} {H : Hp} {mu mu' : List Addr} : ∀ {d : D} {v : V}, Rep K H mu' d v → Rep K H (mu ++ mu') (d.sh mu.length) v
 | _, _, .non => .non
 | _, _, .bl b => .bl b
 | _, _, .int i => .int i
 | _, _, .str x => .str x
 | _, _, .tup h r => .tup h (Reps.sh r)
 | _, _, .rol h r => .rol h (Reps.sh r)
 | _, _, .ref h => .ref (by rw [List.getElem?_append_right (Nat.le_add_right _ _), Nat.add_sub_cancel_left]; exact h)
theorem Reps.sh {K : PySem.W.Frag} {H : Hp} {mu mu' : List Addr} : ∀ {ds : List D} {vs : List V}, Reps K H mu' ds vs → Reps K H (mu ++ mu') (D.shs mu.length ds) vs
 | _, _, .nil => .nil
 | _, _, .cons r t => .cons (Rep.sh r) (Reps.sh t)
end
theorem KR.sh {κ : Type} {K : PySem.W.Frag} {H : Hp} {mu mu' : List Addr} : ∀ {ks : List (κ × D)} {ws : List (κ × V)}, KR K H mu' ks ws → KR K H (mu ++ mu') (ks.map fun p => (p.1, p.2.sh mu.length)) ws
 | _, _, .nil => .nil
 | _, _, .cons r t => .cons ⟨r.1, r.2.sh⟩ (KR.sh t)
mutual
theorem tk_sh (n : Nat) : ∀ k : TK, (tkD k).sh n = tkD k
 | .non => rfl
 | .int _ => rfl
 | .tup xs => by rw [tkD, D.sh, tks_sh n xs]
theorem tks_sh (n : Nat) : ∀ ks : List TK, D.shs n (tkDs ks) = tkDs ks
 | [] => rfl
 | x :: xs => by rw [tkDs, D.shs, tk_sh n x, tks_sh n xs]
end
theorem KT.sh {K : PySem.W.Frag} {H : Hp} {mu mu' : List Addr} : ∀ {ks : List (TK × D)} {ws : List (TK × Addr × Value)}, KT K H mu' ks ws → KT K H (mu ++ mu') (ks.map fun p => (p.1, p.2.sh mu.length)) ws
 | _, _, .nil => .nil
 | _, _, .cons ⟨z, d, k, v, rv, r⟩ t => .cons ⟨z, d, by have := k.sh (mu := mu); rw [tk_sh] at this; exact this, v, rv, r.sh⟩ (KT.sh t)
theorem ObR.sh {K : PySem.W.Frag} {H : Hp} {mu mu' : List Addr} {a : Addr} : ∀ {o : Ob}, ObR K H mu' a o → ObR K H (mu ++ mu') a (o.sh mu.length)
 | .lst _, ⟨vs, e, r⟩ => ⟨vs, e, r.sh⟩
 | .dct _, ⟨ws, e, r⟩ => ⟨ws, e, KR.sh r⟩
 | .dcT _, ⟨ws, e, r, l⟩ => ⟨ws, e, KT.sh r, l⟩
 | .iset _, q => q
 | .dcF _, ⟨ws, e, r, l⟩ => ⟨ws, e, KT.sh r, l⟩
mutual
theorem Rep.mor {K : PySem.W.Frag} {H : Hp} {mu : List Addr} (mu' : List Addr) : ∀ {d : D} {v : V}, Rep K H mu d v → Rep K H (mu ++ mu') d v
 | _, _, .non => .non
 | _, _, .bl b => .bl b
 | _, _, .int i => .int i
 | _, _, .str x => .str x
 | _, _, .tup h r => .tup h (Reps.mor mu' r)
 | _, _, .rol h r => .rol h (Reps.mor mu' r)
 | _, _, .ref h => .ref (by rw [List.getElem?_append_left ((List.getElem?_eq_some_iff.mp h).1)]; exact h)
theorem Reps.mor {K : PySem.W.Frag} {H : Hp} {mu : List Addr} (mu' : List Addr) : ∀ {ds : List D} {vs : List V}, Reps K H mu ds vs → Reps K H (mu ++ mu') ds vs
 | _, _, .nil => .nil
 | _, _, .cons r t => .cons (Rep.mor mu' r) (Reps.mor mu' t)
end
theorem KR.mor {κ : Type} {K : PySem.W.Frag} {H : Hp} {mu : List Addr} (mu' : List Addr) {ks : List (κ × D)} {ws : List (κ × V)} (h : KR K H mu ks ws) : KR K H (mu ++ mu') ks ws := Paired.mapP h fun _ _ z => ⟨z.1, z.2.mor mu'⟩
theorem ObR.mor {K : PySem.W.Frag} {H : Hp} {mu : List Addr} {a : Addr} (mu' : List Addr) : ∀ {o : Ob}, ObR K H mu a o → ObR K H (mu ++ mu') a o
 | .lst _, ⟨vs, e, r⟩ => ⟨vs, e, r.mor mu'⟩
 | .dct _, ⟨ws, e, r⟩ => ⟨ws, e, KR.mor mu' r⟩
 | .dcT _, ⟨ws, e, r, l⟩ => ⟨ws, e, Paired.mapP r fun _ _ ⟨z, d, k, v, rv, r⟩ => ⟨z, d, k.mor mu', v, rv, r.mor mu'⟩, l⟩
 | .iset _, q => q
 | .dcF _, ⟨ws, e, r, l⟩ => ⟨ws, e, Paired.mapP r fun _ _ ⟨z, d, k, v, rv, r⟩ => ⟨z, d, k.mor mu', v, rv, r.mor mu'⟩, l⟩
noncomputable def callG (f : FN) : FN := fun ds S => if D.unds 0 ds = true then (f ds []).map fun p => if p.1.und 0 = true then (p.1, S) else (p.1.sh S.length, S ++ p.2.map (Ob.sh S.length)) else (f ds S).map (gc S.length)
theorem ObR.keep {K : PySem.W.Frag} {H H' : Hp} {mu : List Addr} {a : Addr} (e : Ext mu mu H H') (h : ∀ o, H a = some o → H' a = some o) : ∀ {o : Ob}, ObR K H mu a o → ObR K H' mu a o
 | .lst _, ⟨vs, q, r⟩ => ⟨vs, h _ q, r.ext e⟩
 | .dct _, ⟨ws, q, r⟩ => ⟨ws, h _ q, KR.ext e r⟩
 | .dcT _, ⟨ws, q, r, l⟩ => ⟨ws, h _ q, KT.ext e r, l⟩
 | .iset _, q => ⟨h _ q.1, q.2⟩
 | .dcF _, ⟨ws, ⟨o, u, e1, e2⟩, r, l⟩ => ⟨ws, ⟨o, u, h _ e1, e2⟩, KT.ext e r, l⟩
theorem callG_ok {K : PySem.W.Frag} {f : FN} {vs : List V} {H : Hp} {Q : VK} (h : rN K (callG f) vs H Q) : rN K f vs H Q := by
 obtain ⟨mu, S, ds, d, S', hr, hs, hm, hc⟩ := h
 unfold callG at hm
 split at hm
 · rename_i hb
   obtain ⟨⟨d1, S1⟩, e1, hm⟩ := Option.map_eq_some_iff.mp hm
   refine ⟨[], [], ds, d1, S1, hr.cut (n := 0) (fun k hk => absurd hk (Nat.not_lt_zero _)) hb, .nil, e1, fun v H' mu' x r s => ?_⟩
   have x' : Ext mu mu H H' := ⟨List.prefix_rfl, fun a o e _ => x.old a o e (by simp), x.tup, x.frz, fun _ z => .inl z⟩
   dsimp only at hm
   split at hm
   · rename_i hd
     cases hm
     refine hc v H' mu x' (r.cut (n := 0) (fun k hk => absurd hk (Nat.not_lt_zero _)) hd) ⟨hs.len, hs.nd, fun n o a h1 h2 => ?_⟩
     exact (hs.ob n o a h1 h2).keep x' fun o e => x.old a o e (by simp)
   · cases hm
     have fr : ∀ a ∈ mu', H a = none := fun a ha => (x.new a ha).resolve_left (by simp)
     have x2 : Ext mu (mu ++ mu') H H' := ⟨List.prefix_append _ _, fun a o e _ => x.old a o e (by simp), x.tup, x.frz, fun a z => by
       rcases List.mem_append.mp z with z | z
       · exact .inl z
       · exact .inr (fr a z)⟩
     refine hc v H' (mu ++ mu') x2 (by rw [← hs.len]; exact r.sh) ⟨by rw [List.length_append, List.length_append, List.length_map, hs.len, s.len], ?_, fun n o a h1 h2 => ?_⟩
     · refine List.nodup_append.mpr ⟨hs.nd, s.nd, fun a ha b hb z => ?_⟩
       subst z
       obtain ⟨o, e⟩ := hs.here ha
       rw [fr a hb] at e; cases e
     · by_cases hn : n < S.length
       · rw [List.getElem?_append_left hn] at h1
         rw [List.getElem?_append_left (by rw [hs.len]; exact hn)] at h2
         exact ((hs.ob n o a h1 h2).keep x' fun o e => x.old a o e (by simp)).mor mu'
       · have hn' := Nat.le_of_not_lt hn
         rw [List.getElem?_append_right hn'] at h1
         rw [List.getElem?_append_right (by rw [hs.len]; exact hn')] at h2
         rw [List.getElem?_map] at h1
         obtain ⟨o1, g1, g2⟩ := Option.map_eq_some_iff.mp h1
         subst g2
         have q := s.ob (n - S.length) o1 a g1 (by rw [hs.len] at h2; exact h2)
         rw [← hs.len]
         exact q.sh
 · obtain ⟨⟨d1, S1⟩, e1, hm⟩ := Option.map_eq_some_iff.mp hm
   refine ⟨mu, S, ds, d1, S1, hr, hs, e1, fun v H' mu' x r s => ?_⟩
   unfold gc at hm
   split at hm
   · rename_i hb
     cases hm
     rw [Bool.and_eq_true] at hb
     have hk : ∀ k, k < S.length → mu'[k]? = mu[k]? := fun k hk => by
       obtain ⟨t, rfl⟩ := x.pre
       rw [List.getElem?_append_left (by rw [hs.len]; exact hk)]
     refine hc v H' mu x.back (r.cut hk hb.1) ⟨?_, hs.nd, fun n o a h1 h2 => ?_⟩
     · have := s.len
       have h3 := x.pre.length_le
       rw [List.length_take, ← s.len]
       rw [hs.len] at h3 ⊢
       exact (Nat.min_eq_left h3).symm
     · have hn : n < S.length := by rw [← hs.len]; exact (List.getElem?_eq_some_iff.mp h2).1
       have h1' : S1[n]? = some o := by rw [List.getElem?_take_of_lt hn] at h1; exact h1
       refine (s.ob n o a h1' ((hk n hn).trans h2)).cut hk ?_
       exact List.all_eq_true.mp hb.2 o (List.mem_of_getElem? h1)
   · cases hm
     exact hc v H' mu' x r s
noncomputable def spM (K : PySem.W.Frag) (n : Nat) (f : FN) : Sp := fun vs H Q _ => vs.length = n ∧ rN K f vs H Q
section
variable {X : Cx} {k n : Nat} {f : Addr} {fd : FuncData} {ps : List Str} {x : Str} {p pos : Pos} {e : Expr} {es : List Expr} {m : FN} {a : FA}
noncomputable def mCall (n : Nat) (f : FN) : FN := fun ds S => if ds.length = n then callG f ds S else none
theorem me_call (F : FnOk X.prog X.w X.K X.mg X.base CX0 k f fd ps (spM X.K n m)) (hr : Room k X.A) (hg : Gl X x) (hm : X.mg x = some (.ref f)) (hk : PySem.W.keepIn X.K (.ref f) = true) (hb : Binds X.K fd ps [])
   (ha : MA X (e :: es) a) (hdb : (x == ("__debug__" : Str)) = false := by decide) (he : starEach (e :: es) X.env = (false, eval e X.env) :: starEach es X.env := by rfl) (hpl : (backTo pos (starEach es X.env)).any (·.1) = false := by rfl) :
   ME X (.Call (.Name x p) (e :: es) [] pos) (mN (mCall n m) a) :=
 pe_imp (pe_call (E := E0) F hr hg hm hk hb .nil pass0 ha hdb he hpl) fun σ H Q h => by
   obtain ⟨r, mu, S, ds, S', he, hs, hm, hc⟩ := mN_ok h
   refine ⟨r, mu, S, ds, S', he, hs, hm, fun vs H' mu' x1 r1 s1 => ?_⟩
   have q := hc vs H' mu' x1 r1 s1
   show spM X.K n m (vs ++ []) H' Q E0
   rw [List.append_nil]
   obtain ⟨mu2, S2, ds2, d2, S3, h1, h2, h3, h4⟩ := q
   unfold mCall at h3
   split at h3
   · rename_i hl
     exact ⟨by rw [← h1.length]; exact hl, callG_ok ⟨mu2, S2, ds2, d2, S3, h1, h2, h3, h4⟩⟩
   · cases h3
end
noncomputable def mNx : FS := fun r S => some (.nx, r, S)
noncomputable def mSeq (a b : FS) : FS := fun r S => (a r S).bind fun p => match p.1 with
 | .nx => b p.2.1 p.2.2
 | f => some (f, p.2.1, p.2.2)
noncomputable def mRet (m : FE) : FS := fun r S => (m r S).bind fun p => some (.rt p.1, r, p.2)
noncomputable def mRetN : FS := fun r S => some (.rt .non, r, S)
noncomputable def mDrop (m : FE) : FS := fun r S => (m r S).bind fun p => some (.nx, r, p.2)
noncomputable def mIfS (c : FT) (a b : FS) : FS := fun r S => (c r S).bind fun p => if p.1 = true then a r p.2 else b r p.2
section
variable {X : Cx} {pos : Pos} {e c : Expr} {st : Stmt} {rest as bs : List Stmt} {a b : FS} {m : FE} {t : FT}
theorem mss_nil : MSs X [] mNx := pss_imp pss_nil <| by
 rintro E σ H ⟨r, mu, S, f, r', S', he, hs, hm, hc⟩
 cases hm; exact hc σ H mu (.refl _ _) he hs
theorem mss_cons (h1 : MS X st a) (h2 : MSs X rest b) : MSs X (st :: rest) (mSeq a b) := pss_imp (pss_cons h1 h2) <| by
 rintro E σ H ⟨r, mu, S, f, r', S', he, hs, hm, hc⟩
 obtain ⟨⟨f1, r1, S1⟩, e1, hm⟩ := Option.bind_eq_some_iff.mp hm
 refine ⟨r, mu, S, f1, r1, S1, he, hs, e1, ?_⟩
 cases f1 with
 | nx =>
   intro σ1 H1 mu1 x1 he1 hs1
   refine ⟨r1, mu1, S1, f, r', S', he1, hs1, hm, ?_⟩
   cases f with
   | nx => exact fun σ2 H2 mu2 x2 => hc σ2 H2 mu2 (x1.trans x2)
   | bk => exact fun σ2 H2 mu2 x2 => hc σ2 H2 mu2 (x1.trans x2)
   | ct => exact fun σ2 H2 mu2 x2 => hc σ2 H2 mu2 (x1.trans x2)
   | rt d => exact fun v H2 mu2 x2 => hc v H2 mu2 (x1.trans x2)
 | bk => cases hm; exact hc
 | ct => cases hm; exact hc
 | rt d => cases hm; exact hc
theorem mss_one (h1 : MS X st a) : MSs X [st] a := pss_one h1
theorem ms_expr (h : ME X e m) (hs : swapsWith e none pos.line X.env = pure false := by rfl) : MS X (.Expr e pos) (mDrop m) := ps_imp (ps_expr h hs) <| by
 rintro E σ H ⟨r, mu, S, f, r', S', he, hs, hm, hc⟩
 obtain ⟨⟨d, S1⟩, e1, hm⟩ := Option.bind_eq_some_iff.mp hm
 cases hm
 exact ⟨r, mu, S, d, _, he, hs, e1, fun v H' mu' x r1 s1 => hc σ H' mu' x (he.ext x) s1⟩
theorem ms_ret (h : ME X e m) : MS X (.Return (some e) pos) (mRet m) := ps_imp (ps_ret h) <| by
 rintro E σ H ⟨r, mu, S, f, r', S', he, hs, hm, hc⟩
 obtain ⟨⟨d, S1⟩, e1, hm⟩ := Option.bind_eq_some_iff.mp hm
 cases hm
 exact ⟨r, mu, S, d, _, he, hs, e1, hc⟩
theorem ms_if (hc : MT X c t) (ha : MSs X as a) (hb : MSs X bs b) : MS X (.If c as bs pos) (mIfS t a b) := ps_imp (ps_if hc ha hb) <| by
 rintro E σ H ⟨r, mu, S, f, r', S', he, hs, hm, hc⟩
 obtain ⟨⟨k, S1⟩, e1, hm⟩ := Option.bind_eq_some_iff.mp hm
 refine ⟨r, mu, S, k, S1, he, hs, e1, fun H1 mu1 x1 s1 => ?_⟩
 have go : ∀ c : FS, c r S1 = some (f, r', S') → tMS X.K c E σ H1 := fun c hm => by
   refine ⟨r, mu1, S1, f, r', S', he.ext x1, s1, hm, ?_⟩
   cases f with
   | nx => exact fun σ2 H2 mu2 x2 => hc σ2 H2 mu2 (x1.trans x2)
   | bk => exact fun σ2 H2 mu2 x2 => hc σ2 H2 mu2 (x1.trans x2)
   | ct => exact fun σ2 H2 mu2 x2 => hc σ2 H2 mu2 (x1.trans x2)
   | rt d => exact fun v H2 mu2 x2 => hc v H2 mu2 (x1.trans x2)
 cases k with
 | true => exact go a hm
 | false => exact go b hm
end
noncomputable abbrev FG := D → Ev → Sto → Option (Ev × Sto)
noncomputable abbrev FGs := List D → Ev → Sto → Option (Ev × Sto)
inductive tMG (K : PySem.W.Frag) (g : FG) (v : V) (σ : L2.St) (H : Hp) (Q : L2.St → Hp → Prop) : Prop
 | mk (r : Ev) (mu : List Addr) (S : Sto) (d : D) (r' : Ev) (S' : Sto) (he : EnvR K H mu r σ) (hs : Sim K H mu S) (hr : Rep K H mu d v) (hm : g d r S = some (r', S')) (hc : ∀ σ' H' mu', Ext mu mu' H H' → EnvR K H' mu' r' σ' → Sim K H' mu' S' → Q σ' H')
inductive tMGs (K : PySem.W.Frag) (g : FGs) (vs : List V) (σ : L2.St) (H : Hp) (Q : L2.St → Hp → Prop) : Prop
 | mk (r : Ev) (mu : List Addr) (S : Sto) (ds : List D) (r' : Ev) (S' : Sto) (he : EnvR K H mu r σ) (hs : Sim K H mu S) (hr : Reps K H mu ds vs) (hm : g ds r S = some (r', S')) (hc : ∀ σ' H' mu', Ext mu mu' H H' → EnvR K H' mu' r' σ' → Sim K H' mu' S' → Q σ' H')
noncomputable abbrev MG (X : Cx) (e : Expr) (g : FG) : Prop := PG X e (tMG X.K g)
noncomputable abbrev MGs (X : Cx) (es : List Expr) (g : FGs) : Prop := PGs X es (tMGs X.K g)
noncomputable def gN (i : Nat) : FG := fun d r S => some (r.set i (some d), S)
noncomputable def gNl : FGs := fun ds r S => match ds with
 | [] => some (r, S)
 | _ => none
noncomputable def gCs (g : FG) (gs : FGs) : FGs := fun ds r S => match ds with
 | d :: ds => (g d r S).bind fun p => gs ds p.1 p.2
 | [] => none
noncomputable def gT (n : Nat) (gs : FGs) : FG := fun d r S => match d with
 | .tup ds => if ds.length = n then gs ds r S else none
 | _ => none
theorem EnvR.set {K : PySem.W.Frag} {H : Hp} {mu : List Addr} {r : Ev} {σ : L2.St} {i : Nat} {d : D} {v : V} (h : EnvR K H mu r σ) (q : Rep K H mu d v) : EnvR K H mu (r.set i (some d)) (σ.set i (some v)) := by
 refine ⟨by rw [List.length_set, List.length_set]; exact h.len, fun j d' e => ?_⟩
 by_cases hj : i = j
 · subst hj
   have hl : i < r.length := by
     have := (List.getElem?_eq_some_iff.mp e).1
     rwa [List.length_set] at this
   rw [List.getElem?_set_self hl] at e
   cases e
   exact ⟨v, List.getElem?_set_self (by rw [← h.len]; exact hl), q⟩
 · rw [List.getElem?_set_ne hj] at e
   obtain ⟨v', e1, r1⟩ := h.val j d' e
   exact ⟨v', by rw [List.getElem?_set_ne hj]; exact e1, r1⟩
section
variable {X : Cx} {pos : Pos}
theorem pg_imp {e : Expr} {t t' : TG} (h : PG X e t) (i : ∀ v σ H Q, t' v σ H Q → t v σ H Q) : PG X e t' := fun pins s σ H v u Q I r q => h pins s σ H v u Q I r (i v σ H Q q)
theorem pgs_imp {e : List Expr} {t t' : TGs} (h : PGs X e t) (i : ∀ v σ H Q, t' v σ H Q → t v σ H Q) : PGs X e t' := fun pins s σ H v u Q I r q => h pins s σ H v u Q I r (i v σ H Q q)
theorem mg_name (i : Nat) {x : Str} (hN : X.N.Nodup) (hi : X.N[i]? = some x) (hx : Loc X.env.scope x) (hf : X.fn x = true ∨ X.env.scope.names.lookup x = some .local := by first | exact .inl rfl | exact .inr rfl | assumption) : MG X (.Name x pos) (gN i) :=
 pg_imp (pg_name hN hi hx hf) <| by
   rintro v σ H Q ⟨r, mu, S, d, r', S', he, hs, hr, hm, hc⟩
   cases hm
   exact hc _ H mu (.refl _ _) (he.set hr) hs
theorem mgs_nil : MGs X [] gNl := pgs_imp pgs_nil <| by
 rintro vs σ H Q ⟨r, mu, S, ds, r', S', he, hs, hr, hm, hc⟩
 unfold gNl at hm
 split at hm
 · cases hm; cases hr
   exact ⟨rfl, hc σ H mu (.refl _ _) he hs⟩
 · cases hm
theorem mgs_cons {e : Expr} {es : List Expr} {g : FG} {gs : FGs} (h1 : MG X e g) (h2 : MGs X es gs) (hs : (assignEach (e :: es) X.env).map (·.2) = assign e X.env :: (assignEach es X.env).map (·.2) := by rfl) : MGs X (e :: es) (gCs g gs) :=
 pgs_imp (pgs_cons h1 h2 hs) <| by
   rintro vs σ H Q ⟨r, mu, S, ds, r', S', he, hs, hr, hm, hc⟩
   unfold gCs at hm
   split at hm
   · obtain ⟨⟨r1, S1⟩, e1, hm⟩ := Option.bind_eq_some_iff.mp hm
     cases hr with
     | cons q t =>
       exact ⟨_, _, rfl, r, mu, S, _, r1, S1, he, hs, q, e1, fun σ1 H1 mu1 x1 he1 s1 => ⟨r1, mu1, S1, _, r', S', he1, s1, t.ext x1, hm, fun σ2 H2 mu2 x2 => hc σ2 H2 mu2 (x1.trans x2)⟩⟩
   · cases hm
theorem mg_tup {es : List Expr} {k : Nat} {gs : FGs} {n : Nat} (hc : X.calm = true) (h : MGs X es gs) (hn : (assignEach es X.env).length = n := by rfl) (hst : (assignEach es X.env).findIdx? (·.1) = none := by rfl) : MG X (.Tuple es k pos) (gT n gs) :=
 pg_imp (pg_tup hc h hn hst) <| by
   rintro v σ H Q ⟨r, mu, S, d, r', S', he, hs, hr, hm, hc⟩
   cases d with
   | tup ds =>
     rw [gT] at hm
     split at hm
     · rename_i hl
       cases hr with
       | tup q t => exact ⟨_, _, rfl, q, by rw [← t.length]; exact hl, r, mu, S, ds, r', S', he, hs, t, hm, hc⟩
     · cases hm
   | _ => cases hm
inductive rU (K : PySem.W.Frag) (f : FN) (o i v : V) (H : Hp) (Q : Hp → Prop) : Prop
 | mk (mu : List Addr) (S : Sto) (ds : List D) (d : D) (S' : Sto) (hr : Reps K H mu ds [o, i, v]) (hs : Sim K H mu S) (hm : f ds S = some (d, S')) (hc : ∀ H' mu', Ext mu mu' H H' → Sim K H' mu' S' → Q H')
noncomputable def gS (f : FN) (a b : FE) : FG := fun d r S => (a r S).bind fun p => (b r p.2).bind fun q => (f [p.1, q.1, d] q.2).bind fun t => some (r, t.2)
theorem mg_sub {o i : Expr} {a b : FE} {f : FN} (ho : ME X o a) (hi : ME X i b) (hs : PSet X (rU X.K f))
   (ha : ∀ v, assign (.Subscript o i pos) X.env v = (do
     let ov ← holding [v] (eval o X.env)
     let iv ← holding [v, ov] (eval i X.env)
     standAt pos
     holding [v, ov, iv] (setItem ov iv v)
     release [v, ov, iv] []) := by intro _; rfl) : MG X (.Subscript o i pos) (gS f a b) :=
 pg_imp (pg_sub ho hi hs ha) <| by
   rintro v σ H Q ⟨r, mu, S, d, r', S', he, hs, hr, hm, hc⟩
   obtain ⟨⟨d1, S1⟩, e1, hm⟩ := Option.bind_eq_some_iff.mp hm
   obtain ⟨⟨d2, S2⟩, e2, hm⟩ := Option.bind_eq_some_iff.mp hm
   obtain ⟨⟨d3, S3⟩, e3, hm⟩ := Option.bind_eq_some_iff.mp hm
   cases hm
   refine ⟨r, mu, S, d1, S1, he, hs, e1, fun v1 H1 mu1 x1 r1 s1 => ?_⟩
   refine ⟨r, mu1, S1, d2, S2, he.ext x1, s1, e2, fun v2 H2 mu2 x2 r2 s2 => ?_⟩
   exact ⟨mu2, S2, [d1, d2, d], d3, _, .cons (r1.ext x2) (.cons r2 (.cons ((hr.ext x1).ext x2) .nil)), s2, e3, fun H3 mu3 x3 s3 => hc σ H3 mu3 ((x1.trans x2).trans x3) (((he.ext x1).ext x2).ext x3) s3⟩
noncomputable def mAsg (m : FE) (g : FG) : FS := fun r S => (m r S).bind fun p => (g p.1 r p.2).bind fun q => some (.nx, q.1, q.2)
theorem mAsg_ok {K : PySem.W.Frag} {m : FE} {g : FG} {E : Ends} {σ : L2.St} {H : Hp} (h : tMS K (mAsg m g) E σ H) : tAsg (tM K m) (tMG K g) E σ H := by
 obtain ⟨r, mu, S, f, r', S', he, hs, hm, hc⟩ := h
 obtain ⟨⟨d1, S1⟩, e1, hm⟩ := Option.bind_eq_some_iff.mp hm
 obtain ⟨⟨r2, S2⟩, e2, hm⟩ := Option.bind_eq_some_iff.mp hm
 cases hm
 refine ⟨r, mu, S, d1, S1, he, hs, e1, fun v1 H1 mu1 x1 r1 s1 => ?_⟩
 exact ⟨r, mu1, S1, d1, _, _, he.ext x1, s1, r1, e2, fun σ2 H2 mu2 x2 => hc σ2 H2 mu2 (x1.trans x2)⟩
theorem ms_asg {tg e : Expr} {m : FE} {g : FG} (he : ME X e m) (hg : MG X tg g) (hs : swapsWithSole [tg] e pos.line X.env = pure false := by rfl) (hw : swappedStores [tg] e X.env = pure none := by rfl)
   (h1 : (assignEach [tg] X.env).map (·.2) = [assign tg X.env] := by rfl) : MS X (.Assign [tg] e pos) (mAsg m g) := ps_imp (ps_asg he hg hs hw h1) fun _ _ _ => mAsg_ok
theorem ms_set (i : Nat) {x : Str} {e : Expr} {m : FE} {pos' : Pos} (hN : X.N.Nodup) (hi : X.N[i]? = some x) (hx : Loc X.env.scope x) (he : ME X e m) (hs : swapsWith e (some (.Name x pos')) pos.line X.env = pure false := by rfl) (hf : X.fn x = true ∨ X.env.scope.names.lookup x = some .local := by first | exact .inl rfl | exact .inr rfl | assumption) :
   MS X (.Assign [.Name x pos'] e pos) (mAsg m (gN i)) := ps_imp (ps_set hN hi hx he hs hf) fun E σ H h => by
 obtain ⟨r, mu, S, d, S', h1, h2, h3, h4⟩ := mAsg_ok h
 refine ⟨r, mu, S, d, S', h1, h2, h3, fun v H' mu' x1 r1 s1 => ?_⟩
 obtain ⟨r2, mu2, S2, d2, r3, S3, q1, q2, q3, q4, q5⟩ := h4 v H' mu' x1 r1 s1
 cases q4
 exact q5 _ H' mu2 (.refl _ _) (q1.set q3) q2
noncomputable def mAug (i : Nat) (f : FN) (m : FE) : FS := fun r S => match r[i]? with
 | some (some d) => (m r S).bind fun p => (f [d, p.1] p.2).bind fun q => some (.nx, r.set i (some q.1), q.2)
 | _ => none
end
noncomputable def whl (c : FT) (b : FS) : Nat → FS
 | 0 => fun _ _ => none
 | n + 1 => fun r S => (c r S).bind fun p => if p.1 = true then (b r p.2).bind fun q => match q.1 with
     | .nx => whl c b n q.2.1 q.2.2
     | .ct => whl c b n q.2.1 q.2.2
     | .bk => some (.nx, q.2.1, q.2.2)
     | .rt d => some (.rt d, q.2.1, q.2.2)
   else some (.nx, r, p.2)
structure Itm where
 items : List D
 chk : List (Nat × List D)
noncomputable def okC (S : Sto) : List (Nat × List D) → Bool
 | [] => true
 | (n, xs) :: c => (match S[n]? with
     | some (.lst ys) => D.sames ys xs
     | _ => false) && okC S c
noncomputable def ItR (K : PySem.W.Frag) (j : It) (J : Itm) (mu : List Addr) (H : Hp) : Prop := ∀ i H1 mu1 S1, Exw mu mu1 H H1 → Sim K H1 mu1 S1 → okC S1 J.chk = true →
 (∀ d, J.items[i]? = some d → j.go i H1 ∧ ∀ x H2, j.yld i H1 x H2 → Ext mu1 mu1 H1 H2 ∧ Sim K H2 mu1 S1 ∧ Rep K H2 mu1 d x) ∧ (J.items.length ≤ i → j.stop i H1)
noncomputable abbrev FI := Ev → Sto → Option (Itm × Sto)
inductive tMI (K : PySem.W.Frag) (m : FI) (σ : L2.St) (H : Hp) (R : It → Hp → Prop) : Prop
 | mk (r : Ev) (mu : List Addr) (S : Sto) (J : Itm) (S' : Sto) (he : EnvR K H mu r σ) (hs : Sim K H mu S) (hm : m r S = some (J, S')) (hc : ∀ j H' mu', Ext mu mu' H H' → ItR K j J mu' H' → Sim K H' mu' S' → R j H')
noncomputable abbrev MI (X : Cx) (tg iter : Expr) (m : FI) : Prop := PI X tg iter (tMI X.K m)
theorem pi_imp {X : Cx} {tg e : Expr} {t t' : TI} (h : PI X tg e t) (i : ∀ σ H R, t' σ H R → t σ H R) : PI X tg e t' := fun pins s σ H R I q => h pins s σ H R I (i σ H R q)
theorem pi_or {X : Cx} {tg e : Expr} {t t' : TI} (h : PI X tg e t) (h' : PI X tg e t') : PI X tg e (fun σ H R => t σ H R ∨ t' σ H R) := fun pins s σ H R I q => q.elim (h pins s σ H R I) (h' pins s σ H R I)
noncomputable def loopM (c : List (Nat × List D)) (g : FG) (b : FS) : List D → FS
 | [] => fun r S => if okC S c = true then some (.nx, r, S) else none
 | d :: ds => fun r S => if okC S c = true then (g d r S).bind fun p => (b p.1 p.2).bind fun q => match q.1 with
     | .nx => loopM c g b ds q.2.1 q.2.2
     | .ct => loopM c g b ds q.2.1 q.2.2
     | .bk => some (.nx, q.2.1, q.2.2)
     | .rt v => some (.rt v, q.2.1, q.2.2)
   else none
noncomputable def mFor (m : FI) (g : FG) (b : FS) : FS := fun r S => (m r S).bind fun p => loopM p.1.chk g b p.1.items r p.2
theorem drop_of_get {α : Type} {l : List α} {i : Nat} {d : α} {ds : List α} (h : l.drop i = d :: ds) : l[i]? = some d ∧ l.drop (i + 1) = ds := by
 have h1 : l[i]? = some d := by
   have := congrArg (·[0]?) h
   simpa using this
 refine ⟨h1, ?_⟩
 rw [← List.drop_drop, h]
 rfl
theorem mFor_ok {K : PySem.W.Frag} {m : FI} {g : FG} {b : FS} {E : Ends} {σ : L2.St} {H : Hp} (h : tMS K (mFor m g b) E σ H) : tFor (tMI K m) (tMG K g) (tMS K b) E σ H := by
 obtain ⟨r, mu, S, f, r', S', he, hs, hm, hc⟩ := h
 obtain ⟨⟨J, S1⟩, e1, hm⟩ := Option.bind_eq_some_iff.mp hm
 refine ⟨r, mu, S, J, S1, he, hs, e1, fun j H1 mu1 x1 J1 s1 => ?_⟩
 refine ⟨fun i k σ' H' => ∃ r2 mu2 S2, Ext mu1 mu2 H1 H' ∧ EnvR K H' mu2 r2 σ' ∧ Sim K H' mu2 S2 ∧ k = (J.items.drop i).length ∧ loopM J.chk g b (J.items.drop i) r2 S2 = some (f, r', S'), ⟨_, r, mu1, S1, .refl _ _, he.ext x1, s1, rfl, hm⟩, ?_⟩
 rintro i k σ2 H2 ⟨r2, mu2, S2, x2, he2, s2, rfl, hm2⟩
 cases hl : J.items.drop i with
 | nil =>
   left
   rw [hl] at hm2
   rw [loopM] at hm2
   dsimp only at hm2
   split at hm2
   · rename_i ok
     cases hm2
     refine ⟨(J1 i H2 mu2 _ x2.w s2 ok).2 (List.drop_eq_nil_iff.mp hl), ?_⟩
     exact hc σ2 H2 mu2 (x1.trans x2) he2 s2
   · cases hm2
 | cons d ds =>
   right
   rw [hl] at hm2
   obtain ⟨hi, hd⟩ := drop_of_get hl
   rw [loopM] at hm2
   dsimp only at hm2
   split at hm2
   · rename_i ok
     obtain ⟨⟨r3, S3⟩, e3, hm2⟩ := Option.bind_eq_some_iff.mp hm2
     obtain ⟨⟨f4, r4, S4⟩, e4, hm2⟩ := Option.bind_eq_some_iff.mp hm2
     obtain ⟨go, yl⟩ := (J1 i H2 mu2 _ x2.w s2 ok).1 d hi
     refine ⟨go, fun σ' H' => ∃ r2 mu2 S2, Ext mu1 mu2 H1 H' ∧ EnvR K H' mu2 r2 σ' ∧ Sim K H' mu2 S2 ∧ loopM J.chk g b ds r2 S2 = some (f, r', S'), ?_, fun x H3 y => ?_⟩
     · rintro σ' H' ⟨r5, mu5, S5, x5, he5, s5, hm5⟩
       refine ⟨ds.length, Nat.lt_succ_self _, r5, mu5, S5, x5, he5, s5, ?_, ?_⟩
       · rw [hd]
       · rw [hd]; exact hm5
     · obtain ⟨x3, s3, q3⟩ := yl x H3 y
       refine ⟨r2, mu2, S2, d, r3, S3, he2.ext x3, s3, q3, e3, fun σ4 H4 mu4 x4 he4 s4 => ?_⟩
       refine ⟨r3, mu4, S3, f4, r4, S4, he4, s4, e4, ?_⟩
       cases f4 with
       | nx => exact fun σ5 H5 mu5 x5 he5 s5 => ⟨r4, mu5, S4, (x2.trans x3).trans (x4.trans x5), he5, s5, hm2⟩
       | ct => exact fun σ5 H5 mu5 x5 he5 s5 => ⟨r4, mu5, S4, (x2.trans x3).trans (x4.trans x5), he5, s5, hm2⟩
       | bk => cases hm2; exact fun σ5 H5 mu5 x5 he5 s5 => hc σ5 H5 mu5 ((x1.trans x2).trans (x3.trans (x4.trans x5))) he5 s5
       | rt v => cases hm2; exact fun v5 H5 mu5 x5 r5 s5 => hc v5 H5 mu5 ((x1.trans x2).trans (x3.trans (x4.trans x5))) r5 s5
   · cases hm2
theorem ms_for {X : Cx} {pos : Pos} {tg iter : Expr} {body : List Stmt} {m : FI} {g : FG} {b : FS} (hp : PassesOwn (model X.prog X.w) X.A X.env X.xe) (hc : X.calm = true) (hi : MI X tg iter m) (hg : MG X tg g) (hb : MSs X body b)
   (hs : ∀ x, foldedSetIterable iter X.env x = pure x := by intro _; rfl) : MS X (.For tg iter body [] pos) (mFor m g b) := ps_imp (ps_for hp hc hi hg hb hs) fun _ _ _ => mFor_ok
noncomputable def startD (n : Nat) (ds : List D) : Ev := ds.map some ++ List.replicate (n - ds.length) none
noncomputable def fnB (n : Nat) (b : FS) : FN := fun ds S => (b (startD n ds) S).bind fun p => match p.1 with
 | .rt d => some (d, p.2.2)
 | .nx => some (.non, p.2.2)
 | _ => none
theorem start_env {K : PySem.W.Frag} {H : Hp} {mu : List Addr} {ds : List D} {vs : List V} (N : List Str) (h : Reps K H mu ds vs) : EnvR K H mu (startD N.length ds) (L2.start N vs) := by
 refine ⟨?_, fun i d e => ?_⟩
 · unfold startD L2.start
   rw [List.length_append, List.length_append, List.length_map, List.length_map, List.length_replicate, List.length_replicate, h.length]
 · unfold startD at e
   unfold L2.start
   by_cases hi : i < ds.length
   · rw [List.getElem?_append_left (by rw [List.length_map]; exact hi), List.getElem?_map] at e
     obtain ⟨d', e1, e2⟩ := Option.map_eq_some_iff.mp e
     cases e2
     obtain ⟨v, e3, r⟩ := h.get e1
     refine ⟨v, ?_, r⟩
     rw [List.getElem?_append_left (by rw [List.length_map, ← h.length]; exact hi), List.getElem?_map, e3]
     rfl
   · rw [List.getElem?_append_right (by rw [List.length_map]; omega)] at e
     have := List.mem_of_getElem? e
     rw [List.mem_replicate] at this
     cases this.2
theorem fn_m {P : Program} {w : World} {K : PySem.W.Frag} {mg : Str → Option Value} {base : Heap} {x qual : Str} {st : Stmt} {f : Addr} {fd : FuncData} {N ps : List Str} {k : Nat} {b : FS} (F : Fun K x qual st f fd) (S : FnScope N ps (defScope st))
   (hbody : ∀ (cdv : Value) (A : Around) (outer : List Env) (s : Shared) (H : Hp) (E : XK), Room k (A.deeper (envOfC qual (defScope st) s.heap.objs.size f cdv)) →
     MSs (cxOf CX0 P w K mg base N qual (defScope st) f cdv A outer s H E).nox (defBody st) b) : FnOk P w K mg base CX0 (k + 1) f fd ps (spM K ps.length (fnB N.length b)) := by
 refine Fun.ok F S (fun vs H Q E h => h.1) fun cdv A outer s H vs Q E hr hsp => ⟨_, hbody cdv A outer s H E hr, ?_⟩
 obtain ⟨_, mu, St, ds, d, S', h1, h2, h3, h4⟩ := hsp
 unfold fnB at h3
 obtain ⟨⟨fl, r', S1⟩, e1, h3⟩ := Option.bind_eq_some_iff.mp h3
 refine ⟨_, mu, St, fl, r', S1, start_env N h1, h2, e1, ?_⟩
 cases fl with
 | nx => cases h3; exact fun σ' H' mu' x he s => h4 .non H' mu' x .non s
 | rt d => cases h3; exact h4
 | bk => cases h3
 | ct => cases h3
end Mi
end
section
namespace Mi
open PySem PySem.Spec PyProof.Rows L2
noncomputable def cloF (cells : List (Str × Addr)) : List (Str × NameKind) → List (Str × Addr) → Option (List (Str × Addr))
 | [], acc => some acc
 | (n, k) :: r, acc => if k == .free then (cells.lookup n).bind fun c => cloF cells r ((n, c) :: acc) else cloF cells r acc
theorem clo_go {env : Env} (f : Str × NameKind → List (Str × Addr) → Sem (ForInStep (List (Str × Addr))))
   (hf : ∀ n k cs, f (n, k) cs = if k == .free then (do let c ← cellOf env n; pure (.yield ((n, c) :: cs))) else pure (.yield cs)) :
   ∀ (names : List (Str × NameKind)) (acc cl : List (Str × Addr)), cloF env.cells names acc = some cl → forIn names acc f = (pure cl : Sem (List (Str × Addr)))
 | [], acc, cl, h => by cases h; rfl
 | (n, k) :: r, acc, cl, h => by
   rw [List.forIn_cons, hf]
   unfold cloF at h
   split at h
   · rename_i hk
     rw [if_pos hk]
     obtain ⟨c, e, h⟩ := Option.bind_eq_some_iff.mp h
     have : cellOf env n = pure c := by unfold cellOf; rw [e]
     rw [this, pure_bind, pure_bind]
     exact clo_go f hf r _ cl h
   · rename_i hk
     rw [if_neg hk, pure_bind]
     exact clo_go f hf r _ cl h
theorem clo_eq {scope : Scope} {env : Env} {cl : List (Str × Addr)} (h : cloF env.cells scope.names [] = some cl) : closureFor scope env = pure cl := by
 simp only [closureFor]
 rw [clo_go (env := env) _ (fun n k cs => by cases hk : k == NameKind.free <;> simp [hk]) scope.names [] cl h]
 rfl
theorem clo_of {cells : List (Str × Addr)} : ∀ {names : List (Str × NameKind)} {acc cl : List (Str × Addr)}, cloF cells names acc = some cl → (∀ x c, acc.lookup x = some c → cells.lookup x = some c) → ∀ x c, cl.lookup x = some c → cells.lookup x = some c
 | [], acc, cl, h, ha => by cases h; exact ha
 | (n, k) :: r, acc, cl, h, ha => by
   unfold cloF at h
   split at h
   · obtain ⟨c, e, h⟩ := Option.bind_eq_some_iff.mp h
     refine clo_of h fun x c' q => ?_
     rw [List.lookup_cons] at q
     split at q
     · rename_i hx
       cases q
       rw [beq_iff_eq.mp hx]; exact e
     · exact ha x c' q
   · exact clo_of h ha
theorem clo_has {cells : List (Str × Addr)} {x : Str} : ∀ {names : List (Str × NameKind)} {acc cl : List (Str × Addr)}, cloF cells names acc = some cl → (names.lookup x = some .free ∨ (acc.lookup x).isSome = true) → (cl.lookup x).isSome = true
 | [], acc, cl, h, ha => by
   cases h
   rcases ha with q | q
   · cases q
   · exact q
 | (n, k) :: r, acc, cl, h, ha => by
   unfold cloF at h
   split at h
   · obtain ⟨c, e, h⟩ := Option.bind_eq_some_iff.mp h
     refine clo_has h ?_
     rcases ha with q | q
     · rw [List.lookup_cons] at q
       split at q
       · rename_i hx
         right; rw [List.lookup_cons, hx]; rfl
       · exact .inl q
     · right
       rw [List.lookup_cons]
       split
       · rfl
       · exact q
   · rename_i hk
     refine clo_has h ?_
     rcases ha with q | q
     · rw [List.lookup_cons] at q
       split at q
       · cases q
         exact absurd rfl hk
       · exact .inl q
     · exact .inr q
theorem cellsFrom_old {x : Str} {c : Addr} : ∀ {names : List (Str × NameKind)} {n : Nat} {acc : List (Str × Addr)}, (cellsFrom n names acc).lookup x = some c → (n ≤ c ∧ (x, c) ∈ cellsFrom n names []) ∨ acc.lookup x = some c
 | [], _, _, h => .inr h
 | (y, k) :: r, n, acc, h => by
   unfold cellsFrom at h ⊢
   split at h
   · rename_i hk
     rw [if_pos hk]
     have app : ∀ (names : List (Str × NameKind)) (m : Nat) (acc : List (Str × Addr)), cellsFrom m names acc = cellsFrom m names [] ++ acc := by
       intro names
       induction names with
       | nil => intro m acc; rfl
       | cons p r ih =>
         obtain ⟨z, q⟩ := p
         intro m acc
         unfold cellsFrom
         split
         · rw [ih _ ((z, m) :: acc), ih _ [(z, m)], List.append_assoc]; rfl
         · exact ih m acc
     rcases cellsFrom_old h with ⟨h1, h2⟩ | h1
     · refine .inl ⟨by omega, ?_⟩
       rw [app]; exact List.mem_append_left _ h2
     · rw [List.lookup_cons] at h1
       split at h1
       · rename_i hx
         cases h1
         refine .inl ⟨Nat.le_refl _, ?_⟩
         rw [app, beq_iff_eq.mp hx]
         exact List.mem_append_right _ List.mem_cons_self
       · exact .inr h1
   · rename_i hk
     rw [if_neg hk]
     exact cellsFrom_old h
theorem cellsFrom_own {x : Str} {c : Addr} {n : Nat} {acc : List (Str × Addr)} {names : List (Str × NameKind)} (hx : names.lookup x = some .cell) (h : (cellsFrom n names acc).lookup x = some c) : n ≤ c := by
 have app : ∀ (names : List (Str × NameKind)) (m : Nat) (acc : List (Str × Addr)), cellsFrom m names acc = cellsFrom m names [] ++ acc := by
   intro names
   induction names with
   | nil => intro m acc; rfl
   | cons p r ih =>
     obtain ⟨z, q⟩ := p
     intro m acc
     unfold cellsFrom
     split
     · rw [ih _ ((z, m) :: acc), ih _ [(z, m)], List.append_assoc]; rfl
     · exact ih m acc
 rw [app, List.lookup_append] at h
 have q := PySem.W.cellsFrom_some names n [] (.inl hx)
 obtain ⟨c', e⟩ := Option.isSome_iff_exists.mp q
 rw [e] at h
 cases h
 rcases cellsFrom_old e with ⟨h1, _⟩ | h1
 · exact h1
 · cases h1
theorem newEnv_around {M : Model} {A : Around} {E : Value → Shared → Prop} {s : Shared} {scope : Scope} {globals : Addr} {cl : List (Str × Addr)} {qual : Str} {func : Option Addr} {code : Value} {env : Env} {b : Addr} {Q : Env → Shared → Prop}
   (hQ : Q { scope, locals := s.heap.objs.size, globals, cells := cellsFrom (s.heap.objs.size + 1) scope.names cl, qual, func, code := env.code, frame := env.frame, builtins := env.builtins }
     { s with heap := pushCells (s.heap.push { cls := .type "dict", data := .dict #[] }) scope.names }) :
   wpAny M A (newFunctionEnv scope globals cl [] qual func code (some env) b) Q E s := by
 simp only [newFunctionEnv, Option.isSome_some, if_true]
 refine wpAny_bind (wpAny_alloc ?_)
 refine wpAny_bind (wpAny_layCells _ (fun name kind cells => by cases hkc : kind == NameKind.cell <;> simp [hkc]) _ _ _ _ ?_)
 rw [show ({ s with heap := s.heap.push { cls := .type "dict", data := .dict #[] } } : Shared).heap.objs.size = s.heap.objs.size + 1 from Heap.size_push ..]
 refine wpAny_bind ?_
 rw [List.forIn_nil]
 exact wpAny_pure (wpAny_pure hQ)
noncomputable def cxC (X : Cx) (scope : Scope) (cl : List (Str × Addr)) (T : List Str) (keep : List Nat) (s : Shared) (H : Hp) (fp : List Addr) : Cx where
 prog := X.prog
 w := X.w
 K := X.K
 mg := X.mg
 base := X.base
 A := X.A
 N := T ++ keep.map fun i => X.N.getD i (Str.ofString "")
 s₀ := s
 H₀ := H
 env := compEnvC scope (cellsFrom (s.heap.objs.size + 1) scope.names cl) s.heap.objs.size X.env
 outer := X.stack
 stack := X.stack
 ex := fp
 fn := fun x => scope.names.lookup x == some .cell
 calm := X.calm
 pn := []
 xe := fun _ _ => False
noncomputable def inSt (k : Nat) (keep : List Nat) (σ : L2.St) : L2.St := List.replicate k none ++ keep.map fun i => (σ[i]?).join
theorem lookup_relabel {env : Env} {x : Str} : ∀ {names : List (Str × NameKind)}, 
   (names.map fun (n, k) => if (k == NameKind.free && env.scope.kind == .function && env.kindOf n == some .cell) then (n, NameKind.cell) else (n, k)).lookup x =
     (names.lookup x).map fun k => if (k == NameKind.free && env.scope.kind == .function && env.kindOf x == some .cell) then NameKind.cell else k
 | [] => rfl
 | (n, k) :: r => by
   show List.lookup x ((if (k == NameKind.free && env.scope.kind == .function && env.kindOf n == some .cell) = true then (n, NameKind.cell) else (n, k)) :: _) = _
   cases hx : x == n with
   | true =>
     have e := beq_iff_eq.mp hx
     subst e
     by_cases hc : (k == NameKind.free && env.scope.kind == .function && env.kindOf x == some .cell) = true
     · rw [if_pos hc, List.lookup_cons, hx, List.lookup_cons, hx]; simp only [Option.map_some, if_pos hc]
     · rw [if_neg hc, List.lookup_cons, hx, List.lookup_cons, hx]; simp only [Option.map_some, if_neg hc]
   | false =>
     have ih := @lookup_relabel env x r
     by_cases hc : (k == NameKind.free && env.scope.kind == .function && env.kindOf n == some .cell) = true
     · rw [if_pos hc, List.lookup_cons, hx, List.lookup_cons, hx]; exact ih
     · rw [if_neg hc, List.lookup_cons, hx, List.lookup_cons, hx]; exact ih
structure CSc (X : Cx) (scope : Scope) (T : List Str) (keep : List Nat) : Prop where
 kind : scope.kind = .function
 names : ∀ x ∈ scope.names, x.2 = .local → scope.names.lookup x.1 = some .local
 free : ∀ i ∈ keep, ∃ x, X.N[i]? = some x ∧ scope.names.lookup x = some .free ∧ (X.env.kindOf x = some .cell ∨ X.env.kindOf x = some .free) ∧ (x, NameKind.cell) ∉ scope.names
theorem inv_comp {X : Cx} {pins : List (Addr × Obj)} {σ : L2.St} {H : Hp} {s : Shared} {scope : Scope} {cl : List (Str × Addr)} {T : List Str} {keep : List Nat} {fp : List Addr} (I : Inv X pins σ H s)
   (C : CSc X scope T keep) (hcl : cloF X.env.cells scope.names [] = some cl) (hf : ∀ b ∈ fp, FpOk X pins H b) (hfo : ∀ b ∈ fp, ∃ o, s.heap.get? b = some o) :
   Inv (cxC X scope cl T keep s H fp) [] (inSt T.length keep σ) H { s with heap := pushCells (s.heap.push { cls := .type "dict", data := .dict #[] }) scope.names } := by
 have kept : ∀ b o, s.heap.get? b = some o → (pushCells (s.heap.push { cls := .type "dict", data := .dict #[] }) scope.names).get? b = some o := fun b o e => pushCells_keeps _ _ b o (Heap.get?_push_of_some _ e)
 have cok := cellsFrom_ok scope.names (s.heap.push { cls := .type "dict", data := .dict #[] }) (s.heap.objs.size + 1) [] ⟨fun _ _ hm => (nomatch hm), List.Pairwise.nil⟩ (by rw [Heap.size_push]; exact Nat.le_refl _)
 rw [Heap.size_push] at cok
 have clE := clo_of hcl (fun x c q => by cases q)
 -- a cell of the block: its own or an elder one
 have cells : ∀ x c, (cellsFrom (s.heap.objs.size + 1) scope.names cl).lookup x = some c → (s.heap.objs.size + 1 ≤ c ∧ (x, c) ∈ cellsFrom (s.heap.objs.size + 1) scope.names []) ∨ X.env.cells.lookup x = some c := fun x c h => by
   rcases cellsFrom_old h with h1 | h1
   · exact .inl h1
   · exact .inr (clE x c h1)
 have oldLt : ∀ x c, X.env.cells.lookup x = some c → c < s.heap.objs.size := fun x c e => by
   obtain ⟨v, z⟩ := I.cell x c e
   exact z.lt
 have fpLt : ∀ b ∈ fp, b < s.heap.objs.size := fun b hb => by
   obtain ⟨o, e⟩ := hfo b hb
   exact Heap.lt_size e
 have fst : ∀ b ∈ fp, b ∉ frs X.stack := fun b hb z => by
   rcases List.mem_cons.mp (I.stkSub b z) with q | q
   · exact (hf b hb).2.1 q
   · exact (hf b hb).2.2.1 q
 have kindOf : ∀ x, (cxC X scope cl T keep s H fp).env.kindOf x = (scope.names.lookup x).map fun k => if (k == NameKind.free && X.env.scope.kind == .function && X.env.kindOf x == some .cell) then NameKind.cell else k := fun x => lookup_relabel
 refine ⟨⟨I.ok.mod, C.kind, I.ok.glob, I.ok.blt, Nat.le_refl _, fun x y c h1 h2 => ?_, fun x hx => ?_, fun x c h1 h2 => ?_, I.ok.hd, I.ok.frames, .inl rfl, fun b hb => ⟨Nat.ne_of_lt (fpLt b hb), fun x c h z => ?_⟩, fun b o e => I.bs b o e, Nat.le_trans I.ok.bsz I.sz, fun b o e hb => ?_, fst, I.stack, I.stkFree⟩,
   rfl, I.bare, Un.kept kept, ⟨fun _ => none, (Heap.Ns.new s.heap (.type "dict")).keeps (pushCells_keeps _ _), fun i x v h1 h2 h3 => ?_⟩, fun x c h => ?_, I.hok.fresh (Nat.le_refl _), fun x c h => ?_, fun p hp => absurd (show p ∈ ([] : List (Addr × Obj)) from hp) (by simp), I.hok.kept kept, ?_⟩
 · rcases cells x c h1 with ⟨a1, a2⟩ | a1 <;> rcases cells y c h2 with ⟨b1, b2⟩ | b1
   · exact name_of_addr cok.apart a2 b2
   · exact absurd (Nat.lt_of_le_of_lt (Nat.le_of_succ_le a1) (oldLt y c b1)) (Nat.lt_irrefl _)
   · exact absurd (Nat.lt_of_le_of_lt (Nat.le_of_succ_le b1) (oldLt x c a1)) (Nat.lt_irrefl _)
   · exact I.ok.inj x y c a1 b1
 · have hx' : scope.names.lookup x = some .cell ∨ scope.names.lookup x = some .free := by
     rw [kindOf x] at hx
     cases e : scope.names.lookup x with
     | none => rw [e] at hx; rcases hx with z | z <;> cases z
     | some k =>
       rw [e] at hx
       simp only [Option.map_some] at hx
       cases k <;> simp_all
   have : ((cellsFrom (s.heap.objs.size + 1) scope.names cl).lookup x).isSome = true := by
     rcases hx' with z | z
     · exact PySem.W.cellsFrom_some _ _ _ (.inl z)
     · exact PySem.W.cellsFrom_some _ _ _ (.inr (clo_has hcl (.inl z)))
   exact Option.isSome_iff_exists.mp this
 · have h1' : scope.names.lookup x = some .cell := by simpa [cxC] using h1
   have := cellsFrom_own h1' h2
   exact Nat.le_trans (Nat.le_succ _) this
 · subst z
   rcases cells x c h with ⟨a1, _⟩ | a1
   · exact absurd (Nat.lt_of_le_of_lt (Nat.le_of_succ_le a1) (fpLt c hb)) (Nat.lt_irrefl _)
   · exact (hf c hb).2.2.2.2.1 x c a1 rfl
 · rcases (hf b hb).2.2.2.1 with z | z
   · exact I.ok.noex b o e z
   · exact absurd (Nat.lt_of_lt_of_le (Heap.lt_size e) (Nat.le_trans I.ok.bsz z)) (Nat.lt_irrefl _)
 · -- a name of the block that has a value: one of the outer text's
   have hi : T.length ≤ i := by
     refine Nat.le_of_not_lt fun hi => ?_
     unfold inSt at h2
     rw [List.getElem?_append_left (by rw [List.length_replicate]; exact hi), List.getElem?_replicate] at h2
     split at h2 <;> cases h2
   unfold inSt at h2
   rw [List.getElem?_append_right (by rw [List.length_replicate]; exact hi), List.length_replicate, List.getElem?_map] at h2
   obtain ⟨j, ej, h2⟩ := Option.map_eq_some_iff.mp h2
   have h1' : X.N.getD j (Str.ofString "") = x := by
     have h1' : (T ++ keep.map fun i => X.N.getD i (Str.ofString ""))[i]? = some x := h1
     rw [List.getElem?_append_right hi, List.getElem?_map, ej] at h1'
     exact Option.some.inj h1'
   obtain ⟨y, ey, fy, ky, ny⟩ := C.free j (List.mem_of_getElem? ej)
   have exy : y = x := by rw [← h1', List.getD_eq_getElem?_getD, ey]; rfl
   subst exy
   have h2' : σ[j]? = some (some v) := by
     cases e : σ[j]? with
     | none => rw [e] at h2; cases h2
     | some o => rw [e] at h2; cases h2; rfl
   obtain ⟨m, hn, hl⟩ := I.loc
   obtain ⟨u, ru, lu⟩ := hl j y v ey h2' (by
     rcases ky with z | z
     · exact .inr (.inl z)
     · exact .inr (.inr z))
   refine ⟨u, ru, ?_⟩
   rcases lu with ⟨z, _⟩ | ⟨_, c, ec, zc⟩
   · rcases ky with q | q <;> (rw [z] at q; cases q)
   · right
     refine ⟨?_, c, ?_, zc.keeps kept⟩
     · rw [kindOf, fy]
       simp only [Option.map_some]
       split
       · exact .inl rfl
       · exact .inr rfl
     · obtain ⟨c', e'⟩ := Option.isSome_iff_exists.mp (PySem.W.cellsFrom_some scope.names (s.heap.objs.size + 1) cl (.inr (clo_has hcl (.inl fy))) : ((cellsFrom (s.heap.objs.size + 1) scope.names cl).lookup y).isSome = true)
       have e2 : (cellsFrom (s.heap.objs.size + 1) scope.names cl).lookup y = some c' := e'
       rcases cells y c' e2 with ⟨a1, a2⟩ | a1
       · -- an own cell of that name: its kind would be cell
         exfalso
         have : ∀ (names : List (Str × NameKind)) (n : Nat), (y, c') ∈ cellsFrom n names [] → (y, NameKind.cell) ∈ names := by
           have app : ∀ (names : List (Str × NameKind)) (m : Nat) (acc : List (Str × Addr)), cellsFrom m names acc = cellsFrom m names [] ++ acc := by
             intro names
             induction names with
             | nil => intro m acc; rfl
             | cons p r ih =>
               obtain ⟨z, q⟩ := p
               intro m acc
               unfold cellsFrom
               split
               · rw [ih _ ((z, m) :: acc), ih _ [(z, m)], List.append_assoc]; rfl
               · exact ih m acc
           intro names
           induction names with
           | nil => intro n h; cases h
           | cons p r ih =>
             obtain ⟨z, q⟩ := p
             intro n h
             unfold cellsFrom at h
             split at h
             · rename_i hq
               rw [app] at h
               rcases List.mem_append.mp h with h | h
               · exact List.mem_cons_of_mem _ (ih _ h)
               · have : (y, c') = (z, n) := by simpa using h
                 cases this
                 have hq' : q = NameKind.cell := by simpa using hq
                 subst hq'
                 exact List.mem_cons_self
             · exact List.mem_cons_of_mem _ (ih _ h)
         exact ny (this _ _ a2)
       · rw [ec] at a1; cases a1
         exact e2
 · rcases cells x c h with ⟨a1, a2⟩ | a1
   · exact ⟨_, (cok.empty x c a2).1⟩
   · obtain ⟨v, z⟩ := I.cell x c a1
     exact ⟨v, z.keeps kept⟩
 · rcases cells x c h with ⟨a1, a2⟩ | a1
   · exact I.hok.fresh (Nat.le_of_succ_le a1)
   · exact I.freeC x c a1
 · show (inSt T.length keep σ).length = (T ++ keep.map fun i => X.N.getD i (Str.ofString "")).length
   unfold inSt
   rw [List.length_append, List.length_append, List.length_replicate, List.length_map, List.length_map]
noncomputable def turnT (p : Pos) (tg : Expr) (ifs : List Expr) (it : Value) (env : Env) (emit : Sem Unit) (c : Code) : Sem PySem.Fin := do
 standAt p
 match ← pyNext it with
 | none => pure (.done .next)
 | some v =>
   letOwnedTupleGo tg it v
   assign tg env v
   let mut ok := true
   for c in ifs do
     if ok then ok ← isTrue c env (eval c env)
   if ok then emit
   again c
noncomputable def emitE (elt : Expr) (acc : Value) (env : Env) : Sem Unit := do let _ ← call (.builtin "list.append") [acc, ← eval elt env]
theorem turn_A (elt tg iter : Expr) (ifs : List Expr) (scope : Scope) (pos : Pos) (it acc : Value) (env : Env) :
   compTurn (.ListComp elt [⟨tg, iter, ifs, 0⟩] scope pos) 0 it acc env = turnT iter.pos tg ifs it env (emitE elt acc env) (.compLoop (.ListComp elt [⟨tg, iter, ifs, 0⟩] scope pos) 0 it acc env) := by rfl
noncomputable def PIfs (X : Cx) (ifs : List Expr) (t : TT) : Prop :=
 ∀ (pins : List (Addr × Obj)) (s : Shared) (σ : L2.St) (H : Hp) (Q : Bool → Hp → Prop), Inv X pins σ H s → t σ H Q →
   wpAny (model X.prog X.w) X.A (forIn ifs true fun c r => if r = true then do let ok ← isTrue c X.env (eval c X.env); pure (ForInStep.yield ok) else pure (ForInStep.yield r)) (TP X pins σ Q) X.xe s
theorem pifs_nil {X : Cx} : PIfs X [] (fun σ H Q => Q true H) := fun pins s σ H Q I h => wpAny_tests_nil ⟨H, I, h⟩
theorem pifs_one {X : Cx} {c : Expr} {t : TT} (h : PT X c t) : PIfs X [c] t := fun pins s σ H Q I q => wpAny_tests_one (h pins s σ H Q I q)
noncomputable def PU (X : Cx) (m : Sem Unit) (t : TS) : Prop :=
 ∀ (pins : List (Addr × Obj)) (s : Shared) (σ : L2.St) (H : Hp) (E : Ends), Inv X pins σ H s → t E σ H → wpAny (model X.prog X.w) X.A m (fun _ s' => ∃ σ' H', Inv X pins σ' H' s' ∧ E.nx σ' H') X.xe s
theorem comp_loop {X : Cx} (hx : X.xe = fun _ _ => False) (hc : X.calm = true) {elt : Expr} {gens : List Comprehension} {scope : Scope} {pos p : Pos} {d : Nat} {tg : Expr} {ifs : List Expr} {acc : Value} {emit : Sem Unit} {J : It} {fp : List Addr} {it : Addr} {tn : Nat → Heap → Prop} {g : TG} {ti : TT} {tb : TS}
   (eq : compTurn (.ListComp elt gens scope pos) d (.ref it) acc X.env = turnT p tg ifs (.ref it) X.env emit (.compLoop (.ListComp elt gens scope pos) d (.ref it) acc X.env))
   (T : Turn X.prog X.w X.K tg J fp it tn) (hg : PG X tg g) (hi : PIfs X ifs ti) (he : PU X emit tb)
   {pins : List (Addr × Obj)} {s : Shared} {σ : L2.St} {H : Hp} {D : Ends} (I : Inv X pins σ H s) (st : tn 0 s.heap) (f2 : ∀ b ∈ fp, FpOk X pins H b)
   (h : ∃ W : Nat → Nat → L2.St → Hp → Prop, (∃ m, W 0 m σ H) ∧ ∀ i m σ H, W i m σ H →
     (J.stop i H ∧ D.nx σ H) ∨ (J.go i H ∧ ∃ N : L2.St → Hp → Prop, (∀ σ' H', N σ' H' → ∃ m', m' < m ∧ W (i + 1) m' σ' H') ∧ ∀ x H', J.yld i H x H' → g x σ H' fun σ2 H2 => ti σ2 H2 fun b H3 => if b = true then tb { D with nx := N } σ2 H3 else N σ2 H3)) :
   codeAny (model X.prog X.w) X.A (.compLoop (.ListComp elt gens scope pos) d (.ref it) acc X.env) (fun r s' => match r with | .ok _ => ∃ σ' H', Inv X pins σ' H' s' ∧ D.nx σ' H' | .error _ => False) s := by
 obtain ⟨W, ⟨m0, w0⟩, turn⟩ := h
 have stat : ∀ {H' : Hp}, (∀ b ∈ fp, H' b = none) → ∀ b ∈ fp, FpOk X pins H' b := fun hn b hb => ⟨hn b hb, (f2 b hb).2⟩
 refine codeAny_loop rfl (fun n s' => ∃ i σ' H', Inv X pins σ' H' s' ∧ tn i s'.heap ∧ (∀ b ∈ fp, H' b = none) ∧ W i n σ' H') ?_ m0 ⟨0, σ, H, I, st, fun b hb => (f2 b hb).1, w0⟩
 rintro n s3 ⟨i, σ3, H3, I3, st3, fr3, w3⟩
 show wpAny _ _ ((compTurn (.ListComp elt gens scope pos) d (.ref it) acc X.env).onRaise (fun x => do noteFrame x X.env; theTreesLotGoes x)) _ _ s3
 refine wpAny_noted ?_
 rw [eq]
 have no : ∀ {α : Type} {m : Sem α} {Q : α → Shared → Prop} {s : Shared} {E : Value → Shared → Prop}, wpAny (model X.prog X.w) X.A m Q X.xe s → wpAny (model X.prog X.w) X.A m Q E s := fun h => by
   rw [hx] at h
   exact wpAny_mono h (fun _ _ q => q) fun _ _ q => q.elim
 unfold turnT
 refine wpAny_bind (wpAny_standAt (wpAny_bind ?_))
 rcases turn i n σ3 H3 w3 with ⟨stop, qn⟩ | ⟨go, N, hN, step⟩
 · refine no (thn (T.done X rfl rfl rfl hc i pins s3 σ3 H3 X.xe I3 (stat fr3) st3 stop) fun r s4 ⟨hr, I4⟩ => ?_)
   subst hr
   exact wpAny_pure ⟨σ3, H3, I4, qn⟩
 · refine no (thn (T.item X rfl rfl rfl hc i pins s3 σ3 H3 X.xe I3 (stat fr3) st3 go) fun r s4 ⟨u, hr, h4⟩ => ?_)
   subst hr
   refine wpAny_bind (no (thn h4 fun _ s5 ⟨x, H5, I5, r5, y5, st5, fr5⟩ => ?_))
   have I5' := I5.pinned (stat fr5) (T.obj _ _ st5)
   refine wpAny_bind (no (thn (hg _ s5 σ3 H5 x u _ I5' r5 (step x H5 y5)) fun _ s6 ⟨σ6, H6, I6, q6⟩ => ?_))
   refine wpAny_bind (no (thn (hi _ s6 σ6 H6 _ I6 q6) fun ok s7 ⟨H7, I7, q7⟩ => ?_))
   have again' : ∀ {σ7 : L2.St} {H7 : Hp} {s7 : Shared}, Inv X (pins ++ pinsAt fp s5.heap) σ7 H7 s7 → N σ7 H7 → ∃ m, m < n ∧ ∃ i σ' H', Inv X pins σ' H' s7 ∧ tn i s7.heap ∧ (∀ b ∈ fp, H' b = none) ∧ W i m σ' H' := fun {σ7 H7 s7} I7 n7 => by
     obtain ⟨m', hm, w7⟩ := hN σ7 H7 n7
     refine ⟨m', hm, i + 1, σ7, H7, I7.unpinned, T.keep _ _ _ st5 fun b hb o e => (I7.pin (b, o) (List.mem_append_right _ (List.mem_append_right _ (mem_pinsAt hb e)))).1, fun b hb => ?_, w7⟩
     obtain ⟨o, e, d⟩ := T.obj _ _ st5 b hb
     exact (I7.pin (b, o) (List.mem_append_right _ (List.mem_append_right _ (mem_pinsAt hb e)))).2.1
   cases ok with
   | false => exact wpAny_pure ⟨rfl, again' I7 q7⟩
   | true => exact wpAny_bind (no (thn (he _ s7 σ6 H7 _ I7 q7) fun _ s8 ⟨σ8, H8, I8, q8⟩ => wpAny_pure ⟨rfl, again' I8 q8⟩))
noncomputable def tEmit (p : Addr) (te : TE) : TS := fun D σ H => te σ H fun x H1 => ∃ xs, H1 p = some (.lst xs) ∧ xs.length < sizeLine ∧ D.nx σ (upd H1 p (.lst (xs ++ [x])))
theorem pu_emit {X : Cx} {elt : Expr} {te : TE} (h : PE X elt te) (p : Addr) : PU X (emitE elt (.ref p) X.env) (tEmit p te) := by
 intro pins s σ H E I q
 unfold emitE
 refine wpAny_bind (thn (h pins s σ H _ I q) fun u s1 ⟨x, H1, I1, r1, xs, e1, hl, q1⟩ => ?_)
 refine wpAny_bind (thn (mt_append pins s1 σ H1 (.ref p) [x] (.ref p) [u] (fun _ H' => E.nx σ H') I1 rfl (.cons r1 .nil) ⟨p, xs, x, rfl, rfl, e1, hl, q1⟩) fun _ s2 ⟨_, H2, I2, _, q2⟩ => ?_)
 exact wpAny_pure ⟨σ, H2, I2, q2⟩
noncomputable def tLoop (J : It) (g : TG) (ti : TT) (tb : TS) : TS := fun D σ H => ∃ W : Nat → Nat → L2.St → Hp → Prop, (∃ m, W 0 m σ H) ∧ ∀ i m σ H, W i m σ H →
 (J.stop i H ∧ D.nx σ H) ∨ (J.go i H ∧ ∃ N : L2.St → Hp → Prop, (∀ σ' H', N σ' H' → ∃ m', m' < m ∧ W (i + 1) m' σ' H') ∧ ∀ x H', J.yld i H x H' → g x σ H' fun σ2 H2 => ti σ2 H2 fun b H3 => if b = true then tb { D with nx := N } σ2 H3 else N σ2 H3)
theorem Un.sameBut {fs ex : List Addr} {H H' : Hp} {h h1 h2 : Heap} {c : Addr} (u : Un fs ex H H' h h1) (hs : Heap.SameBut c h1 h2) (hc : h.get? c = none) : Un fs ex H H' h h2 := by
 have ne : ∀ {b o}, h.get? b = some o → b ≠ c := fun e z => by rw [z, hc] at e; cases e
 refine ⟨fun b o e n hb hx => (hs.2 b (ne e)).trans (u.keep b o e n hb hx), fun b o e n hb hx => ?_, u.free, fun b o e hx => ?_, u.tups, u.frzs, u.tbls⟩
 · obtain ⟨sl, q⟩ := u.slot b o e n hb hx
   exact ⟨sl, (hs.2 b (ne e)).trans q⟩
 · obtain ⟨o', q⟩ := u.there b o e hx
   exact ⟨o', (hs.2 b (ne e)).trans q⟩
noncomputable def tComp (k : Nat) (keep : List Nat) (wi : TI) (g : TG) (ti : TT) (tb : Addr → TS) : TE := fun σ H Q => wi σ H fun J H1 => ∀ p, H1 p = none →
 tLoop J g ti (tb p) { nx := fun _ H' => Q (.ref p) H', rt := fun _ _ => False } (inSt k keep σ) (upd H1 p (.lst []))
theorem pe_comp {X : Cx} (hc : X.calm = true) {elt tg iter : Expr} {ifs : List Expr} {rest : List Comprehension} {scope : Scope} {pos : Pos} {T : List Str} {keep : List Nat} {cl : List (Str × Addr)} {wi : TI} {g : TG} {ti : TT} {tb : Addr → TS} {emit : Value → Env → Sem Unit}
   (eq : ∀ it acc env, compTurn (.ListComp elt (⟨tg, iter, ifs, 0⟩ :: rest) scope pos) 0 it acc env = turnT iter.pos tg ifs it env (emit acc env) (.compLoop (.ListComp elt (⟨tg, iter, ifs, 0⟩ :: rest) scope pos) 0 it acc env))
   (C : CSc X scope T keep) (hcl : cloF X.env.cells scope.names [] = some cl) (hi : PI X tg iter wi)
   (hb : ∀ s H fp p, PG (cxC X scope cl T keep s H fp) tg g ∧ PIfs (cxC X scope cl T keep s H fp) ifs ti ∧ PU (cxC X scope cl T keep s H fp) (emit (.ref p) (cxC X scope cl T keep s H fp).env) (tb p))
   (hs : ∀ x, foldedSetIterable iter X.env x = pure x := by intro _; rfl) :
   PE X (.ListComp elt (⟨tg, iter, ifs, 0⟩ :: rest) scope pos) (tComp T.length keep wi g ti tb) := by
 intro pins s σ H Q I h
 rw [eval_ListComp]
 refine wpAny_comprehension_free (use := none) rfl hs (clo_eq hcl) C.kind C.names ?_
 refine thn (hi pins s σ H _ I h) fun v s1 h1 => thn h1 fun itv s2 h2 => ?_
 obtain ⟨it, fp, tn, J, H2, rfl, I2, TT, st2, f2, q2⟩ := h2
 refine wpAny_newObj_type ?_
 have I3 : Inv X pins σ (upd H2 s2.heap.objs.size (.lst [])) { s2 with heap := s2.heap.push { cls := .type "list", data := .seq ([] : List Value).toArray } } := I2.lnew (t' := s2.toks) .nil (Nat.zero_le _)
 have old : ∀ b ∈ fp, ∃ o, s2.heap.get? b = some o := fun b hb => by
   obtain ⟨o, e, _⟩ := TT.obj 0 s2.heap st2 b hb
   exact ⟨o, e⟩
 have fne : ∀ b ∈ fp, b ≠ s2.heap.objs.size := fun b hb z => by
   obtain ⟨o, e⟩ := old b hb
   have := Heap.lt_size e
   rw [z] at this
   exact Nat.lt_irrefl _ this
 have f3 : ∀ b ∈ fp, FpOk X pins (upd H2 s2.heap.objs.size (.lst [])) b := fun b hb => ⟨by rw [upd_ne (fne b hb)]; exact (f2 b hb).1, (f2 b hb).2⟩
 have o3 : ∀ b ∈ fp, ∃ o, ({ s2 with heap := s2.heap.push { cls := .type "list", data := .seq ([] : List Value).toArray } } : Shared).heap.get? b = some o := fun b hb => by
   obtain ⟨o, e⟩ := old b hb
   exact ⟨o, Heap.get?_push_of_some _ e⟩
 have I4 := inv_comp I3 C hcl f3 o3
 obtain ⟨hg, hf, he⟩ := hb { s2 with heap := s2.heap.push { cls := .type "list", data := .seq ([] : List Value).toArray } } (upd H2 s2.heap.objs.size (.lst [])) fp s2.heap.objs.size
 refine newEnv_around ?_
 have f4 : ∀ b ∈ fp, FpOk (cxC X scope cl T keep { s2 with heap := s2.heap.push { cls := .type "list", data := .seq ([] : List Value).toArray } } (upd H2 s2.heap.objs.size (.lst [])) fp) [] (upd H2 s2.heap.objs.size (.lst [])) b := fun b hb =>
   ⟨(f3 b hb).1, (I4.ok.exf b hb).1, I4.ok.exfs b hb, .inl hb, (I4.ok.exf b hb).2, fun p hp => absurd (show p ∈ ([] : List (Addr × Obj)) from hp) (by simp)⟩
 have st4 : tn 0 (pushCells ((s2.heap.push { cls := .type "list", data := .seq ([] : List Value).toArray }).push { cls := .type "dict", data := .dict #[] }) scope.names) :=
   TT.keep 0 s2.heap _ st2 fun b hb o e => pushCells_keeps scope.names _ b o (Heap.get?_push_of_some _ (Heap.get?_push_of_some _ e))
 have loop := comp_loop (X := cxC X scope cl T keep { s2 with heap := s2.heap.push { cls := .type "list", data := .seq ([] : List Value).toArray } } (upd H2 s2.heap.objs.size (.lst [])) fp) rfl hc (eq (.ref it) (.ref s2.heap.objs.size) _) TT hg hf he I4 st4 f4
   (q2 s2.heap.objs.size (I2.hok.fresh (Nat.le_refl _)))
 refine codeAny_mono (codeAny_compStart_list loop (TT.self X.A 0 _ _ _ st4 loop)) fun r s' hr => ?_
 cases r with
 | error e => exact hr.elim
 | ok f =>
   obtain ⟨σ', H', I', q'⟩ := hr
   obtain ⟨m, hn, _⟩ := id I'.loc
   refine ⟨m, hn, fun h' hs' => ⟨.ref s2.heap.objs.size, H', ?_, rfl, q'⟩⟩
   refine I3.call' (s' := { s' with heap := h' }) (ch := fp) I'.os (Un.sameBut I'.base hs' (Heap.get?_none_of_le (Nat.le_refl _))) (fun b ob e => ?_) I'.bare fun b hb => (f3 b hb).2.2.2 |> fun z => ⟨z.1, (f3 b hb).2.1, z.2.1, z.2.2⟩
   refine (I'.hok b ob e).stay (fun c w' hc q => (hs'.2 c ?_).trans q) (fun _ q => q) fun _ _ q => q
   rintro rfl
   have fr := I'.free
   rcases hc with rfl | hc
   · exact nomatch fr.symm.trans e
   · exact nomatch fr.symm.trans hc
end Mi
end
section
namespace Mi
open PySem PySem.Spec PyProof.Rows L2
section
variable {K : PySem.W.Frag} {H : Hp} {mu : List Addr} {S : Sto} {p : Addr} {u : HO} {o : Ob} {n : Nat}
theorem Rd.ne {a : Addr} {x : HO} (h : H p = none) (q : Rd H a x) : a ≠ p := by
 rintro rfl
 rcases q with q | ⟨_, q⟩ <;> (rw [h] at q; cases q)
theorem Ext.fresh (hp : H p = none) : Ext mu mu H (upd H p u) where
 pre := List.prefix_rfl
 old := fun a o h _ => by rw [upd_ne (ne_of_none h hp)]; exact h
 tup := fun a xs h => by
   have ne := Rd.ne hp h
   rcases h with h | ⟨ob, h⟩
   · exact .inl (by rw [upd_ne ne]; exact h)
   · exact .inr ⟨ob, by rw [upd_ne ne]; exact h⟩
 frz := fun a o x h => by rw [upd_ne (ne_of_none h hp)]; exact h
 new := fun _ h => .inl h
theorem Ext.new_ (hp : H p = none) : Ext mu (mu ++ [p]) H (upd H p u) where
 pre := List.prefix_append _ _
 old := (Ext.fresh (mu := mu) hp).old
 tup := (Ext.fresh (mu := mu) hp).tup
 frz := (Ext.fresh (mu := mu) hp).frz
 new := fun a h => by
   rcases List.mem_append.mp h with h | h
   · exact .inl h
   · have : a = p := by simpa using h
     subst this
     exact .inr hp
theorem Sim.fresh (s : Sim K H mu S) (hp : H p = none) : Sim K (upd H p u) mu S :=
 ⟨s.len, s.nd, fun k o a h1 h2 => (s.ob k o a h1 h2).keep (Ext.fresh hp) fun ob e => by rw [upd_ne (ne_of_none e hp)]; exact e⟩
theorem Sim.notin (s : Sim K H mu S) (hp : H p = none) : p ∉ mu := fun h => by
 obtain ⟨o, e⟩ := s.here h
 rw [hp] at e; cases e
theorem ObR.more {a : Addr} {mu' : List Addr} {H' : Hp} (e : Ext mu mu' H H') (h : ∀ o, H a = some o → H' a = some o) : ∀ {o : Ob}, ObR K H mu a o → ObR K H' mu' a o
 | .lst _, ⟨vs, q, r⟩ => ⟨vs, h _ q, r.ext e⟩
 | .dct _, ⟨ws, q, r⟩ => ⟨ws, h _ q, KR.ext e r⟩
 | .dcT _, ⟨ws, q, r, l⟩ => ⟨ws, h _ q, KT.ext e r, l⟩
 | .iset _, q => ⟨h _ q.1, q.2⟩
 | .dcF _, ⟨ws, ⟨o, u, e1, e2⟩, r, l⟩ => ⟨ws, ⟨o, u, h _ e1, e2⟩, KT.ext e r, l⟩
theorem Sim.new (s : Sim K H mu S) (hp : H p = none) (ho : ObR K (upd H p u) (mu ++ [p]) p o) : Sim K (upd H p u) (mu ++ [p]) (S ++ [o]) := by
 refine ⟨by rw [List.length_append, List.length_append, s.len]; rfl, ?_, fun k o' a h1 h2 => ?_⟩
 · rw [List.nodup_append]
   refine ⟨s.nd, by simp, fun a ha b hb e => ?_⟩
   have : b = p := by simpa using hb
   subst this; subst e
   exact s.notin hp ha
 · by_cases hk : k < S.length
   · rw [List.getElem?_append_left hk] at h1
     rw [List.getElem?_append_left (by rw [s.len]; exact hk)] at h2
     exact (s.ob k o' a h1 h2).more (Ext.new_ hp) fun ob e => by rw [upd_ne (ne_of_none e hp)]; exact e
   · have hk' : k = S.length := by
       have := (List.getElem?_eq_some_iff.mp h1).1
       rw [List.length_append] at this
       simp at this
       omega
     subst hk'
     rw [List.getElem?_append_right (Nat.le_refl _)] at h1
     rw [← s.len, List.getElem?_append_right (Nat.le_refl _)] at h2
     simp at h1 h2
     subst h1; subst h2
     exact ho
theorem Ext.put {x : HO} (hp : H p = some x) (hm : Mut (some x)) (hin : p ∈ mu) : Ext mu mu H (upd H p u) where
 pre := List.prefix_rfl
 old := fun a o h n => by rw [upd_ne (fun e => n (by rw [e]; exact hin))]; exact h
 tup := fun a xs h => by
   have ne : a ≠ p := by
     rintro rfl
     rcases h with h | ⟨_, h⟩ <;> (rw [hp] at h; cases h; exact hm)
   rcases h with h | ⟨ob, h⟩
   · exact .inl (by rw [upd_ne ne]; exact h)
   · exact .inr ⟨ob, by rw [upd_ne ne]; exact h⟩
 frz := fun a o y h => by
   rw [upd_ne (fun e => ?_)]
   · exact h
   · subst e; rw [hp] at h; cases h; exact hm
 new := fun _ h => .inl h
theorem Sim.put (s : Sim K H mu S) {x : HO} (hn : mu[n]? = some p) (hp : H p = some x) (hm : Mut (some x)) (ho : ObR K (upd H p u) mu p o) : Sim K (upd H p u) mu (S.set n o) := by
 refine ⟨by rw [List.length_set]; exact s.len, s.nd, fun k o' a h1 h2 => ?_⟩
 by_cases hk : n = k
 · subst hk
   have hl : n < S.length := by
     have := (List.getElem?_eq_some_iff.mp h1).1
     rwa [List.length_set] at this
   rw [List.getElem?_set_self hl] at h1
   cases h1
   rw [hn] at h2; cases h2
   exact ho
 · rw [List.getElem?_set_ne hk] at h1
   have ne : a ≠ p := fun e => by
     subst e
     obtain ⟨l1, e1⟩ := List.getElem?_eq_some_iff.mp hn
     obtain ⟨l2, e2⟩ := List.getElem?_eq_some_iff.mp h2
     exact hk ((List.getElem_inj s.nd).mp (e1.trans e2.symm))
   exact (s.ob k o' a h1 h2).keep (Ext.put hp hm (List.mem_of_getElem? hn)) fun ob e => by rw [upd_ne ne]; exact e
theorem Sim.lst (s : Sim K H mu S) {ds : List D} {a : Addr} (h : S[n]? = some (.lst ds)) (hn : mu[n]? = some a) : ∃ vs, H a = some (.lst vs) ∧ Reps K H mu ds vs := s.ob n _ a h hn
theorem Sim.dcT (s : Sim K H mu S) {ks : List (TK × D)} {a : Addr} (h : S[n]? = some (.dcT ks)) (hn : mu[n]? = some a) : ∃ ws, H a = some (.ext (DictAt a ws)) ∧ KT K H mu ks ws ∧ ws.length ≤ sizeLine := s.ob n _ a h hn
theorem Sim.dct (s : Sim K H mu S) {ks : List (Key × D)} {a : Addr} (h : S[n]? = some (.dct ks)) (hn : mu[n]? = some a) : ∃ ws, H a = some (.dK ws) ∧ KR K H mu ks ws := s.ob n _ a h hn
theorem Sim.newL (s : Sim K H mu S) {ds : List D} {vs : List V} (r : Reps K H mu ds vs) (hp : H p = none) : Sim K (upd H p (.lst vs)) (mu ++ [p]) (S ++ [.lst ds]) := s.new hp ⟨vs, upd_same, r.ext (Ext.new_ hp)⟩
theorem Sim.putL (s : Sim K H mu S) {ds : List D} {vs ws : List V} (r : Reps K H mu ds vs) (hn : mu[n]? = some p) (hp : H p = some (.lst ws)) : Sim K (upd H p (.lst vs)) mu (S.set n (.lst ds)) :=
 s.put hn hp trivial ⟨vs, upd_same, r.ext (Ext.put hp trivial (List.mem_of_getElem? hn))⟩
end
theorem new_at {mu : List Addr} {S : Sto} (h : mu.length = S.length) (p : Addr) : (mu ++ [p])[S.length]? = some p := by
 rw [← h, List.getElem?_append_right (Nat.le_refl _)]; simp
noncomputable def mTup (a : FA) : FE := fun r S => (a r S).bind fun p => if p.1.length ≤ sizeLine then some (.tup p.1, p.2) else none
noncomputable def mLst (a : FA) : FE := fun r S => (a r S).bind fun p => if p.1.length ≤ sizeLine then some (.ref p.2.length, p.2 ++ [.lst p.1]) else none
section
variable {X : Cx} {es : List Expr} {pos : Pos} {a : FA}
theorem me_tup {x1} (h : MA X es a) : ME X (.Tuple es x1 pos) (mTup a) := pe_imp (pe_tup h) <| by
 rintro σ H Q ⟨r, mu, S, d, S', he, hs, hm, hc⟩
 obtain ⟨⟨ds, S1⟩, e1, hm⟩ := Option.bind_eq_some_iff.mp hm
 dsimp only at hm
 split at hm
 · rename_i hl
   cases hm
   refine ⟨r, mu, S, ds, _, he, hs, e1, fun vs H1 mu1 x1 r1 s1 => ⟨by rw [← r1.length]; exact hl, fun p hp => ?_⟩⟩
   exact hc _ _ mu1 (x1.trans (Ext.fresh hp)) (.tup (SqT.of upd_same) (r1.ext (Ext.fresh hp))) (s1.fresh hp)
 · cases hm
theorem me_lst (h : MA X es a) : ME X (.List es pos) (mLst a) := pe_imp (pe_lst h) <| by
 rintro σ H Q ⟨r, mu, S, d, S', he, hs, hm, hc⟩
 obtain ⟨⟨ds, S1⟩, e1, hm⟩ := Option.bind_eq_some_iff.mp hm
 dsimp only at hm
 split at hm
 · rename_i hl
   cases hm
   refine ⟨r, mu, S, ds, _, he, hs, e1, fun vs H1 mu1 x1 r1 s1 => ⟨by rw [← r1.length]; exact hl, fun p hp => ?_⟩⟩
   exact hc _ _ (mu1 ++ [p]) (x1.trans (Ext.new_ hp)) (.ref (new_at s1.len p)) (s1.newL r1 hp)
 · cases hm
end
noncomputable def inEv (k : Nat) (keep : List Nat) (r : Ev) : Ev := List.replicate k none ++ keep.map fun i => (r[i]?).join
noncomputable def mTrue : FT := fun _ S => some (true, S)
theorem inEnv {K : PySem.W.Frag} {H : Hp} {mu : List Addr} {r : Ev} {σ : L2.St} (k : Nat) (keep : List Nat) (h : EnvR K H mu r σ) : EnvR K H mu (inEv k keep r) (inSt k keep σ) := by
 refine ⟨by unfold inEv inSt; rw [List.length_append, List.length_append, List.length_map, List.length_map, List.length_replicate, List.length_replicate], fun i d e => ?_⟩
 unfold inEv at e
 unfold inSt
 by_cases hi : i < k
 · rw [List.getElem?_append_left (by rw [List.length_replicate]; exact hi), List.getElem?_replicate] at e
   split at e <;> cases e
 · rw [List.getElem?_append_right (by rw [List.length_replicate]; omega), List.length_replicate, List.getElem?_map] at e
   rw [List.getElem?_append_right (by rw [List.length_replicate]; omega), List.length_replicate, List.getElem?_map]
   obtain ⟨j, ej, e⟩ := Option.map_eq_some_iff.mp e
   rw [ej]
   have e' : r[j]? = some (some d) := by
     cases q : r[j]? with
     | none => rw [q] at e; cases e
     | some o => rw [q] at e; cases e; rfl
   obtain ⟨v, ev, rv⟩ := h.val j d e'
   exact ⟨v, by rw [Option.map_some, ev]; rfl, rv⟩
section
variable {X : Cx}
theorem pifs_imp {ifs : List Expr} {t t' : L2.TT} (h : PIfs X ifs t) (i : ∀ σ H Q, t' σ H Q → t σ H Q) : PIfs X ifs t' := fun pins s σ H Q I q => h pins s σ H Q I (i σ H Q q)
theorem mif_nil : PIfs X [] (tMT X.K mTrue) := pifs_imp pifs_nil fun σ H Q ⟨r, mu, S, b, S', he, hs, hm, hc⟩ => by cases hm; exact hc H mu (.refl _ _) hs
theorem mif_one {c : Expr} {t : FT} (h : MT X c t) : PIfs X [c] (tMT X.K t) := pifs_one h
end
end Mi
end
section
namespace Mi
open PySem PySem.Spec PyProof.Rows L2
open PySem.AutoSeq1 (wpAny_loadPart')
noncomputable def SIt (b : Bool) (h : Heap) (it a : Addr) (i : Nat) : Prop := match b with
 | true => h.IsListIter it a i
 | false => h.IsTupleIter it a i
noncomputable def SCo (b : Bool) (h : Heap) (a : Addr) (xs : Array Value) : Prop := match b with
 | true => h.IsList a xs
 | false => h.IsTuple a xs
theorem SIt.to {b : Bool} {h h' : Heap} {it a : Addr} {i : Nat} (x : SIt b h it a i) (k : ∀ o, h.get? it = some o → h'.get? it = some o) : SIt b h' it a i := by
 cases b <;> (obtain ⟨o, e, r⟩ := x; exact ⟨o, k o e, r⟩)
theorem SCo.to {b : Bool} {h h' : Heap} {a : Addr} {xs : Array Value} (x : SCo b h a xs) (k : ∀ o, h.get? a = some o → h'.get? a = some o) : SCo b h' a xs := by
 cases b <;> (obtain ⟨o, e, r⟩ := x; exact ⟨o, k o e, r⟩)
noncomputable def itObj (b : Bool) (a : Addr) : Obj := match b with
 | true => { cls := .type "list_iterator", data := .fields #[.ref a, .int 0 0] }
 | false => { cls := .type "tuple_iterator", data := .fields #[.ref a, .int 0 0] }
section
variable {prog : Program} {w : World} {A : Around} {E : Value → Shared → Prop} {s : Shared}
theorem sit_iter {b : Bool} {a : Addr} {xs : Array Value} {Q : Value → Shared → Prop} (x : SCo b s.heap a xs) (h : Q (.ref s.heap.objs.size) { s with heap := s.heap.push (itObj b a) }) : wpAny (model prog w) A (pyIter (.ref a)) Q E s := by
 cases b
 · exact wpAny_pyIter_tuple x h
 · exact wpAny_pyIter_list x h
end
end Mi
end
section
namespace Mi
open PySem PySem.Spec PyProof.Rows L2
open PySem.AutoSeq1 (wpAny_loadPart')
section
variable {prog : Program} {w : World} {A : Around} {E : Value → Shared → Prop} {s : Shared} {b1 b2 : Bool}
end
end Mi
end
section
namespace Mi
open PySem PySem.Spec PyProof.Rows L2
noncomputable def SqB (K : PySem.W.Frag) (b : Bool) (H : Hp) (a : Addr) (xs : List V) : Prop := match b with
 | true => SqL K H a xs
 | false => SqT K H a xs
section
variable {X : Cx} {pins : List (Addr × Obj)} {σ : L2.St} {H : Hp} {s : Shared}
theorem sqb_at {b : Bool} {a : Addr} {xs : List V} (I : Inv X pins σ H s) (h : SqB X.K b H a xs) : ∃ its : List Value, Vals xs its ∧ SCo b s.heap a its.toArray ∧ xs.length ≤ sizeLine := by
 cases b
 · obtain ⟨its, r, p, z⟩ := I.tuple h
   exact ⟨its, r, p, z⟩
 · obtain ⟨its, r, p, z⟩ := I.list h
   exact ⟨its, r, p.isList, z⟩
theorem sqb_inj {b : Bool} {a : Addr} {xs ys : List V} (I : Inv X pins σ H s) (h : SqB X.K b H a xs) (h' : SqB X.K b H a ys) : xs = ys := by
 cases b
 · exact I.tuple_inj h h'
 · exact I.list_inj h h'
end
section
variable {X : Cx} {elts : List Expr} {k : Nat} {tpos : Pos}
end
end Mi
end
section
namespace Mi
open PySem PySem.Spec PyProof.Rows L2
noncomputable def seqOf (S : Sto) : D → Option (Bool × List D)
 | .tup xs => some (false, xs)
 | .rol xs => some (true, xs)
 | .ref n => match S[n]? with
   | some (.lst xs) => some (true, xs)
   | _ => none
 | _ => none
noncomputable def chkOf (S : Sto) : D → List (Nat × List D)
 | .ref n => match S[n]? with
   | some (.lst xs) => [(n, xs)]
   | _ => []
 | _ => []
section
variable {K : PySem.W.Frag} {H : Hp} {mu : List Addr} {S : Sto}
theorem seqOf_at {d : D} {v : V} {b : Bool} {xs : List D} (r : Rep K H mu d v) (s : Sim K H mu S) (h : seqOf S d = some (b, xs)) : ∃ a vs, v = .ref a ∧ SqB K b H a vs ∧ Reps K H mu xs vs := by
 cases d with
 | tup ys => cases h; cases r with | tup q t => exact ⟨_, _, rfl, q, t⟩
 | rol ys => cases h; cases r with | rol q t => exact ⟨_, _, rfl, q.sq, t⟩
 | ref n =>
   rw [seqOf] at h
   split at h
   · rename_i ys e
     cases h
     cases r with
     | ref q =>
       obtain ⟨vs, e1, r1⟩ := s.lst e q
       exact ⟨_, vs, rfl, SqL.of e1, r1⟩
   · cases h
 | _ => cases h
theorem seq_later {d : D} {a : Addr} {b : Bool} {xs : List D} (r : Rep K H mu d (.ref a)) (s : Sim K H mu S) (h : seqOf S d = some (b, xs)) {H1 : Hp} {mu1 : List Addr} {S1 : Sto} (x : Exw mu mu1 H H1) (s1 : Sim K H1 mu1 S1) (ok : okC S1 (chkOf S d) = true) :
   ∃ vs, SqB K b H1 a vs ∧ Reps K H1 mu1 xs vs := by
 have r1 := r.exw x
 have h1 : seqOf S1 d = some (b, xs) := by
   cases d with
   | ref n =>
     rw [seqOf] at h
     split at h
     · rename_i ys e
       cases h
       rw [chkOf, e] at ok
       dsimp only [okC] at ok
       rw [Bool.and_true] at ok
       rw [seqOf]
       split at ok
       · rename_i zs ez
         first | rw [ez, D.sames_eq ok] | rw [D.sames_eq ok]
       · cases ok
     · cases h
   | _ => exact h
 obtain ⟨a', vs, e, q, t⟩ := seqOf_at r1 s1 h1
 cases e
 exact ⟨vs, q, t⟩
end
noncomputable def iSeq (m : FE) : FI := fun r S => (m r S).bind fun p => (seqOf p.2 p.1).bind fun q => some (⟨q.2, chkOf p.2 p.1⟩, p.2)
noncomputable def enD : Nat → List D → List D
 | _, [] => []
 | n, d :: ds => .tup [.int n, d] :: enD (n + 1) ds
noncomputable def iEn (m : FA) : FI := fun r S => (m r S).bind fun p => match p.1 with
 | [d] => (seqOf p.2 d).bind fun q => some (⟨enD 0 q.2, chkOf p.2 d⟩, p.2)
 | _ => none
noncomputable def nums (lo : Int) : Nat → List D
 | 0 => []
 | n + 1 => .int lo :: nums (lo + 1) n
noncomputable def iR1 (m : FA) : FI := fun r S => (m r S).bind fun p => match p.1 with
 | [.int j] => if -(2 ^ 62) ≤ j ∧ j < 2 ^ 62 then some (⟨nums 0 j.toNat, []⟩, p.2) else none
 | _ => none
noncomputable def iR2 (m : FA) : FI := fun r S => (m r S).bind fun p => match p.1 with
 | [.int i, .int j] => if -(2 ^ 62) ≤ i ∧ i < 2 ^ 62 ∧ -(2 ^ 62) ≤ j ∧ j < 2 ^ 62 then some (⟨nums i (j - i).toNat, []⟩, p.2) else none
 | _ => none
theorem nums_get : ∀ (n : Nat) (lo : Int) (i : Nat) (d : D), (nums lo n)[i]? = some d → i < n ∧ d = .int (lo + i)
 | 0, lo, i, d, h => by simp [nums] at h
 | n + 1, lo, 0, d, h => by simp [nums] at h; exact ⟨Nat.succ_pos _, by rw [← h]; simp⟩
 | n + 1, lo, i + 1, d, h => by
   rw [nums, List.getElem?_cons_succ] at h
   obtain ⟨h1, h2⟩ := nums_get n (lo + 1) i d h
   refine ⟨Nat.succ_lt_succ h1, ?_⟩
   rw [h2, show lo + 1 + (i : Int) = lo + ((i + 1 : Nat) : Int) by push_cast; omega]
theorem nums_len : ∀ (n : Nat) (lo : Int), (nums lo n).length = n
 | 0, _ => rfl
 | n + 1, lo => by rw [nums, List.length_cons, nums_len n]
section
variable {X : Cx} {tg : Expr}
theorem itr_nums (K : PySem.W.Frag) (lo : Int) (n : Nat) (mu : List Addr) (H : Hp) : ItR K (Itr lo n) ⟨nums lo n, []⟩ mu H := by
 intro i H1 mu1 S1 x s ok
 refine ⟨fun d hd => ?_, fun h => by rw [nums_len] at h; exact h⟩
 obtain ⟨h1, h2⟩ := nums_get n lo i d hd
 refine ⟨h1, fun y H2 ⟨e1, e2⟩ => ?_⟩
 subst e1; subst e2; subst h2
 exact ⟨.refl _ _, s, .int _⟩
theorem mi_seq {e : Expr} {m : FE} (h : ME X e m) : MI X tg e (iSeq m) := pi_imp (pi_or (pi_list h) (pi_tup h)) <| by
 rintro σ H R ⟨r, mu, S, J, S', he, hs, hm, hc⟩
 obtain ⟨⟨d, S1⟩, e1, hm⟩ := Option.bind_eq_some_iff.mp hm
 obtain ⟨⟨b, xs⟩, e2, hm⟩ := Option.bind_eq_some_iff.mp hm
 cases hm
 cases b with
 | true =>
   left
   refine ⟨r, mu, S, d, _, he, hs, e1, fun v H1 mu1 x1 r1 s1 => ?_⟩
   obtain ⟨a, vs, rfl, q, t⟩ := seqOf_at r1 s1 e2
   refine ⟨a, rfl, ⟨vs, q⟩, hc _ H1 mu1 x1 (fun i H2 mu2 S2 x2 s2 ok => ?_) s1⟩
   obtain ⟨ws, q2, t2⟩ := seq_later r1 s1 e2 x2 s2 ok
   refine ⟨fun d hd => ?_, fun hl => ⟨ws, q2, by rw [← t2.length]; exact hl⟩⟩
   obtain ⟨v, ev, rv⟩ := t2.get hd
   refine ⟨⟨ws, v, q2, ev⟩, fun y H3 ⟨z1, z2⟩ => ?_⟩
   subst z1
   have := z2 ws q2
   rw [ev] at this
   cases this
   exact ⟨.refl _ _, s2, rv⟩
 | false =>
   right
   refine ⟨r, mu, S, d, _, he, hs, e1, fun v H1 mu1 x1 r1 s1 => ?_⟩
   obtain ⟨a, vs, rfl, q, t⟩ := seqOf_at r1 s1 e2
   refine ⟨a, rfl, ⟨vs, q⟩, hc _ H1 mu1 x1 (fun i H2 mu2 S2 x2 s2 ok => ?_) s1⟩
   obtain ⟨ws, q2, t2⟩ := seq_later r1 s1 e2 x2 s2 ok
   refine ⟨fun d hd => ?_, fun hl => ⟨ws, q2, by rw [← t2.length]; exact hl⟩⟩
   obtain ⟨v, ev, rv⟩ := t2.get hd
   refine ⟨⟨ws, v, q2, ev⟩, fun y H3 ⟨z1, z2⟩ => ?_⟩
   subst z1
   have := z2 ws q2
   rw [ev] at this
   cases this
   exact ⟨.refl _ _, s2, rv⟩
theorem reps_one {K : PySem.W.Frag} {H : Hp} {mu : List Addr} {d : D} {vs : List V} (r : Reps K H mu [d] vs) : ∃ v, vs = [v] ∧ Rep K H mu d v := by
 cases r with | cons r t => cases t; exact ⟨_, rfl, r⟩
theorem reps_two {K : PySem.W.Frag} {H : Hp} {mu : List Addr} {d e : D} {vs : List V} (r : Reps K H mu [d, e] vs) : ∃ v u, vs = [v, u] ∧ Rep K H mu d v ∧ Rep K H mu e u := by
 cases r with | cons r t => cases t with | cons q t => cases t; exact ⟨_, _, rfl, r, q⟩
theorem mi_range1 {a : Expr} {m : FA} {p pos : Pos} (hg : Gl X "range") (hm : X.mg "range" = none) (ha : MA X [a] m) (hs : starEach [a] X.env = [(false, eval a X.env)] := by rfl) : MI X tg (.Call (.Name "range" p) [a] [] pos) (iR1 m) :=
 pi_imp (pi_range1 hg hm ha hs) <| by
   rintro σ H R ⟨r, mu, S, J, S', he, hs, hm, hc⟩
   obtain ⟨⟨ds, S1⟩, e1, hm⟩ := Option.bind_eq_some_iff.mp hm
   dsimp only at hm
   split at hm
   · rename_i j
     split at hm
     · rename_i hb
       cases hm
       refine ⟨r, mu, S, _, _, he, hs, e1, fun vs H1 mu1 x1 r1 s1 => ?_⟩
       obtain ⟨v, rfl, rv⟩ := reps_one r1
       cases rv
       exact ⟨j, rfl, hb.1, hb.2, hc _ H1 mu1 x1 (itr_nums _ _ _ _ _) s1⟩
     · cases hm
   · cases hm
variable {elts : List Expr} {k : Nat} {tpos : Pos}
end
end Mi
end
section
namespace Mi
open PySem PySem.Spec PyProof.Rows L2
noncomputable abbrev G1 := D → Sto → Option (D × Sto)
noncomputable abbrev G2 := D → D → Sto → Option (D × Sto)
noncomputable abbrev G3 := D → D → D → Sto → Option (D × Sto)
noncomputable def b1 (f : G1) : FN := fun ds S => match ds with
 | [a] => f a S
 | _ => none
noncomputable def b2 (f : G2) : FN := fun ds S => match ds with
 | [a, b] => f a b S
 | _ => none
noncomputable def b3 (f : G3) : FN := fun ds S => match ds with
 | [a, b, c] => f a b c S
 | _ => none
section
variable {X : Cx} {K : PySem.W.Frag} {H : Hp} {Q : VK}
theorem rn2 {f : G2} {x y : V} (h : rN K (b2 f) [x, y] H Q) : ∃ mu S d e r S', Rep K H mu d x ∧ Rep K H mu e y ∧ Sim K H mu S ∧ f d e S = some (r, S') ∧ Cont K mu H r S' Q := by
 obtain ⟨mu, S, ds, r, S', hr, hs, hm, hc⟩ := h
 cases hr with
 | cons q t => cases t with
   | cons q2 t => cases t; exact ⟨mu, S, _, _, r, S', q, q2, hs, hm, hc⟩
theorem rn1 {f : G1} {xs : List V} (h : rN K (b1 f) xs H Q) : ∃ x mu S d r S', xs = [x] ∧ Rep K H mu d x ∧ Sim K H mu S ∧ f d S = some (r, S') ∧ Cont K mu H r S' Q := by
 obtain ⟨mu, S, ds, r, S', hr, hs, hm, hc⟩ := h
 cases hr with
 | nil => cases hm
 | cons q t => cases t with
   | nil => exact ⟨_, mu, S, _, r, S', rfl, q, hs, hm, hc⟩
   | cons q2 t => cases hm
theorem rn2l {f : G2} {xs : List V} (h : rN K (b2 f) xs H Q) : ∃ x y mu S d e r S', xs = [x, y] ∧ Rep K H mu d x ∧ Rep K H mu e y ∧ Sim K H mu S ∧ f d e S = some (r, S') ∧ Cont K mu H r S' Q := by
 obtain ⟨mu, S, ds, r, S', hr, hs, hm, hc⟩ := h
 cases hr with
 | nil => cases hm
 | cons q t => cases t with
   | nil => cases hm
   | cons q2 t => cases t with
     | nil => exact ⟨_, _, mu, S, _, _, r, S', rfl, q, q2, hs, hm, hc⟩
     | cons q3 t => cases hm
theorem Cont.now {mu : List Addr} {S : Sto} {d : D} {v : V} (c : Cont K mu H d S Q) (r : Rep K H mu d v) (s : Sim K H mu S) : Q v H := c v H mu (.refl _ _) r s
end
noncomputable def mulFits (i j : Int) : Bool := (decide (-(2 ^ 64) < i) && decide (i < 2 ^ 64)) || (decide (-(2 ^ 64) < j) && decide (j < 2 ^ 64)) || (decide (i.natAbs < 2 ^ 1000) && decide (j.natAbs < 2 ^ 1000))
noncomputable def gAdd : G2 := fun d e S => match d, e with
 | .int i, .int j => some (.int (i + j), S)
 | .tup xs, .tup ys => if xs.length + ys.length ≤ sizeLine then some (.tup (xs ++ ys), S) else none
 | .str x, .str y => if x.length + y.length ≤ sizeLine then some (.str (x ++ y), S) else none
 | .ref a, .ref b => match S[a]?, S[b]? with
   | some (.lst xs), some (.lst ys) => if xs.length + ys.length ≤ sizeLine then some (.ref S.length, S ++ [.lst (xs ++ ys)]) else none
   | _, _ => none
 | _, _ => none
noncomputable def gSub : G2 := fun d e S => match d, e with
 | .int i, .int j => some (.int (i - j), S)
 | _, _ => none
noncomputable def gMul : G2 := fun d e S => match d, e with
 | .int i, .int j => if mulFits i j = true then some (.int (i * j), S) else none
 | _, _ => none
noncomputable def gMod : G2 := fun d e S => match d, e with
 | .int i, .int j => if 0 < j then some (.int (i % j), S) else none
 | _, _ => none
noncomputable def gDiv : G2 := fun d e S => match d, e with
 | .int i, .int j => if 0 < j ∧ j < 1073741824 then some (.int (i / j), S) else none
 | _, _ => none
noncomputable def gPow : G2 := fun d e S => match d, e with
 | .int i, .int j => if 0 ≤ j ∧ j ≤ 1000000 ∧ i.natAbs < 2 ^ 64 then some (.int (i ^ j.toNat), S) else none
 | _, _ => none
section
variable {X : Cx}
theorem mulFits_ok {i j : Int} (h : mulFits i j = true) : IntMulOk i j := by
 unfold mulFits at h
 simp only [Bool.or_eq_true, Bool.and_eq_true, decide_eq_true_eq] at h
 rcases h with (⟨h1, h2⟩ | ⟨h1, h2⟩) | ⟨h1, h2⟩
 · exact .of_left (intBits_le_64 h1 h2)
 · exact .of_right (intBits_le_64 h1 h2)
 · exact .of_bits (Nat.le_trans (intBits_le h1) (by decide)) (Nat.le_trans (intBits_le h2) (by decide))
theorem op2_int {f : Value → Value → Sem Value} {g : G2} {c : Int → Int → Prop} {v : Int → Int → D} (hg : ∀ d e S r S', g d e S = some (r, S') → ∃ i j, d = .int i ∧ e = .int j ∧ c i j ∧ r = v i j ∧ S' = S) {vv : Int → Int → V}
   (hv : ∀ i j K H mu, Rep K H mu (v i j) (vv i j)) (ho : OpR X f (rI c vv)) : OpR X f (r2 X.K (b2 g)) := by
 intro pins s σ H x y u w Q I rx ry h
 obtain ⟨mu, S, d, e, r, S', r1, r2, hs, hm, hc⟩ := rn2 h
 obtain ⟨i, j, rfl, rfl, cc, rfl, rfl⟩ := hg d e S r S' hm
 cases r1; cases r2
 exact ho pins s σ H _ _ u w Q I rx ry ⟨i, j, rfl, rfl, cc, hc.now (hv i j _ _ _) hs⟩
theorem op2_int0 {f : Value → Value → Sem Value} {g : G2} {v : Int → Int → D} (hg : ∀ d e S r S', g d e S = some (r, S') → ∃ i j, d = .int i ∧ e = .int j ∧ r = v i j ∧ S' = S) {vv : Int → Int → V}
   (hv : ∀ i j K H mu, Rep K H mu (v i j) (vv i j)) (ho : OpR X f (rI0 vv)) : OpR X f (r2 X.K (b2 g)) := by
 intro pins s σ H x y u w Q I rx ry h
 obtain ⟨mu, S, d, e, r, S', r1, r2, hs, hm, hc⟩ := rn2 h
 obtain ⟨i, j, rfl, rfl, rfl, rfl⟩ := hg d e S r S' hm
 cases r1; cases r2
 exact ho pins s σ H _ _ u w Q I rx ry ⟨i, j, rfl, rfl, hc.now (hv i j _ _ _) hs⟩
theorem o_mul : OpR X (binaryOp .Mult) (r2 X.K (b2 gMul)) := op2_int (c := fun i j => IntMulOk i j) (v := fun i j => .int (i * j)) (fun d e S r S' h => by
 unfold gMul at h; split at h
 · split at h
   · rename_i q; cases h; exact ⟨_, _, rfl, rfl, mulFits_ok q, rfl, rfl⟩
   · cases h
 · cases h) (fun _ _ _ _ _ => .int _) (opI fun _ _ _ _ _ _ _ hc q => mul_int q hc)
theorem o_mod : OpR X (binaryOp .Mod) (r2 X.K (b2 gMod)) := op2_int (c := fun _ j => 0 < j) (v := fun i j => .int (i % j)) (fun d e S r S' h => by
 unfold gMod at h; split at h
 · split at h
   · rename_i q; cases h; exact ⟨_, _, rfl, rfl, q, rfl, rfl⟩
   · cases h
 · cases h) (fun _ _ _ _ _ => .int _) op_mod
theorem o_div : OpR X (binaryOp .FloorDiv) (r2 X.K (b2 gDiv)) := op2_int (c := CDiv) (v := fun i j => .int (i / j)) (fun d e S r S' h => by
 unfold gDiv at h; split at h
 · split at h
   · rename_i q; cases h; exact ⟨_, _, rfl, rfl, q, rfl, rfl⟩
   · cases h
 · cases h) (fun _ _ _ _ _ => .int _) op_fdiv
theorem o_pow : OpR X (binaryOp .Pow) (r2 X.K (b2 gPow)) := op2_int (c := CPow) (v := fun i j => .int (i ^ j.toNat)) (fun d e S r S' h => by
 unfold gPow at h; split at h
 · split at h
   · rename_i q; cases h; exact ⟨_, _, rfl, rfl, q, rfl, rfl⟩
   · cases h
 · cases h) (fun _ _ _ _ _ => .int _) op_pow
theorem cat_empty {s : Shared} {prog : Program} {w : World} {A : Around} {E : Value → Shared → Prop} {t b : Addr} {ws : List Value} {Q : Value → Shared → Prop} (ht : IsTup s.heap t ([] : List Value).toArray) (hb : IsTup s.heap b ws.toArray) (h : Q (.ref b) s) :
   wpAny (model prog w) A (binaryOp .Add (.ref t) (.ref b)) Q E s := by
 obtain ⟨⟨cls, dd, data, sl⟩, ho, hc, n, hd⟩ := id ht
 obtain ⟨⟨cls2, dd2, data2, sl2⟩, ho2, hc2, n2, hd2⟩ := id hb
 simp only at hc hd hc2 hd2; subst hc hd hc2 hd2
 exact concat_meets ⟨_, ho, rfl⟩ ⟨_, ho2, rfl⟩ noFill_tuple_add seq_tuple_add PySem.F.slot_tuple_add PySem.F.entry_tuple_add (PySem.F.args_tuple_add_2 _ _) (tuple_addW0 t b ([] : List Value).toArray ws.toArray n n2 dd dd2 sl sl2 (by simp)) ⟨ho, ho2, h⟩
theorem o_add : OpR X (binaryOp .Add) (r2 X.K (b2 gAdd)) := by
 intro pins s σ H x y u w Q I rx ry h
 obtain ⟨mu, S, d, e, r, S', r1, r2, hs, hm, hc⟩ := rn2 h
 unfold gAdd at hm
 split at hm
 · cases hm; cases r1; cases r2
   exact op_add pins s σ H _ _ u w Q I rx ry ⟨_, _, rfl, rfl, hc.now (.int _) hs⟩
 · rename_i xs ys
   split at hm
   · rename_i hl
     cases hm
     cases r1 with
     | tup q1 t1 =>
       cases r2 with
       | tup q2 t2 =>
         rename_i vs1 a1 vs2 a2
         by_cases hx : vs1 = []
         · subst hx
           have : xs = [] := by cases t1; rfl
           subst this
           cases rx; cases ry
           obtain ⟨its, rv, p1, _⟩ := I.tuple q1
           obtain ⟨its2, rv2, p2, _⟩ := I.tuple q2
           have : its = [] := rv.nil_iff.mpr rfl
           subst this
           exact cat_empty p1 p2 ⟨.ref a2, H, I, rfl, hc.now (.tup q2 t2) hs⟩
         · refine op_catT pins s σ H _ _ u w Q I rx ry ⟨a1, a2, vs1, vs2, rfl, rfl, q1, q2, hx, by rw [← t1.length, ← t2.length]; exact hl, fun z => ?_, fun z p hp => ?_⟩
           · subst z
             have : ys = [] := by cases t2; rfl
             subst this
             rw [List.append_nil] at hc
             exact hc.now (.tup q1 t1) hs
           · exact hc _ _ mu (Ext.fresh hp) (.tup (SqT.of upd_same) ((t1.append t2).ext (Ext.fresh hp))) (hs.fresh hp)
   · cases hm
 · rename_i i j
   split at hm
   · rename_i hl
     cases hm; cases r1; cases r2
     exact op_add_str pins s σ H _ _ u w Q I rx ry ⟨i, j, rfl, rfl, hl, hc.now (.str _) hs⟩
   · cases hm
 · rename_i a b
   split at hm
   · rename_i xs ys ea eb
     split at hm
     · rename_i hl
       cases hm
       cases r1 with
       | ref qa =>
         cases r2 with
         | ref qb =>
           obtain ⟨vs1, e1, t1⟩ := hs.lst ea qa
           obtain ⟨vs2, e2, t2⟩ := hs.lst eb qb
           refine op_cat pins s σ H _ _ u w Q I rx ry ⟨_, _, vs1, vs2, rfl, rfl, e1, e2, by rw [← t1.length, ← t2.length]; exact hl, fun p hp => ?_⟩
           exact hc _ _ (mu ++ [p]) (Ext.new_ hp) (.ref (new_at hs.len p)) (hs.newL (t1.append t2) hp)
     · cases hm
   · cases hm
 · cases hm
end
noncomputable def gCmp (p : Int → Int → Bool) : G2 := fun d e S => match d, e with
 | .int i, .int j => some (.bl (p i j), S)
 | _, _ => none
section
variable {X : Cx}
theorem gCmp_of {p : Int → Int → Bool} (d e : D) (S : Sto) (r : D) (S' : Sto) (h : gCmp p d e S = some (r, S')) : ∃ i j, d = .int i ∧ e = .int j ∧ r = .bl (p i j) ∧ S' = S := by
 unfold gCmp at h; split at h
 · cases h; exact ⟨_, _, rfl, rfl, rfl, rfl⟩
 · cases h
theorem o_le : OpR X (compareOp .LtE) (r2 X.K (b2 (gCmp fun i j => decide (i ≤ j)))) := op2_int0 gCmp_of (fun _ _ _ _ _ => .bl _) op_le
theorem o_gt : OpR X (compareOp .Gt) (r2 X.K (b2 (gCmp fun i j => decide (j < i)))) := op2_int0 gCmp_of (fun _ _ _ _ _ => .bl _) op_gt
theorem o_ge : OpR X (compareOp .GtE) (r2 X.K (b2 (gCmp fun i j => decide (j ≤ i)))) := op2_int0 gCmp_of (fun _ _ _ _ _ => .bl _) op_ge
end
noncomputable def flatD : D → Bool
 | .non => true
 | .bl _ => true
 | .int _ => true
 | .str _ => true
 | _ => false
noncomputable def eqF : D → D → Option Bool
 | .non, .non => some true
 | .bl a, .bl b => some (a == b)
 | .bl a, .int b => some ((if a then 1 else 0) == b)
 | .int a, .bl b => some (a == (if b then 1 else 0))
 | .int a, .int b => some (a == b)
 | .str a, .str b => some (a == b)
 | d, e => if flatD d && flatD e then some false else none
noncomputable def eqL (f : D → D → Option Bool) : List D → List D → Option Bool
 | x :: xs, y :: ys => (f x y).bind fun b => (eqL f xs ys).map fun c => b && c
 | [], [] => some true
 | _, _ => some false
noncomputable def eqN (S : Sto) : Nat → D → D → Option Bool
 | 0, _, _ => none
 | n + 1, d, e => match seqOf S d, seqOf S e with
   | some p, some q => if p.1 = q.1 then (if p.1 = true ∧ p.2.length ≠ q.2.length then some false else eqL (eqN S n) p.2 q.2) else some false
   | some _, none => if flatD e = true then some false else none
   | none, some _ => if flatD d = true then some false else none
   | none, none => eqF d e
section
variable {X : Cx} {pins : List (Addr × Obj)} {σ : L2.St} {H : Hp} {s : Shared} {mu : List Addr} {S : Sto}
theorem flat_rep {K : PySem.W.Frag} {d : D} {v : V} (r : Rep K H mu d v) (h : flatD d = true) : flatV v = true ∧ ∀ e w, Rep K H mu e w → flatD e = true → eqF d e = some (eqV v w) := by
 cases d with
 | non => cases r; refine ⟨rfl, fun e w q f => ?_⟩; cases e with
   | non => cases q; rfl
   | bl _ => cases q; rfl
   | int _ => cases q; rfl
   | str _ => cases q; rfl
   | _ => cases f
 | bl b => cases r; refine ⟨rfl, fun e w q f => ?_⟩; cases e with
   | non => cases q; rfl
   | bl _ => cases q; rfl
   | int _ => cases q; rfl
   | str _ => cases q; rfl
   | _ => cases f
 | int i => cases r; refine ⟨rfl, fun e w q f => ?_⟩; cases e with
   | non => cases q; rfl
   | bl _ => cases q; rfl
   | int _ => cases q; rfl
   | str _ => cases q; rfl
   | _ => cases f
 | str x => cases r; refine ⟨rfl, fun e w q f => ?_⟩; cases e with
   | non => cases q; rfl
   | bl _ => cases q; rfl
   | int _ => cases q; rfl
   | str _ => cases q; rfl
   | _ => cases f
 | _ => cases h
theorem eqF_flat {d e : D} {b : Bool} (h : eqF d e = some b) : flatD d = true ∧ flatD e = true := by
 cases d <;> cases e <;> first | exact ⟨rfl, rfl⟩ | (simp [eqF, flatD] at h)
theorem eqV_self {v : V} (h : flatV v = true) : eqV v v = true := by
 cases v <;> first | rfl | (cases h; done) | (simp [eqV]; done)
theorem eqN_same (I : Inv X pins σ H s) (hs : Sim X.K H mu S) : ∀ (n : Nat) {d e : D} {v : V} {b : Bool}, Rep X.K H mu d v → Rep X.K H mu e v → eqN S n d e = some b → b = true
 | 0, _, _, _, _, _, _, h => by cases h
 | n + 1, d, e, v, b, rd, re, h => by
   rw [eqN] at h
   have lists : ∀ {xs ys : List D} {vs : List V} {b : Bool}, Reps X.K H mu xs vs → Reps X.K H mu ys vs → eqL (eqN S n) xs ys = some b → b = true := by
     intro xs
     induction xs with
     | nil => intro ys vs b hx hy h; cases hx; cases hy; cases h; rfl
     | cons x xs ih =>
       intro ys vs b hx hy h
       cases hx with
       | cons r t =>
         cases hy with
         | cons r' t' =>
           rw [eqL] at h
           obtain ⟨b1, e1, h⟩ := Option.bind_eq_some_iff.mp h
           obtain ⟨b2, e2, h⟩ := Option.map_eq_some_iff.mp h
           subst h
           rw [eqN_same I hs n r r' e1, ih t t' e2]; rfl
   cases hd : seqOf S d with
   | some p =>
     obtain ⟨pb, xs⟩ := p
     obtain ⟨a, vs, rfl, q, t⟩ := seqOf_at rd hs hd
     cases he : seqOf S e with
     | some p2 =>
       obtain ⟨qb, ys⟩ := p2
       obtain ⟨a2, vs2, e2, q2, t2⟩ := seqOf_at re hs he
       cases e2
       rw [hd, he] at h
       dsimp only at h
       obtain ⟨its, rv, co, _⟩ := sqb_at I q
       obtain ⟨its2, rv2, co2, _⟩ := sqb_at I q2
       have hb : pb = qb := by
         cases pb <;> cases qb
         · rfl
         · obtain ⟨o, e1, c1, _⟩ := co; obtain ⟨o2, e2, c2, _⟩ := co2; rw [e1] at e2; cases e2; rw [c1] at c2; exact absurd c2 (by decide)
         · obtain ⟨o, e1, c1, _⟩ := co; obtain ⟨o2, e2, c2, _⟩ := co2; rw [e1] at e2; cases e2; rw [c1] at c2; exact absurd c2 (by decide)
         · rfl
       subst hb
       have hv := sqb_inj I q q2
       subst hv
       rw [if_pos rfl, if_neg (by rw [t.length, t2.length]; simp)] at h
       exact lists t t2 h
     | none =>
       rw [hd, he] at h
       dsimp only at h
       split at h
       · rename_i f
         have := (flat_rep re f).1
         cases this
       · cases h
   | none =>
     cases he : seqOf S e with
     | some p2 =>
       obtain ⟨qb, ys⟩ := p2
       obtain ⟨a2, vs2, e2, q2, t2⟩ := seqOf_at re hs he
       subst e2
       rw [hd, he] at h
       dsimp only at h
       split at h
       · rename_i f
         have := (flat_rep rd f).1
         cases this
       · cases h
     | none =>
       rw [hd, he] at h
       dsimp only at h
       obtain ⟨f1, f2⟩ := eqF_flat h
       obtain ⟨g1, g2⟩ := flat_rep rd f1
       rw [g2 e v re f2] at h
       cases h
       exact eqV_self g1
theorem rc_seq_none {A : Around} {b : Bool} {a : Addr} {its : Array Value} {v : V} {u : Value} (c : SCo b s.heap a its) (r : RelV v u) (f : flatV v = true) (hu : A.units < cLine) :
   SeqAt.EqAt A s (.ref a) u false ∧ SeqAt.EqAt A s u (.ref a) false ∧ SeqAt.RcAt A s (.ref a) u false ∧ SeqAt.RcAt A s u (.ref a) false := by
 cases v with
 | non => cases r; cases b
          · exact ⟨.tuple_none c hu, .none_tuple c hu, .tuple_none c hu, .none_tuple c hu⟩
          · exact ⟨.list_none c hu, .none_list c hu, .list_none c hu, .none_list c hu⟩
 | bl k => cases r; cases b
           · exact ⟨.tuple_bool k c hu, .bool_tuple k c hu, .tuple_bool k c hu, .bool_tuple k c hu⟩
           · exact ⟨.list_bool k c hu, .bool_list k c hu, .list_bool k c hu, .bool_list k c hu⟩
 | int i => obtain ⟨t, rfl⟩ := r; cases b
            · exact ⟨.tuple_int i t c hu, .int_tuple i t c hu, .tuple_int i t c hu, .int_tuple i t c hu⟩
            · exact ⟨.list_int i t c hu, .int_list i t c hu, .list_int i t c hu, .int_list i t c hu⟩
 | str x => obtain ⟨t, rfl⟩ := r; cases b
            · exact ⟨.tuple_str x t c hu, .str_tuple x t c hu, .tuple_str x t c hu, .str_tuple x t c hu⟩
            · exact ⟨.list_str x t c hu, .str_list x t c hu, .list_str x t c hu, .str_list x t c hu⟩
 | _ => cases f
theorem rc_flat {A : Around} {x y : V} {u w : Value} (rx : RelV x u) (ry : RelV y w) (fx : flatV x = true) (fy : flatV y = true) : SeqAt.RcAt A s u w (eqV x y) := by
 cases x with
 | non => cases rx; cases y with
   | non => cases ry; exact .none_none
   | bl k => cases ry; exact .none_bool k
   | int i => obtain ⟨t, rfl⟩ := ry; exact .none_int i t
   | str z => obtain ⟨t, rfl⟩ := ry; exact .none_str z t
   | _ => cases fy
 | bl k' => cases rx; cases y with
   | non => cases ry; exact .bool_none k'
   | bl k => cases ry; exact .bool_bool k' k
   | int i => obtain ⟨t, rfl⟩ := ry; exact .bool_int k' i t
   | str z => obtain ⟨t, rfl⟩ := ry; exact .bool_str k' z t
   | _ => cases fy
 | int i' => obtain ⟨t', rfl⟩ := rx; cases y with
   | non => cases ry; exact .int_none i' t'
   | bl k => cases ry; exact .int_bool i' t' k
   | int i => obtain ⟨t, rfl⟩ := ry; exact .int_int i' t' i t
   | str z => obtain ⟨t, rfl⟩ := ry; exact .int_str i' t' z t
   | _ => cases fy
 | str z' => obtain ⟨t', rfl⟩ := rx; cases y with
   | non => cases ry; exact .str_none z' t'
   | bl k => cases ry; exact .str_bool z' t' k
   | int i => obtain ⟨t, rfl⟩ := ry; exact .str_int z' t' i t
   | str z => obtain ⟨t, rfl⟩ := ry; exact .str_str z' t' z t
   | _ => cases fy
 | _ => cases fx
theorem eqL_at (f : D → D → Option Bool) : ∀ {xs ys : List D} {b : Bool}, eqL f xs ys = some b → ∃ e : Nat → Bool, (∀ j x y, xs[j]? = some x → ys[j]? = some y → f x y = some (e j)) ∧ b = ((List.range (min xs.length ys.length)).all e && xs.length == ys.length)
 | [], [], b, h => by cases h; exact ⟨fun _ => true, fun j x y h => by simp at h, rfl⟩
 | [], y :: ys, b, h => by cases h; exact ⟨fun _ => true, fun j x y h => by simp at h, by simp⟩
 | x :: xs, [], b, h => by cases h; exact ⟨fun _ => true, fun j x y h h' => by simp at h', by simp⟩
 | x :: xs, y :: ys, b, h => by
   rw [eqL] at h
   obtain ⟨b1, e1, h⟩ := Option.bind_eq_some_iff.mp h
   obtain ⟨b2, e2, h⟩ := Option.map_eq_some_iff.mp h
   obtain ⟨e, he, hb⟩ := eqL_at f e2
   refine ⟨fun j => match j with | 0 => b1 | j + 1 => e j, fun j x' y' hx hy => ?_, ?_⟩
   · cases j with
     | zero => simp at hx hy; subst hx; subst hy; exact e1
     | succ j => exact he j x' y' (by simpa using hx) (by simpa using hy)
   · rw [← h, hb, List.length_cons, List.length_cons, Nat.succ_min_succ, List.range_succ_eq_map, List.all_cons, List.all_map]
     have : ((xs.length + 1 == ys.length + 1) : Bool) = (xs.length == ys.length) := by simp
     rw [this, Bool.and_assoc]
     rfl
theorem eqN_at (I : Inv X pins σ H s) (hs : Sim X.K H mu S) : ∀ (n : Nat) {A : Around} {d e : D} {v w : V} {u z : Value} {b : Bool}, A.units + n < cLine → Rep X.K H mu d v → Rep X.K H mu e w → RelV v u → RelV w z → eqN S n d e = some b → SeqAt.EqAt A s u z b ∧ SeqAt.RcAt A s u z b
 | 0, _, _, _, _, _, _, _, _, _, _, _, _, _, h => by cases h
 | n + 1, A, d, e, v, w, u, z, b, hu, rd, re, ru, rz, h => by
   have hu0 : A.units < cLine := by omega
   have h0 := h
   rw [eqN] at h
   cases hd : seqOf S d with
   | some p =>
     obtain ⟨pb, xs⟩ := p
     obtain ⟨a, vs, rfl, q, t⟩ := seqOf_at rd hs hd
     obtain ⟨its, rv, co, _⟩ := sqb_at I q
     cases ru
     cases he : seqOf S e with
     | some p2 =>
       obtain ⟨qb, ys⟩ := p2
       obtain ⟨a2, vs2, rfl, q2, t2⟩ := seqOf_at re hs he
       obtain ⟨its2, rv2, co2, _⟩ := sqb_at I q2
       cases rz
       rw [hd, he] at h
       dsimp only at h
       have both : SeqAt.RcAt A s (.ref a) (.ref a2) b → SeqAt.EqAt A s (.ref a) (.ref a2) b ∧ SeqAt.RcAt A s (.ref a) (.ref a2) b := fun rc => by
         refine ⟨?_, rc⟩
         by_cases ha : a = a2
         · subst ha
           rw [eqN_same I hs (n + 1) rd re h0]
           exact .same _
         · exact .of_refs ha rc
       split at h
       · rename_i hb
         have hb' : pb = qb := hb
         subst hb'
         split at h
         · rename_i hl
           cases h
           obtain ⟨h1, h2⟩ := hl
           subst h1
           refine both (.lists_lengths co co2 ?_ hu0)
           have l1 := t.length; have l2 := t2.length; have l3 := rv.length; have l4 := rv2.length
           simp only [List.size_toArray, bne_iff_ne, ne_eq]
           omega
         · rename_i hl
           obtain ⟨f, hf, hbb⟩ := eqL_at _ h
           have elts : ∀ j (h1 : j < its.toArray.size) (h2 : j < its2.toArray.size), SeqAt.EqAt A.in1 s its.toArray[j] its2.toArray[j] (f j) := fun j h1 h2 => by
             have h1' : j < its.length := by simpa using h1
             have h2' : j < its2.length := by simpa using h2
             have k1 : j < vs.length := by rw [rv.length]; exact h1'
             have k2 : j < vs2.length := by rw [rv2.length]; exact h2'
             obtain ⟨x, ex, rx⟩ := t.getV (List.getElem?_eq_getElem k1)
             obtain ⟨y, ey, ry⟩ := t2.getV (List.getElem?_eq_getElem k2)
             obtain ⟨u1, eu1, ru1⟩ := rv.get (List.getElem?_eq_getElem k1)
             obtain ⟨u2, eu2, ru2⟩ := rv2.get (List.getElem?_eq_getElem k2)
             have e1 : its.toArray[j] = u1 := by
               rw [List.getElem?_eq_getElem h1'] at eu1; simpa using eu1
             have e2 : its2.toArray[j] = u2 := by
               rw [List.getElem?_eq_getElem h2'] at eu2; simpa using eu2
             rw [e1, e2]
             exact (eqN_at I hs n (A := A.in1) (by show A.units + 1 + n < cLine; omega) rx ry ru1 ru2 (hf j x y ex ey)).1
           have l1 := t.length; have l2 := t2.length; have l3 := rv.length; have l4 := rv2.length
           cases pb with
           | false =>
             refine both ?_
             have := SeqAt.RcAt.tuples co co2 hu0 elts
             rw [hbb]
             have e1 : its.toArray.size = xs.length := by simp; omega
             have e2 : its2.toArray.size = ys.length := by simp; omega
             rw [e1, e2] at this
             exact this
           | true =>
             refine both ?_
             have hl' : xs.length = ys.length := by
               by_cases z : xs.length = ys.length
               · exact z
               · exact absurd ⟨rfl, z⟩ hl
             have := SeqAt.RcAt.lists co co2 (by simp; omega) hu0 elts
             rw [hbb]
             have e1 : its.toArray.size = xs.length := by simp; omega
             rw [e1] at this
             rw [hl', Nat.min_self, beq_self_eq_true, Bool.and_true, ← hl']
             exact this
       · rename_i hb
         cases h
         cases pb with
         | true =>
           cases qb with
           | true => exact absurd rfl hb
           | false => exact ⟨.list_tuple co co2 hu0, .list_tuple co co2 hu0⟩
         | false =>
           cases qb with
           | false => exact absurd rfl hb
           | true => exact ⟨.tuple_list co co2 hu0, .tuple_list co co2 hu0⟩
     | none =>
       rw [hd, he] at h
       dsimp only at h
       split at h
       · rename_i f
         cases h
         obtain ⟨r1, r2, r3, r4⟩ := rc_seq_none co rz (flat_rep re f).1 hu0
         exact ⟨r1, r3⟩
       · cases h
   | none =>
     cases he : seqOf S e with
     | some p2 =>
       obtain ⟨qb, ys⟩ := p2
       obtain ⟨a2, vs2, rfl, q2, t2⟩ := seqOf_at re hs he
       obtain ⟨its2, rv2, co2, _⟩ := sqb_at I q2
       cases rz
       rw [hd, he] at h
       dsimp only at h
       split at h
       · rename_i f
         cases h
         obtain ⟨r1, r2, r3, r4⟩ := rc_seq_none co2 ru (flat_rep rd f).1 hu0
         exact ⟨r2, r4⟩
       · cases h
     | none =>
       rw [hd, he] at h
       dsimp only at h
       obtain ⟨f1, f2⟩ := eqF_flat h
       obtain ⟨g1, g2⟩ := flat_rep rd f1
       have g3 := (flat_rep re f2).1
       rw [g2 e w re f2] at h
       cases h
       exact ⟨eqAt_V ru rz g1 g3, rc_flat ru rz g1 g3⟩
end
noncomputable def deepMost : Nat := 60
noncomputable def gEq : G2 := fun d e S => (eqN S deepMost d e).map fun b => (.bl b, S)
section
variable {X : Cx}
theorem o_eq (hu : X.A.units + 64 < cLine) : OpR X (compareOp .Eq) (r2 X.K (b2 gEq)) := by
 intro pins s σ H x y u w Q I rx ry h
 obtain ⟨mu, S, d, e, r, S', r1, r2, hs, hm, hc⟩ := rn2 h
 obtain ⟨b, e1, hm⟩ := Option.map_eq_some_iff.mp hm
 cases hm
 exact (eqN_at I hs deepMost (by show _ + 60 < cLine; omega) r1 r2 rx ry e1).2 X.prog X.w X.xe _ ⟨.bl b, H, I, rfl, hc.now (.bl b) hs⟩
end
end Mi
end
section
namespace Mi
open PySem PySem.Spec PyProof.Rows L2
section
variable {X : Cx} {pins : List (Addr × Obj)} {σ : L2.St} {H : Hp} {s : Shared} {mu : List Addr} {S : Sto}
theorem ne_flat {A : Around} {x y : V} {u w : Value} (rx : RelV x u) (ry : RelV y w) (fx : flatV x = true) (fy : flatV y = true) : SeqAt.RcNeAt A s u w (!eqV x y) := by
 cases x with
 | non => cases rx; cases y with
   | non => cases ry; exact .none_none
   | bl k => cases ry; exact .none_bool k
   | int i => obtain ⟨t, rfl⟩ := ry; exact .none_int i t
   | str z => obtain ⟨t, rfl⟩ := ry; exact .none_str z t
   | _ => cases fy
 | bl k' => cases rx; cases y with
   | non => cases ry; exact .bool_none k'
   | bl k => cases ry; exact .bool_bool k' k
   | int i => obtain ⟨t, rfl⟩ := ry; exact .bool_int k' i t
   | str z => obtain ⟨t, rfl⟩ := ry; exact .bool_str k' z t
   | _ => cases fy
 | int i' => obtain ⟨t', rfl⟩ := rx; cases y with
   | non => cases ry; exact .int_none i' t'
   | bl k => cases ry; exact .int_bool i' t' k
   | int i => obtain ⟨t, rfl⟩ := ry; exact .int_int i' t' i t
   | str z => obtain ⟨t, rfl⟩ := ry; exact .int_str i' t' z t
   | _ => cases fy
 | str z' => obtain ⟨t', rfl⟩ := rx; cases y with
   | non => cases ry; exact .str_none z' t'
   | bl k => cases ry; exact .str_bool z' t' k
   | int i => obtain ⟨t, rfl⟩ := ry; exact .str_int z' t' i t
   | str z => obtain ⟨t, rfl⟩ := ry; exact .str_str z' t' z t
   | _ => cases fy
 | _ => cases fx
theorem ne_seq_none {A : Around} {b : Bool} {a : Addr} {its : Array Value} {v : V} {u : Value} (c : SCo b s.heap a its) (r : RelV v u) (f : flatV v = true) (hu : A.units < cLine) : SeqAt.RcNeAt A s (.ref a) u true ∧ SeqAt.RcNeAt A s u (.ref a) true := by
 cases v with
 | non => cases r; cases b
          · exact ⟨.tuple_none c hu, .none_tuple c hu⟩
          · exact ⟨.list_none c hu, .none_list c hu⟩
 | bl k => cases r; cases b
           · exact ⟨.tuple_bool k c hu, .bool_tuple k c hu⟩
           · exact ⟨.list_bool k c hu, .bool_list k c hu⟩
 | int i => obtain ⟨t, rfl⟩ := r; cases b
            · exact ⟨.tuple_int i t c hu, .int_tuple i t c hu⟩
            · exact ⟨.list_int i t c hu, .int_list i t c hu⟩
 | str x => obtain ⟨t, rfl⟩ := r; cases b
            · exact ⟨.tuple_str x t c hu, .str_tuple x t c hu⟩
            · exact ⟨.list_str x t c hu, .str_list x t c hu⟩
 | _ => cases f
theorem neN_at (I : Inv X pins σ H s) (hs : Sim X.K H mu S) (n : Nat) {A : Around} {d e : D} {v w : V} {u z : Value} {b : Bool} (hu : A.units + n < cLine) (rd : Rep X.K H mu d v) (re : Rep X.K H mu e w) (ru : RelV v u) (rz : RelV w z) (h : eqN S n d e = some b) : SeqAt.RcNeAt A s u z (!b) := by
 cases n with
 | zero => cases h
 | succ n =>
   have hu0 : A.units < cLine := by omega
   rw [eqN] at h
   cases hd : seqOf S d with
   | some p =>
     obtain ⟨pb, xs⟩ := p
     obtain ⟨a, vs, rfl, q, t⟩ := seqOf_at rd hs hd
     obtain ⟨its, rv, co, _⟩ := sqb_at I q
     cases ru
     cases he : seqOf S e with
     | some p2 =>
       obtain ⟨qb, ys⟩ := p2
       obtain ⟨a2, vs2, rfl, q2, t2⟩ := seqOf_at re hs he
       obtain ⟨its2, rv2, co2, _⟩ := sqb_at I q2
       cases rz
       rw [hd, he] at h
       dsimp only at h
       have l1 := t.length; have l2 := t2.length; have l3 := rv.length; have l4 := rv2.length
       split at h
       · rename_i hb
         have hb' : pb = qb := hb
         subst hb'
         split at h
         · rename_i hl
           cases h
           obtain ⟨h1, h2⟩ := hl
           subst h1
           refine .lists_lengths co co2 ?_ hu0
           simp only [List.size_toArray, bne_iff_ne, ne_eq]
           omega
         · rename_i hl
           obtain ⟨f, hf, hbb⟩ := eqL_at _ h
           have elts : ∀ j (h1 : j < its.toArray.size) (h2 : j < its2.toArray.size), SeqAt.EqAt A.in1 s its.toArray[j] its2.toArray[j] (f j) := fun j h1 h2 => by
             have h1' : j < its.length := by simpa using h1
             have h2' : j < its2.length := by simpa using h2
             have k1 : j < vs.length := by rw [rv.length]; exact h1'
             have k2 : j < vs2.length := by rw [rv2.length]; exact h2'
             obtain ⟨x, ex, rx⟩ := t.getV (List.getElem?_eq_getElem k1)
             obtain ⟨y, ey, ry⟩ := t2.getV (List.getElem?_eq_getElem k2)
             obtain ⟨u1, eu1, ru1⟩ := rv.get (List.getElem?_eq_getElem k1)
             obtain ⟨u2, eu2, ru2⟩ := rv2.get (List.getElem?_eq_getElem k2)
             have e1 : its.toArray[j] = u1 := by
               rw [List.getElem?_eq_getElem h1'] at eu1; simpa using eu1
             have e2 : its2.toArray[j] = u2 := by
               rw [List.getElem?_eq_getElem h2'] at eu2; simpa using eu2
             rw [e1, e2]
             exact (eqN_at I hs n (A := A.in1) (by show A.units + 1 + n < cLine; omega) rx ry ru1 ru2 (hf j x y ex ey)).1
           cases pb with
           | false =>
             have := SeqAt.RcNeAt.tuples co co2 hu0 elts
             rw [hbb]
             have e1 : its.toArray.size = xs.length := by simp; omega
             have e2 : its2.toArray.size = ys.length := by simp; omega
             rw [e1, e2] at this
             exact this
           | true =>
             have hl' : xs.length = ys.length := by
               by_cases z : xs.length = ys.length
               · exact z
               · exact absurd ⟨rfl, z⟩ hl
             have := SeqAt.RcNeAt.lists co co2 (by simp; omega) hu0 elts
             rw [hbb]
             have e1 : its.toArray.size = xs.length := by simp; omega
             rw [e1] at this
             rw [hl', Nat.min_self, beq_self_eq_true, Bool.and_true, ← hl']
             exact this
       · rename_i hb
         cases h
         cases pb with
         | true =>
           cases qb with
           | true => exact absurd rfl hb
           | false => exact .list_tuple co co2 hu0
         | false =>
           cases qb with
           | false => exact absurd rfl hb
           | true => exact .tuple_list co co2 hu0
     | none =>
       rw [hd, he] at h
       dsimp only at h
       split at h
       · rename_i f
         cases h
         exact (ne_seq_none co rz (flat_rep re f).1 hu0).1
       · cases h
   | none =>
     cases he : seqOf S e with
     | some p2 =>
       obtain ⟨qb, ys⟩ := p2
       obtain ⟨a2, vs2, rfl, q2, t2⟩ := seqOf_at re hs he
       obtain ⟨its2, rv2, co2, _⟩ := sqb_at I q2
       cases rz
       rw [hd, he] at h
       dsimp only at h
       split at h
       · rename_i f
         cases h
         exact (ne_seq_none co2 ru (flat_rep rd f).1 hu0).2
       · cases h
     | none =>
       rw [hd, he] at h
       dsimp only at h
       obtain ⟨f1, f2⟩ := eqF_flat h
       obtain ⟨g1, g2⟩ := flat_rep rd f1
       have g3 := (flat_rep re f2).1
       rw [g2 e w re f2] at h
       cases h
       exact ne_flat ru rz g1 g3
end
noncomputable def gNe : G2 := fun d e S => (eqN S deepMost d e).map fun b => (.bl (!b), S)
noncomputable def inL (f : D → D → Option Bool) (x : D) : List D → Option Bool
 | [] => some false
 | y :: ys => (f y x).bind fun b => (inL f x ys).map fun c => b || c
noncomputable def gIn : G2 := fun d e S => (seqOf S e).bind fun p => (inL (eqN S deepMost) d p.2).map fun b => (.bl b, S)
noncomputable def gNotIn : G2 := fun d e S => (seqOf S e).bind fun p => (inL (eqN S deepMost) d p.2).map fun b => (.bl (!b), S)
noncomputable def isNon : D → Bool
 | .non => true
 | _ => false
noncomputable def gIsN : G2 := fun d e S => match e with
 | .non => some (.bl (isNon d), S)
 | _ => none
section
variable {X : Cx}
theorem o_ne (hu : X.A.units + 64 < cLine) : OpR X (compareOp .NotEq) (r2 X.K (b2 gNe)) := by
 intro pins s σ H x y u w Q I rx ry h
 obtain ⟨mu, S, d, e, r, S', r1, r2, hs, hm, hc⟩ := rn2 h
 obtain ⟨b, e1, hm⟩ := Option.map_eq_some_iff.mp hm
 cases hm
 exact neN_at I hs deepMost (by show _ + 60 < cLine; omega) r1 r2 rx ry e1 X.prog X.w X.xe _ ⟨.bl (!b), H, I, rfl, hc.now (.bl _) hs⟩
theorem inL_at (f : D → D → Option Bool) (x : D) : ∀ {ys : List D} {b : Bool}, inL f x ys = some b → ∃ bs : List Bool, bs.length = ys.length ∧ (∀ (j : Nat) (y : D) (k : Bool), ys[j]? = some y → bs[j]? = some k → f y x = some k) ∧ b = bs.any id
 | [], b, h => by cases h; exact ⟨[], rfl, fun j y k h => by simp at h, rfl⟩
 | y :: ys, b, h => by
   rw [inL] at h
   obtain ⟨b1, e1, h⟩ := Option.bind_eq_some_iff.mp h
   obtain ⟨b2, e2, h⟩ := Option.map_eq_some_iff.mp h
   obtain ⟨bs, hl, hb, hany⟩ := inL_at f x e2
   refine ⟨b1 :: bs, by simp [hl], fun j y' k hy hk => ?_, ?_⟩
   · cases j with
     | zero => simp at hy hk; subst hy; subst hk; exact e1
     | succ j => exact hb j y' k (by simpa using hy) (by simpa using hk)
   · rw [← h, hany]; simp
open Classical in
theorem in_at {pins : List (Addr × Obj)} {σ : L2.St} {H : Hp} {s : Shared} {mu : List Addr} {S : Sto} (I : Inv X pins σ H s) (hs : Sim X.K H mu S) {A : Around} (hu : A.units + 61 < cLine) {x : D} {v : V} {u : Value} (rx : Rep X.K H mu x v) (ru : RelV v u)
   {ys : List D} {vs : List V} {us : List Value} {b : Bool} (ry : Reps X.K H mu ys vs) (rv : Vals vs us) (h : inL (eqN S deepMost) x ys = some b) : ∃ e : Value → Bool, (∀ w ∈ us, SeqAt.EqAt A.in1 s w u (e w)) ∧ us.any e = b := by
 obtain ⟨bs, hl, hb, rfl⟩ := inL_at _ x h
 have l1 := ry.length
 have l2 := rv.length
 have at_ : ∀ (j : Nat) w k, us[j]? = some w → bs[j]? = some k → SeqAt.EqAt A.in1 s w u k := fun j w k hw hk => by
   have j1 : j < us.length := (List.getElem?_eq_some_iff.mp hw).1
   obtain ⟨y, ey, r1⟩ := ry.getV (i := j) (v := vs[j]'(by omega)) (List.getElem?_eq_getElem (by omega))
   obtain ⟨w', ew, r2⟩ := rv.get (i := j) (x := vs[j]'(by omega)) (List.getElem?_eq_getElem (by omega))
   rw [hw] at ew; cases ew
   exact (eqN_at I hs deepMost (A := A.in1) (by show A.units + 1 + 60 < cLine; omega) r1 rx r2 ru (hb j y k ey hk)).1
 refine ⟨fun w => decide (∃ j : Nat, us[j]? = some w ∧ bs[j]? = some true), fun w hw => ?_, ?_⟩
 · by_cases z : ∃ j : Nat, us[j]? = some w ∧ bs[j]? = some true
   · dsimp only; rw [decide_eq_true z]
     obtain ⟨j, e1, e2⟩ := z
     exact at_ j w true e1 e2
   · dsimp only; rw [decide_eq_false z]
     obtain ⟨j, hj⟩ := List.getElem?_of_mem hw
     have j1 : j < us.length := (List.getElem?_eq_some_iff.mp hj).1
     have j2 : j < bs.length := by omega
     have e2 := List.getElem?_eq_getElem j2
     cases hk : bs[j] with
     | true => rw [hk] at e2; exact absurd ⟨j, hj, e2⟩ z
     | false => rw [hk] at e2; exact at_ j w false hj e2
 · rw [Bool.eq_iff_iff, List.any_eq_true, List.any_eq_true]
   constructor
   · rintro ⟨w, hw, z⟩
     obtain ⟨j, e1, e2⟩ := of_decide_eq_true z
     exact ⟨true, List.mem_of_getElem? e2, rfl⟩
   · rintro ⟨k, hk, z⟩
     obtain ⟨j, hj⟩ := List.getElem?_of_mem hk
     have j1 : j < bs.length := (List.getElem?_eq_some_iff.mp hj).1
     have j2 : j < us.length := by omega
     have z' : k = true := z
     subst z'
     exact ⟨us[j], List.getElem_mem j2, decide_eq_true ⟨j, List.getElem?_eq_getElem j2, hj⟩⟩
theorem o_in (hu : X.A.units + 64 < cLine) : OpR X (compareOp .In) (r2 X.K (b2 gIn)) := by
 intro pins s σ H x y u w Q I rx ry h
 obtain ⟨mu, S, d, e, r, S', r1, r2, hs, hm, hc⟩ := rn2 h
 obtain ⟨⟨pb, ys⟩, e1, hm⟩ := Option.bind_eq_some_iff.mp hm
 obtain ⟨b, e2, hm⟩ := Option.map_eq_some_iff.mp hm
 cases hm
 obtain ⟨a, vs, rfl, q, t⟩ := seqOf_at r2 hs e1
 cases ry
 obtain ⟨its, rv, co, _⟩ := sqb_at I q
 obtain ⟨f, hf, hb⟩ := in_at I hs (A := X.A) (by omega) r1 rx t rv e2
 have fin : EP X pins σ Q (.bool (its.toArray.any f)) s := ⟨.bl b, H, I, by rw [show its.toArray.any f = its.any f by simp, hb]; rfl, hc.now (.bl b) hs⟩
 cases pb
 · exact SeqAt.in_tupleAt f co (fun y hy => hf y (by simpa using hy)) fin
 · exact SeqAt.in_listAt f co (fun y hy => hf y (by simpa using hy)) fin
theorem o_notIn (hu : X.A.units + 64 < cLine) : OpR X (compareOp .NotIn) (r2 X.K (b2 gNotIn)) := by
 intro pins s σ H x y u w Q I rx ry h
 obtain ⟨mu, S, d, e, r, S', r1, r2, hs, hm, hc⟩ := rn2 h
 obtain ⟨⟨pb, ys⟩, e1, hm⟩ := Option.bind_eq_some_iff.mp hm
 obtain ⟨b, e2, hm⟩ := Option.map_eq_some_iff.mp hm
 cases hm
 obtain ⟨a, vs, rfl, q, t⟩ := seqOf_at r2 hs e1
 cases ry
 obtain ⟨its, rv, co, _⟩ := sqb_at I q
 obtain ⟨f, hf, hb⟩ := in_at I hs (A := X.A) (by omega) r1 rx t rv e2
 have fin : EP X pins σ Q (.bool (!its.toArray.any f)) s := ⟨.bl (!b), H, I, by rw [show its.toArray.any f = its.any f by simp, hb]; rfl, hc.now (.bl _) hs⟩
 cases pb
 · exact SeqAt.notIn_tupleAt f co (fun y hy => hf y (by simpa using hy)) fin
 · exact SeqAt.notIn_listAt f co (fun y hy => hf y (by simpa using hy)) fin
theorem non_rep {K : PySem.W.Frag} {H : Hp} {mu : List Addr} {d : D} {v : V} (r : Rep K H mu d v) : isNon d = decide (v = .non) := by
 cases r <;> simp [isNon]
theorem o_isN : OpR X (compareOp .Is) (r2 X.K (b2 gIsN)) := by
 intro pins s σ H x y u w Q I rx ry h
 obtain ⟨mu, S, d, e, r, S', r1, r2, hs, hm, hc⟩ := rn2 h
 cases e with
 | non =>
   cases hm; cases r2
   refine op_isN pins s σ H _ _ u w Q I rx ry ⟨rfl, ?_⟩
   rw [← non_rep r1]
   exact hc.now (.bl _) hs
 | _ => cases hm
end
noncomputable def gLen : G1 := fun d S => match d with
 | .str x => if x.length ≤ sizeLine then some (.int x.length, S) else none
 | _ => (seqOf S d).map fun p => (.int p.2.length, S)
noncomputable def gIx : G2 := fun d e S => match e with
 | .int i => (seqOf S d).bind fun p => (atI p.2 i).map fun x => (x, S)
 | _ => none
noncomputable def gTup : G1 := fun d S => (seqOf S d).map fun p => (.tup p.2, S)
noncomputable def gLst : G1 := fun d S => (seqOf S d).map fun p => (.ref S.length, S ++ [.lst p.2])
noncomputable def gSetIx : G3 := fun o i v S => match o, i with
 | .ref n, .int k => match S[n]? with
   | some (.lst xs) => (ixN xs.length k).map fun j => (.non, S.set n (.lst (xs.set j v)))
   | _ => none
 | _, _ => none
noncomputable def allB : List D → Option Bool
 | [] => some true
 | .bl b :: r => (allB r).map fun c => b && c
 | _ => none
noncomputable def gAll : G1 := fun d S => (seqOf S d).bind fun p => (allB p.2).map fun b => (.bl b, S)
noncomputable def gInt : G1 := fun d S => match d with
 | .int i => some (.int i, S)
 | .bl b => some (.int (if b then 1 else 0), S)
 | _ => none
noncomputable def gMax : G2 := fun d e S => match d, e with
 | .int i, .int j => some (.int (if j > i then j else i), S)
 | _, _ => none
noncomputable def gMin : G2 := fun d e S => match d, e with
 | .int i, .int j => some (.int (if j < i then j else i), S)
 | _, _ => none
section
variable {X : Cx}
theorem c_len : CallR X (.builtin "len") (rN X.K (b1 gLen)) := by
 intro pins s σ H xs us Q I r h
 obtain ⟨x, mu, S, d, r', S', rfl, r1, hs, hm, hc⟩ := rn1 h
 unfold gLen at hm
 split at hm
 · split at hm
   · rename_i z hl
     cases hm; cases r1
     exact call_len_str pins s σ H _ us Q I r ⟨_, rfl, hl, hc.now (.int _) hs⟩
   · cases hm
 · obtain ⟨⟨b, ys⟩, e1, hm⟩ := Option.map_eq_some_iff.mp hm
   cases hm
   obtain ⟨a, vs, rfl, q, t⟩ := seqOf_at r1 hs e1
   refine call_len_seq pins s σ H _ us Q I r ⟨a, vs, rfl, ?_, ?_⟩
   · cases b
     · exact .inr q
     · exact .inl q
   · rw [← t.length]; exact hc.now (.int _) hs
theorem atI_rep {K : PySem.W.Frag} {H : Hp} {mu : List Addr} {ds : List D} {vs : List V} {i : Int} {d : D} (t : Reps K H mu ds vs) (h : atI ds i = some d) : ∃ v, atI vs i = some v ∧ Rep K H mu d v := by
 unfold atI at h ⊢
 rw [← t.length]
 obtain ⟨j, e1, h⟩ := Option.bind_eq_some_iff.mp h
 obtain ⟨v, ev, rv⟩ := t.get h
 exact ⟨v, by rw [e1]; exact ev, rv⟩
theorem x_ix : IxR X (r2 X.K (b2 gIx)) := by
 intro value slice pins s σ H x y v u Q I rx ry h hs2
 obtain ⟨mu, S, d, e, r, S', r1, r2, hs, hm, hc⟩ := rn2 h
 cases e with
 | int i =>
   obtain ⟨⟨b, ys⟩, e1, hm⟩ := Option.bind_eq_some_iff.mp hm
   obtain ⟨z, e2, hm⟩ := Option.map_eq_some_iff.mp hm
   cases hm; cases r2
   obtain ⟨a, vs, rfl, q, t⟩ := seqOf_at r1 hs e1
   obtain ⟨v', ev, rv⟩ := atI_rep t e2
   cases b
   · exact ix_tup value slice pins s σ H _ _ v u Q I rx ry ⟨a, vs, i, v', rfl, rfl, q, ev, hc.now rv hs⟩ hs2
   · exact ix_list value slice pins s σ H _ _ v u Q I rx ry ⟨a, vs, i, v', rfl, rfl, q, ev, hc.now rv hs⟩ hs2
 | _ => cases hm
theorem c_tuple : CallR X (.type "tuple") (rN X.K (b1 gTup)) := by
 intro pins s σ H xs us Q I r h
 obtain ⟨x, mu, S, d, r', S', rfl, r1, hs, hm, hc⟩ := rn1 h
 obtain ⟨⟨b, ys⟩, e1, hm⟩ := Option.map_eq_some_iff.mp hm
 cases hm
 obtain ⟨a, vs, rfl, q, t⟩ := seqOf_at r1 hs e1
 refine call_tuple_of pins s σ H _ us Q I r ⟨a, vs, rfl, ?_⟩
 cases b
 · exact .inr ⟨q, hc.now (.tup q t) hs⟩
 · exact .inl ⟨q, fun l hl => hc _ _ mu (Ext.fresh hl) (.tup (SqT.of upd_same) (t.ext (Ext.fresh hl))) (hs.fresh hl)⟩
theorem c_list : CallR X (.type "list") (rN X.K (b1 gLst)) := by
 intro pins s σ H xs us Q I r h
 obtain ⟨x, mu, S, d, r', S', rfl, r1, hs, hm, hc⟩ := rn1 h
 obtain ⟨⟨b, ys⟩, e1, hm⟩ := Option.map_eq_some_iff.mp hm
 cases hm
 obtain ⟨a, vs, rfl, q, t⟩ := seqOf_at r1 hs e1
 refine call_list_of pins s σ H _ us Q I r ⟨a, vs, rfl, ?_, fun l hl => hc _ _ (mu ++ [l]) (Ext.new_ hl) (.ref (new_at hs.len l)) (hs.newL t hl)⟩
 cases b
 · exact .inr q
 · exact .inl q
theorem s_set : PSet X (rU X.K (b3 gSetIx)) := by
 intro pins s σ H o i v ov iv u Q I ro ri rv h
 obtain ⟨mu, S, ds, d, S', hr, hs, hm, hc⟩ := h
 cases hr with
 | cons q1 t1 => cases t1 with
   | cons q2 t2 => cases t2 with
     | cons q3 t3 =>
       cases t3
       rename_i d1 d2 d3
       dsimp only [b3] at hm
       unfold gSetIx at hm
       split at hm
       · rename_i n k
         split at hm
         · rename_i xs e
           obtain ⟨j, ej, hm⟩ := Option.map_eq_some_iff.mp hm
           cases hm
           cases q1 with
           | ref qn =>
             cases q2
             obtain ⟨vs, ev, t⟩ := hs.lst e qn
             refine set_list pins s σ H _ _ v ov iv u Q I ro ri rv ⟨_, vs, k, j, rfl, rfl, ev, by rw [← t.length]; exact ej, ?_⟩
             exact hc _ mu (Ext.put ev trivial (List.mem_of_getElem? qn)) (hs.putL (t.set q3 j) qn ev)
         · cases hm
       · cases hm
theorem allB_at {K : PySem.W.Frag} {H : Hp} {mu : List Addr} : ∀ {ds : List D} {vs : List V} {us : List Value} {b : Bool}, Reps K H mu ds vs → Vals vs us → allB ds = some b → ∃ bs : List Bool, us = bs.map Value.bool ∧ b = bs.all id := by
 intro ds
 induction ds with
 | nil => intro vs us b r v h; cases r; cases v; cases h; exact ⟨[], rfl, rfl⟩
 | cons d ds ih =>
   intro vs us b r v h
   cases r with
   | cons r1 t =>
     cases v with
     | cons r tt =>
       cases r1
       case bl k =>
         obtain ⟨c, e, h⟩ := Option.map_eq_some_iff.mp h
         obtain ⟨bs, e1, e2⟩ := ih t tt e
         cases r
         exact ⟨k :: bs, by rw [e1]; rfl, by rw [← h, e2]; rfl⟩
       all_goals cases h
theorem range_all (bs : List Bool) : (List.range bs.length).all (fun i => bs.getD i true) = bs.all id := by
 rw [Bool.eq_iff_iff, List.all_eq_true, List.all_eq_true]
 constructor
 · intro h b hb
   obtain ⟨i, hi, rfl⟩ := List.mem_iff_getElem.mp hb
   have := h i (List.mem_range.mpr hi)
   simpa [List.getD_eq_getElem?_getD, hi] using this
 · intro h i hi
   have hi' := List.mem_range.mp hi
   have := h _ (List.getElem_mem hi')
   simpa [List.getD_eq_getElem?_getD, hi'] using this
theorem walk_bools {s : Shared} {b : Bool} {a : Addr} {bs : List Bool} (hc : X.A.handled = none) (co : SCo b s.heap a (bs.map Value.bool).toArray) {Q : Value → Shared → Prop}
   (all : ∀ h' tk, (∀ c o, s.heap.get? c = some o → h'.get? c = some o) → Q (.bool (bs.all id)) { s with heap := h', toks := tk }) : wpAny (model X.prog X.w) X.A (call (.builtin "all") [.ref a]) Q X.xe s := by
 refine call_all_walk (sit_iter co ?_)
 have hlt : a < s.heap.objs.size := by cases b <;> (obtain ⟨o, e, _⟩ := co; exact Heap.lt_size e)
 have ne : a ≠ s.heap.objs.size := Nat.ne_of_lt hlt
 have tr : TruthOf X.prog X.w X.A.in1 (fun i v => (bs.map Value.bool).toArray[i]? = some v) (fun i => bs.getD i true) := fun i v s' Q' E' hv hq => by
   have hv' : (bs.map Value.bool)[i]? = some v := by simpa using hv
   rw [List.getElem?_map] at hv'
   obtain ⟨k, ek, rfl⟩ := Option.map_eq_some_iff.mp hv'
   dsimp only at hq; rw [List.getD_eq_getElem?_getD, ek] at hq
   exact wpAny_truthy_bool hq
 have keep : ∀ (h' : Heap), (∀ c o, c ∉ [s.heap.objs.size] → (s.heap.push (itObj b a)).get? c = some o → h'.get? c = some o) → ∀ c o, s.heap.get? c = some o → h'.get? c = some o := fun h' hk c o e =>
   hk c o (by simpa using Nat.ne_of_lt (Heap.lt_size e)) (Heap.get?_push_of_some _ e)
 have hi : (s.heap.push (itObj b a)).get? s.heap.objs.size = some (itObj b a) := Heap.get?_push_size _ (by cases b <;> rfl)
 cases b with
 | true =>
   refine ⟨s.heap.objs.size, _, _, _, _, _, _, rfl, Walks.list (A := X.A.in1) hc s.heap.objs.size a ne (bs.map Value.bool).toArray, ⟨⟨_, hi, rfl, rfl⟩, SCo.to (b := true) co fun o e => Heap.get?_push_of_some _ e⟩, tr, fun h' tk hk => ?_⟩
   have e : (bs.map Value.bool).toArray.size = bs.length := by simp
   rw [e, range_all]
   exact all h' tk (keep h' hk)
 | false =>
   refine ⟨s.heap.objs.size, _, _, _, _, _, _, rfl, Walks.tuple (A := X.A.in1) hc s.heap.objs.size a ne (bs.map Value.bool).toArray, ⟨⟨_, hi, rfl, rfl⟩, SCo.to (b := false) co fun o e => Heap.get?_push_of_some _ e⟩, tr, fun h' tk hk => ?_⟩
   have e : (bs.map Value.bool).toArray.size = bs.length := by simp
   rw [e, range_all]
   exact all h' tk (keep h' hk)
theorem c_all (hc : X.calm = true) : CallR X (.builtin "all") (rN X.K (b1 gAll)) := by
 intro pins s σ H xs us Q I r h
 obtain ⟨x, mu, S, d, r', S', rfl, r1, hs, hm, hcc⟩ := rn1 h
 obtain ⟨⟨b, ys⟩, e1, hm⟩ := Option.bind_eq_some_iff.mp hm
 obtain ⟨k, e2, hm⟩ := Option.map_eq_some_iff.mp hm
 cases hm
 obtain ⟨a, vs, rfl, q, t⟩ := seqOf_at r1 hs e1
 obtain ⟨u, rfl, ru⟩ := vals1 r
 cases ru
 obtain ⟨its, rv, co, _⟩ := sqb_at I q
 obtain ⟨bs, rfl, rfl⟩ := allB_at t rv e2
 exact walk_bools (I.ok.hd hc) co fun h' tk hk => ⟨.bl _, H, I.kept hk, rfl, hcc.now (.bl _) hs⟩
theorem c_int : CallR X (.type "int") (rN X.K (b1 gInt)) := by
 intro pins s σ H xs us Q I r h
 obtain ⟨x, mu, S, d, r', S', rfl, r1, hs, hm, hc⟩ := rn1 h
 cases d with
 | int i => cases hm; cases r1; exact call_int1 pins s σ H _ us Q I r (.inl ⟨i, rfl, hc.now (.int _) hs⟩)
 | bl b => cases hm; cases r1; exact call_int1 pins s σ H _ us Q I r (.inr ⟨b, rfl, hc.now (.int _) hs⟩)
 | _ => cases hm
theorem c_max (hc : X.calm = true) : CallR X (.builtin "max") (rN X.K (b2 gMax)) := by
 intro pins s σ H xs us Q I r h
 obtain ⟨x, y, mu, S, d, e, r', S', rfl, r1, r2, hs, hm, hcc⟩ := rn2l h
 unfold gMax at hm
 split at hm
 · cases hm; cases r1; cases r2
   exact call_max2 hc pins s σ H _ us Q I r ⟨_, _, rfl, hcc.now (.int _) hs⟩
 · cases hm
theorem c_min (hc : X.calm = true) : CallR X (.builtin "min") (rN X.K (b2 gMin)) := by
 intro pins s σ H xs us Q I r h
 obtain ⟨x, y, mu, S, d, e, r', S', rfl, r1, r2, hs, hm, hcc⟩ := rn2l h
 unfold gMin at hm
 split at hm
 · cases hm; cases r1; cases r2
   exact call_min2 hc pins s σ H _ us Q I r ⟨_, _, rfl, hcc.now (.int _) hs⟩
 · cases hm
end
end Mi
end
section
namespace Mi
open PySem PySem.Spec PyProof.Rows L2
open PySem.SeqAt
open PySem.AutoSeq1 (wpAny_loadPart')
open PySem.MeetsSeq PySem.MeetsSeq2 PySem.MeetsSeq3
noncomputable def RcLt (A : Around) (s : Shared) (y x : Value) (b : Bool) : Prop := ∀ (prog : Program) (w : World) (E : Value → Shared → Prop) (Q : Value → Shared → Prop), Q (.bool b) s → wpAny (model prog w) A (richCompare .Lt y x) Q E s
inductive LtS (A : Around) (s : Shared) : List Value → List Value → Bool → Prop
 | nn : LtS A s [] [] false
 | nc (y : Value) (ys : List Value) : LtS A s [] (y :: ys) true
 | cn (x : Value) (xs : List Value) : LtS A s (x :: xs) [] false
 | eq {x y : Value} {xs ys : List Value} {k : Bool} (e : EqAt A.in1 s x y true) (t : LtS A s xs ys k) : LtS A s (x :: xs) (y :: ys) k
 | lt {x y : Value} {xs ys : List Value} {k : Bool} (e : EqAt A.in1 s x y false) (t : RcLt A.in1 s x y k) : LtS A s (x :: xs) (y :: ys) k
theorem tup_lt (l b : Addr) (items items2 : Array Value) (n n2 : Nat) (dd dd2 : Option Addr) (sl sl2 : Array (Option Value)) (c : Bool) :
   Meets (Builtin.«tuple.__lt__» ⟨[.ref l, .ref b], []⟩) (fun A R s => s.heap.get? l = some { cls := .type "tuple", dict := dd, data := .seq items n, slots := sl } ∧ s.heap.get? b = some { cls := .type "tuple", dict := dd2, data := .seq items2 n2, slots := sl2 } ∧
       LtS A s items.toList items2.toList c ∧ R (.ok (.ret (.bool c))) s) :=
 .of_wp fun prog w A R s h => by
   obtain ⟨hp, g, d, tk, os⟩ := s; obtain ⟨hl, hb, hs, h⟩ := h; have f2 := AutoSeq1.sub_tuple_tuple
   wp_walk using wpAny_loadPart' hl, wpAny_loadPart' hb, wpAny_forIn_list _ (fun rest b s' => b.1 = none ∧ s' = ⟨hp, g, d, tk, os⟩ ∧ ∃ vs ws : List Value, rest = vs.zip ws ∧ LtS A ⟨hp, g, d, tk, os⟩ vs ws c ∧ vs.length + items2.size = ws.length + items.size) _
   case turn =>
     rintro ⟨y, x⟩ rest b s' ⟨hb', rfl, vs, ws, hz, hL, hlen⟩
     cases hL with
     | nn => cases hz
     | nc _ _ => cases hz
     | cn _ _ => cases hz
     | eq e t =>
       rw [List.zip_cons_cons] at hz; injection hz with hyx hrest; injection hyx with hy hx; subst hy hx
       simp only [List.length_cons] at hlen
       refine wpAny_bind (e prog w _ _ ?_)
       wp_walk
       exact ⟨rfl, rfl, _, _, hrest, t, by omega⟩
     | lt e t =>
       rw [List.zip_cons_cons] at hz; injection hz with hyx hrest; injection hyx with hy hx; subst hy hx
       refine wpAny_bind (e prog w _ _ ?_)
       have t' := t prog w
       wp_walk using t'
       exact ⟨_, rfl, by simpa using h⟩
   case fin =>
     rintro ⟨b1, b2⟩ s' ⟨hb', rfl, vs, ws, hz, hL, hlen⟩
     simp only at hb'; subst hb'
     have hv : c = decide (items.size < items2.size) := by
       cases hL with
       | nn => simp only [List.length_nil] at hlen; exact (decide_eq_false (by omega)).symm
       | nc _ _ => simp only [List.length_nil, List.length_cons] at hlen; exact (decide_eq_true (by omega)).symm
       | cn _ _ => simp only [List.length_nil, List.length_cons] at hlen; exact (decide_eq_false (by omega)).symm
       | eq _ _ => rw [List.zip_cons_cons] at hz; cases hz
       | lt _ _ => rw [List.zip_cons_cons] at hz; cases hz
     rw [hv] at h
     wp_walk
     exact ⟨_, rfl, by simpa [Builtin.Tuple.tupleCompareSizes] using h⟩
   case h => exact ⟨rfl, rfl, items.toList, items2.toList, rfl, hs, by simp; omega⟩
theorem lst_loop (l b : Addr) (items items2 : Array Value) (n n2 : Nat) (dd dd2 : Option Addr) (sl sl2 : Array (Option Value)) (c : Bool) (k : Nat) :
   ∀ i : Nat, items.size - i = k → i ≤ items.size → i ≤ items2.size → Meets (Builtin.«list.__eq__.loop» ⟨[.ref l, .ref b, rawInt i, rawInt 0], []⟩)
     (fun A R s => s.heap.get? l = some { cls := .type "list", dict := dd, data := .seq items n, slots := sl } ∧ s.heap.get? b = some { cls := .type "list", dict := dd2, data := .seq items2 n2, slots := sl2 } ∧
       LtS A s (items.toList.drop i) (items2.toList.drop i) c ∧ R (.ok (.ret (.bool c))) s) := by
 induction k with
 | zero =>
   intro i hk hi1 hi2 prog w A R s h
   obtain ⟨hp, g, d, tk, os⟩ := s; obtain ⟨hl, hb, hL, h⟩ := h
   wp_walk using wpAny_loadPart' hl, wpAny_loadPart' hb
   have e1 : items[((i : Nat) : Int).toNat]? = none := by simp; omega
   have d1 : items.toList.drop i = [] := by simp; omega
   rw [d1] at hL; rw [e1]
   wp_walk using wpAny_loadPart' hl, wpAny_loadPart' hb
   have hv : c = decide (items.size < items2.size) := by
     cases h2 : items2.toList.drop i with
     | nil =>
       rw [h2] at hL; cases hL
       have := congrArg List.length h2; simp at this
       exact (decide_eq_false (by omega)).symm
     | cons y ys =>
       rw [h2] at hL; cases hL
       have := congrArg List.length h2; simp at this
       exact (decide_eq_true (by omega)).symm
   show R (.ok (.ret (.bool (decide (items.size < items2.size))))) _
   rw [← hv]; exact h
 | succ k ih =>
   intro i hk hi1 hi2 prog w A R s h
   obtain ⟨hp, g, d, tk, os⟩ := s; obtain ⟨hl, hb, hL, h⟩ := h
   have hlt : i < items.size := by omega
   have d1 : items.toList.drop i = items[i] :: items.toList.drop (i + 1) := by simp [List.drop_eq_getElem_cons, hlt]
   have e1 : items[((i : Nat) : Int).toNat]? = some items[i] := by simp [hlt]
   have hc : ((i : Int) + 1) = ((i + 1 : Nat) : Int) := by push_cast; rfl
   rw [d1] at hL
   rcases Nat.lt_or_ge i items2.size with hlt2 | hge
   · have d2 : items2.toList.drop i = items2[i] :: items2.toList.drop (i + 1) := by simp [List.drop_eq_getElem_cons, hlt2]
     have e2 : items2[((i : Nat) : Int).toNat]? = some items2[i] := by simp [hlt2]
     rw [d2] at hL
     wp_walk using wpAny_loadPart' hl, wpAny_loadPart' hb
     rw [e1, e2]
     cases hL with
     | eq e t =>
       refine wpAny_bind (e prog w _ _ ?_)
       wp_walk
       rw [hc]
       exact ⟨plainId_quiet plain_eq_loop _, codeAny_builtin entry_eq_loop (by rw [Around.under_plainId plain_eq_loop _]; exact ih (i + 1) (by omega) (by omega) (by omega) prog w A R _ ⟨hl, hb, t, h⟩)⟩
     | lt e t =>
       refine wpAny_bind (e prog w _ _ ?_)
       have t' := t prog w
       wp_walk using wpAny_loadPart' hl, wpAny_loadPart' hb
       rw [e1, e2]
       wp_walk using t'
       simpa using h
   · have e2 : items2[((i : Nat) : Int).toNat]? = none := by simp; omega
     have d2 : items2.toList.drop i = [] := by simp; omega
     rw [d2] at hL; cases hL
     wp_walk using wpAny_loadPart' hl, wpAny_loadPart' hb
     rw [e1, e2]
     wp_walk using wpAny_loadPart' hl, wpAny_loadPart' hb
     show R (.ok (.ret (.bool (decide (items.size < items2.size))))) _
     rw [decide_eq_false (by omega)]; exact h
theorem lst_lt (l b : Addr) (items items2 : Array Value) (n n2 : Nat) (dd dd2 : Option Addr) (sl sl2 : Array (Option Value)) (c : Bool) :
   Meets (Builtin.«list.__lt__» ⟨[.ref l, .ref b], []⟩) (fun A R s => s.heap.get? l = some { cls := .type "list", dict := dd, data := .seq items n, slots := sl } ∧ s.heap.get? b = some { cls := .type "list", dict := dd2, data := .seq items2 n2, slots := sl2 } ∧
       LtS A s items.toList items2.toList c ∧ R (.ok (.ret (.bool c))) s) := by
 intro prog w A R s h
 obtain ⟨hp, g, d, tk, os⟩ := s; obtain ⟨hl, hb, hL, h⟩ := h; have f3 := AutoSeq1.sub_list_list
 wp_walk using wpAny_loadPart' hl, wpAny_loadPart' hb
 exact ⟨plainId_quiet plain_eq_loop _, codeAny_builtin entry_eq_loop (by rw [Around.under_plainId plain_eq_loop _]; exact lst_loop l b items items2 n n2 dd dd2 sl sl2 c _ 0 rfl (Nat.zero_le _) (Nat.zero_le _) prog w A R _ ⟨hl, hb, by simpa using hL, h⟩)⟩
theorem seq_lt {A : Around} {s : Shared} {k : Bool} {l b : Addr} {xs ys : Array Value} {c : Bool} (c1 : SCo k s.heap l xs) (c2 : SCo k s.heap b ys) (hu : A.units < cLine) (h : LtS A s xs.toList ys.toList c) : RcLt A s (.ref l) (.ref b) c := fun prog w E Q q => by
 cases k
 · obtain ⟨⟨cls, dd, data, sl⟩, ho, hc, n, hd⟩ := id c1
   obtain ⟨⟨cls2, dd2, data2, sl2⟩, ho2, hc2, n2, hd2⟩ := id c2
   simp only at hc hd hc2 hd2; subst hc hd hc2 hd2
   exact richCompare_meets_room (op := .Lt) ⟨_, ho, rfl⟩ ⟨_, ho2, rfl⟩ PySem.F.slot_tuple_lt PySem.F.entry_tuple_lt (PySem.F.args_tuple_lt_2 _ _) (tup_lt l b xs ys n n2 dd dd2 sl sl2 c) ⟨ho, ho2, h, show Value.bool c ≠ Value.notImplemented ∧ Q (.bool c) s from ⟨(fun x => nomatch x), q⟩⟩ hu
 · obtain ⟨⟨cls, dd, data, sl⟩, ho, hc, n, hd⟩ := id c1
   obtain ⟨⟨cls2, dd2, data2, sl2⟩, ho2, hc2, n2, hd2⟩ := id c2
   simp only at hc hd hc2 hd2; subst hc hd hc2 hd2
   exact richCompare_meets_room (op := .Lt) ⟨_, ho, rfl⟩ ⟨_, ho2, rfl⟩ PySem.F.slot_list_lt PySem.F.entry_list_lt (PySem.F.args_list_lt_2 _ _) (lst_lt l b xs ys n n2 dd dd2 sl sl2 c) ⟨ho, ho2, h, show Value.bool c ≠ Value.notImplemented ∧ Q (.bool c) s from ⟨(fun x => nomatch x), q⟩⟩ hu
noncomputable def ltL (f g : D → D → Option Bool) : List D → List D → Option Bool
 | [], [] => some false
 | [], _ :: _ => some true
 | _ :: _, [] => some false
 | x :: xs, y :: ys => (f x y).bind fun b => if b = true then ltL f g xs ys else g x y
noncomputable def ltF : D → D → Option Bool
 | .int i, .int j => some (decide (i < j))
 | .str x, .str y => some (decide (x.cps.toList < y.cps.toList))
 | _, _ => none
noncomputable def ltN (S : Sto) : Nat → D → D → Option Bool
 | 0, _, _ => none
 | n + 1, d, e => match ltF d e with
   | some b => some b
   | none => match seqOf S d, seqOf S e with
     | some p, some q => if p.1 = q.1 then ltL (eqN S n) (ltN S n) p.2 q.2 else none
     | _, _ => none
noncomputable def gLt : G2 := fun d e S => (ltN S deepMost d e).map fun b => (.bl b, S)
section
variable {X : Cx} {pins : List (Addr × Obj)} {σ : L2.St} {H : Hp} {s : Shared} {mu : List Addr} {S : Sto}
theorem ltL_at (I : Inv X pins σ H s) (hs : Sim X.K H mu S) {n : Nat} {A : Around} (hu : A.units + 1 + n < cLine) (ih : ∀ {d e : D} {v w : V} {u z : Value} {b : Bool}, Rep X.K H mu d v → Rep X.K H mu e w → RelV v u → RelV w z → ltN S n d e = some b → RcLt A.in1 s u z b) :
   ∀ {xs ys : List D} {vs ws : List V} {us zs : List Value} {b : Bool}, Reps X.K H mu xs vs → Reps X.K H mu ys ws → Vals vs us → Vals ws zs → ltL (eqN S n) (ltN S n) xs ys = some b → LtS A s us zs b
 := by
 intro xs
 induction xs with
 | nil =>
   intro ys vs ws us zs b r1 r2 v1 v2 h
   cases r1; cases v1
   cases r2 with
   | nil => cases v2; cases h; exact .nn
   | cons _ _ => cases v2; cases h; exact .nc _ _
 | cons x xs jh =>
   intro ys vs ws us zs b r1 r2 v1 v2 h
   cases r1 with
   | cons r1 t1 =>
     cases v1 with
     | cons q1 p1 =>
       cases r2 with
       | nil => cases v2; cases h; exact .cn _ _
       | cons r2 t2 =>
         cases v2 with
         | cons q2 p2 =>
           rw [ltL] at h
           obtain ⟨k, e1, h⟩ := Option.bind_eq_some_iff.mp h
           have eq := (eqN_at I hs n (A := A.in1) hu r1 r2 q1 q2 e1).1
           cases k with
           | true => exact .eq eq (jh t1 t2 p1 p2 h)
           | false => exact .lt eq (ih r1 r2 q1 q2 h)
theorem ltN_at (I : Inv X pins σ H s) (hs : Sim X.K H mu S) : ∀ (n : Nat) {A : Around} {d e : D} {v w : V} {u z : Value} {b : Bool}, A.units + n < cLine → Rep X.K H mu d v → Rep X.K H mu e w → RelV v u → RelV w z → ltN S n d e = some b → RcLt A s u z b
 | 0, _, _, _, _, _, _, _, _, _, _, _, _, _, h => by cases h
 | n + 1, A, d, e, v, w, u, z, b, hu, rd, re, ru, rz, h => by
   rw [ltN] at h
   split at h
   · rename_i k hk
     cases h
     unfold ltF at hk
     split at hk
     · cases hk; cases rd; cases re
       obtain ⟨t, rfl⟩ := ru; obtain ⟨t', rfl⟩ := rz
       exact fun prog w E Q q => (PyProof.Rows.lt_int q : wpAny (model prog w) A (compareOp .Lt (.int _ t) (.int _ t')) Q E s)
     · cases hk; cases rd; cases re
       obtain ⟨t, rfl⟩ := ru; obtain ⟨t', rfl⟩ := rz
       exact fun prog w E Q q => (PyProof.Rows.lt_str q : wpAny (model prog w) A (compareOp .Lt (.str _ t) (.str _ t')) Q E s)
     · cases hk
   · split at h
     · rename_i p q hd he
       split at h
       · rename_i hb
         obtain ⟨pb, xs⟩ := p
         obtain ⟨qb, ys⟩ := q
         have hb' : pb = qb := hb
         subst hb'
         obtain ⟨a, vs, rfl, q1, t1⟩ := seqOf_at rd hs hd
         obtain ⟨a2, vs2, rfl, q2, t2⟩ := seqOf_at re hs he
         cases ru; cases rz
         obtain ⟨its, rv, co, _⟩ := sqb_at I q1
         obtain ⟨its2, rv2, co2, _⟩ := sqb_at I q2
         refine seq_lt co co2 (by omega) ?_
         have := ltL_at I hs (A := A) (n := n) (by omega) (fun r1 r2 r3 r4 h => ltN_at I hs n (A := A.in1) (by show A.units + 1 + n < cLine; omega) r1 r2 r3 r4 h) t1 t2 rv rv2 h
         simpa using this
       · cases h
     · cases h
theorem o_ltN (hu : X.A.units + 64 < cLine) : OpR X (compareOp .Lt) (r2 X.K (b2 gLt)) := by
 intro pins s σ H x y u w Q I rx ry h
 obtain ⟨mu, S, d, e, r, S', r1, r2, hs, hm, hc⟩ := rn2 h
 obtain ⟨b, e1, hm⟩ := Option.map_eq_some_iff.mp hm
 cases hm
 exact ltN_at I hs deepMost (by show _ + 60 < cLine; omega) r1 r2 rx ry e1 X.prog X.w X.xe _ ⟨.bl b, H, I, rfl, hc.now (.bl b) hs⟩
end
end Mi
end
section
namespace Mi
open PySem PySem.Spec PyProof.Rows L2
inductive Ty where
 | int | bool | str | tuple | list | dict
 deriving DecidableEq
noncomputable def Ty.nm : Ty → String
 | .int => "int" | .bool => "bool" | .str => "str" | .tuple => "tuple" | .list => "list" | .dict => "dict"
noncomputable def isTy (S : Sto) (T : Ty) : D → Option Bool
 | .non => some false
 | .bl _ => some (decide (T = .bool) || decide (T = .int))
 | .int _ => some (decide (T = .int))
 | .str _ => some (decide (T = .str))
 | .tup _ => some (decide (T = .tuple))
 | .rol _ => some (decide (T = .list))
 | .ref n => match S[n]? with
   | some (.lst _) => some (decide (T = .list))
   | some (.dct _) => some (decide (T = .dict))
   | some (.dcT _) => some (decide (T = .dict))
   | _ => none
section
variable {X : Cx} {pins : List (Addr × Obj)} {σ : L2.St} {H : Hp} {s : Shared} {mu : List Addr} {S : Sto} {K : PySem.W.Frag}
end
noncomputable abbrev FO := Ev → Sto → Option (Option Int × Sto)
noncomputable def oSome (m : FE) : FO := fun r S => (m r S).bind fun p => match p.1 with
 | .int i => some (some i, p.2)
 | _ => none
section
variable {X : Cx}
end
section
variable {X : Cx}
noncomputable def tRng1 (ta : TA) : TE := fun σ H Q => ta σ H fun vs H1 => ∃ j : Int, vs = [.int j] ∧ ∀ p, H1 p = none → Q (.ref p) (upd H1 p (.rng 0 j))
noncomputable def tRng2 (ta : TA) : TE := fun σ H Q => ta σ H fun vs H1 => ∃ i j : Int, vs = [.int i, .int j] ∧ ∀ p, H1 p = none → Q (.ref p) (upd H1 p (.rng i j))
theorem pe_range1 {a : Expr} {ta : TA} {p pos : Pos} (hg : Gl X "range") (hm : X.mg "range" = none) (ha : PA X [a] ta) (hs : starEach [a] X.env = [(false, eval a X.env)] := by rfl) : PE X (.Call (.Name "range" p) [a] [] pos) (tRng1 ta) := by
 intro pins s σ H Q I h
 refine Call_ (ld_blt I hg hm boot_range (PyProof.Rows.callWith_type1 (thn (ha pos pins s σ H _ I h) fun us s1 ⟨vs, H1, I1, r1, q1⟩ => ?_) hs rfl))
 obtain ⟨j, e, q⟩ := q1
 subst e
 cases r1 with
 | cons r rr =>
   cases rr
   obtain ⟨t, rfl⟩ := r
   refine call_range_1 ⟨.ref s1.heap.objs.size, _, I1.laid (fun b o e => Heap.get?_push_of_some _ e) (Nat.le_refl _) (o := .rng 0 j) ?_, rfl, q _ (I1.hok.fresh (Nat.le_refl _))⟩
   exact ⟨_, _, _, Heap.get?_push_size _ rfl⟩
theorem pe_range2 {a b : Expr} {ta : TA} {p pos : Pos} (hg : Gl X "range") (hm : X.mg "range" = none) (ha : PA X [a, b] ta) (hs : starEach [a, b] X.env = [(false, eval a X.env), (false, eval b X.env)] := by rfl) (hs2 : starEach [b] X.env = [(false, eval b X.env)] := by rfl) :
   PE X (.Call (.Name "range" p) [a, b] [] pos) (tRng2 ta) := by
 intro pins s σ H Q I h
 refine Call_ (ld_blt I hg hm boot_range (PyProof.Rows.callWith_type1 (thn (ha pos pins s σ H _ I h) fun us s1 ⟨vs, H1, I1, r1, q1⟩ => ?_) (by rw [hs, hs2]) (by rw [hs2]; rfl)))
 obtain ⟨i, j, e, q⟩ := q1
 subst e
 cases r1 with
 | cons r rr =>
   cases rr with
   | cons r' rr =>
     cases rr
     obtain ⟨t, rfl⟩ := r
     obtain ⟨t', rfl⟩ := r'
     refine call_range_2 ⟨.ref s1.heap.objs.size, _, I1.laid (fun b o e => Heap.get?_push_of_some _ e) (Nat.le_refl _) (o := .rng i j) ?_, rfl, q _ (I1.hok.fresh (Nat.le_refl _))⟩
     exact ⟨_, _, _, Heap.get?_push_size _ rfl⟩
noncomputable def rngV (i : Int) : Nat → List V
 | 0 => []
 | n + 1 => .int i :: rngV (i + 1) n
theorem rngV_len : ∀ (n : Nat) (i : Int), (rngV i n).length = n
 | 0, _ => rfl
 | n + 1, i => by rw [rngV, List.length_cons, rngV_len n]
theorem rngV_get : ∀ (n : Nat) (i : Int) (k : Nat) (v : V), (rngV i n)[k]? = some v → v = .int (i + k)
 | 0, i, k, v, h => by simp [rngV] at h
 | n + 1, i, 0, v, h => by simp [rngV] at h; rw [← h]; simp
 | n + 1, i, k + 1, v, h => by
   rw [rngV, List.getElem?_cons_succ] at h
   rw [rngV_get n (i + 1) k v h, show i + 1 + (k : Int) = i + ((k + 1 : Nat) : Int) by push_cast; omega]
theorem rngV_rep {K : PySem.W.Frag} {H : Hp} {mu : List Addr} : ∀ (n : Nat) (i : Int), Reps K H mu (nums i n) (rngV i n)
 | 0, _ => .nil
 | n + 1, i => .cons (.int i) (rngV_rep n (i + 1))
theorem vals_of : ∀ {xs : List V} {us : List Value}, xs.length = us.length → (∀ (i : Nat) x u, xs[i]? = some x → us[i]? = some u → RelV x u) → Vals xs us
 | [], [], _, _ => .nil
 | x :: xs, u :: us, h, f => .cons (f 0 x u rfl rfl) (vals_of (by simpa using h) fun i y w h1 h2 => f (i + 1) y w (by simpa using h1) (by simpa using h2))
 | [], _ :: _, h, _ => by simp at h
 | _ :: _, [], h, _ => by simp at h
theorem c_listR (hc : X.calm = true) : CallR X (.type "list") (fun xs H Q => ∃ p i j, xs = [.ref p] ∧ H p = some (.rng i j) ∧ (-(2 ^ 62) ≤ i ∧ i < 2 ^ 62 ∧ -(2 ^ 62) ≤ j ∧ j < 2 ^ 62) ∧ (j - i).toNat ≤ 2 ^ 20 ∧ ∀ l, H l = none → Q (.ref l) (upd H l (.lst (rngV i (j - i).toNat)))) := by
 intro pins s σ H xs us Q I r h
 obtain ⟨p, i, j, rfl, hp, ⟨h1, h2, h3, h4⟩, hl, q⟩ := h
 obtain ⟨u, rfl, ru⟩ := vals1 r
 cases ru
 obtain ⟨t, u, v, e⟩ := I.hok p _ hp
 have hz : (((j - i).toNat : Nat) : Int) = Builtin.Range.rangeSize i j 1 := by rw [rangeSize_one]; split <;> omega
 refine call_list_range (n := (j - i).toNat) (I.ok.hd hc) e (small_one h1 h2 h3 h4) hz.symm (Nat.le_trans hl (by decide)) fun h' tk acc c' hk hS hi => ?_
 obtain ⟨hsz, hval⟩ := hi
 have vals : Vals (rngV i (j - i).toNat) acc.toList := vals_of (by rw [rngV_len]; simpa using hsz.symm) fun k x u hx hu => by
   rw [rngV_get _ _ _ _ hx]
   obtain ⟨t', rfl⟩ := hval k u (by simpa using hu)
   exact ⟨t', by rw [Int.mul_one]⟩
 refine ⟨.ref s.heap.objs.size, _, I.laid (t' := tk) hk (Nat.le_refl _) (show ObjOk X.prog X.w _ h' _ (.lst (rngV i (j - i).toNat)) from ⟨?_, acc.toList, c', vals, by simpa using hS⟩), rfl, q _ (I.hok.fresh (Nat.le_refl _))⟩
 rw [rngV_len]
 exact Nat.le_trans hl (by decide)
noncomputable def rngOk (i j : Int) : Bool := decide (-(2 ^ 62) ≤ i) && decide (i < 2 ^ 62) && decide (-(2 ^ 62) ≤ j) && decide (j < 2 ^ 62) && decide ((j - i).toNat ≤ 2 ^ 20)
noncomputable def mLR1 (m : FA) : FE := fun r S => (m r S).bind fun p => match p.1 with
 | [.int j] => if rngOk 0 j = true then some (.ref p.2.length, p.2 ++ [.lst (nums 0 j.toNat)]) else none
 | _ => none
noncomputable def mLR2 (m : FA) : FE := fun r S => (m r S).bind fun p => match p.1 with
 | [.int i, .int j] => if rngOk i j = true then some (.ref p.2.length, p.2 ++ [.lst (nums i (j - i).toNat)]) else none
 | _ => none
theorem rngOk_at {i j : Int} (h : rngOk i j = true) : (-(2 ^ 62) ≤ i ∧ i < 2 ^ 62 ∧ -(2 ^ 62) ≤ j ∧ j < 2 ^ 62) ∧ (j - i).toNat ≤ 2 ^ 20 := by
 unfold rngOk at h
 simp only [Bool.and_eq_true, decide_eq_true_eq] at h
 obtain ⟨⟨⟨⟨h1, h2⟩, h3⟩, h4⟩, h5⟩ := h
 exact ⟨⟨h1, h2, h3, h4⟩, h5⟩
theorem lr_end {K : PySem.W.Frag} {mu : List Addr} {H H1 : Hp} {S1 : Sto} {i j : Int} {Q : VK} {mu1 : List Addr} (x1 : Ext mu mu1 H H1) (s1 : Sim K H1 mu1 S1) (hc : Cont K mu H (.ref S1.length) (S1 ++ [.lst (nums i (j - i).toNat)]) Q) {p l : Addr} (hp : H1 p = none) (hl : upd H1 p (.rng i j) l = none) :
   Q (.ref l) (upd (upd H1 p (.rng i j)) l (.lst (rngV i (j - i).toNat))) :=
 hc _ _ (mu1 ++ [l]) ((x1.trans (Ext.fresh hp)).trans (Ext.new_ hl)) (.ref (new_at s1.len l)) ((s1.fresh hp).newL (rngV_rep _ _) hl)
theorem me_listR1 {a : Expr} {m : FA} {p1 p2 pos1 pos2 : Pos} (hc : X.calm = true) (hg : Gl X "range") (hm : X.mg "range" = none) (hg2 : Gl X "list") (hm2 : X.mg "list" = none) (ha : MA X [a] m) (hs : starEach [a] X.env = [(false, eval a X.env)] := by rfl)
   (hs2 : starEach [.Call (.Name "range" p1) [a] [] pos1] X.env = [(false, eval (.Call (.Name "range" p1) [a] [] pos1) X.env)] := by rfl) : ME X (.Call (.Name "list" p2) [.Call (.Name "range" p1) [a] [] pos1] [] pos2) (mLR1 m) :=
 pe_imp (pe_callTy (c_listR hc) hg2 hm2 (by decide +kernel) (pa_cons (pe_range1 hg hm ha hs) pa_nil hs2) (by decide) (by decide) hs2) <| by
   rintro σ H Q ⟨r, mu, S, d, S', he, hs, hm, hcc⟩
   obtain ⟨⟨ds, S1⟩, e1, hm⟩ := Option.bind_eq_some_iff.mp hm
   dsimp only at hm
   split at hm
   · rename_i j
     split at hm
     · rename_i hb
       cases hm
       refine ⟨r, mu, S, _, _, he, hs, e1, fun vs H1 mu1 x1 r1 s1 => ?_⟩
       obtain ⟨v, rfl, rv⟩ := reps_one r1
       cases rv
       refine ⟨j, rfl, fun p hp => ⟨p, 0, j, rfl, upd_same, (rngOk_at hb).1, (rngOk_at hb).2, fun l hl => lr_end x1 s1 (by rw [Int.sub_zero]; exact hcc) hp hl⟩⟩
     · cases hm
   · cases hm
theorem me_listR2 {a b : Expr} {m : FA} {p1 p2 pos1 pos2 : Pos} (hc : X.calm = true) (hg : Gl X "range") (hm : X.mg "range" = none) (hg2 : Gl X "list") (hm2 : X.mg "list" = none) (ha : MA X [a, b] m) (hs : starEach [a, b] X.env = [(false, eval a X.env), (false, eval b X.env)] := by rfl) (hs3 : starEach [b] X.env = [(false, eval b X.env)] := by rfl)
   (hs2 : starEach [.Call (.Name "range" p1) [a, b] [] pos1] X.env = [(false, eval (.Call (.Name "range" p1) [a, b] [] pos1) X.env)] := by rfl) : ME X (.Call (.Name "list" p2) [.Call (.Name "range" p1) [a, b] [] pos1] [] pos2) (mLR2 m) :=
 pe_imp (pe_callTy (c_listR hc) hg2 hm2 (by decide +kernel) (pa_cons (pe_range2 hg hm ha hs hs3) pa_nil hs2) (by decide) (by decide) hs2) <| by
   rintro σ H Q ⟨r, mu, S, d, S', he, hs, hm, hcc⟩
   obtain ⟨⟨ds, S1⟩, e1, hm⟩ := Option.bind_eq_some_iff.mp hm
   dsimp only at hm
   split at hm
   · rename_i i j
     split at hm
     · rename_i hb
       cases hm
       refine ⟨r, mu, S, _, _, he, hs, e1, fun vs H1 mu1 x1 r1 s1 => ?_⟩
       obtain ⟨v, u, rfl, rv, ru⟩ := reps_two r1
       cases rv; cases ru
       refine ⟨i, j, rfl, fun p hp => ⟨p, i, j, rfl, upd_same, (rngOk_at hb).1, (rngOk_at hb).2, fun l hl => lr_end x1 s1 hcc hp hl⟩⟩
     · cases hm
   · cases hm
end
noncomputable def gApp : G2 := fun o v S => match o with
 | .ref n => match S[n]? with
   | some (.lst xs) => if xs.length < sizeLine then some (.non, S.set n (.lst (xs ++ [v]))) else none
   | _ => none
 | _ => none
noncomputable def mMt (f : FN) (o : FE) (a : FA) : FE := fun r S => (o r S).bind fun p => match p.1 with
 | .ref n => match p.2[n]? with
   | some (.lst _) => (a r p.2).bind fun q => f (p.1 :: q.1) q.2
   | _ => none
 | _ => none
section
variable {X : Cx}
theorem t_app : MtR X "list.append" (fun x xs H Q => rN X.K (b2 gApp) (x :: xs) H Q) := by
 intro pins s σ H x xs v us Q I rx rv h
 obtain ⟨x', y, mu, S, d, e, r', S', e0, r1, r2, hs, hm, hc⟩ := rn2l h
 cases e0
 cases d with
 | ref n =>
   rw [gApp] at hm
   split at hm
   · rename_i ys en
     split at hm
     · rename_i hl
       cases hm
       cases r1 with
       | ref qn =>
         obtain ⟨vs, ev, t⟩ := hs.lst en qn
         refine mt_append pins s σ H _ [y] v us Q I rx rv ⟨_, vs, y, rfl, rfl, ev, by rw [← t.length]; exact hl, ?_⟩
         exact hc _ _ mu (Ext.put ev trivial (List.mem_of_getElem? qn)) .non (hs.putL (t.append (.cons r2 .nil)) qn ev)
     · cases hm
   · cases hm
 | _ => cases hm
theorem me_lmeth {o e : Expr} {es : List Expr} {m : FE} {a : FA} {f : FN} {name : Str} {apos cpos : Pos} {id : String} (slot : Slot "list" name id) (hty : typeOf (.builtin id) = pure (.type "method_descriptor")) (hm : MtR X id (fun x xs H Q => rN X.K f (x :: xs) H Q)) (ho : ME X o m) (ha : MA X (e :: es) a)
   (hbase : attributeBase o name X.env (eval o X.env) = eval o X.env := by rfl)
   (hfew : ((backTo cpos (starEach (e :: es) X.env)).all (fun x => !x.1) && (backToKw cpos (keywordEach [] X.env)).all (fun x => x.1.isSome) && decide ((e :: es).length + ([] : List Keyword).length + (if ([] : List Keyword).isEmpty then 0 else 1) < 30)) = true := by rfl)
   (hline : (apos.endLine == cpos.line) = true := by rfl) (hs : starEach (e :: es) X.env = (false, eval e X.env) :: starEach es X.env := by rfl) (hplain : (backTo cpos (starEach es X.env)).any (·.1) = false := by rfl) :
   ME X (.Call (.Attribute o name apos) (e :: es) [] cpos) (mMt f m a) :=
 pe_imp (pe_bm PySem.F.plainAttrs_list slot hty hm ho ha hbase hfew hline hs hplain) <| by
   rintro σ H Q ⟨r, mu, S, d, S', he, hs, hm, hc⟩
   obtain ⟨⟨d1, S1⟩, e1, hm⟩ := Option.bind_eq_some_iff.mp hm
   refine ⟨r, mu, S, d1, S1, he, hs, e1, fun v H1 mu1 x1 r1 s1 => ?_⟩
   cases d1 with
   | ref n =>
     dsimp only at hm
     split at hm
     · rename_i xs en
       obtain ⟨⟨ds, S2⟩, e2, hm⟩ := Option.bind_eq_some_iff.mp hm
       refine ⟨?_, r, mu1, S1, ds, S2, he.ext x1, s1, e2, fun vs H2 mu2 x2 r2 s2 => ?_⟩
       · cases r1 with
         | ref qn =>
           obtain ⟨vs, ev, t⟩ := s1.lst en qn
           exact .inl ⟨rfl, vs, SqL.of ev⟩
       · exact ⟨mu2, S2, .ref n :: ds, d, S', .cons (r1.ext x2) r2, s2, hm, fun v3 H3 mu3 x3 => hc v3 H3 mu3 ((x1.trans x2).trans x3)⟩
     · cases hm
   | _ => cases hm
end
end Mi
end
section
namespace Mi
open PySem PySem.Spec PyProof.Rows L2
section
variable {X : Cx}
theorem mv (i : Nat) {x : Str} {pos : Pos} (hN : X.N[i]? = some x := by rfl) (hv : Vis X.env.scope x := by first | exact Or.inl rfl | exact Or.inr (Or.inl rfl) | exact Or.inr (Or.inr rfl)) (hd : (x == ("__debug__" : Str)) = false := by decide) (hcd : (x == ("__classdict__" : Str)) = false := by decide) :
   ME X (.Name x pos) (mV i) := me_var i hN hv hd hcd
end
noncomputable def Own (P : Program) (w : World) (K : PySem.W.Frag) (mg : Str → Option Value) (base : Heap) (k : Nat) (x : Str) (n : Nat) (m : FN) : Prop :=
 ∃ (f : Addr) (fd : FuncData) (ps : List Str), FnOk P w K mg base CX0 k f fd ps (spM K n m) ∧ Binds K fd ps [] ∧ PySem.W.keepIn K (.ref f) = true ∧ mg x = some (.ref f)
theorem me_own {X : Cx} {k k' n : Nat} {x : Str} {m : FN} {p pos : Pos} {e : Expr} {es : List Expr} {a : FA} (h : Own X.prog X.w X.K X.mg X.base k x n m) (hr : Room k' X.A) (hk : k ≤ k') (hg : Gl X x) (ha : MA X (e :: es) a) (hdb : (x == ("__debug__" : Str)) = false := by decide)
   (he : starEach (e :: es) X.env = (false, eval e X.env) :: starEach es X.env := by rfl) (hpl : (backTo pos (starEach es X.env)).any (·.1) = false := by rfl) : ME X (.Call (.Name x p) (e :: es) [] pos) (mN (mCall n m) a) := by
 obtain ⟨f, fd, ps, F, b, kp, hm⟩ := h
 exact me_call F (hr.mono hk) hg hm kp b ha hdb he hpl
theorem own_mk {P : Program} {w : World} {K : PySem.W.Frag} {mg : Str → Option Value} {base : Heap} {x qual : Str} {st : Stmt} {f : Addr} {fd : FuncData} {N ps : List Str} {k n : Nat} {b : FS} (F : Fun K x qual st f fd) (hb : Binds K fd ps []) (hm : mg x = some (.ref f)) (S : FnScope N ps (defScope st)) (hn : ps.length = n)
   (hbody : ∀ (cdv : Value) (A : Around) (outer : List Env) (s : Shared) (H : Hp) (E : XK), Room k (A.deeper (envOfC qual (defScope st) s.heap.objs.size f cdv)) →
     MSs (cxOf CX0 P w K mg base N qual (defScope st) f cdv A outer s H E).nox (defBody st) b) : Own P w K mg base (k + 1) x n (fnB N.length b) := by
 subst hn
 exact ⟨f, fd, ps, fn_m F S hbody, hb, F.kp, hm⟩
end Mi
end
section
namespace Mi
open PySem PySem.Spec PyProof.Rows L2
theorem qT (es k pos rest env) : starEach (.Tuple es k pos :: rest) env = (false, eval (.Tuple es k pos) env) :: starEach rest env := rfl
theorem qM (x pos rest env) : starEach (.Name x pos :: rest) env = (false, eval (.Name x pos) env) :: starEach rest env := rfl
theorem qC (c k pos rest env) : starEach (.Constant c k pos :: rest) env = (false, eval (.Constant c k pos) env) :: starEach rest env := rfl
theorem qL (f a k pos rest env) : starEach (.Call f a k pos :: rest) env = (false, eval (.Call f a k pos) env) :: starEach rest env := rfl
theorem qB (a o b pos rest env) : starEach (.BinOp a o b pos :: rest) env = (false, eval (.BinOp a o b pos) env) :: starEach rest env := rfl
theorem st_Compare (a o b pos rest env) : starEach (.Compare a o b pos :: rest) env = (false, eval (.Compare a o b pos) env) :: starEach rest env := rfl
theorem st_IfExp (a o b pos rest env) : starEach (.IfExp a o b pos :: rest) env = (false, eval (.IfExp a o b pos) env) :: starEach rest env := rfl
theorem qS (a o pos rest env) : starEach (.Subscript a o pos :: rest) env = (false, eval (.Subscript a o pos) env) :: starEach rest env := rfl
theorem st_ListComp (a o b pos rest env) : starEach (.ListComp a o b pos :: rest) env = (false, eval (.ListComp a o b pos) env) :: starEach rest env := rfl
theorem st_BoolOp (a o pos rest env) : starEach (.BoolOp a o pos :: rest) env = (false, eval (.BoolOp a o pos) env) :: starEach rest env := rfl
end Mi
end
section
namespace Mi
open PySem PySem.Spec PyProof.Rows L2
noncomputable def maskE : List Bool → Ev → Ev
 | true :: bs, o :: r => o :: maskE bs r
 | false :: bs, _ :: r => none :: maskE bs r
 | [], _ :: r => none :: maskE [] r
 | _, [] => []
noncomputable def shutE : Ev → Bool
 | [] => true
 | none :: r => shutE r
 | some d :: r => d.und 0 && shutE r
noncomputable def mPure (ki ko : List Bool) (b : FS) : FS := fun r S => if shutE (maskE ki r) = true then
   (b (maskE ki r) []).bind fun p => match p.1 with
     | .rt d => if d.und 0 = true then some (.rt d, [], S) else none
     | f => if shutE (maskE ko p.2.1) = true then some (f, maskE ko p.2.1, S) else none
 else none
theorem maskE_len : ∀ (bs : List Bool) (r : Ev), (maskE bs r).length = r.length
 | true :: bs, o :: r => congrArg (· + 1) (maskE_len bs r)
 | false :: bs, o :: r => congrArg (· + 1) (maskE_len bs r)
 | [], o :: r => congrArg (· + 1) (maskE_len [] r)
 | [], [] => rfl
 | true :: _, [] => rfl
 | false :: _, [] => rfl
theorem maskE_get : ∀ (bs : List Bool) (r : Ev) (i : Nat) (d : D), (maskE bs r)[i]? = some (some d) → r[i]? = some (some d)
 | true :: bs, o :: r, 0, d, h => h
 | true :: bs, o :: r, i + 1, d, h => by
   rw [List.getElem?_cons_succ]; exact maskE_get bs r i d (by rw [maskE, List.getElem?_cons_succ] at h; exact h)
 | false :: bs, o :: r, 0, d, h => by simp [maskE] at h
 | false :: bs, o :: r, i + 1, d, h => by
   rw [List.getElem?_cons_succ]; exact maskE_get bs r i d (by rw [maskE, List.getElem?_cons_succ] at h; exact h)
 | [], o :: r, 0, d, h => by simp [maskE] at h
 | [], o :: r, i + 1, d, h => by
   rw [List.getElem?_cons_succ]; exact maskE_get [] r i d (by rw [maskE, List.getElem?_cons_succ] at h; exact h)
 | [], [], i, d, h => by simp [maskE] at h
 | true :: _, [], i, d, h => by simp [maskE] at h
 | false :: _, [], i, d, h => by simp [maskE] at h
theorem shutE_get : ∀ (r : Ev) (i : Nat) (d : D), shutE r = true → r[i]? = some (some d) → d.und 0 = true
 | none :: r, 0, d, _, h => by simp at h
 | none :: r, i + 1, d, hs, h => shutE_get r i d hs (by simpa using h)
 | some e :: r, 0, d, hs, h => by
   rw [shutE, Bool.and_eq_true] at hs
   simp at h; subst h; exact hs.1
 | some e :: r, i + 1, d, hs, h => by
   rw [shutE, Bool.and_eq_true] at hs
   exact shutE_get r i d hs.2 (by simpa using h)
theorem EnvR.mask {K : PySem.W.Frag} {H : Hp} {mu mu' : List Addr} {r : Ev} {σ : L2.St} {bs : List Bool} (h : EnvR K H mu r σ) (hs : shutE (maskE bs r) = true) : EnvR K H mu' (maskE bs r) σ :=
 ⟨by rw [maskE_len]; exact h.len, fun i d e => by
   obtain ⟨v, e1, r1⟩ := h.val i d (maskE_get bs r i d e)
   exact ⟨v, e1, r1.cut (n := 0) (fun k hk => absurd hk (Nat.not_lt_zero _)) (shutE_get _ i d hs e)⟩⟩
theorem mPure_ok {K : PySem.W.Frag} {ki ko : List Bool} {b : FS} {E : Ends} {σ : L2.St} {H : Hp} (h : tMS K (mPure ki ko b) E σ H) : tMS K b E σ H := by
 obtain ⟨r, mu, S, f, r', S', he, hs, hm, hc⟩ := h
 unfold mPure at hm
 split at hm
 · rename_i hb
   obtain ⟨⟨f1, r1, S1⟩, e1, hm⟩ := Option.bind_eq_some_iff.mp hm
   refine ⟨maskE ki r, [], [], f1, r1, S1, he.mask hb, .nil, e1, ?_⟩
   have back : ∀ {H' : Hp} {mu' : List Addr}, Ext [] mu' H H' → Ext mu mu H H' := fun {H' mu'} x => ⟨List.prefix_rfl, fun a o e _ => x.old a o e (by simp), x.tup, x.frz, fun _ z => .inl z⟩
   have keep : ∀ {H' : Hp} {mu' : List Addr}, Ext [] mu' H H' → Sim K H' mu S := fun {H' mu'} x => ⟨hs.len, hs.nd, fun n o a h1 h2 => (hs.ob n o a h1 h2).keep (back x) fun o e => x.old a o e (by simp)⟩
   cases f1 with
   | rt d =>
     dsimp only at hm
     split at hm
     · rename_i hd
       cases hm
       exact fun v H' mu' x r s => hc v H' mu (back x) (r.cut (n := 0) (fun k hk => absurd hk (Nat.not_lt_zero _)) hd) (keep x)
     · cases hm
   | nx =>
     dsimp only at hm
     split at hm
     · rename_i hd
       cases hm
       exact fun σ' H' mu' x r s => hc σ' H' mu (back x) (r.mask hd) (keep x)
     · cases hm
   | bk =>
     dsimp only at hm
     split at hm
     · rename_i hd
       cases hm
       exact fun σ' H' mu' x r s => hc σ' H' mu (back x) (r.mask hd) (keep x)
     · cases hm
   | ct =>
     dsimp only at hm
     split at hm
     · rename_i hd
       cases hm
       exact fun σ' H' mu' x r s => hc σ' H' mu (back x) (r.mask hd) (keep x)
     · cases hm
 · cases hm
theorem mss_pure {X : Cx} {sts : List Stmt} {b : FS} (ki ko : List Bool) (h : MSs X sts b) : MSs X sts (mPure ki ko b) := pss_imp h fun _ _ _ => mPure_ok
section
variable {K : PySem.W.Frag}
end
theorem reps_ints {K : PySem.W.Frag} {H : Hp} {mu : List Addr} : ∀ ns : List Int, Reps K H mu (ns.map D.int) (ns.map V.int)
 | [] => .nil
 | n :: ns => .cons (.int n) (reps_ints ns)
theorem law_sp {K : PySem.W.Frag} {m : FN} (hm : ∀ ns : List Int, ns.length ≤ 63 → ∃ S, m [.rol (ns.map D.int)] [] = some (.bl true, S)) (H : Hp) (a : Addr) (ns : List Int) (hl : ns.length ≤ 63) (hO : Only H) (hS : SqL K H a (ns.map V.int)) :
   spM K 1 m [.ref a] H (fun v _ => v = .bl true) fun _ _ _ => False := by
 refine ⟨rfl, ?_⟩
 obtain ⟨S, e⟩ := hm ns hl
 have hR : RoL K H a (ns.map V.int) := by
   rcases hS with h | h
   · rcases h with h | h
     · rcases hO a with z | ⟨o, xs, z⟩
       · rw [h] at z; cases z
       · rw [h] at z; cases z
     · exact .inl h
   · exact .inr h
 refine ⟨[], [], [.rol (ns.map D.int)], .bl true, S, .cons (.rol hR (reps_ints ns)) .nil, .nil, e, fun v H' mu' x r s => ?_⟩
 cases r
 rfl
theorem walk_m {l : PySem.W.OpenLaw} {q : Program} {loose : List Str} {XP : (Str → Option Value) → Heap → Prop} {YP : World → Heap → Prop} {d : DefRec} {K : Params → PySem.W.Frag} {m : FN} {k : Nat} {x : Str} (hn : l.most = some 63) (hdf : d.params.defaults = []) (hr : Room k callerA)
   (hY : ∀ (w : World) (h : Heap), YP w h → (K w.params).In h) (hm : ∀ ns : List Int, ns.length ≤ 63 → ∃ S, m [.rol (ns.map D.int)] [] = some (.bl true, S))
   (F : ∀ (w : World) (mg : Str → Option Value) (fa : Addr) (h : Heap), (K w.params).In h → h.Ns mainGlobals mg → mg d.name = some (.ref fa) →
     ∃ fd : FuncData, (∀ (s : Shared) (u : Value), BindsTo s fd ⟨[u], []⟩ [(x, u)]) ∧ ∀ base : Heap, (K w.params).In base → base.Ns mainGlobals mg → FnOk l.prog w (K w.params) mg base CX0 k fa fd [x] (spM (K w.params) 1 m)) :
   PySem.W.WalkO q loose XP YP l.row.toRowW d [] (fun f vs => PySem.call f vs) :=
 L2.walk_of (n := 63) (k := k) (x := x) (CX := fun _ => CX0) (sp := fun w => spM (K w.params) 1 m) hn (by decide) hdf hr hY F (fun _ H a ns hl hO hS => law_sp hm H a ns hl hO hS) fun _ _ _ _ _ z => z
end Mi
end
section
namespace Mi
open PySem PySem.Spec PyProof.Rows L2
structure XE (X : Cx) (e : Expr) (m : FE) : Prop where
 h : ME X e m
structure XT (X : Cx) (e : Expr) (m : FT) : Prop where
 h : MT X e m
structure XW (X : Cx) (e : Expr) (m : FT) : Prop where
 h : MW X e m
structure XA (X : Cx) (e : List Expr) (m : FA) : Prop where
 h : MA X e m
structure XS (X : Cx) (e : Stmt) (m : FS) : Prop where
 h : MS X e m
structure XSs (X : Cx) (e : List Stmt) (m : FS) : Prop where
 h : MSs X e m
structure XI (X : Cx) (tg e : Expr) (m : FI) : Prop where
 h : MI X tg e m
structure XG (X : Cx) (e : Expr) (m : FG) : Prop where
 h : MG X e m
structure XGs (X : Cx) (e : List Expr) (m : FGs) : Prop where
 h : MGs X e m
structure XF (X : Cx) (K : PySem.W.Frag) (ifs : List Expr) (t : FT) : Prop where
 h : PIfs X ifs (tMT K t)
theorem xmif_nil {X : Cx} : XF X X.K [] mTrue := ⟨mif_nil⟩
theorem xmif_one {X : Cx} {c : Expr} {t : FT} (h : XT X c t) : XF X X.K [c] t := ⟨mif_one h.h⟩
theorem xmss_pure {X : Cx} {sts : List Stmt} {b : FS} (ki ko : List Bool) (h : XSs X sts b) : XSs X sts (mPure ki ko b) := ⟨mss_pure ki ko h.h⟩
section
variable {X : Cx} {pos : Pos}
theorem qK {i : Int} {j} : XE X (.Constant (.int i) j pos) (mC (.int i)) := ⟨me_int ⟩
end
section
variable {X : Cx} {pos : Pos}
theorem xme_bl {b : Bool} {j} : XE X (.Constant (.bool b) j pos) (mC (.bl b)) := ⟨me_bl ⟩
end
section
variable {X : Cx} {pos : Pos}
theorem xme_non {j} : XE X (.Constant .none j pos) (mC .non) := ⟨me_non ⟩
end
section
variable {X : Cx} {pos : Pos}
theorem xme_str {x : Str} {j} : XE X (.Constant (.str x) j pos) (mC (.str x)) := ⟨me_str ⟩
end
section
variable {X : Cx} {pos : Pos} {e : Expr} {es : List Expr} {m : FE} {n : FA}
theorem qN  : XA X [] mNil := ⟨ma_nil ⟩
end
section
variable {X : Cx} {pos : Pos} {e : Expr} {es : List Expr} {m : FE} {n : FA}
theorem qA (h : XE X e m) (ht : XA X es n) (hs : starEach (e :: es) X.env = (false, eval e X.env) :: starEach es X.env := by rfl) : XA X (e :: es) (mCons m n) := ⟨ma_cons (h := h.h) (ht := ht.h) (hs := hs)⟩
end
section
variable {X : Cx} {K : PySem.W.Frag} {f : FN} {a b : FE} {σ : L2.St} {H : Hp} {Q : VK}
theorem qI {op : Operator} {x y : Expr} {pos : Pos} (ho : OpR X (binaryOp op) (r2 X.K f)) (hx : XE X x a) (hy : XE X y b) : XE X (.BinOp x op y pos) (m2 f a b) := ⟨me_op (ho := ho) (hx := hx.h) (hy := hy.h)⟩
end
section
variable {X : Cx} {K : PySem.W.Frag} {f : FN} {a b : FE} {σ : L2.St} {H : Hp} {Q : VK}
end
section
variable {X : Cx} {K : PySem.W.Frag} {f : FN} {a b : FE} {σ : L2.St} {H : Hp} {Q : VK}
theorem xme_cmp {op : CmpOp} {x y : Expr} {pos : Pos} (ho : OpR X (compareOp op) (r2 X.K f)) (hx : XE X x a) (hy : XE X y b) (hm : behindInMarks op y = false) : XE X (.Compare x [op] [y] pos) (m2 f a b) := ⟨me_cmp (ho := ho) (hx := hx.h) (hy := hy.h) (hm := hm)⟩
end
section
variable {X : Cx} {K : PySem.W.Frag} {f : FN} {a b : FE} {σ : L2.St} {H : Hp} {Q : VK}
theorem qJ {x y : Expr} {pos : Pos} (ho : IxR X (r2 X.K f)) (hx : XE X x a) (hy : XE X y b) (hs : PlainIx y) : XE X (.Subscript x y pos) (m2 f a b) := ⟨me_ix (ho := ho) (hx := hx.h) (hy := hy.h) (hs := hs)⟩
end
section
variable {X : Cx} {K : PySem.W.Frag} {f : FN} {a b : FE} {σ : L2.St} {H : Hp} {Q : VK}
theorem qD {x : Str} {p pos : Pos} {e : Expr} {es : List Expr} {id : String} {a : FA} (hc : CallR X (.builtin id) (rN X.K f)) (hg : Gl X x) (hm : X.mg x = none) (hv : bootBuiltins x = some (.builtin id)) (ha : XA X (e :: es) a) (hn : x ≠ "__name__" := by decide) (hdb : (x == ("__debug__" : Str)) = false := by decide) (he : starEach (e :: es) X.env = (false, eval e X.env) :: starEach es X.env := by rfl) (hpl : (backTo pos (starEach es X.env)).any (·.1) = false := by rfl) : XE X (.Call (.Name x p) (e :: es) [] pos) (mN f a) := ⟨me_callB (hc := hc) (hg := hg) (hm := hm) (hv := hv) (ha := ha.h) (hn := hn) (hdb := hdb) (he := he) (hpl := hpl)⟩
end
section
variable {X : Cx} {K : PySem.W.Frag} {f : FN} {a b : FE} {σ : L2.St} {H : Hp} {Q : VK}
theorem qE {x : Str} {p pos : Pos} {e : Expr} {es : List Expr} {T : String} {a : FA} (hc : CallR X (.type T) (rN X.K f)) (hg : Gl X x) (hm : X.mg x = none) (hv : bootBuiltins x = some (.type T)) (ha : XA X (e :: es) a) (hn : x ≠ "__name__" := by decide) (hdb : (x == ("__debug__" : Str)) = false := by decide) (he : starEach (e :: es) X.env = (false, eval e X.env) :: starEach es X.env := by rfl) (hpl : (backTo pos (starEach es X.env)).any (·.1) = false := by rfl) : XE X (.Call (.Name x p) (e :: es) [] pos) (mN f a) := ⟨me_callTy (hc := hc) (hg := hg) (hm := hm) (hv := hv) (ha := ha.h) (hn := hn) (hdb := hdb) (he := he) (hpl := hpl)⟩
end
section
variable {X : Cx} {x y c : Expr} {rest : List Expr} {pos : Pos} {a b : FT} {f g : FE}
theorem qX {op : CmpOp} {f : FN} {a b : FE} (ho : OpR X (compareOp op) (r2 X.K f)) (hx : XE X x a) (hy : XE X y b) (hm : behindInMarks op y = false) : XT X (.Compare x [op] [y] pos) (mB (m2 f a b)) := ⟨mt_cmp (ho := ho) (hx := hx.h) (hy := hy.h) (hm := hm)⟩
end
section
variable {X : Cx} {x y c : Expr} {rest : List Expr} {pos : Pos} {a b : FT} {f g : FE}
end
section
variable {X : Cx} {x y c : Expr} {rest : List Expr} {pos : Pos} {a b : FT} {f g : FE}
theorem xmw_and1 (ha : XT X x a) : XW X (.BoolOp .And [x] pos) a := ⟨mw_and1 (ha := ha.h)⟩
end
section
variable {X : Cx} {x y c : Expr} {rest : List Expr} {pos : Pos} {a b : FT} {f g : FE}
end
section
variable {X : Cx} {x y c : Expr} {rest : List Expr} {pos : Pos} {a b : FT} {f g : FE}
theorem xmw_and (ha : XT X x a) (hb : XW X (.BoolOp .And (y :: rest) pos) b) : XW X (.BoolOp .And (x :: y :: rest) pos) (mAnd a b) := ⟨mw_and (ha := ha.h) (hb := hb.h)⟩
end
section
variable {X : Cx} {x y c : Expr} {rest : List Expr} {pos : Pos} {a b : FT} {f g : FE}
end
section
variable {X : Cx} {x y c : Expr} {rest : List Expr} {pos : Pos} {a b : FT} {f g : FE}
theorem xmt_w (h : XW X x a) : XT X x a := ⟨mt_w (h := h.h)⟩
end
section
variable {X : Cx} {x y c : Expr} {rest : List Expr} {pos : Pos} {a b : FT} {f g : FE}
theorem xmt_not (ha : XT X x a) : XT X (.UnaryOp .Not x pos) (mNot a) := ⟨mt_not (ha := ha.h)⟩
end
section
variable {X : Cx} {x y c : Expr} {rest : List Expr} {pos : Pos} {a b : FT} {f g : FE}
theorem xme_one {op} (h : XE X x f) : XE X (.BoolOp op [x] pos) f := ⟨me_one (h := h.h)⟩
end
section
variable {X : Cx} {x y c : Expr} {rest : List Expr} {pos : Pos} {a b : FT} {f g : FE}
theorem xme_and (ha : XE X x f) (hb : XE X (.BoolOp .And (y :: rest) pos) g) : XE X (.BoolOp .And (x :: y :: rest) pos) (mAndV f g) := ⟨me_and (ha := ha.h) (hb := hb.h)⟩
end
section
variable {X : Cx} {x y c : Expr} {rest : List Expr} {pos : Pos} {a b : FT} {f g : FE}
theorem xme_or (ha : XE X x f) (hb : XE X (.BoolOp .Or (y :: rest) pos) g) : XE X (.BoolOp .Or (x :: y :: rest) pos) (mOrV f g) := ⟨me_or (ha := ha.h) (hb := hb.h)⟩
end
section
variable {X : Cx} {x y c : Expr} {rest : List Expr} {pos : Pos} {a b : FT} {f g : FE}
end
section
variable {X : Cx} {x y c : Expr} {rest : List Expr} {pos : Pos} {a b : FT} {f g : FE}
theorem xme_if (hc : XT X c a) (hx : XE X x f) (hy : XE X y g) : XE X (.IfExp c x y pos) (mIf a f g) := ⟨me_if (hc := hc.h) (hx := hx.h) (hy := hy.h)⟩
end
section
variable {X : Cx} {x y z : Expr} {pos : Pos} {f g : FN} {a b c : FE} {op op' : CmpOp}
end
section
variable {X : Cx} {x y z : Expr} {pos : Pos} {f g : FN} {a b c : FE} {op op' : CmpOp}
end
section
variable {X : Cx} {pos : Pos} {e c : Expr} {st : Stmt} {rest as bs : List Stmt} {a b : FS} {m : FE} {t : FT}
theorem qQ  : XSs X [] mNx := ⟨mss_nil ⟩
end
section
variable {X : Cx} {pos : Pos} {e c : Expr} {st : Stmt} {rest as bs : List Stmt} {a b : FS} {m : FE} {t : FT}
theorem qF (h1 : XS X st a) (h2 : XSs X rest b) : XSs X (st :: rest) (mSeq a b) := ⟨mss_cons (h1 := h1.h) (h2 := h2.h)⟩
end
section
variable {X : Cx} {pos : Pos} {e c : Expr} {st : Stmt} {rest as bs : List Stmt} {a b : FS} {m : FE} {t : FT}
theorem qG (h1 : XS X st a) : XSs X [st] a := ⟨mss_one (h1 := h1.h)⟩
end
section
variable {X : Cx} {pos : Pos} {e c : Expr} {st : Stmt} {rest as bs : List Stmt} {a b : FS} {m : FE} {t : FT}
end
section
variable {X : Cx} {pos : Pos} {e c : Expr} {st : Stmt} {rest as bs : List Stmt} {a b : FS} {m : FE} {t : FT}
end
section
variable {X : Cx} {pos : Pos} {e c : Expr} {st : Stmt} {rest as bs : List Stmt} {a b : FS} {m : FE} {t : FT}
end
section
variable {X : Cx} {pos : Pos} {e c : Expr} {st : Stmt} {rest as bs : List Stmt} {a b : FS} {m : FE} {t : FT}
theorem xms_expr (h : XE X e m) (hs : swapsWith e none pos.line X.env = pure false := by rfl) : XS X (.Expr e pos) (mDrop m) := ⟨ms_expr (h := h.h) (hs := hs)⟩
end
section
variable {X : Cx} {pos : Pos} {e c : Expr} {st : Stmt} {rest as bs : List Stmt} {a b : FS} {m : FE} {t : FT}
theorem qU (h : XE X e m) : XS X (.Return (some e) pos) (mRet m) := ⟨ms_ret (h := h.h)⟩
end
section
variable {X : Cx} {pos : Pos} {e c : Expr} {st : Stmt} {rest as bs : List Stmt} {a b : FS} {m : FE} {t : FT}
end
section
variable {X : Cx} {pos : Pos} {e c : Expr} {st : Stmt} {rest as bs : List Stmt} {a b : FS} {m : FE} {t : FT}
theorem qV (hc : XT X c t) (ha : XSs X as a) (hb : XSs X bs b) : XS X (.If c as bs pos) (mIfS t a b) := ⟨ms_if (hc := hc.h) (ha := ha.h) (hb := hb.h)⟩
end
section
variable {X : Cx} {pos : Pos}
theorem qO (i : Nat) {x : Str} (hN : X.N.Nodup) (hi : X.N[i]? = some x) (hx : Loc X.env.scope x) (hf : X.fn x = true ∨ X.env.scope.names.lookup x = some .local := by first | exact .inl rfl | exact .inr rfl | assumption) : XG X (.Name x pos) (gN i) := ⟨mg_name (i := i) (hN := hN) (hi := hi) (hx := hx) (hf := hf)⟩
end
section
variable {X : Cx} {pos : Pos}
theorem xmgs_nil  : XGs X [] gNl := ⟨mgs_nil ⟩
end
section
variable {X : Cx} {pos : Pos}
theorem xmgs_cons {e : Expr} {es : List Expr} {g : FG} {gs : FGs} (h1 : XG X e g) (h2 : XGs X es gs) (hs : (assignEach (e :: es) X.env).map (·.2) = assign e X.env :: (assignEach es X.env).map (·.2) := by rfl) : XGs X (e :: es) (gCs g gs) := ⟨mgs_cons (h1 := h1.h) (h2 := h2.h) (hs := hs)⟩
end
section
variable {X : Cx} {pos : Pos}
theorem xmg_tup {es : List Expr} {k : Nat} {gs : FGs} {n : Nat} (hc : X.calm = true) (h : XGs X es gs) (hn : (assignEach es X.env).length = n := by rfl) (hst : (assignEach es X.env).findIdx? (·.1) = none := by rfl) : XG X (.Tuple es k pos) (gT n gs) := ⟨mg_tup (hc := hc) (h := h.h) (hn := hn) (hst := hst)⟩
end
section
variable {X : Cx} {pos : Pos}
theorem xmg_sub {o i : Expr} {a b : FE} {f : FN} (ho : XE X o a) (hi : XE X i b) (hs : PSet X (rU X.K f)) (ha : ∀ v, assign (.Subscript o i pos) X.env v = (do
     let ov ← holding [v] (eval o X.env)
     let iv ← holding [v, ov] (eval i X.env)
     standAt pos
     holding [v, ov, iv] (setItem ov iv v)
     release [v, ov, iv] []) := by intro _; rfl) : XG X (.Subscript o i pos) (gS f a b) := ⟨mg_sub (ho := ho.h) (hi := hi.h) (hs := hs) (ha := ha)⟩
end
section
variable {X : Cx} {pos : Pos}
theorem qR {tg e : Expr} {m : FE} {g : FG} (he : XE X e m) (hg : XG X tg g) (hs : swapsWithSole [tg] e pos.line X.env = pure false := by rfl) (hw : swappedStores [tg] e X.env = pure none := by rfl) (h1 : (assignEach [tg] X.env).map (·.2) = [assign tg X.env] := by rfl) : XS X (.Assign [tg] e pos) (mAsg m g) := ⟨ms_asg (he := he.h) (hg := hg.h) (hs := hs) (hw := hw) (h1 := h1)⟩
end
section
variable {X : Cx} {pos : Pos}
theorem qY (i : Nat) {x : Str} {e : Expr} {m : FE} {pos' : Pos} (hN : X.N.Nodup) (hi : X.N[i]? = some x) (hx : Loc X.env.scope x) (he : XE X e m) (hs : swapsWith e (some (.Name x pos')) pos.line X.env = pure false := by rfl) (hf : X.fn x = true ∨ X.env.scope.names.lookup x = some .local := by first | exact .inl rfl | exact .inr rfl | assumption) : XS X (.Assign [.Name x pos'] e pos) (mAsg m (gN i)) := ⟨ms_set (i := i) (hN := hN) (hi := hi) (hx := hx) (he := he.h) (hs := hs) (hf := hf)⟩
end
section
variable {X : Cx} {pos : Pos}
end
section
end
section
theorem qW {X : Cx} {pos : Pos} {tg iter : Expr} {body : List Stmt} {m : FI} {g : FG} {b : FS} (hp : PassesOwn (model X.prog X.w) X.A X.env X.xe) (hc : X.calm = true) (hi : XI X tg iter m) (hg : XG X tg g) (hb : XSs X body b) (hs : ∀ x, foldedSetIterable iter X.env x = pure x := by intro _; rfl) : XS X (.For tg iter body [] pos) (mFor m g b) := ⟨ms_for (hp := hp) (hc := hc) (hi := hi.h) (hg := hg.h) (hb := hb.h) (hs := hs)⟩
end
section
variable {X : Cx} {es : List Expr} {pos : Pos} {a : FA}
theorem xme_tup {x1} (h : XA X es a) : XE X (.Tuple es x1 pos) (mTup a) := ⟨me_tup (h := h.h)⟩
end
section
variable {X : Cx} {es : List Expr} {pos : Pos} {a : FA}
theorem xme_lst (h : XA X es a) : XE X (.List es pos) (mLst a) := ⟨me_lst (h := h.h)⟩
end
section
variable {X : Cx} {tg : Expr}
theorem qd {e : Expr} {m : FE} (h : XE X e m) : XI X tg e (iSeq m) := ⟨mi_seq (h := h.h)⟩
end
section
variable {X : Cx} {tg : Expr}
theorem xmi_range1 {a : Expr} {m : FA} {p pos : Pos} (hg : Gl X "range") (hm : X.mg "range" = none) (ha : XA X [a] m) (hs : starEach [a] X.env = [(false, eval a X.env)] := by rfl) : XI X tg (.Call (.Name "range" p) [a] [] pos) (iR1 m) := ⟨mi_range1 (hg := hg) (hm := hm) (ha := ha.h) (hs := hs)⟩
end
section
variable {X : Cx} {tg : Expr}
end
section
variable {X : Cx} {tg : Expr}
variable {elts : List Expr} {k : Nat} {tpos : Pos}
end
section
variable {X : Cx} {tg : Expr}
variable {elts : List Expr} {k : Nat} {tpos : Pos}
end
section
variable {X : Cx} {pins : List (Addr × Obj)} {σ : L2.St} {H : Hp} {s : Shared} {mu : List Addr} {S : Sto} {K : PySem.W.Frag}
end
section
variable {X : Cx}
end
section
variable {X : Cx}
end
section
variable {X : Cx}
end
section
variable {X : Cx}
end
section
variable {X : Cx}
theorem xme_listR2 {a b : Expr} {m : FA} {p1 p2 pos1 pos2 : Pos} (hc : X.calm = true) (hg : Gl X "range") (hm : X.mg "range" = none) (hg2 : Gl X "list") (hm2 : X.mg "list" = none) (ha : XA X [a, b] m) (hs : starEach [a, b] X.env = [(false, eval a X.env), (false, eval b X.env)] := by rfl) (hs3 : starEach [b] X.env = [(false, eval b X.env)] := by rfl) (hs2 : starEach [.Call (.Name "range" p1) [a, b] [] pos1] X.env = [(false, eval (.Call (.Name "range" p1) [a, b] [] pos1) X.env)] := by rfl) : XE X (.Call (.Name "list" p2) [.Call (.Name "range" p1) [a, b] [] pos1] [] pos2) (mLR2 m) := ⟨me_listR2 (hc := hc) (hg := hg) (hm := hm) (hg2 := hg2) (hm2 := hm2) (ha := ha.h) (hs := hs) (hs3 := hs3) (hs2 := hs2)⟩
end
section
variable {X : Cx}
theorem qe {o e : Expr} {es : List Expr} {m : FE} {a : FA} {f : FN} {name : Str} {apos cpos : Pos} {id : String} (slot : Slot "list" name id) (hty : typeOf (.builtin id) = pure (.type "method_descriptor")) (hm : MtR X id (fun x xs H Q => rN X.K f (x :: xs) H Q)) (ho : XE X o m) (ha : XA X (e :: es) a) (hbase : attributeBase o name X.env (eval o X.env) = eval o X.env := by rfl) (hfew : ((backTo cpos (starEach (e :: es) X.env)).all (fun x => !x.1) && (backToKw cpos (keywordEach [] X.env)).all (fun x => x.1.isSome) && decide ((e :: es).length + ([] : List Keyword).length + (if ([] : List Keyword).isEmpty then 0 else 1) < 30)) = true := by rfl) (hline : (apos.endLine == cpos.line) = true := by rfl) (hs : starEach (e :: es) X.env = (false, eval e X.env) :: starEach es X.env := by rfl) (hplain : (backTo cpos (starEach es X.env)).any (·.1) = false := by rfl) : XE X (.Call (.Attribute o name apos) (e :: es) [] cpos) (mMt f m a) := ⟨me_lmeth (slot := slot) (hty := hty) (hm := hm) (ho := ho.h) (ha := ha.h) (hbase := hbase) (hfew := hfew) (hline := hline) (hs := hs) (hplain := hplain)⟩
end
section
variable {X : Cx}
theorem xmv (i : Nat) {x : Str} {pos : Pos} (hN : X.N[i]? = some x := by rfl) (hv : Vis X.env.scope x := by first | exact Or.inl rfl | exact Or.inr (Or.inl rfl) | exact Or.inr (Or.inr rfl)) (hd : (x == ("__debug__" : Str)) = false := by decide) (hcd : (x == ("__classdict__" : Str)) = false := by decide) : XE X (.Name x pos) (mV i) := ⟨mv (i := i) (hN := hN) (hv := hv) (hd := hd) (hcd := hcd)⟩
end
section
theorem qH {X : Cx} {k k' n : Nat} {x : Str} {m : FN} {p pos : Pos} {e : Expr} {es : List Expr} {a : FA} (h : Own X.prog X.w X.K X.mg X.base k x n m) (hr : Room k' X.A) (hk : k ≤ k') (hg : Gl X x) (ha : XA X (e :: es) a) (hdb : (x == ("__debug__" : Str)) = false := by decide) (he : starEach (e :: es) X.env = (false, eval e X.env) :: starEach es X.env := by rfl) (hpl : (backTo pos (starEach es X.env)).any (·.1) = false := by rfl) : XE X (.Call (.Name x p) (e :: es) [] pos) (mN (mCall n m) a) := ⟨me_own (h := h) (hr := hr) (hk := hk) (hg := hg) (ha := ha.h) (hdb := hdb) (he := he) (hpl := hpl)⟩
end
section
end
section
variable {X : Cx}
structure XB1 (X : Cx) (K : PySem.W.Frag) (tg : Expr) (ifs : List Expr) (elt : Expr) (g : FG) (t : FT) (e : FE) : Prop where
 g : XG X tg g
 t : XF X K ifs t
 e : XE X elt e
end
theorem xown_mk {P : Program} {w : World} {K : PySem.W.Frag} {mg : Str → Option Value} {base : Heap} {x qual : Str} {st : Stmt} {f : Addr} {fd : FuncData} {N ps : List Str} {k n : Nat} {b : FS} (F : Fun K x qual st f fd) (hb : Binds K fd ps []) (hm : mg x = some (.ref f)) (S : FnScope N ps (defScope st)) (hn : ps.length = n)
   (hbody : ∀ (cdv : Value) (A : Around) (outer : List Env) (s : Shared) (H : Hp) (E : XK), Room k (A.deeper (envOfC qual (defScope st) s.heap.objs.size f cdv)) →
     XSs (cxOf CX0 P w K mg base N qual (defScope st) f cdv A outer s H E).nox (defBody st) b) : Own P w K mg base (k + 1) x n (fnB N.length b) :=
 own_mk F hb hm S hn fun cdv A outer s H E hr => (hbody cdv A outer s H E hr).h
theorem xfn_mk {P : Program} {w : World} {K : PySem.W.Frag} {mg : Str → Option Value} {base : Heap} {x qual : Str} {st : Stmt} {f : Addr} {fd : FuncData} {N ps : List Str} {k n : Nat} {b : FS} (F : Fun K x qual st f fd) (S : FnScope N ps (defScope st)) (hn : ps.length = n)
   (hbody : ∀ (cdv : Value) (A : Around) (outer : List Env) (s : Shared) (H : Hp) (E : XK), Room k (A.deeper (envOfC qual (defScope st) s.heap.objs.size f cdv)) →
     XSs (cxOf CX0 P w K mg base N qual (defScope st) f cdv A outer s H E).nox (defBody st) b) : FnOk P w K mg base CX0 (k + 1) f fd ps (spM K n (fnB N.length b)) := by
 subst hn
 exact fn_m F S fun cdv A outer s H E hr => (hbody cdv A outer s H E hr).h
end Mi
end
section
namespace Mi
open PySem PySem.Spec PyProof.Rows L2
noncomputable abbrev FV := Ev → Sto → Option (List D × Ev × Sto)
noncomputable def loopF (c : List (Nat × List D)) (g : FG) (t : FT) (b : FV) : List D → FV
 | [] => fun r S => if okC S c = true then some ([], r, S) else none
 | d :: ds => fun r S => if okC S c = true then (g d r S).bind fun p => (t p.1 p.2).bind fun k => if k.1 = true then (b p.1 k.2).bind fun q => (loopF c g t b ds q.2.1 q.2.2).map fun z => (q.1 ++ z.1, z.2) else loopF c g t b ds p.1 k.2 else none
noncomputable def fEmit (m : FE) : FV := fun r S => (m r S).map fun q => ([q.1], r, q.2)
noncomputable def fComp (k : Nat) (keep : List Nat) (m : FI) (g : FG) (t : FT) (b : FV) : FE := fun r S => (m r S).bind fun p =>
 (loopF p.1.chk g t b p.1.items (inEv k keep r) p.2).bind fun q => if q.1.length ≤ sizeLine then some (.ref q.2.2.length, q.2.2 ++ [.lst q.1]) else none
section
variable {K : PySem.W.Frag} {H H' H1 : Hp} {mu mu' mu1 : List Addr} {S : Sto} {a : Addr}
theorem Ext.aside (x : Ext mu mu' H H') : Ext (a :: mu) (a :: mu') H H' where
 pre := List.cons_prefix_cons.mpr ⟨rfl, x.pre⟩
 old := fun b o h n => x.old b o h fun z => n (List.mem_cons_of_mem _ z)
 tup := x.tup
 frz := x.frz
 new := fun b h => by
   rcases List.mem_cons.mp h with h | h
   · exact .inl (by rw [h]; exact List.mem_cons_self)
   · rcases x.new b h with q | q
     · exact .inl (List.mem_cons_of_mem _ q)
     · exact .inr q
theorem Ext.inner (x : Ext (a :: mu) (a :: mu') H H') : Exw mu mu' H H' := ⟨(List.cons_prefix_cons.mp x.pre).2, x.tup, x.frz⟩
theorem Ext.held {o : HO} (x : Ext mu mu' H H') (ha : H a = some o) (hn : a ∉ mu) : H' a = some o ∧ a ∉ mu' := by
 refine ⟨x.old a o ha hn, fun z => ?_⟩
 rcases x.new a z with q | q
 · exact hn q
 · rw [ha] at q; cases q
theorem EnvR.exw {r : Ev} {σ : L2.St} (e : Exw mu mu' H H') (h : EnvR K H mu r σ) : EnvR K H' mu' r σ := ⟨h.len, fun i d q => by
 obtain ⟨v, e1, r1⟩ := h.val i d q
 exact ⟨v, e1, r1.exw e⟩⟩
theorem ObR.exw {b : Addr} (e : Exw mu mu' H H') (h : ∀ o, H b = some o → H' b = some o) : ∀ {o : Ob}, ObR K H mu b o → ObR K H' mu' b o
 | .lst _, ⟨vs, q, r⟩ => ⟨vs, h _ q, r.exw e⟩
 | .dct _, ⟨ws, q, r⟩ => ⟨ws, h _ q, Paired.mapP r fun _ _ z => ⟨z.1, z.2.exw e⟩⟩
 | .dcT _, ⟨ws, q, r, l⟩ => ⟨ws, h _ q, Paired.mapP r fun _ _ ⟨z, d, k, v, rv, r⟩ => ⟨z, d, k.exw e, v, rv, r.exw e⟩, l⟩
 | .iset _, q => ⟨h _ q.1, q.2⟩
 | .dcF _, ⟨ws, ⟨o, u, e1, e2⟩, r, l⟩ => ⟨ws, ⟨o, u, h _ e1, e2⟩, Paired.mapP r fun _ _ ⟨z, d, k, v, rv, r⟩ => ⟨z, d, k.exw e, v, rv, r.exw e⟩, l⟩
theorem Sim.aside {u : HO} (s : Sim K H mu S) (e : Exw mu mu H (upd H a u)) (hn : a ∉ mu) : Sim K (upd H a u) mu S :=
 ⟨s.len, s.nd, fun k o b h1 h2 => (s.ob k o b h1 h2).exw e fun o' q => by rw [upd_ne (fun z => hn (by rw [← z]; exact List.mem_of_getElem? h2))]; exact q⟩
end
noncomputable def tMV (K : PySem.W.Frag) (a : Addr) (m : FV) : TS := fun E σ H => ∃ r mu S acc vs xs r' S', H a = some (.lst vs) ∧ a ∉ mu ∧ Reps K H mu acc vs ∧ EnvR K H mu r σ ∧ Sim K H mu S ∧ m r S = some (xs, r', S') ∧ vs.length + xs.length ≤ sizeLine ∧
 ∀ σ' H' mu' vs', Ext (a :: mu) (a :: mu') H H' → H' a = some (.lst vs') → a ∉ mu' → Reps K H' mu' (acc ++ xs) vs' → EnvR K H' mu' r' σ' → Sim K H' mu' S' → E.nx σ' H'
theorem emitF_ok {K : PySem.W.Frag} {a : Addr} {m : FE} {E : Ends} {σ : L2.St} {H : Hp} (h : tMV K a (fEmit m) E σ H) : tEmit a (tM K m) E σ H := by
 obtain ⟨r, mu, S, acc, vs, xs, r', S', ha, hna, hr, he, hs, hm, hl, hc⟩ := h
 obtain ⟨⟨d, S1⟩, e1, hm⟩ := Option.map_eq_some_iff.mp hm
 cases hm
 refine ⟨r, mu, S, d, S1, he, hs, e1, fun v H1 mu1 x1 r1 s1 => ?_⟩
 obtain ⟨ha1, hn1⟩ := x1.held ha hna
 have put : Ext (a :: mu1) (a :: mu1) H1 (upd H1 a (.lst (vs ++ [v]))) := Ext.put ha1 trivial List.mem_cons_self
 refine ⟨vs, ha1, hl, ?_⟩
 exact hc σ _ mu1 (vs ++ [v]) (x1.aside.trans put) upd_same hn1 (((hr.ext x1).append (.cons r1 .nil)).exw put.inner) ((he.ext x1).exw put.inner) (s1.aside put.inner hn1)
theorem loopF_ok {K : PySem.W.Frag} {a : Addr} {j : It} {J : Itm} {g : FG} {t : FT} {b : FV} {tb : TS} {D : Ends} (hb : ∀ E σ H, tMV K a b E σ H → tb E σ H)
   {mu1 mu2 : List Addr} {H1 H : Hp} {r r' : Ev} {S S' : Sto} {σ : L2.St} {acc xs : List Mi.D} {vs : List V} (hJ : ItR K j J mu1 H1) (x : Exw mu1 mu2 H1 H) (ha : H a = some (.lst vs)) (hna : a ∉ mu2) (hr : Reps K H mu2 acc vs) (he : EnvR K H mu2 r σ) (hs : Sim K H mu2 S)
   (hm : loopF J.chk g t b J.items r S = some (xs, r', S')) (hl : vs.length + xs.length ≤ sizeLine)
   (hc : ∀ σ' H' mu' vs', Ext (a :: mu2) (a :: mu') H H' → H' a = some (.lst vs') → a ∉ mu' → Reps K H' mu' (acc ++ xs) vs' → EnvR K H' mu' r' σ' → Sim K H' mu' S' → D.nx σ' H') : tLoop j (tMG K g) (tMT K t) tb D σ H := by
 refine ⟨fun i k σ' H' => ∃ r3 mu3 S3 acc3 vs3 xs3, Ext (a :: mu2) (a :: mu3) H H' ∧ H' a = some (.lst vs3) ∧ a ∉ mu3 ∧ Reps K H' mu3 acc3 vs3 ∧ EnvR K H' mu3 r3 σ' ∧ Sim K H' mu3 S3 ∧ k = (J.items.drop i).length ∧ loopF J.chk g t b (J.items.drop i) r3 S3 = some (xs3, r', S') ∧ acc3 ++ xs3 = acc ++ xs ∧ vs3.length + xs3.length ≤ sizeLine,
   ⟨_, r, mu2, S, acc, vs, xs, .refl _ _, ha, hna, hr, he, hs, rfl, hm, rfl, hl⟩, ?_⟩
 rintro i k σ3 H3 ⟨r3, mu3, S3, acc3, vs3, xs3, x3, ha3, hn3, hr3, he3, s3, rfl, hm3, hx3, hl3⟩
 cases hd0 : J.items.drop i with
 | nil =>
   left
   rw [hd0, loopF] at hm3
   dsimp only at hm3
   split at hm3
   · rename_i ok
     cases hm3
     refine ⟨(hJ i H3 mu3 _ (x.trans x3.inner) s3 ok).2 (List.drop_eq_nil_iff.mp hd0), hc σ3 H3 mu3 vs3 x3 ha3 hn3 ?_ he3 s3⟩
     rw [← hx3, List.append_nil]; exact hr3
   · cases hm3
 | cons d ds =>
   right
   rw [hd0] at hm3
   obtain ⟨hi, hd⟩ := drop_of_get hd0
   rw [loopF] at hm3
   dsimp only at hm3
   split at hm3
   · rename_i ok
     obtain ⟨⟨r4, S4⟩, e4, hm3⟩ := Option.bind_eq_some_iff.mp hm3
     obtain ⟨⟨k5, S5⟩, e5, hm3⟩ := Option.bind_eq_some_iff.mp hm3
     obtain ⟨go, yl⟩ := (hJ i H3 mu3 _ (x.trans x3.inner) s3 ok).1 d hi
     refine ⟨go, fun σ' H' => ∃ r3 mu3 S3 acc3 vs3 xs3, Ext (a :: mu2) (a :: mu3) H H' ∧ H' a = some (.lst vs3) ∧ a ∉ mu3 ∧ Reps K H' mu3 acc3 vs3 ∧ EnvR K H' mu3 r3 σ' ∧ Sim K H' mu3 S3 ∧ loopF J.chk g t b ds r3 S3 = some (xs3, r', S') ∧ acc3 ++ xs3 = acc ++ xs ∧ vs3.length + xs3.length ≤ sizeLine, ?_, fun y H4 yy => ?_⟩
     · rintro σ' H' ⟨r6, mu6, S6, acc6, vs6, xs6, x6, ha6, hn6, hr6, he6, s6, hm6, hx6, hl6⟩
       exact ⟨ds.length, Nat.lt_succ_self _, r6, mu6, S6, acc6, vs6, xs6, x6, ha6, hn6, hr6, he6, s6, by rw [hd], by rw [hd]; exact hm6, hx6, hl6⟩
     · obtain ⟨x4, s4, q4⟩ := yl y H4 yy
       obtain ⟨ha4, hn4⟩ := x4.held ha3 hn3
       refine ⟨r3, mu3, S3, d, r4, S4, he3.ext x4, s4, q4, e4, fun σ5 H5 mu5 x5 he5 s5 => ?_⟩
       obtain ⟨ha5, hn5⟩ := x5.held ha4 hn4
       refine ⟨r4, mu5, S4, k5, S5, he5, s5, e5, fun H6 mu6 x6 s6 => ?_⟩
       obtain ⟨ha6, hn6⟩ := x6.held ha5 hn5
       have xx := ((x3.trans x4.aside).trans x5.aside).trans x6.aside
       have hr6 : Reps K H6 mu6 acc3 vs3 := ((hr3.ext x4).ext x5).ext x6
       cases k5 with
       | true =>
         obtain ⟨⟨q1, r7, S7⟩, e7, hm3⟩ := Option.bind_eq_some_iff.mp hm3
         obtain ⟨⟨z1, r8, S8⟩, e8, hm3⟩ := Option.map_eq_some_iff.mp hm3
         cases hm3
         refine hb _ _ _ ⟨r4, mu6, S5, acc3, vs3, q1, r7, S7, ha6, hn6, hr6, he5.ext x6, s6, e7, ?_, fun σ8 H8 mu8 vs8 x8 ha8 hn8 hr8 he8 s8 => ⟨r7, mu8, S7, acc3 ++ q1, vs8, z1, xx.trans x8, ha8, hn8, hr8, he8, s8, e8, ?_, ?_⟩⟩
         · rw [List.length_append] at hl3; dsimp only at hl3; omega
         · rw [← hx3, List.append_assoc]
         · have := hr8.length
           have h3 := hr6.length
           rw [List.length_append] at this hl3
           dsimp only at hl3
           omega
       | false => exact ⟨r4, mu6, S5, acc3, vs3, xs3, xx, ha6, hn6, hr6, he5.ext x6, s6, hm3, hx3, hl3⟩
   · cases hm3
theorem compF_ok {K : PySem.W.Frag} {k : Nat} {keep : List Nat} {m : FI} {g : FG} {t : FT} {b : FV} {tb : Addr → TS} (hb : ∀ a E σ H, tMV K a b E σ H → tb a E σ H) {σ : L2.St} {H : Hp} {Q : VK} (h : tM K (fComp k keep m g t b) σ H Q) :
   tComp k keep (tMI K m) (tMG K g) (tMT K t) tb σ H Q := by
 obtain ⟨r, mu, S, d, S', he, hs, hm, hc⟩ := h
 obtain ⟨⟨J, S1⟩, e1, hm⟩ := Option.bind_eq_some_iff.mp hm
 obtain ⟨⟨xs, r2, S2⟩, e2, hm⟩ := Option.bind_eq_some_iff.mp hm
 dsimp only at hm
 split at hm
 · rename_i hl
   cases hm
   refine ⟨r, mu, S, J, S1, he, hs, e1, fun j H1 mu1 x1 J1 s1 p hp => ?_⟩
   have fr : Ext mu1 mu1 H1 (upd H1 p (.lst [])) := Ext.fresh hp
   refine loopF_ok (hb p) J1 fr.w upd_same (s1.notin hp) .nil ((inEnv k keep (he.ext x1)).ext fr) (s1.fresh hp) e2 (by simpa using hl) fun σ' H' mu' vs' x' ha' hn' hr' he' s' => ?_
   have y : Ext mu1 (mu' ++ [p]) H1 H' := by
     refine ⟨((List.cons_prefix_cons.mp x'.pre).2).trans (List.prefix_append _ _), fun b o e n => ?_, fun b ys e => x'.tup b ys (fr.tup b ys e), fun b o u e => x'.frz b o u (fr.frz b o u e), fun b hb' => ?_⟩
     · have nb : b ≠ p := ne_of_none e hp
       exact x'.old b o (by rw [upd_ne nb]; exact e) fun z => by
         rcases List.mem_cons.mp z with z | z
         · exact nb z
         · exact n z
     · rcases List.mem_append.mp hb' with z | z
       · rcases x'.new b (List.mem_cons_of_mem _ z) with q | q
         · rcases List.mem_cons.mp q with q | q
           · exact .inr (by rw [q]; exact hp)
           · exact .inl q
         · by_cases hbp : b = p
           · exact .inr (by rw [hbp]; exact hp)
           · rw [upd_ne hbp] at q; exact .inr q
       · have : b = p := by simpa using z
         exact .inr (by rw [this]; exact hp)
   refine hc _ H' (mu' ++ [p]) (x1.trans y) (.ref (new_at s'.len p)) ⟨by rw [List.length_append, List.length_append, s'.len]; rfl, ?_, fun n o b h1 h2 => ?_⟩
   · rw [List.nodup_append]
     refine ⟨s'.nd, by simp, fun b hb c hc e => ?_⟩
     have : c = p := by simpa using hc
     subst this; subst e
     exact hn' hb
   · by_cases hk : n < S2.length
     · rw [List.getElem?_append_left hk] at h1
       rw [List.getElem?_append_left (by rw [s'.len]; exact hk)] at h2
       exact (s'.ob n o b h1 h2).mor [p]
     · have hk' : n = S2.length := by
         have := (List.getElem?_eq_some_iff.mp h1).1
         rw [List.length_append] at this
         simp at this
         omega
       subst hk'
       rw [List.getElem?_append_right (Nat.le_refl _)] at h1
       rw [← s'.len, List.getElem?_append_right (Nat.le_refl _)] at h2
       simp at h1 h2
       subst h1; subst h2
       exact ⟨vs', ha', (by simpa using hr' : Reps K H' mu' xs vs').mor [p]⟩
 · cases hm
section
variable {X : Cx}
theorem qZ {elt tg iter : Expr} {ifs : List Expr} {scope : Scope} {pos : Pos} {T : List Str} {keep : List Nat} {cl : List (Str × Addr)} {m : FI} {g : FG} {t : FT} {e : FE} (hc : X.calm = true)
   (C : CSc X scope T keep) (hcl : cloF X.env.cells scope.names [] = some cl) (hi : XI X tg iter m) (hb : ∀ s H fp, XB1 (cxC X scope cl T keep s H fp) X.K tg ifs elt g t e)
   (hs : ∀ x, foldedSetIterable iter X.env x = pure x := by intro _; rfl) : XE X (.ListComp elt [⟨tg, iter, ifs, 0⟩] scope pos) (fComp T.length keep m g t (fEmit e)) :=
 ⟨pe_imp (pe_comp (emit := emitE elt) (tb := fun p => tEmit p (tM X.K e)) hc (fun it acc env => turn_A elt tg iter ifs scope pos it acc env) C hcl hi.h (fun s H fp p => ⟨(hb s H fp).g.h, (hb s H fp).t.h, pu_emit (hb s H fp).e.h p⟩) hs)
   fun σ H Q h => compF_ok (fun a E σ H q => emitF_ok q) h⟩
end
end Mi
end
section
namespace Mi
open PySem PySem.Spec PyProof.Rows L2
noncomputable def keyD : D → Option Key
 | .int i => some (.inl i)
 | .str x => some (.inr x)
 | _ => none
noncomputable def lookD {κ : Type} [DecidableEq κ] (kvs : List (κ × D)) (k : κ) : Option D := (kvs.find? fun p => decide (p.1 = k)).map (·.2)
noncomputable def putD {κ : Type} [DecidableEq κ] (kvs : List (κ × D)) (k : κ) (d : D) : List (κ × D) :=
 if (kvs.any fun p => decide (p.1 = k)) = true then kvs.map (fun p => if p.1 = k then (p.1, d) else p) else kvs ++ [(k, d)]
section
variable {K : PySem.W.Frag} {H : Hp} {mu : List Addr}
theorem key_rep {d : D} {v : V} {k : Key} (r : Rep K H mu d v) (h : keyD d = some k) : v = kV k := by
 cases r with
 | int i => cases h; rfl
 | str x => cases h; rfl
 | _ => cases h
end
section
variable {κ : Type} [DecidableEq κ] {K : PySem.W.Frag} {H : Hp} {mu : List Addr}
theorem KR.length : ∀ {ks : List (κ × D)} {ws : List (κ × V)}, KR K H mu ks ws → ks.length = ws.length
 | _, _, .nil => rfl
 | _, _, .cons _ t => congrArg (· + 1) (KR.length t)
theorem KR.look {k : κ} : ∀ {ks : List (κ × D)} {ws : List (κ × V)}, KR K H mu ks ws →
   (∀ d, lookD ks k = some d → ∃ v, valV ws k = some v ∧ Rep K H mu d v) ∧ (lookD ks k = none → valV ws k = none)
 | _, _, .nil => ⟨fun d h => by simp [lookD] at h, fun _ => rfl⟩
 | (k1, d1) :: ks, (k2, v2) :: ws, .cons r t => by
   obtain ⟨e, r⟩ := r
   dsimp only at e r
   subst e
   obtain ⟨h1, h2⟩ := KR.look (k := k) t
   by_cases hk : k1 = k
   · subst hk
     refine ⟨fun d h => ?_, fun h => ?_⟩
     · have : d1 = d := by simpa [lookD] using h
       subst this
       exact ⟨v2, by simp [valV], r⟩
     · simp [lookD] at h
   · have e1 : lookD ((k1, d1) :: ks) k = lookD ks k := by simp [lookD, List.find?_cons, hk]
     have e2 : valV ((k1, v2) :: ws) k = valV ws k := by simp [valV, List.find?_cons, hk]
     rw [e1, e2]
     exact ⟨h1, h2⟩
theorem KR.any {k : κ} : ∀ {ks : List (κ × D)} {ws : List (κ × V)}, KR K H mu ks ws → (ks.any fun p => decide (p.1 = k)) = ws.any fun p => decide (p.1 = k)
 | _, _, .nil => rfl
 | _, _, .cons r t => by rw [List.any_cons, List.any_cons, KR.any t, r.1]
theorem KR.repl {k : κ} {d : D} {v : V} (q : Rep K H mu d v) : ∀ {ks : List (κ × D)} {ws : List (κ × V)}, KR K H mu ks ws →
   KR K H mu (ks.map fun p => if p.1 = k then (p.1, d) else p) (ws.map fun p => if p.1 = k then (p.1, v) else p)
 | _, _, .nil => .nil
 | (k1, d1) :: ks, (k2, v2) :: ws, .cons r t => by
   refine .cons ?_ (KR.repl q t)
   obtain ⟨e, r⟩ := r
   dsimp only at e r ⊢
   subst e
   by_cases h : k1 = k
   · rw [if_pos h, if_pos h]; exact ⟨rfl, q⟩
   · rw [if_neg h, if_neg h]; exact ⟨rfl, r⟩
theorem KR.snoc {k : κ} {d : D} {v : V} (q : Rep K H mu d v) : ∀ {ks : List (κ × D)} {ws : List (κ × V)}, KR K H mu ks ws → KR K H mu (ks ++ [(k, d)]) (ws ++ [(k, v)])
 | _, _, .nil => .cons ⟨rfl, q⟩ .nil
 | _, _, .cons r t => .cons r (KR.snoc q t)
theorem KR.put {k : κ} {d : D} {v : V} (q : Rep K H mu d v) {ks : List (κ × D)} {ws : List (κ × V)} (h : KR K H mu ks ws) : KR K H mu (putD ks k d) (putK ws k v) := by
 unfold putD putK
 rw [h.any]
 split
 · exact h.repl q
 · exact h.snoc q
end
noncomputable def gInX : G2 := fun d e S => match e with
 | .ref n => match S[n]? with
   | some (.dct kvs) => (keyD d).map fun k => (.bl (lookD kvs k).isSome, S)
   | _ => gIn d e S
 | _ => gIn d e S
noncomputable def gNotInX : G2 := fun d e S => match e with
 | .ref n => match S[n]? with
   | some (.dct kvs) => (keyD d).map fun k => (.bl (!(lookD kvs k).isSome), S)
   | _ => gNotIn d e S
 | _ => gNotIn d e S
noncomputable def gIxX : G2 := fun d e S => match d with
 | .ref n => match S[n]? with
   | some (.dct kvs) => (keyD e).bind fun k => (lookD kvs k).map fun x => (x, S)
   | _ => gIx d e S
 | _ => gIx d e S
noncomputable def gSetX : G3 := fun o i v S => match o with
 | .ref n => match S[n]? with
   | some (.dct kvs) => (keyD i).bind fun k => if kvs.length < sizeLine then some (.non, S.set n (.dct (putD kvs k v))) else none
   | _ => gSetIx o i v S
 | _ => gSetIx o i v S
section
variable {X : Cx}
theorem look_get {K : PySem.W.Frag} {H : Hp} {mu : List Addr} {S : Sto} (hs : Sim K H mu S) {n : Nat} {a : Addr} {kvs : List (Key × D)} {k : Key} {y : V} (hn : mu[n]? = some a) (he : S[n]? = some (.dct kvs)) (hy : y = kV k) :
   ∃ o : Option V, DGet H a y o ∧ (∀ d, lookD kvs k = some d → ∃ v, o = some v ∧ Rep K H mu d v) ∧ (lookD kvs k = none → o = none) ∧ o.isSome = (lookD kvs k).isSome := by
 obtain ⟨ws, hw, hk⟩ := hs.dct he hn
 subst hy
 obtain ⟨h1, h2⟩ := hk.look (k := k)
 refine ⟨valV ws k, DGet.k hw, h1, h2, ?_⟩
 cases e : lookD kvs k with
 | none => rw [h2 e]; rfl
 | some d => obtain ⟨v, e2, _⟩ := h1 d e; rw [e2]; rfl
theorem o_inX (hu : X.A.units + 64 < cLine) : OpR X (compareOp .In) (r2 X.K (b2 gInX)) := by
 intro pins s σ H x y u w Q I rx ry h
 obtain ⟨mu, S, d, e, r, S', r1, r2', hs, hm, hc⟩ := rn2 h
 have back : gIn d e S = some (r, S') → wpAny (model X.prog X.w) X.A (compareOp .In u w) (EP X pins σ Q) X.xe s := fun hm => o_in hu pins s σ H x y u w Q I rx ry ⟨mu, S, [d, e], r, S', .cons r1 (.cons r2' .nil), hs, hm, hc⟩
 unfold gInX at hm
 split at hm
 · rename_i n
   split at hm
   · rename_i kvs en
     obtain ⟨k, ek, hm⟩ := Option.map_eq_some_iff.mp hm
     cases hm
     cases r2' with
     | ref hn =>
       cases ry
       obtain ⟨o, g, _, _, hi⟩ := look_get hs hn en (key_rep r1 ek)
       exact d_in (by omega) I g rx fun s' I' => ⟨.bl o.isSome, H, I', rfl, by rw [hi]; exact hc.now (.bl _) hs⟩
   · exact back hm
 · exact back hm
theorem o_notInX (hu : X.A.units + 64 < cLine) : OpR X (compareOp .NotIn) (r2 X.K (b2 gNotInX)) := by
 intro pins s σ H x y u w Q I rx ry h
 obtain ⟨mu, S, d, e, r, S', r1, r2', hs, hm, hc⟩ := rn2 h
 have back : gNotIn d e S = some (r, S') → wpAny (model X.prog X.w) X.A (compareOp .NotIn u w) (EP X pins σ Q) X.xe s := fun hm => o_notIn hu pins s σ H x y u w Q I rx ry ⟨mu, S, [d, e], r, S', .cons r1 (.cons r2' .nil), hs, hm, hc⟩
 unfold gNotInX at hm
 split at hm
 · rename_i n
   split at hm
   · rename_i kvs en
     obtain ⟨k, ek, hm⟩ := Option.map_eq_some_iff.mp hm
     cases hm
     cases r2' with
     | ref hn =>
       cases ry
       obtain ⟨o, g, _, _, hi⟩ := look_get hs hn en (key_rep r1 ek)
       exact d_notIn (by omega) I g rx fun s' I' => ⟨.bl (!o.isSome), H, I', rfl, by rw [hi]; exact hc.now (.bl _) hs⟩
   · exact back hm
 · exact back hm
theorem x_ixX (hu : X.A.units + 64 < cLine) : IxR X (r2 X.K (b2 gIxX)) := by
 intro value slice pins s σ H x y v u Q I rx ry h hs2
 obtain ⟨mu, S, d, e, r, S', r1, r2', hs, hm, hc⟩ := rn2 h
 have back : gIx d e S = some (r, S') → wpAny (model X.prog X.w) X.A (subscriptTail value slice v u) (EP X pins σ Q) X.xe s := fun hm => x_ix value slice pins s σ H x y v u Q I rx ry ⟨mu, S, [d, e], r, S', .cons r1 (.cons r2' .nil), hs, hm, hc⟩ hs2
 unfold gIxX at hm
 split at hm
 · rename_i n
   split at hm
   · rename_i kvs en
     obtain ⟨k, ek, hm⟩ := Option.bind_eq_some_iff.mp hm
     obtain ⟨z, ez, hm⟩ := Option.map_eq_some_iff.mp hm
     cases hm
     cases r1 with
     | @ref _ a hn =>
       cases rx
       obtain ⟨o, g, h1, _, _⟩ := look_get hs hn en (key_rep r2' ek)
       obtain ⟨v', ev, rv⟩ := h1 _ ez
       subst ev
       have hT := dict_typeIs I g
       unfold subscriptTail
       refine wpAny_bind ?_
       rw [getitemInPython_of_ne hT.not_modules]
       refine wpAny_bind (wpAny_specialOf hT PySem.F.slot_dict_getitem.lookup ?_)
       have fin : wpAny (model X.prog X.w) X.A (subscripted slice false (.ref a) u) (fun r s₃ => wpAny (model X.prog X.w) X.A (letTemporaryGo value (.ref a) r >>= fun _ => pure r) (EP X pins σ Q) X.xe s₃) X.xe s := by
         rw [hs2]
         exact wpAny_operating (wpAny_mono (d_getItem (by omega) I g ry fun w' s3 I3 rw' => (⟨v', H, I3, rw', hc.now rv hs⟩ : EP X pins σ Q w' s3)) (fun r s₃ h₃ => wpAny_bind (wpAny_letTemporaryGo (wpAny_pure h₃))) fun _ _ x => x)
       first
         | exact wpAny_pure (wpAny_bind fin)
         | exact wpAny_bind fin
         | exact fin
   · exact back hm
 · exact back hm
theorem s_setX (hu : X.A.units + 64 < cLine) : PSet X (rU X.K (b3 gSetX)) := by
 intro pins s σ H o i v ov iv u Q I ro ri rv h
 obtain ⟨mu, S, ds, d, S', hr, hs, hm, hc⟩ := id h
 cases hr with
 | cons q1 t1 => cases t1 with
   | cons q2 t2 => cases t2 with
     | cons q3 t3 =>
       cases t3
       rename_i d1 d2 d3
       dsimp only [b3] at hm
       have back : gSetIx d1 d2 d3 S = some (d, S') → wpAny (model X.prog X.w) X.A (setItem ov iv u) (fun _ s' => ∃ H', Inv X pins σ H' s' ∧ Q H') X.xe s := fun hm => s_set pins s σ H o i v ov iv u Q I ro ri rv ⟨mu, S, [d1, d2, d3], d, S', .cons q1 (.cons q2 (.cons q3 .nil)), hs, hm, hc⟩
       unfold gSetX at hm
       split at hm
       · rename_i n
         split at hm
         · rename_i kvs en
           obtain ⟨k, ek, hm⟩ := Option.bind_eq_some_iff.mp hm
           split at hm
           · rename_i hl
             cases hm
             cases q1 with
             | ref hn =>
               cases ro
               obtain ⟨ws, hw, hk⟩ := hs.dct en hn
               have ey := key_rep q2 ek
               subst ey
               refine d_setItem (by omega) I (DPut.k hw (by rw [← hk.length]; exact hl)) ri rv fun s' I' => ⟨_, I', ?_⟩
               have put : Ext mu mu H (upd H _ (.dK (putK ws k v))) := Ext.put hw trivial (List.mem_of_getElem? hn)
               exact hc _ mu put (hs.put hn hw trivial ⟨_, upd_same, (hk.put q3).ext put⟩)
           · cases hm
         · exact back hm
       · exact back hm
noncomputable def gIsX : G2 := fun d e S => match e with
 | .non => some (.bl (isNon d), S)
 | .bl b => match d with
   | .bl c => some (.bl (c == b), S)
   | _ => none
 | _ => none
theorem o_isX : OpR X (compareOp .Is) (r2 X.K (b2 gIsX)) := by
 intro pins s σ H x y u w Q I rx ry h
 obtain ⟨mu, S, d, e, r, S', r1, r2', hs, hm, hc⟩ := rn2 h
 cases e with
 | non => exact o_isN pins s σ H x y u w Q I rx ry ⟨mu, S, [d, .non], r, S', .cons r1 (.cons r2' .nil), hs, hm, hc⟩
 | bl b =>
   cases d with
   | bl c =>
     cases hm; cases r1; cases r2'; cases rx; cases ry
     exact is_bool ⟨.bl (c == b), H, I, rfl, hc.now (.bl _) hs⟩
   | _ => cases hm
 | _ => cases hm
noncomputable def mDnew : FE := fun _ S => some (.ref S.length, S ++ [.dct []])
theorem xme_dnew {pos : Pos} : XE X (.Dict [] [] pos) mDnew := ⟨pe_imp pe_dnewK <| by
 rintro σ H Q ⟨r, mu, S, d, S', he, hs, hm, hc⟩ p hp
 cases hm
 exact hc _ _ (mu ++ [p]) (Ext.new_ hp) (.ref (new_at hs.len p)) (hs.new hp ⟨[], upd_same, .nil⟩)⟩
structure XP (X : Cx) (pos : Pos) (ks : List (Option Expr)) (vs : List Expr) (l : List (FE × FE)) : Prop where
 h : PPs X pos ks vs (l.map fun p => (tM X.K p.1, tM X.K p.2))
end
end Mi
end
section
namespace Mi
open PySem PySem.Spec PyProof.Rows L2
section
variable {X : Cx}
end
end Mi
end
section
namespace Mi
open PySem PySem.Spec PyProof.Rows L2
section
variable {K : PySem.W.Frag} {H H' : Hp} {mu mu' : List Addr} {S : Sto}
end
end Mi
end
section
namespace HT
open PySem PySem.Spec PyProof.Rows
variable {prog : Program} {w : World} {A : Around} {E : Value → Shared → Prop} {s : Shared}
end HT
namespace Mi
open PySem PySem.Spec PyProof.Rows L2
section
variable {X : Cx}
end
end Mi
end
section
namespace Mi
open PySem PySem.Spec PyProof.Rows L2
mutual
inductive IsTK (h : Heap) : TK → Value → Prop
 | non : IsTK h .non .none
 | int (i t) : IsTK h (.int i) (.int i t)
 | tup {a o items n xs} : h.get? a = some o → o.cls = .type "tuple" → o.data = .seq items n → IsTKs h xs items.toList → IsTK h (.tup xs) (.ref a)
inductive IsTKs (h : Heap) : List TK → List Value → Prop
 | nil : IsTKs h [] []
 | cons {k v ks vs} : IsTK h k v → IsTKs h ks vs → IsTKs h (k :: ks) (v :: vs)
end
section
variable {prog : Program} {w : World} {A : Around} {E : Value → Shared → Prop} {s : Shared}
theorem pyHash_none {Q : Int → Shared → Prop} (h : Q 0xFCA86420 { s with toks := s.toks + 1 }) : wpAny (model prog w) A (pyHash .none) Q E s := by
 have hT : s.TypeIs .none "NoneType" := rfl
 unfold pyHash
 first | unfold pyHashByItsType | skip
 have hv : [Value.none].any Value.onHeap = false := rfl
 refine wpAny_bind ?_
 rw [cRoomFor, if_neg (by rw [hv]; exact Bool.false_ne_true)]; refine wpAny_pure ?_
 refine wpAny_bind (wpAny_specialOf hT F.slot_NoneType_hash.lookup ?_)
 show wpAny _ _ (if (some (Value.builtin "NoneType.__hash__") == some Value.none) = true then _ else _) Q E s
 rw [if_neg (by rw [beq_builtin_none]; exact Bool.false_ne_true)]
 refine wpAny_bind (wpAny_specialOf hT F.slot_NoneType_hash.lookup ?_)
 show wpAny _ _ (callSpecialIfBoundUnlessNone? .none "__hash__" _ >>= _) Q E s
 refine wpAny_bind (wpAny_callSpecialIfBoundUnlessNone?_slot hT F.slot_NoneType_hash (wpAny_call_entry F.slot_NoneType_hash hT F.entry_NoneType_hash (show wpAny _ _ (retInt 0xFCA86420) _ _ s from wpAny_ret_mkInt ?_) (F.args_NoneType_hash_1 _)))
 exact wpAny_pure h
noncomputable def HashOk (prog : Program) (w : World) (k : TK) : Prop := ∀ {A : Around} {E : Value → Shared → Prop} {s : Shared} {v : Value} {Q : Int → Shared → Prop}, A.units + k.dep < cLine → IsTK s.heap k v → Q k.hash { s with toks := s.toks + k.draws } → wpAny (model prog w) A (pyHash v) Q E s
theorem IsTKs.split {h : Heap} : ∀ {ks : List TK} {vs : List Value}, IsTKs h ks vs → ks.length = vs.length
 | _, _, .nil => rfl
 | _, _, .cons _ t => congrArg (· + 1) (IsTKs.split t)
theorem hash_tup {xs : List TK} (all : ∀ k ∈ xs, HashOk prog w k) : HashOk prog w (.tup xs) := by
 intro A E s v Q hu hk h
 cases hk with
 | @tup a o items n _ ho hc hd hi =>
   have hT : s.TypeIs (.ref a) "tuple" := ⟨o, ho, hc⟩
   rw [TK.dep] at hu
   unfold pyHash
   first | unfold pyHashByItsType | skip
   first | refine wpAny_bind (wpAny_cRoomFor_or (.inr (by omega)) ?_) | skip
   refine wpAny_bind (wpAny_specialOf hT F.slot_tuple_hash.lookup ?_)
   show wpAny _ _ (if (some (Value.builtin "tuple.__hash__") == some Value.none) = true then _ else _) Q E s
   rw [if_neg (by rw [beq_builtin_none]; exact Bool.false_ne_true)]
   refine wpAny_bind (wpAny_specialOf hT F.slot_tuple_hash.lookup ?_)
   show wpAny _ _ (callSpecialIfBoundUnlessNone? (.ref a) "__hash__" _ >>= _) Q E s
   refine wpAny_bind (wpAny_callSpecialIfBoundUnlessNone?_slot hT F.slot_tuple_hash (wpAny_call_entry F.slot_tuple_hash hT F.entry_tuple_hash ?_ (F.args_tuple_hash_1 _)))
   show wpAny _ _ (Builtin.Tuple.tupleItemsOf (.ref a) >>= _) _ _ s
   refine wpAny_bind (wpAny_tupleItemsOf ho hd ?_)
   refine wpAny_bind ?_
   rw [← Array.forIn_toList]
   refine wpAny_forIn_list _
     (fun rest (b : Array Int) s' => ∃ done left, xs = done ++ left ∧ IsTKs s.heap left rest ∧ b.toList = TK.hashes done ∧ s' = { s with toks := s.toks + TK.drawsAll done })
     _ ?_ ?_ _ _ ⟨[], xs, rfl, hi, rfl, rfl⟩
   · rintro x rest b s' ⟨done, left, e, hl, hb, rfl⟩
     cases hl with
     | @cons k _ ks' _ h1 hl' =>
       have hm : k ∈ xs := by rw [e]; simp
       refine wpAny_bind (all k hm (show A.in1.units + k.dep < cLine by have := TK.dep_mem hm; rw [show A.in1.units = A.units + 1 from rfl]; omega) h1 ?_)
       first
         | exact wpAny_pure ⟨done ++ [k], ks', by simp [e], hl', by rw [TK.hashes_app]; simp [hb, TK.hashes], by rw [TK.draws_app]; simp [TK.drawsAll, Nat.add_assoc]⟩
         | exact wpAny_bind (wpAny_pure (wpAny_pure ⟨done ++ [k], ks', by simp [e], hl', by rw [TK.hashes_app]; simp [hb, TK.hashes], by rw [TK.draws_app]; simp [TK.drawsAll, Nat.add_assoc]⟩))
   · rintro b s' ⟨done, left, e, hl, hb, rfl⟩
     cases hl
     rw [List.append_nil] at e
     subst e
     show wpAny _ _ (retInt (Builtin.Tuple.tupleHashOf b.toList)) _ _ _
     rw [hb]
     refine wpAny_ret_mkInt ?_
     show wpAny _ _ (if (decide (-(2 : Int) ^ 63 ≤ Builtin.Tuple.tupleHashOf (TK.hashes xs)) && decide (Builtin.Tuple.tupleHashOf (TK.hashes xs) < 2 ^ 63)) = true then _ else _) Q E _
     rw [TK.hash, TK.draws] at h
     unfold reduceHash at h
     by_cases hr : (decide (-(2 : Int) ^ 63 ≤ Builtin.Tuple.tupleHashOf (TK.hashes xs)) && decide (Builtin.Tuple.tupleHashOf (TK.hashes xs) < 2 ^ 63)) = true
     · rw [if_pos hr]
       rw [if_pos hr] at h
       exact wpAny_pure (by simpa [Nat.add_assoc] using h)
     · rw [if_neg hr]
       rw [if_neg hr] at h
       exact wpAny_bind (wpAny_rule (wpAny_pure (by simpa [Nat.add_assoc] using h)))
mutual
theorem hash_ok : ∀ k : TK, HashOk prog w k
 | .non => fun hu hk h => by cases hk; exact pyHash_none h
 | .int i => fun hu hk h => by cases hk; exact wpAny_pyHash_int h
 | .tup xs => hash_tup (hash_oks xs)
theorem hash_oks : ∀ ks : List TK, ∀ k ∈ ks, HashOk prog w k
 | [], k, h => by simp at h
 | x :: xs, k, h => by
   by_cases e : k = x
   · rw [e]; exact hash_ok x
   · exact hash_oks xs k ((List.mem_cons.mp h).resolve_left e)
end
end
end Mi
end
section
namespace Mi
open PySem PySem.Spec PyProof.Rows L2
mutual
theorem IsTK.inj {h : Heap} : ∀ {k k' : TK} {v : Value}, IsTK h k v → IsTK h k' v → k = k'
 | _, _, _, .non, .non => rfl
 | _, _, _, .int _ _, .int _ _ => rfl
 | _, _, _, .tup e1 c1 d1 t1, .tup e2 c2 d2 t2 => by
   rw [e1] at e2; cases e2
   rw [d1] at d2; cases d2
   rw [IsTKs.inj t1 t2]
theorem IsTKs.inj {h : Heap} : ∀ {k k' : List TK} {v : List Value}, IsTKs h k v → IsTKs h k' v → k = k'
 | _, _, _, .nil, .nil => rfl
 | _, _, _, .cons r t, .cons r' t' => by rw [IsTK.inj r r', IsTKs.inj t t']
end
mutual
theorem IsTK.keeps {h h' : Heap} {d : Addr} {o : Obj} {es ep} (ho : h.get? d = some o) (hd : o.data = .dict es ep) (hs : Heap.SameBut d h h') : ∀ {k : TK} {v : Value}, IsTK h k v → IsTK h' k v
 | _, _, .non => .non
 | _, _, .int i t => .int i t
 | _, _, .tup (a := a) e1 c1 d1 t1 => .tup ((hs.2 a (fun z => by subst z; rw [e1] at ho; cases ho; rw [d1] at hd; cases hd)).trans e1) c1 d1 (IsTKs.keeps ho hd hs t1)
theorem IsTKs.keeps {h h' : Heap} {d : Addr} {o : Obj} {es ep} (ho : h.get? d = some o) (hd : o.data = .dict es ep) (hs : Heap.SameBut d h h') : ∀ {k : List TK} {v : List Value}, IsTKs h k v → IsTKs h' k v
 | _, _, .nil => .nil
 | _, _, .cons r t => .cons (IsTK.keeps ho hd hs r) (IsTKs.keeps ho hd hs t)
end
theorem IsTKs.at {h : Heap} : ∀ {ks : List TK} {vs : List Value} (j : Nat) (h1 : j < ks.length) (h2 : j < vs.length), IsTKs h ks vs → IsTK h ks[j] vs[j]
 | _ :: _, _ :: _, 0, _, _, .cons r _ => r
 | _ :: ks, _ :: vs, j + 1, h1, h2, .cons _ t => IsTKs.at j (by simpa using h1) (by simpa using h2) t
theorem all_same {xs ys : List TK} (hl : xs.length = ys.length) : ((List.range (min xs.length ys.length)).all fun j => decide (xs[j]? = ys[j]?)) = decide (xs = ys) := by
 by_cases h : xs = ys
 · subst h
   simp
 · rw [decide_eq_false h, List.all_eq_false]
   have : ∃ j, xs[j]? ≠ ys[j]? := Classical.byContradiction fun z => h (List.ext_getElem? fun j => Classical.byContradiction fun q => z ⟨j, q⟩)
   obtain ⟨j, hj⟩ := this
   refine ⟨j, ?_, by simpa using hj⟩
   rw [List.mem_range, hl, Nat.min_self]
   apply Classical.byContradiction
   intro hn
   exact hj (by rw [List.getElem?_eq_none (by omega), List.getElem?_eq_none (by omega)])
theorem eq_tk : ∀ (n : Nat) {k k' : TK} {A : Around} {s : Shared} {u v : Value}, k.dep ≤ n → A.units + n < cLine → IsTK s.heap k u → IsTK s.heap k' v → SeqAt.EqAt A s u v (decide (k = k')) := by
 intro n
 induction n with
 | zero =>
   intro k k' A s u v hd hu r r'
   cases r with
   | tup _ _ _ _ => simp [TK.dep] at hd
   | non =>
     cases r' with
     | non => simpa using SeqAt.EqAt.same (A := A) (s := s) Value.none
     | int i t => simpa [eqV] using eqAt_V (A := A) (s := s) (y := .non) (x := .int i) rfl ⟨t, rfl⟩ rfl rfl
     | tup e c d t => simpa using (rc_seq_none (A := A) (s := s) (b := false) (v := .non) (u := .none) ⟨_, e, c, _, d⟩ rfl rfl (by omega)).2.1
   | int i t =>
     cases r' with
     | non => simpa [eqV] using eqAt_V (A := A) (s := s) (y := .int i) (x := .non) ⟨t, rfl⟩ rfl rfl rfl
     | int j t' =>
       have := eqAt_V (A := A) (s := s) (y := .int i) (x := .int j) ⟨t, rfl⟩ ⟨t', rfl⟩ rfl rfl
       have e : eqV (.int i) (.int j) = decide (TK.int i = TK.int j) := by
         by_cases h : i = j
         · subst h; simp [eqV]
         · rw [decide_eq_false (fun z => h (by injection z))]; simp [eqV, h]
       rw [e] at this; exact this
     | tup e c d q => simpa using (rc_seq_none (A := A) (s := s) (b := false) (v := .int i) (u := .int i t) ⟨_, e, c, _, d⟩ ⟨t, rfl⟩ rfl (by omega)).2.1
 | succ n ih =>
   intro k k' A s u v hd hu r r'
   cases r with
   | non =>
     cases r' with
     | non => simpa using SeqAt.EqAt.same (A := A) (s := s) Value.none
     | int i t => simpa [eqV] using eqAt_V (A := A) (s := s) (y := .non) (x := .int i) rfl ⟨t, rfl⟩ rfl rfl
     | tup e c d t => simpa using (rc_seq_none (A := A) (s := s) (b := false) (v := .non) (u := .none) ⟨_, e, c, _, d⟩ rfl rfl (by omega)).2.1
   | int i t =>
     cases r' with
     | non => simpa [eqV] using eqAt_V (A := A) (s := s) (y := .int i) (x := .non) ⟨t, rfl⟩ rfl rfl rfl
     | int j t' =>
       have := eqAt_V (A := A) (s := s) (y := .int i) (x := .int j) ⟨t, rfl⟩ ⟨t', rfl⟩ rfl rfl
       have e : eqV (.int i) (.int j) = decide (TK.int i = TK.int j) := by
         by_cases h : i = j
         · subst h; simp [eqV]
         · rw [decide_eq_false (fun z => h (by injection z))]; simp [eqV, h]
       rw [e] at this; exact this
     | tup e c d q => simpa using (rc_seq_none (A := A) (s := s) (b := false) (v := .int i) (u := .int i t) ⟨_, e, c, _, d⟩ ⟨t, rfl⟩ rfl (by omega)).2.1
   | @tup a o items m xs e1 c1 d1 t1 =>
     cases r' with
     | non => simpa using (rc_seq_none (A := A) (s := s) (b := false) (v := .non) (u := .none) ⟨_, e1, c1, _, d1⟩ rfl rfl (by omega)).1
     | int i t => simpa using (rc_seq_none (A := A) (s := s) (b := false) (v := .int i) (u := .int i t) ⟨_, e1, c1, _, d1⟩ ⟨t, rfl⟩ rfl (by omega)).1
     | @tup a2 o2 items2 m2 ys e2 c2 d2 t2 =>
       by_cases ha : a = a2
       · subst ha
         have : TK.tup xs = TK.tup ys := IsTK.inj (.tup e1 c1 d1 t1) (.tup e2 c2 d2 t2)
         rw [decide_eq_true this]
         exact .same _
       · refine .of_refs ha ?_
         have l1 := t1.split
         have l2 := t2.split
         have rc := SeqAt.RcAt.tuples (A := A) (s := s) (e := fun j => decide (xs[j]? = ys[j]?)) ⟨o, e1, c1, m, d1⟩ ⟨o2, e2, c2, m2, d2⟩ (by omega) (fun j h1 h2 => by
           have g1 : j < xs.length := by rw [l1]; simpa using h1
           have g2 : j < ys.length := by rw [l2]; simpa using h2
           rw [TK.dep] at hd
           have hm := TK.dep_mem (List.getElem_mem g1)
           have q := ih (k := xs[j]) (k' := ys[j]) (A := A.in1) (s := s) (by omega) (by show A.units + 1 + n < cLine; omega) (t1.at j g1 (by simpa using h1)) (t2.at j g2 (by simpa using h2))
           have e : decide (xs[j]? = ys[j]?) = decide (xs[j] = ys[j]) := by
             rw [List.getElem?_eq_getElem g1, List.getElem?_eq_getElem g2]; simp
           rw [e]
           simpa using q)
         have z1 : items.size = xs.length := by rw [l1]; simp
         have z2 : items2.size = ys.length := by rw [l2]; simp
         rw [z1, z2] at rc
         have fin : ((List.range (min xs.length ys.length)).all (fun j => decide (xs[j]? = ys[j]?)) && xs.length == ys.length) = decide (TK.tup xs = TK.tup ys) := by
           by_cases hl : xs.length = ys.length
           · rw [all_same hl, hl, beq_self_eq_true, Bool.and_true]
             by_cases h : xs = ys
             · subst h; simp
             · rw [decide_eq_false h, decide_eq_false (fun z => h (by injection z))]
           · have hb : (xs.length == ys.length) = false := by simpa using hl
             rw [hb, Bool.and_false, decide_eq_false (fun z => hl (by injection z with z; rw [z]))]
         rw [fin] at rc
         exact rc
theorem quiet_tk {prog : Program} {w : World} : ∀ (n : Nat) {k : TK} {A : Around} {E : Value → Shared → Prop} {s : Shared} {v : Value} {Q : Bool → Shared → Prop}, k.dep ≤ n → IsTK s.heap k v → Q true s → wpAny (model prog w) A (eqIsQuiet n v) Q E s := by
 intro n
 induction n with
 | zero =>
   intro k A E s v Q hd r h
   cases r with
   | non => rw [eqIsQuiet_byValue 0 rfl]; exact wpAny_pure h
   | int i t => rw [eqIsQuiet_byValue 0 rfl]; exact wpAny_pure h
   | tup _ _ _ _ => simp [TK.dep] at hd
 | succ n ih =>
   intro k A E s v Q hd r h
   cases r with
   | non => rw [eqIsQuiet_byValue _ rfl]; exact wpAny_pure h
   | int i t => rw [eqIsQuiet_byValue _ rfl]; exact wpAny_pure h
   | @tup a o items m xs e1 c1 d1 t1 =>
     have hT : s.TypeIs (.ref a) "tuple" := ⟨o, e1, c1⟩
     rw [TK.dep] at hd
     unfold eqIsQuiet
     refine wpAny_bind (wpAny_specialOf hT F.slot_tuple_eq.lookup ?_)
     show wpAny _ _ (isInstance (.ref a) (.type "tuple") >>= _) _ _ s
     refine wpAny_bind (wpAny_isInstance hT isSubtype_tuple_tuple ?_)
     simp only [Bool.not_true, Bool.false_eq_true, if_false]
     refine wpAny_bind (wpAny_seqItems e1 d1 ?_)
     refine wpAny_bind ?_
     show wpAny _ _ (forIn items _ _) _ _ s
     rw [← Array.forIn_toList]
     refine wpAny_forIn_list _ (fun rest r s' => r.1 = none ∧ s' = s ∧ ∃ ks, IsTKs s.heap ks rest ∧ TK.depAll ks ≤ n) _ ?_ ?_ _ _ ⟨rfl, rfl, xs, t1, by omega⟩
     · rintro v rest r s' ⟨hr, rfl, ks, hk, hn⟩
       cases hk with
       | @cons k1 _ ks1 _ q1 q2 =>
         rw [TK.depAll] at hn
         refine wpAny_bind (ih (k := k1) (by omega) q1 ?_)
         simp only [Bool.not_true, Bool.false_eq_true, if_false]
         exact wpAny_pure ⟨rfl, rfl, ks1, q2, by omega⟩
     · rintro ⟨r1, r2⟩ s' ⟨hr, rfl, _⟩
       simp only at hr
       subst hr
       exact wpAny_pure h
noncomputable def tkKind (prog : Program) (w : World) : HeapKind prog w TK where
 is := fun h k a => IsTK h k (.ref a) ∧ k.dep ≤ 8
 hash := TK.hash
 draws := TK.draws
 room := fun A => A.units + 8 < cLine
 inj := fun hx hy => hx.1.inj hy.1
 keeps := fun x ho hd hs => ⟨x.1.keeps ho hd hs, x.2⟩
 pyHash := fun hu hk h => hash_ok _ (by have := hk.2; omega) hk.1 h
 eqBool := fun hu hx hy h => eq_tk 8 hx.2 hu hx.1 hy.1 _ _ _ _ h
 quiet := fun hk h => quiet_tk 8 hk.2 hk.1 h
end Mi
end
section
namespace Mi
open PySem PySem.Spec PyProof.Rows L2
section
open PySem.MeetsSeq PySem.MeetsSeq2 PySem.MeetsSeq3 PySem.SeqRoads2
end
section
variable {X : Cx}
end
end Mi
end
section
namespace Mi
open PySem PySem.Spec PyProof.Rows L2
mutual
noncomputable def kD : D → Option TK
 | .non => some .non
 | .int i => some (.int i)
 | .tup xs => (kDs xs).map .tup
 | _ => none
noncomputable def kDs : List D → Option (List TK)
 | [] => some []
 | x :: xs => (kD x).bind fun k => (kDs xs).map (k :: ·)
end
noncomputable def keyT : D → Option TK
 | .tup xs => (kDs xs).bind fun ks => if (TK.tup ks).dep ≤ 8 then some (.tup ks) else none
 | _ => none
mutual
theorem kD_tk : ∀ {d : D} {k : TK}, kD d = some k → tkD k = d
 | .non, k, h => by cases h; rfl
 | .int i, k, h => by cases h; rfl
 | .tup xs, k, h => by
   rw [kD] at h
   obtain ⟨ks, e, h⟩ := Option.map_eq_some_iff.mp h
   subst h
   rw [tkD, kDs_tk e]
 | .bl _, k, h => by simp [kD] at h
 | .str _, k, h => by simp [kD] at h
 | .rol _, k, h => by simp [kD] at h
 | .ref _, k, h => by simp [kD] at h
theorem kDs_tk : ∀ {ds : List D} {ks : List TK}, kDs ds = some ks → tkDs ks = ds
 | [], ks, h => by cases h; rfl
 | x :: xs, ks, h => by
   rw [kDs] at h
   obtain ⟨k, e1, h⟩ := Option.bind_eq_some_iff.mp h
   obtain ⟨t, e2, h⟩ := Option.map_eq_some_iff.mp h
   subst h
   rw [tkDs, kD_tk e1, kDs_tk e2]
end
theorem keyT_tk {d : D} {k : TK} (h : keyT d = some k) : tkD k = d ∧ k.dep ≤ 8 ∧ ∃ xs, k = .tup xs := by
 cases d with
 | tup xs =>
   rw [keyT] at h
   obtain ⟨ks, e, h⟩ := Option.bind_eq_some_iff.mp h
   split at h
   · rename_i hd
     cases h
     exact ⟨by rw [tkD, kDs_tk e], hd, ks, rfl⟩
   · cases h
 | _ => cases h
section
variable {X : Cx} {pins : List (Addr × Obj)} {σ : L2.St} {H : Hp} {s : Shared} {mu : List Addr}
mutual
theorem tk_is (I : Inv X pins σ H s) : ∀ (k : TK) {v : V} {u : Value}, Rep X.K H mu (tkD k) v → RelV v u → IsTK s.heap k u
 | .non, v, u, r, q => by
   rw [tkD] at r; cases r; cases q; exact .non
 | .int i, v, u, r, q => by
   rw [tkD] at r; cases r; obtain ⟨t, rfl⟩ := q; exact .int i t
 | .tup xs, v, u, r, q => by
   rw [tkD] at r
   cases r with
   | tup h t =>
     cases q
     obtain ⟨its, rv, ⟨o, e1, e2, n, e3⟩, _⟩ := I.tuple h
     exact .tup e1 e2 e3 (by simpa using tks_is I xs t rv)
theorem tks_is (I : Inv X pins σ H s) : ∀ (ks : List TK) {vs : List V} {us : List Value}, Reps X.K H mu (tkDs ks) vs → Vals vs us → IsTKs s.heap ks us
 | [], vs, us, r, q => by rw [tkDs] at r; cases r; cases q; exact .nil
 | k :: ks, vs, us, r, q => by
   rw [tkDs] at r
   cases r with
   | cons r t => cases q with
     | cons q p => exact .cons (tk_is I k r q) (tks_is I ks t p)
end
theorem paired_map {α β γ δ : Type} {F : α → β → Prop} {G : γ → δ → Prop} {f : α → γ} {g : β → δ} : ∀ {l₁ : List α} {l₂ : List β}, Paired F l₁ l₂ → (∀ a b, F a b → G (f a) (g b)) → Paired G (l₁.map f) (l₂.map g)
 | _, _, .nil, _ => .nil
 | _, _, .cons r t, h => .cons (h _ _ r) (paired_map t h)
theorem paired_app {α β : Type} {F : α → β → Prop} : ∀ {l₁ m₁ : List α} {l₂ m₂ : List β}, Paired F l₁ l₂ → Paired F m₁ m₂ → Paired F (l₁ ++ m₁) (l₂ ++ m₂)
 | _, _, _, _, .nil, h => h
 | _, _, _, _, .cons r t, h => .cons r (paired_app t h)
theorem KT.length {K : PySem.W.Frag} : ∀ {ks : List (TK × D)} {ws : List (TK × Addr × Value)}, KT K H mu ks ws → ks.length = ws.length
 | _, _, .nil => rfl
 | _, _, .cons _ t => congrArg (· + 1) (KT.length t)
theorem KT.mem {K : PySem.W.Frag} : ∀ {ks : List (TK × D)} {ws : List (TK × Addr × Value)}, KT K H mu ks ws → ∀ x ∈ ws, x.1.dep ≤ 8 ∧ Rep K H mu (tkD x.1) (.ref x.2.1)
 | _, _, .nil, x, h => by cases h
 | _, _, .cons ⟨z, d, k, _⟩ t, x, h => by
   rcases List.mem_cons.mp h with e | e
   · subst e; rw [← z]; exact ⟨d, k⟩
   · exact KT.mem t x e
theorem KT.look {K : PySem.W.Frag} {k : TK} : ∀ {ks : List (TK × D)} {ws : List (TK × Addr × Value)}, KT K H mu ks ws →
   (∀ d, lookD ks k = some d → ∃ p v, atKey ws k = some p ∧ RelV v p.2 ∧ Rep K H mu d v) ∧ (atKey ws k).isSome = (lookD ks k).isSome
 | _, _, .nil => ⟨fun d h => by simp [lookD] at h, rfl⟩
 | (k1, d1) :: ks, (k2, a2, v2) :: ws, .cons ⟨z, d, q, v, rv, r⟩ t => by
   dsimp only at z q rv r
   subst z
   obtain ⟨h1, h2⟩ := KT.look (k := k) t
   by_cases hk : k1 = k
   · subst hk
     refine ⟨fun d h => ?_, by simp [atKey, lookD]⟩
     have : d1 = d := by simpa [lookD] using h
     subst this
     exact ⟨(a2, v2), v, by simp [atKey], rv, r⟩
   · have e1 : lookD ((k1, d1) :: ks) k = lookD ks k := by simp [lookD, List.find?_cons, hk]
     have e2 : atKey ((k1, a2, v2) :: ws) k = atKey ws k := by simp [atKey, List.find?_cons, hk]
     rw [e1, e2]
     exact ⟨h1, h2⟩
theorem KT.put {K : PySem.W.Frag} {k : TK} {d : D} {v : V} {a : Addr} {u : Value} (hk : k.dep ≤ 8) (qk : Rep K H mu (tkD k) (.ref a)) (rv : RelV v u) (q : Rep K H mu d v) {ks : List (TK × D)} {ws : List (TK × Addr × Value)} (h : KT K H mu ks ws) : KT K H mu (putD ks k d) (storedH ws k a u) := by
 unfold putD storedH
 have e : (ks.any fun p => decide (p.1 = k)) = (atKey ws k).isSome := by
   rw [h.look.2]
   unfold lookD
   rw [Option.isSome_map, Bool.eq_iff_iff, List.find?_isSome, List.any_eq_true]
 rw [e]
 split
 · clear e
   refine paired_map h fun p w ⟨z, d', k', v', rv', r'⟩ => ?_
   unfold putAt
   by_cases hp : p.1 = k
   · rw [if_pos hp, if_pos (by rw [← z]; exact hp)]
     exact ⟨z, d', k', v, rv, q⟩
   · rw [if_neg hp, if_neg (by rw [← z]; exact hp)]
     exact ⟨z, d', k', v', rv', r'⟩
 · exact paired_app h (.cons ⟨rfl, hk, qk, v, rv, q⟩ .nil)
theorem dh_of (I : Inv X pins σ H s) {a : Addr} {xs : List (TK × Addr × Value)} {kvs : List (TK × D)} (e : H a = some (.ext (DictAt a xs))) (h : KT X.K H mu kvs xs) : (a == sysModules) = false ∧ s.heap.DictOfH (tkKind X.prog X.w) a xs := by
 obtain ⟨⟨h1, h2, o, es, ep, h3, h4, h5, h6⟩, _⟩ := (show ObjOk X.prog X.w H s.heap a (.ext (DictAt a xs)) from I.hok a _ e)
 exact ⟨h1, o, es, ep, h3, h4, h5, h6, fun x hx => ⟨tk_is I _ (h.mem x hx).2 rfl, (h.mem x hx).1⟩, h2⟩
theorem ext_new {h : Heap} {a : Addr} {xs : List (TK × Addr × Value)} (hd : (a == sysModules) = false) (hm : h.DictOfH (tkKind X.prog X.w) a xs) : ObjOk X.prog X.w H h a (.ext (DictAt a xs)) := by
 obtain ⟨o, es, ep, h3, h4, h5, h6, h7, h8⟩ := hm
 refine ⟨⟨hd, h8, o, es, ep, h3, h4, h5, h6⟩, ⟨o, h3⟩, fun g1 g2 ⟨a1, a2, o', es', ep', b3, b4, b5, b6⟩ st => ⟨a1, a2, o', es', ep', st _ b3, b4, b5, b6⟩⟩
end
noncomputable def gInY : G2 := fun d e S => match e with
 | .ref n => match S[n]? with
   | some (.dcT kvs) => (keyT d).map fun k => (.bl (lookD kvs k).isSome, S)
   | _ => gInX d e S
 | _ => gInX d e S
noncomputable def gNotInY : G2 := fun d e S => match e with
 | .ref n => match S[n]? with
   | some (.dcT kvs) => (keyT d).map fun k => (.bl (!(lookD kvs k).isSome), S)
   | _ => gNotInX d e S
 | _ => gNotInX d e S
noncomputable def gIxY : G2 := fun d e S => match d with
 | .ref n => match S[n]? with
   | some (.dcT kvs) => (keyT e).bind fun k => (lookD kvs k).map fun x => (x, S)
   | some (.dcF kvs) => (keyT e).bind fun k => (lookD kvs k).map fun x => (x, S)
   | _ => gIxX d e S
 | _ => gIxX d e S
noncomputable def gSetY : G3 := fun o i v S => match o with
 | .ref n => match S[n]? with
   | some (.dcT kvs) => (keyT i).bind fun k => if kvs.length < sizeLine then some (.non, S.set n (.dcT (putD kvs k v))) else none
   | some (.dct []) => match keyT i with
     | some k => some (.non, S.set n (.dcT [(k, v)]))
     | none => gSetX o i v S
   | _ => gSetX o i v S
 | _ => gSetX o i v S
section
variable {X : Cx}
theorem length_putD {κ : Type} [DecidableEq κ] (kvs : List (κ × D)) (k : κ) (d : D) : (putD kvs k d).length ≤ kvs.length + 1 := by
 unfold putD
 split
 · rw [List.length_map]; omega
 · simp
theorem empty_of {h : Heap} {a : Addr} (dd : h.DictOf (mixKind X.prog X.w) a []) : h.DictOfH (tkKind X.prog X.w) a [] := by
 obtain ⟨o, es, ep, h1, h2, h3, _, h4, _⟩ := dd
 have e : es.toList = [] := by
   generalize es.toList = l at h4
   cases h4
   rfl
 exact ⟨o, es, ep, h1, h2, h3, e, (fun x hx => by simp at hx), List.nodup_nil⟩
theorem room_of {A : Around} (hu : A.units + 64 < cLine) : (tkKind X.prog X.w).room A.in1 := by
 show A.units + 1 + 8 < cLine
 omega
theorem key_at {pins : List (Addr × Obj)} {σ : L2.St} {H : Hp} {s : Shared} {mu : List Addr} (I : Inv X pins σ H s) {d : D} {v : V} {u : Value} {k : TK} (r : Rep X.K H mu d v) (q : RelV v u) (h : keyT d = some k) :
   ∃ a, u = .ref a ∧ v = .ref a ∧ Rep X.K H mu (tkD k) (.ref a) ∧ k.dep ≤ 8 ∧ (tkKind X.prog X.w).is s.heap k a := by
 obtain ⟨e, hd, xs, ex⟩ := keyT_tk h
 subst e
 have is := tk_is I k r q
 subst ex
 cases id is with
 | @tup a _ _ _ _ _ _ _ _ =>
   rw [tkD] at r
   cases r with
   | tup h1 h2 =>
     cases q
     exact ⟨a, rfl, rfl, by rw [tkD]; exact .tup h1 h2, hd, is, hd⟩
theorem o_inY (hu : X.A.units + 64 < cLine) : OpR X (compareOp .In) (r2 X.K (b2 gInY)) := by
 intro pins s σ H x y u w Q I rx ry h
 obtain ⟨mu, S, d, e, r, S', r1, r2', hs, hm, hc⟩ := rn2 h
 have back : gInX d e S = some (r, S') → wpAny (model X.prog X.w) X.A (compareOp .In u w) (EP X pins σ Q) X.xe s := fun hm => o_inX hu pins s σ H x y u w Q I rx ry ⟨mu, S, [d, e], r, S', .cons r1 (.cons r2' .nil), hs, hm, hc⟩
 unfold gInY at hm
 split at hm
 · rename_i n
   split at hm
   · rename_i kvs en
     obtain ⟨k, ek, hm⟩ := Option.map_eq_some_iff.mp hm
     cases hm
     cases r2' with
     | ref hn =>
       cases ry
       obtain ⟨xs, hx, hk, _⟩ := hs.dcT en hn
       obtain ⟨hd, dd⟩ := dh_of I hx hk
       obtain ⟨a, rfl, rfl, _, _, hi⟩ := key_at I r1 rx ek
       refine wpAny_in_heap (room_of hu) hi hd dd ?_
       exact ⟨.bl (atKey xs k).isSome, H, I.tok _, rfl, by rw [hk.look.2]; exact hc.now (.bl _) hs⟩
   · exact back hm
 · exact back hm
theorem o_notInY (hu : X.A.units + 64 < cLine) : OpR X (compareOp .NotIn) (r2 X.K (b2 gNotInY)) := by
 intro pins s σ H x y u w Q I rx ry h
 obtain ⟨mu, S, d, e, r, S', r1, r2', hs, hm, hc⟩ := rn2 h
 have back : gNotInX d e S = some (r, S') → wpAny (model X.prog X.w) X.A (compareOp .NotIn u w) (EP X pins σ Q) X.xe s := fun hm => o_notInX hu pins s σ H x y u w Q I rx ry ⟨mu, S, [d, e], r, S', .cons r1 (.cons r2' .nil), hs, hm, hc⟩
 unfold gNotInY at hm
 split at hm
 · rename_i n
   split at hm
   · rename_i kvs en
     obtain ⟨k, ek, hm⟩ := Option.map_eq_some_iff.mp hm
     cases hm
     cases r2' with
     | ref hn =>
       cases ry
       obtain ⟨xs, hx, hk, _⟩ := hs.dcT en hn
       obtain ⟨hd, dd⟩ := dh_of I hx hk
       obtain ⟨a, rfl, rfl, _, _, hi⟩ := key_at I r1 rx ek
       refine wpAny_notIn_heap (room_of hu) hi hd dd ?_
       exact ⟨.bl (!(atKey xs k).isSome), H, I.tok _, rfl, by rw [hk.look.2]; exact hc.now (.bl _) hs⟩
   · exact back hm
 · exact back hm
theorem dh_frz {pins : List (Addr × Obj)} {σ : L2.St} {H : Hp} {s : Shared} {mu : List Addr} (I : Inv X pins σ H s) {a : Addr} {xs : List (TK × Addr × Value)} {kvs : List (TK × D)} (e : ∃ o u, H a = some (.frz o u) ∧ DictO a xs o) (h : KT X.K H mu kvs xs) : (a == sysModules) = false ∧ s.heap.DictOfH (tkKind X.prog X.w) a xs := by
 obtain ⟨o, u, e, h1, h2, h4, es, ep, h5, h6⟩ := e
 obtain ⟨h3, _⟩ := (show ObjOk X.prog X.w H s.heap a (.frz o u) from I.hok a _ e)
 exact ⟨h1, o, es, ep, h3, h4, h5, h6, fun x hx => ⟨tk_is I _ (h.mem x hx).2 rfl, (h.mem x hx).1⟩, h2⟩
theorem qP (hu : X.A.units + 64 < cLine) : IxR X (r2 X.K (b2 gIxY)) := by
 intro value slice pins s σ H x y v u Q I rx ry h hs2
 obtain ⟨mu, S, d, e, r, S', r1, r2', hs, hm, hc⟩ := rn2 h
 have back : gIxX d e S = some (r, S') → wpAny (model X.prog X.w) X.A (subscriptTail value slice v u) (EP X pins σ Q) X.xe s := fun hm => x_ixX hu value slice pins s σ H x y v u Q I rx ry ⟨mu, S, [d, e], r, S', .cons r1 (.cons r2' .nil), hs, hm, hc⟩ hs2
 have main : ∀ kvs a xs, v = .ref a → KT X.K H mu kvs xs → s.heap.DictOfH (tkKind X.prog X.w) a xs → ((keyT e).bind fun k => (lookD kvs k).map fun x => (x, S)) = some (r, S') → wpAny (model X.prog X.w) X.A (subscriptTail value slice v u) (EP X pins σ Q) X.xe s := fun kvs a xs ev hk dd hm => by
   obtain ⟨k, ek, hm⟩ := Option.bind_eq_some_iff.mp hm
   obtain ⟨z, ez, hm⟩ := Option.map_eq_some_iff.mp hm
   cases hm
   subst ev
   obtain ⟨b, rfl, rfl, _, _, hi⟩ := key_at I r2' ry ek
   obtain ⟨p, v', ep, rv, rd⟩ := hk.look.1 _ ez
   have hT := dd.typeIs
   unfold subscriptTail
   refine wpAny_bind ?_
   rw [getitemInPython_of_ne hT.not_modules]
   refine wpAny_bind (wpAny_specialOf hT PySem.F.slot_dict_getitem.lookup ?_)
   have fin : wpAny (model X.prog X.w) X.A (subscripted slice false (.ref a) (.ref b)) (fun r s₃ => wpAny (model X.prog X.w) X.A (letTemporaryGo value (.ref a) r >>= fun _ => pure r) (EP X pins σ Q) X.xe s₃) X.xe s := by
     rw [hs2]
     exact wpAny_operating (wpAny_mono (wpAny_getItem_heap (room_of hu) hi dd ep (show EP X pins σ Q p.2 _ from ⟨v', H, I.tok _, rv, hc.now rd hs⟩)) (fun r s₃ h₃ => wpAny_bind (wpAny_letTemporaryGo (wpAny_pure h₃))) fun _ _ x => x)
   first
     | exact wpAny_pure (wpAny_bind fin)
     | exact wpAny_bind fin
     | exact fin
 unfold gIxY at hm
 split at hm
 · rename_i n
   split at hm
   · rename_i kvs en
     cases r1 with
     | @ref _ a hn =>
       cases rx
       obtain ⟨xs, hx, hk, _⟩ := hs.dcT en hn
       exact main kvs a xs rfl hk (dh_of I hx hk).2 hm
   · rename_i kvs en
     cases r1 with
     | @ref _ a hn =>
       cases rx
       obtain ⟨xs, hx, hk, _⟩ := (show ObR X.K H mu a (.dcF kvs) from hs.ob n _ a en hn)
       exact main kvs a xs rfl hk (dh_frz I hx hk).2 hm
   · exact back hm
 · exact back hm
theorem s_setY (hu : X.A.units + 64 < cLine) : PSet X (rU X.K (b3 gSetY)) := by
 intro pins s σ H o i v ov iv u Q I ro ri rv h
 obtain ⟨mu, S, ds, d, S', hr, hs, hm, hc⟩ := id h
 cases hr with
 | cons q1 t1 => cases t1 with
   | cons q2 t2 => cases t2 with
     | cons q3 t3 =>
       cases t3
       rename_i d1 d2 d3
       dsimp only [b3] at hm
       have back : gSetX d1 d2 d3 S = some (d, S') → wpAny (model X.prog X.w) X.A (setItem ov iv u) (fun _ s' => ∃ H', Inv X pins σ H' s' ∧ Q H') X.xe s := fun hm => s_setX hu pins s σ H o i v ov iv u Q I ro ri rv ⟨mu, S, [d1, d2, d3], d, S', .cons q1 (.cons q2 (.cons q3 .nil)), hs, hm, hc⟩
       unfold gSetY at hm
       split at hm
       · rename_i n
         split at hm
         · rename_i kvs en
           obtain ⟨k, ek, hm⟩ := Option.bind_eq_some_iff.mp hm
           split at hm
           · rename_i hl
             cases hm
             cases q1 with
             | @ref _ ad hn =>
               cases ro
               obtain ⟨xs, hx, hk, hz⟩ := hs.dcT en hn
               obtain ⟨hd, dd⟩ := dh_of I hx hk
               obtain ⟨b, rfl, rfl, rk, dk, hi⟩ := key_at I q2 ri ek
               refine wpAny_setItem_heap (hsz := hz) (room_of hu) hi dd fun h' dd' hsame => ?_
               have hq : ∃ q, h'.get? _ = some q := let ⟨q, _, _, hq, _⟩ := dd'; ⟨q, hq⟩
               have put : Ext mu mu H (upd H ad (.ext (DictAt ad (storedH xs k b u)))) := Ext.put hx trivial (List.mem_of_getElem? hn)
               refine ⟨_, d_write I (by rw [hx]; exact True.intro) hsame hq (ext_new hd dd'), hc _ mu put (hs.put hn hx trivial ⟨_, upd_same, ((hk.put dk rk rv q3).ext put), ?_⟩)⟩
               rw [← (hk.put dk rk rv q3).length]
               have := length_putD kvs k d3
               omega
           · cases hm
         · rename_i en
           split at hm
           · rename_i k ek
             cases hm
             cases q1 with
             | @ref _ ad hn =>
               cases ro
               obtain ⟨ws, hw, hk⟩ := hs.dct en hn
               cases hk
               obtain ⟨z, hd, vs, rel, dd⟩ := dk_of I.hok hw
               cases rel
               obtain ⟨b, rfl, rfl, rk, dk, hi⟩ := key_at I q2 ri ek
               have dd2 : s.heap.DictOfH (tkKind X.prog X.w) _ [] := empty_of dd
               refine wpAny_setItem_heap (hsz := Nat.zero_le _) (room_of hu) hi dd2 fun h' dd' hsame => ?_
               have hq : ∃ q, h'.get? _ = some q := let ⟨q, _, _, hq, _⟩ := dd'; ⟨q, hq⟩
               have put : Ext mu mu H (upd H ad (.ext (DictAt ad (storedH [] k b u)))) := Ext.put hw trivial (List.mem_of_getElem? hn)
               exact ⟨_, d_write I (by rw [hw]; exact True.intro) hsame hq (ext_new hd dd'), hc _ mu put (hs.put hn hw trivial ⟨_, upd_same, KT.ext put (.cons ⟨rfl, dk, rk, v, rv, q3⟩ .nil), (show 1 ≤ sizeLine by decide)⟩)⟩
           · exact back hm
         · exact back hm
       · exact back hm
end
end Mi
end
section
namespace Mi
open PySem PySem.Spec PyProof.Rows L2
end Mi
end
section
namespace Mi
open PySem PySem.Spec PyProof.Rows L2
noncomputable def truD (S : Sto) (d : D) : Option Bool := match d with
 | .non => some false
 | .bl b => some b
 | .int i => some (i != 0)
 | .str y => if y.length ≤ sizeLine then some ((y.length : Int) != 0) else none
 | .ref n => match S[n]? with
   | some (.dct kvs) => some (!kvs.isEmpty)
   | _ => (seqOf S d).map fun p => !p.2.isEmpty
 | _ => (seqOf S d).map fun p => !p.2.isEmpty
noncomputable def mTr (m : FE) : FT := fun r S => (m r S).bind fun p => (truD p.2 p.1).map fun b => (b, p.2)
section
variable {K : PySem.W.Frag} {H : Hp} {mu : List Addr} {S : Sto}
theorem seq_tru {d : D} {v : V} {b : Bool} (r : Rep K H mu d v) (s : Sim K H mu S) (h : ((seqOf S d).map fun p => !p.2.isEmpty) = some b) : TruV K v H b := by
 obtain ⟨⟨k, xs⟩, e, h⟩ := Option.map_eq_some_iff.mp h
 obtain ⟨a, vs, rfl, q, t⟩ := seqOf_at r s e
 have z : (!xs.isEmpty) = !vs.isEmpty := by cases t <;> rfl
 dsimp only at h
 rw [z] at h
 cases k
 · exact .inr (.inl ⟨vs, q, h.symm⟩)
 · exact .inl ⟨vs, q, h.symm⟩
theorem tru_at {d : D} {v : V} {b : Bool} (r : Rep K H mu d v) (s : Sim K H mu S) (h : truD S d = some b) : TruV K v H b := by
 cases d with
 | non => cases r; cases h; rfl
 | bl k => cases r; cases h; rfl
 | int i => cases r; cases h; rfl
 | str y =>
   rw [truD] at h
   split at h
   · rename_i hl
     cases r; cases h; exact ⟨hl, rfl⟩
   · cases h
 | tup xs => exact seq_tru r s h
 | rol xs => exact seq_tru r s h
 | ref n =>
   rw [truD] at h
   split at h
   · rename_i kvs en
     cases h
     cases r with
     | ref hn =>
       obtain ⟨ws, hw, hk⟩ := s.dct en hn
       refine .inr (.inr ⟨ws, hw, ?_⟩)
       cases hk <;> rfl
   · exact seq_tru r s h
end
theorem xmt_tru {X : Cx} {x : Expr} {f : FE} (h : XE X x f) (he : ∀ whole, isTrue x X.env whole = (do let v ← whole; standAt x.pos; holding [v] (truthy v)) := by intro _; rfl) : XT X x (mTr f) :=
 ⟨pt_imp (pt_truth h.h he) <| by
   rintro σ H Q ⟨r, mu, S, b, S', he, hs, hm, hc⟩
   obtain ⟨⟨d1, S1⟩, e1, hm⟩ := Option.bind_eq_some_iff.mp hm
   obtain ⟨b1, e2, hm⟩ := Option.map_eq_some_iff.mp hm
   cases hm
   exact ⟨r, mu, S, _, _, he, hs, e1, fun v H1 mu1 x1 r1 s1 => ⟨_, tru_at r1 s1 e2, hc H1 mu1 x1 s1⟩⟩⟩
end Mi
end
section
namespace Mi
open PySem PySem.Spec PyProof.Rows L2
section
variable {X : Cx} {pins : List (Addr × Obj)} {σ : L2.St} {H : Hp} {s : Shared} {mu : List Addr}
end
section
variable {X : Cx}
end
@[elab_as_elim] theorem ln0 {P : List Value → Prop} {us : List Value} (l : us.length = 0) (f : P []) : P us := by
 cases us with
 | nil => exact f
 | cons _ _ => cases l
@[elab_as_elim] theorem ln1 {P : List Value → Prop} {us : List Value} (l : us.length = 1) (f : ∀ a, P [a]) : P us := by
 cases us with
 | nil => cases l
 | cons a us => exact ln0 (P := fun us => P (a :: us)) (Nat.succ.inj l) (f a)
@[elab_as_elim] theorem ln2 {P : List Value → Prop} {us : List Value} (l : us.length = 2) (f : ∀ a b, P [a, b]) : P us := by
 cases us with
 | nil => cases l
 | cons a us => exact ln1 (P := fun us => P (a :: us)) (Nat.succ.inj l) (f a)
end Mi
end
section
namespace HT
open PySem PySem.Spec PyProof.Rows
variable {prog : Program} {w : World} {A : Around} {E : Value → Shared → Prop} {s : Shared}
end HT
namespace Mi
open PySem PySem.Spec PyProof.Rows L2
section
variable {X : Cx}
end
end Mi
end
section
namespace HT
open PySem PySem.Spec PyProof.Rows
section
variable {prog : Program} {w : World} {A : Around} {R : Result → Shared → Prop} {I ax L : Addr} {xs : Array Value}
end
section
variable {prog : Program} {w : World} {A : Around} {E : Value → Shared → Prop} {s : Shared}
end
end HT
namespace Mi
open PySem PySem.Spec PyProof.Rows L2
section
variable {X : Cx}
end
end Mi
end
section
namespace Mi
open PySem PySem.Spec PyProof.Rows L2
section
variable {X : Cx}
end
end Mi
end
section
namespace Mi
open PySem PySem.Spec PyProof.Rows L2
section
variable {elt tg iter tg2 iter2 tg3 iter3 : Expr} {ifs ifs2 ifs3 : List Expr} {scope : Scope} {pos : Pos}
end
section
variable {X : Cx}
end
end Mi
end
section
namespace Mi
open PySem PySem.Spec PyProof.Rows L2
section
variable {X : Cx}
end
end Mi
namespace Mi
open PySem PySem.Spec PyProof.Rows L2
section
variable {X : Cx}
end
end Mi
end
section
namespace Mi
open PySem PySem.Spec PyProof.Rows L2
section
variable {X : Cx}
end
end Mi
end
section
namespace Mi
open PySem PySem.Spec PyProof.Rows L2
theorem unds_ints (n : Nat) : ∀ ns : List Int, D.unds n (ns.map D.int) = true
 | [] => rfl
 | _ :: ns => by rw [List.map_cons, D.unds, unds_ints n ns]; rfl
theorem gc_same {n : Nat} {d : D} {S : Sto} (h : S.length = n) : gc n (d, S) = (d, S) := by
 unfold gc
 split
 · rw [show (d, S).2 = S from rfl, ← h, List.take_length]
 · rfl
theorem call_shut {n : Nat} {f : FN} {ds : List D} {S S1 : Sto} {d : D} (h : f ds [] = some (d, S1)) (hn : ds.length = n) (hu : D.unds 0 ds = true) (hd : d.und 0 = true) : mCall n f ds S = some (d, S) := by
 unfold mCall callG
 rw [if_pos hn, if_pos hu, h, Option.map_some, if_pos hd]
theorem call_new {n : Nat} {f : FN} {ds : List D} {S S1 : Sto} {d : D} (h : f ds [] = some (d, S1)) (hn : ds.length = n) (hu : D.unds 0 ds = true) (hd : d.und 0 = false) : mCall n f ds S = some (d.sh S.length, S ++ S1.map (Ob.sh S.length)) := by
 unfold mCall callG
 rw [if_pos hn, if_pos hu, h, Option.map_some, if_neg (by dsimp only; rw [hd]; decide)]
theorem call_open {n : Nat} {f : FN} {ds : List D} {S S1 : Sto} {d : D} (h : f ds S = some (d, S1)) (hn : ds.length = n) (hu : D.unds 0 ds = false) : mCall n f ds S = some (gc S.length (d, S1)) := by
 unfold mCall callG
 rw [if_pos hn, if_neg (by rw [hu]; decide), h, Option.map_some]
theorem call_same {n : Nat} {f : FN} {ds : List D} {S S1 : Sto} {d : D} (h : f ds S = some (d, S1)) (hn : ds.length = n) (hu : D.unds 0 ds = false) (hl : S1.length = S.length) : mCall n f ds S = some (d, S1) := by
 rw [call_open h hn hu, gc_same hl]
theorem mulF1 {i j : Int} (h1 : -(2 ^ 64) < i) (h2 : i < 2 ^ 64) : mulFits i j = true := by
 unfold mulFits; simp only [Bool.or_eq_true, Bool.and_eq_true, decide_eq_true_eq]; exact .inl (.inl ⟨h1, h2⟩)
theorem mulF2 {i j : Int} (h1 : -(2 ^ 64) < j) (h2 : j < 2 ^ 64) : mulFits i j = true := by
 unfold mulFits; simp only [Bool.or_eq_true, Bool.and_eq_true, decide_eq_true_eq]; exact .inl (.inr ⟨h1, h2⟩)
theorem okC_one {S : Sto} {n : Nat} {xs : List D} (h : S[n]? = some (.lst xs)) : okC S [(n, xs)] = true := by
 rw [okC, h]; simp [D.sames_refl, okC]
noncomputable def refs (n : Nat) : Nat → List D
 | 0 => []
 | k + 1 => .ref n :: refs (n + 1) k
theorem unds_mem {n : Nat} : ∀ {xs : List D} {x : D}, D.unds n xs = true → x ∈ xs → x.und n = true
 | y :: ys, x, h, hx => by
   rw [D.unds, Bool.and_eq_true] at h
   rcases List.mem_cons.mp hx with e | e
   · rw [e]; exact h.1
   · exact unds_mem h.2 e
theorem seqOf_und {S : Sto} {d : D} (h : d.und 0 = true) : seqOf S d = seqOf [] d := by
 cases d with
 | ref n => simp [D.und] at h
 | _ => rfl
theorem seqOf_unds {S : Sto} {d : D} (h : d.und 0 = true) {p : Bool × List D} (e : seqOf S d = some p) : D.unds 0 p.2 = true := by
 cases d with
 | ref n => simp [D.und] at h
 | tup xs => cases e; simpa [D.und] using h
 | rol xs => cases e; simpa [D.und] using h
 | _ => cases e
theorem eqL_congr {f f' : D → D → Option Bool} : ∀ {xs ys : List D}, (∀ x ∈ xs, ∀ y ∈ ys, f x y = f' x y) → eqL f xs ys = eqL f' xs ys
 | [], [], _ => rfl
 | [], _ :: _, _ => rfl
 | _ :: _, [], _ => rfl
 | x :: xs, y :: ys, h => by
   rw [eqL, eqL, h x List.mem_cons_self y List.mem_cons_self, eqL_congr fun a ha b hb => h a (List.mem_cons_of_mem _ ha) b (List.mem_cons_of_mem _ hb)]
theorem eqN_und {S : Sto} : ∀ {n : Nat} {d e : D}, d.und 0 = true → e.und 0 = true → eqN S n d e = eqN [] n d e
 | 0, _, _, _, _ => rfl
 | n + 1, d, e, hd, he => by
   rw [eqN, eqN, seqOf_und hd, seqOf_und he]
   cases h1 : seqOf [] d with
   | none => cases seqOf [] e <;> rfl
   | some p =>
     cases h2 : seqOf [] e with
     | none => rfl
     | some q =>
       dsimp only
       have u1 := seqOf_unds hd h1
       have u2 := seqOf_unds he h2
       rw [eqL_congr (f := eqN S n) (f' := eqN [] n) fun x hx y hy => eqN_und (unds_mem u1 hx) (unds_mem u2 hy)]
theorem ltL_congr {f f' g g' : D → D → Option Bool} : ∀ {xs ys : List D}, (∀ x ∈ xs, ∀ y ∈ ys, f x y = f' x y) → (∀ x ∈ xs, ∀ y ∈ ys, g x y = g' x y) → ltL f g xs ys = ltL f' g' xs ys
 | [], [], _, _ => rfl
 | [], _ :: _, _, _ => rfl
 | _ :: _, [], _, _ => rfl
 | x :: xs, y :: ys, h, k => by
   rw [ltL, ltL, h x List.mem_cons_self y List.mem_cons_self, k x List.mem_cons_self y List.mem_cons_self, ltL_congr (fun a ha b hb => h a (List.mem_cons_of_mem _ ha) b (List.mem_cons_of_mem _ hb)) fun a ha b hb => k a (List.mem_cons_of_mem _ ha) b (List.mem_cons_of_mem _ hb)]
theorem ltN_und {S : Sto} : ∀ {n : Nat} {d e : D}, d.und 0 = true → e.und 0 = true → ltN S n d e = ltN [] n d e
 | 0, _, _, _, _ => rfl
 | n + 1, d, e, hd, he => by
   rw [ltN, ltN, seqOf_und hd, seqOf_und he]
   cases ltF d e with
   | some b => rfl
   | none =>
     cases h1 : seqOf [] d with
     | none => rfl
     | some p =>
       cases h2 : seqOf [] e with
       | none => rfl
       | some q =>
         dsimp only
         have u1 := seqOf_unds hd h1
         have u2 := seqOf_unds he h2
         rw [ltL_congr (f := eqN S n) (f' := eqN [] n) (g := ltN S n) (g' := ltN [] n) (fun x hx y hy => eqN_und (unds_mem u1 hx) (unds_mem u2 hy)) fun x hx y hy => ltN_und (unds_mem u1 hx) (unds_mem u2 hy)]
end Mi
end
section
namespace Mi
open PySem PySem.Spec PyProof.Rows L2
open Classical in
noncomputable def rkV (ws : List Value) (x : Value) : Nat := ws.findIdx fun y => decide (y = x)
theorem rkV_at {ws : List Value} {x : Value} (h : x ∈ ws) : ws[rkV ws x]? = some x := by
 have hl : rkV ws x < ws.length := List.findIdx_lt_length_of_exists ⟨x, h, by simp⟩
 rw [List.getElem?_eq_getElem hl]
 have := List.findIdx_getElem (w := hl)
 have e : ws[rkV ws x] = x := of_decide_eq_true this
 rw [e]
noncomputable def kR (ws : List Value) (xs : Array Keyed) (i : Nat) : Nat := (xs[i]?.map fun p => rkV ws p.1).getD 0
theorem kR_congr {ws : List Value} {xs ys : Array Keyed} {i j : Nat} (h : xs[i]? = ys[j]?) : kR ws xs i = kR ws ys j := by unfold kR; rw [h]
noncomputable def Up (ws : List Value) (xs : Array Keyed) (k : Nat) : Prop := ∀ i j, i < j → j < k → kR ws xs i < kR ws xs j
noncomputable def Dn (ws : List Value) (xs : Array Keyed) (k : Nat) : Prop := ∀ i j, i < j → j < k → kR ws xs j < kR ws xs i
structure SoB (κ : SortKind) (a₀ : Array Keyed) (st : SortSt) : Prop where
 perm : (arrOf st).Perm a₀
 kind : kindOf st = κ
 failed : failedOf st = none
 pend : pendingOf st = #[]
theorem SoB.arr {κ : SortKind} {a₀ : Array Keyed} {st : SortSt} (b : SoB κ a₀ st) {xs : Array Keyed} (p : xs.Perm (arrOf st)) : SoB κ a₀ (setArr st xs) := ⟨p.trans b.perm, b.kind, b.failed, b.pend⟩
structure SoC (prog : Program) (w : World) (A : Around) (s : Shared) (κ : SortKind) (ws : List Value) (a₀ : Array Keyed) : Prop where
 nd : ws.Nodup
 keys : (a₀.toList.map (·.1)).Perm ws
 lt : ∀ (x y : Value) (i j : Nat), ws[i]? = some x → ws[j]? = some y → i ≠ j → ∀ (E : Value → Shared → Prop) (Q : Bool → Shared → Prop), Q (decide (i < j)) s → wpAny (model prog w) A (keyLt' κ x y) Q E s
section
variable {prog : Program} {w : World} {A : Around} {E : Value → Shared → Prop} {s : Shared} {κ : SortKind} {ws : List Value} {a₀ : Array Keyed}
theorem SoC.at_ (C : SoC prog w A s κ ws a₀) {xs : Array Keyed} (p : xs.Perm a₀) {i : Nat} (hi : i < a₀.size) : ∃ x q, xs[i]? = some (x, q) ∧ ws[kR ws xs i]? = some x := by
 have hi' : i < xs.size := by rw [p.size_eq]; exact hi
 refine ⟨xs[i].1, xs[i].2, Array.getElem?_eq_getElem hi', ?_⟩
 have hm : xs[i] ∈ a₀.toList := (Array.perm_iff_toList_perm.mp p).mem_iff.mp (by simp)
 have := rkV_at (C.keys.mem_iff.mp (List.mem_map.mpr ⟨_, hm, rfl⟩))
 unfold kR
 rw [Array.getElem?_eq_getElem hi']
 exact this
theorem SoC.inj (C : SoC prog w A s κ ws a₀) {xs : Array Keyed} (p : xs.Perm a₀) {i j : Nat} (hi : i < a₀.size) (hj : j < a₀.size) (h : kR ws xs i = kR ws xs j) : i = j := by
 obtain ⟨x, q, e1, f1⟩ := C.at_ p hi
 obtain ⟨y, r, e2, f2⟩ := C.at_ p hj
 rw [h, f2] at f1
 cases f1
 have nd : (xs.toList.map (·.1)).Nodup := (((Array.perm_iff_toList_perm.mp p).map (·.1)).trans C.keys).nodup_iff.mpr C.nd
 have g1 : (xs.toList.map (·.1))[i]? = some x := by rw [List.getElem?_map, Array.getElem?_toList, e1]; rfl
 have g2 : (xs.toList.map (·.1))[j]? = some x := by rw [List.getElem?_map, Array.getElem?_toList, e2]; rfl
 exact (List.getElem?_inj (List.getElem?_eq_some_iff.mp g1).1 nd).mp (g1.trans g2.symm)
theorem SoC.cmp (C : SoC prog w A s κ ws a₀) {st : SortSt} {i j : Nat} {Q : Option Bool → SortSt → Prop} (b : SoB κ a₀ st) (hi : i < a₀.size) (hj : j < a₀.size) (hij : i ≠ j)
   (h : Q (some (decide (kR ws (arrOf st) i < kR ws (arrOf st) j))) st) : wpS (model prog w) A E s (ltAt' i j) Q st := by
 obtain ⟨x, q, e1, f1⟩ := C.at_ b.perm hi
 obtain ⟨y, r, e2, f2⟩ := C.at_ b.perm hj
 have hne : kR ws (arrOf st) i ≠ kR ws (arrOf st) j := fun z => hij (C.inj b.perm hi hj z)
 rw [ltAt'_eq]
 refine wpS_bind (wpS_get ?_)
 show wpS _ _ _ _ (do let x ← elem' (arrOf st) i; let y ← elem' (arrOf st) j; lt' x y) Q st
 rw [elem'_eq, elem'_eq, e1, e2]
 refine wpS_bind (wpS_pure (wpS_bind (wpS_pure ?_)))
 rw [lt'_eq]
 refine wpS_bind (wpS_get ?_)
 rw [b.kind]
 exact wpS_bind (wpS_lift (wpAny_attempt (C.lt x y _ _ f1 f2 hne _ _ ⟨rfl, wpS_pure h⟩)))
theorem Up.one {xs : Array Keyed} : Up ws xs 1 := fun i j h1 h2 => by omega
theorem Up.snoc {xs : Array Keyed} {n : Nat} (u : Up ws xs n) (h : n = 0 ∨ kR ws xs (n - 1) < kR ws xs n) : Up ws xs (n + 1) := fun i j h1 h2 => by
 by_cases z : j < n
 · exact u i j h1 z
 · have ej : j = n := by omega
   subst ej
   rcases h with h | h
   · omega
   · by_cases z2 : i = j - 1
     · rw [z2]; exact h
     · exact Nat.lt_trans (u i (j - 1) (by omega) (by omega)) h
theorem Dn.snoc {xs : Array Keyed} {n : Nat} (u : Dn ws xs n) (h : kR ws xs n < kR ws xs (n - 1)) : Dn ws xs (n + 1) := fun i j h1 h2 => by
 by_cases z : j < n
 · exact u i j h1 z
 · have ej : j = n := by omega
   subst ej
   by_cases z2 : i = j - 1
   · rw [z2]; exact h
   · exact Nat.lt_trans h (u i (j - 1) (by omega) (by omega))
theorem so_asc (C : SoC prog w A s κ ws a₀) {st : SortSt} {a nrem : Nat} {Q : AscSt → SortSt → Prop} (hn : nrem ≤ a₀.size) (ha : 1 ≤ a) (han : a ≤ nrem) (b : SoB κ a₀ st) (u : Up ws (arrOf st) a)
   (h : ∀ n, a ≤ n → n ≤ nrem → Up ws (arrOf st) n → (n = nrem ∨ kR ws (arrOf st) n < kR ws (arrOf st) (n - 1)) → Q (none, n) st) : wpS (model prog w) A E s (ascLoop a nrem) Q st := by
 unfold ascLoop
 refine wpS_forRange (fun x c st' => st' = st ∧ c = (none, x) ∧ Up ws (arrOf st) x) ?_ ?_ ⟨rfl, rfl, u⟩
 · rintro x c st' h1 h2 ⟨rfl, rfl, u'⟩
   refine wpS_bind (C.cmp b (by omega) (by omega) (by omega) ?_)
   by_cases z : kR ws (arrOf st') x < kR ws (arrOf st') (x - 1)
   · simp only [z, decide_true, if_true]
     exact wpS_pure (h x h1 (by omega) u' (.inr z))
   · simp only [z, decide_false, Bool.false_eq_true, if_false]
     have : kR ws (arrOf st') x ≠ kR ws (arrOf st') (x - 1) := fun e => by have := C.inj b.perm (by omega) (by omega) e; omega
     exact wpS_pure ⟨rfl, rfl, u'.snoc (.inr (by omega))⟩
 · rintro c st' ⟨rfl, rfl, u'⟩
   rw [Nat.max_eq_right han] at u' ⊢
   exact h nrem han (Nat.le_refl _) u' (.inl rfl)
theorem so_tail (C : SoC prog w A s κ ws a₀) {st : SortSt} {n nrem : Nat} {Q : Option Nat → SortSt → Prop} (hn : nrem ≤ a₀.size) (h1 : 1 ≤ n) (hnn : n ≤ nrem) (b : SoB κ a₀ st) (d : Dn ws (arrOf st) n)
   (h : ∀ m st', SoB κ a₀ st' → m ≤ nrem → Up ws (arrOf st') m → Q (some m) st') : wpS (model prog w) A E s (tail3 n nrem) Q st := by
 unfold tail3
 have hsz : n ≤ (arrOf st).size := by rw [b.perm.size_eq]; omega
 have b' : SoB κ a₀ (setArr st (mirror (arrOf st) 0 n ((n - 0) / 2))) := b.arr (mirror_perm _ _ _ _)
 refine wpS_bind (wpS_reverse (wpS_bind (so_asc C hn h1 hnn b' (fun i j h3 h4 => ?_) fun m h3 h4 u _ => wpS_pure (h m _ b' h4 u))))
 have g : ∀ k, k < n → kR ws (mirror (arrOf st) 0 n ((n - 0) / 2)) k = kR ws (arrOf st) (n - 1 - k) := fun k hk => kR_congr (by
   rw [getElem?_mirror_all hsz, if_pos (by omega)]
   congr 1; omega)
 show kR ws (mirror (arrOf st) 0 n ((n - 0) / 2)) i < kR ws (mirror (arrOf st) 0 n ((n - 0) / 2)) j
 rw [g i (by omega), g j h4]
 exact d _ _ (by omega) (by omega)
theorem so_desc (C : SoC prog w A s κ ws a₀) {st : SortSt} {n nrem : Nat} {Q : DescSt → SortSt → Prop} (hn : nrem ≤ a₀.size) (h1 : 1 ≤ n) (hnn : n ≤ nrem) (b : SoB κ a₀ st) (d : Dn ws (arrOf st) n)
   (h : ∀ m, n ≤ m → m ≤ nrem → Dn ws (arrOf st) m → Q (none, m, 0) st) : wpS (model prog w) A E s (descLoop n nrem) Q st := by
 unfold descLoop
 refine wpS_forRange (fun x c st' => st' = st ∧ c = (none, x, 0) ∧ Dn ws (arrOf st) x) ?_ ?_ ⟨rfl, rfl, d⟩
 · rintro x c st' h2 h3 ⟨rfl, rfl, d'⟩
   dsimp only
   refine wpS_bind (C.cmp b (by omega) (by omega) (by omega) ?_)
   by_cases z : kR ws (arrOf st') x < kR ws (arrOf st') (x - 1)
   · simp only [z, decide_true, if_true]
     exact wpS_pure ⟨rfl, rfl, d'.snoc z⟩
   · simp only [z, decide_false, Bool.false_eq_true, if_false]
     have z2 : kR ws (arrOf st') (x - 1) < kR ws (arrOf st') x := by
       have : kR ws (arrOf st') x ≠ kR ws (arrOf st') (x - 1) := fun e => by have := C.inj b.perm (by omega) (by omega) e; omega
       omega
     refine wpS_bind (C.cmp b (by omega) (by omega) (by omega) ?_)
     simp only [z2, decide_true, if_true]
     exact wpS_pure (h x h2 (by omega) d')
 · rintro c st' ⟨rfl, rfl, d'⟩
   rw [Nat.max_eq_right hnn] at d' ⊢
   exact h nrem hnn (Nat.le_refl _) d'
theorem so_run (C : SoC prog w A s κ ws a₀) {st : SortSt} {nrem : Nat} {Q : Option Nat → SortSt → Prop} (hn : nrem ≤ a₀.size) (h1 : 1 ≤ nrem) (b : SoB κ a₀ st)
   (h : ∀ m st', SoB κ a₀ st' → m ≤ nrem → Up ws (arrOf st') m → Q (some m) st') : wpS (model prog w) A E s (countRun' 0 nrem) Q st := by
 rw [countRun0_eq]
 refine wpS_bind (so_asc C hn (Nat.le_refl 1) h1 b .one fun n h2 h3 u or => ?_)
 dsimp only
 by_cases z : n = nrem
 · rw [if_pos (by simpa using z)]
   exact wpS_pure (h n st b h3 u)
 · rw [if_neg (by simpa using z)]
   have hl := or.resolve_left z
   by_cases z2 : n > 1
   · rw [if_pos z2]
     have := u 0 (n - 1) (by omega) (by omega)
     refine wpS_bind (C.cmp b (by omega) (by omega) (by omega) ?_)
     simp only [this, decide_true, if_true]
     exact wpS_pure (h n st b h3 u)
   · rw [if_neg z2]
     have e : n = 1 := by omega
     subst e
     unfold descPart
     refine wpS_bind (wpS_lift (wpAny_rule ⟨rfl, ?_⟩))
     refine wpS_bind (so_desc C hn (by omega) (by omega) b (fun i j h4 h5 => ?_) fun m h4 h5 d => ?_)
     · have ei : i = 0 := by omega
       have ej : j = 1 := by omega
       subst ei; subst ej
       exact hl
     · dsimp only
       rw [if_neg (by omega)]
       exact so_tail C hn (by omega) h5 b d h
theorem so_ins (C : SoC prog w A s κ ws a₀) {st : SortSt} {n ok : Nat} {Q : Bool → SortSt → Prop} (hn : n ≤ a₀.size) (hok : ok ≤ n) (b : SoB κ a₀ st) (u : Up ws (arrOf st) ok)
   (h : ∀ st', SoB κ a₀ st' → Up ws (arrOf st') n → Q true st') : wpS (model prog w) A E s (binarySort' 0 n ok) Q st := by
 rw [binarySort'_eq]
 simp only [Nat.zero_add]
 refine wpS_bind (wpS_mono (wpS_forRange (fun k c st' => c = (none, ()) ∧ SoB κ a₀ st' ∧ Up ws (arrOf st') (min k n)) (Q := fun c st' => c = (none, ()) ∧ SoB κ a₀ st' ∧ Up ws (arrOf st') n) ?_ ?_ ⟨rfl, b, fun i j h1 h2 => ?_⟩) ?_)
 · rintro k c st' hk1 hk2 ⟨rfl, b', u'⟩
   rw [Nat.min_eq_left (by omega)] at u'
   have hks : k < (arrOf st').size := by rw [b'.perm.size_eq]; omega
   refine wpS_bind (wpS_mono (wpS_forRange (fun x c st2 => st2 = st' ∧ ∃ l r, c = (none, l, r) ∧ l ≤ r ∧ r ≤ k ∧ r - l ≤ k - x ∧ (∀ i, i < l → kR ws (arrOf st') i < kR ws (arrOf st') k) ∧ ∀ i, r ≤ i → i < k → kR ws (arrOf st') k < kR ws (arrOf st') i)
     (Q := fun c st2 => st2 = st' ∧ ∃ l r, c = (none, l, r) ∧ l ≤ k ∧ (∀ i, i < l → kR ws (arrOf st') i < kR ws (arrOf st') k) ∧ ∀ i, l ≤ i → i < k → kR ws (arrOf st') k < kR ws (arrOf st') i) ?_ ?_ ⟨rfl, 0, k, rfl, by omega, by omega, by omega, fun i h1 => by omega, fun i h1 h2 => by omega⟩) ?_)
   · rintro x c st2 _ hx ⟨rfl, l, r, rfl, h1, h2, h3, h4, h5⟩
     dsimp only
     by_cases z : l ≥ r
     · rw [if_pos z]
       have e : l = r := by omega
       subst e
       exact wpS_pure ⟨rfl, l, l, rfl, h2, h4, h5⟩
     · rw [if_neg z]
       refine wpS_bind (C.cmp b' (by omega) (by omega) (by omega) ?_)
       by_cases z2 : kR ws (arrOf st2) k < kR ws (arrOf st2) ((l + r) / 2)
       · simp only [z2, decide_true, if_true]
         refine wpS_pure ⟨rfl, l, (l + r) / 2, rfl, by omega, by omega, by omega, h4, fun i h6 h7 => ?_⟩
         by_cases z3 : (l + r) / 2 = i
         · rw [← z3]; exact z2
         · exact Nat.lt_trans z2 (u' _ i (by omega) h7)
       · simp only [z2, decide_false, Bool.false_eq_true, if_false]
         refine wpS_pure ⟨rfl, (l + r) / 2 + 1, r, rfl, by omega, by omega, by omega, fun i h6 => ?_, h5⟩
         have z4 : kR ws (arrOf st2) ((l + r) / 2) < kR ws (arrOf st2) k := by
           have : kR ws (arrOf st2) k ≠ kR ws (arrOf st2) ((l + r) / 2) := fun e => by have := C.inj b'.perm (by omega) (by omega) e; omega
           omega
         by_cases z3 : i = (l + r) / 2
         · rw [z3]; exact z4
         · exact Nat.lt_trans (u' i _ (by omega) (by omega)) z4
   · rintro c st2 ⟨rfl, l, r, rfl, h1, h2, h3, h4, h5⟩
     have e : l = r := by omega
     subst e
     exact ⟨rfl, l, l, rfl, h2, h4, h5⟩
   · rintro c st2 ⟨rfl, l, r, rfl, h1, h2, h3⟩
     show wpS _ _ _ _ (do moveDown' k l; pure (ForInStep.yield (none, ()))) _ _
     rw [moveDown'_eq]
     refine wpS_bind (wpS_modify (wpS_pure ⟨rfl, b'.arr (bubble_perm _ _ _), ?_⟩))
     rw [Nat.min_eq_left (by omega)]
     have g : ∀ i, kR ws (bubble (arrOf st2) k (k - l)) i = if i = l then kR ws (arrOf st2) k else if l < i ∧ i ≤ k then kR ws (arrOf st2) (i - 1) else kR ws (arrOf st2) i := fun i => by
       have e := getElem?_bubble hks (k - l) (by omega) i
       rw [show k - (k - l) = l by omega] at e
       by_cases z1 : i = l
       · rw [if_pos z1] at e ⊢; exact kR_congr e
       · rw [if_neg z1] at e ⊢
         by_cases z2 : l < i ∧ i ≤ k
         · rw [if_pos z2] at e ⊢; exact kR_congr e
         · rw [if_neg z2] at e ⊢; exact kR_congr e
     intro i j h4 h5
     show kR ws (bubble (arrOf st2) k (k - l)) i < kR ws (bubble (arrOf st2) k (k - l)) j
     rw [g, g]
     repeat' split
     all_goals first
       | (exfalso; omega)
       | exact h2 _ (by omega)
       | exact h3 _ (by omega) (by omega)
       | exact u' _ _ (by omega) (by omega)
 · rintro c st' ⟨hc, b', u'⟩
   refine ⟨hc, b', ?_⟩
   rwa [show min (max (max ok 1) n) n = n by omega] at u'
 · by_cases z : ok = 0
   · omega
   · exact u i j h1 (by omega)
 · rintro c st' ⟨rfl, b', u'⟩
   exact wpS_pure (h st' b' u')
theorem so_all (C : SoC prog w A s κ ws a₀) {st : SortSt} {Q : Unit → SortSt → Prop} (b : SoB κ a₀ st) (h2 : 2 ≤ a₀.size) (h64 : a₀.size < 64)
   (h : ∀ st', (arrOf st').Perm a₀ → failedOf st' = none → Up ws (arrOf st') a₀.size → Q () st') : wpS (model prog w) A E s sortRuns' Q st := by
 rw [sortRuns'_eq]
 refine wpS_bind (wpS_get ?_)
 dsimp only
 have hmr : minRun' a₀.size a₀.size 0 = a₀.size := by
   generalize hz : a₀.size = z at *
   cases z with
   | zero => omega
   | succ f => rw [minRun'_succ, if_pos h64]
 simp only [b.perm.size_eq, hmr]
 have done : ∀ st', SoB κ a₀ st' → Up ws (arrOf st') a₀.size → (arrOf (setPending st' ((pendingOf st').push (0, a₀.size, 0)))).Perm a₀ ∧ failedOf (setPending st' ((pendingOf st').push (0, a₀.size, 0))) = none ∧ pendingOf (setPending st' ((pendingOf st').push (0, a₀.size, 0))) = #[(0, a₀.size, 0)] ∧ Up ws (arrOf (setPending st' ((pendingOf st').push (0, a₀.size, 0)))) a₀.size := fun st' b' u' =>
   ⟨b'.perm, b'.failed, by show (pendingOf st').push _ = _; rw [b'.pend]; rfl, u'⟩
 refine wpS_bind (wpS_mono (wpS_forRange
   (fun x c st' => (x = 0 ∧ c = (none, 0) ∧ SoB κ a₀ st') ∨ (1 ≤ x ∧ c = (none, a₀.size) ∧ (arrOf st').Perm a₀ ∧ failedOf st' = none ∧ pendingOf st' = #[(0, a₀.size, 0)] ∧ Up ws (arrOf st') a₀.size))
   (Q := fun c st' => c = (none, a₀.size) ∧ (arrOf st').Perm a₀ ∧ failedOf st' = none ∧ pendingOf st' = #[(0, a₀.size, 0)] ∧ Up ws (arrOf st') a₀.size) ?_ ?_ (.inl ⟨rfl, rfl, b⟩)) ?_)
 · rintro x c st' _ hx (⟨rfl, rfl, b'⟩ | ⟨hx1, rfl, D⟩)
   · dsimp only
     rw [if_neg (by omega)]
     simp only [Nat.sub_zero, Nat.min_self, Nat.zero_add]
     refine wpS_bind (so_run C (Nat.le_refl _) (by omega) b' fun m st2 b2 hm u2 => ?_)
     dsimp only
     by_cases z : m < a₀.size
     · rw [if_pos z]
       refine wpS_bind (wpS_lift (wpAny_rule ⟨rfl, ?_⟩))
       refine wpS_bind (so_ins C (Nat.le_refl _) hm b2 u2 fun st3 b3 u3 => ?_)
       simp only [Bool.not_true, Bool.false_eq_true, if_false]
       refine wpS_bind (wpS_get ?_)
       rw [b3.pend]
       exact wpS_bind (wpS_modify (wpS_pure (.inr ⟨by omega, rfl, done st3 b3 u3⟩)))
     · rw [if_neg z]
       have e : m = a₀.size := by omega
       subst e
       refine wpS_bind (wpS_get ?_)
       rw [b2.pend]
       exact wpS_bind (wpS_modify (wpS_pure (.inr ⟨by omega, rfl, done st2 b2 u2⟩)))
   · dsimp only
     rw [if_pos (Nat.le_refl _)]
     exact wpS_pure ⟨rfl, D⟩
 · rintro c st' (⟨hx, _⟩ | ⟨_, hc, D⟩)
   · omega
   · exact ⟨hc, D⟩
 · rintro c st' ⟨rfl, D⟩
   dsimp only
   refine wpS_bind (wpS_mono (wpS_forRange (fun _ c st2 => st2 = st' ∧ c = (none, ())) (Q := fun c st2 => st2 = st' ∧ c = (none, ())) ?_ (fun _ _ hh => hh) ⟨rfl, rfl⟩) ?_)
   · rintro x c st2 _ _ ⟨rfl, rfl⟩
     refine wpS_bind (wpS_get ?_)
     rw [if_pos (by rw [D.2.2.1]; exact Nat.le_refl 1)]
     exact wpS_pure ⟨rfl, rfl⟩
   · rintro c st2 ⟨rfl, rfl⟩
     exact wpS_pure (h _ D.1 D.2.1 D.2.2.2)
theorem so_out (C : SoC prog w A s κ ws (pairsOf vs)) {xs : Array Keyed} (p : xs.Perm (pairsOf vs)) (u : Up ws xs (pairsOf vs).size) : xs.map (·.2) = ws.toArray := by
 have hl : ws.length = (pairsOf vs).size := by rw [← C.keys.length_eq, List.length_map]; simp
 have hge : ∀ i, i < (pairsOf vs).size → i ≤ kR ws xs i := by
   intro i
   induction i with
   | zero => intro _; omega
   | succ i ih => intro h; have := ih (by omega); have := u i (i + 1) (by omega) h; omega
 have hle : ∀ d i, i + d + 1 = (pairsOf vs).size → kR ws xs i ≤ i := by
   intro d
   induction d with
   | zero =>
     intro i h
     obtain ⟨x, q, _, f⟩ := C.at_ p (i := i) (by omega)
     have := (List.getElem?_eq_some_iff.mp f).1
     omega
   | succ d ih =>
     intro i h
     have := ih (i + 1) (by omega)
     have := u i (i + 1) (by omega) (by omega)
     omega
 apply Array.ext
 · rw [Array.size_map, p.size_eq, ← hl]; simp
 · intro i h1 h2
   rw [Array.size_map, p.size_eq] at h1
   have hk : kR ws xs i = i := Nat.le_antisymm (hle ((pairsOf vs).size - 1 - i) i (by omega)) (hge i h1)
   obtain ⟨x, q, e, f⟩ := C.at_ p h1
   rw [hk] at f
   have hm : (x, q) ∈ (pairsOf vs).toList := (Array.perm_iff_toList_perm.mp p).mem_iff.mp (Array.mem_toList_iff.mpr (Array.mem_of_getElem? e))
   rw [pairsOf_toList] at hm
   have hq : x = q := (mem_zip_self hm).1
   have g1 : (xs.map (·.2))[i]? = some q := by rw [Array.getElem?_map, e]; rfl
   have g2 : ws.toArray[i]? = some x := by rw [List.getElem?_toArray]; exact f
   rw [Array.getElem?_eq_getElem (by rw [Array.size_map, p.size_eq]; exact h1)] at g1
   rw [Array.getElem?_eq_getElem h2] at g2
   rw [Option.some.inj g1, Option.some.inj g2, hq]
end
end Mi
end
section
namespace Mi
open PySem PySem.Spec PyProof.Rows L2
section
variable {prog : Program} {w : World} {A : Around} {E : Value → Shared → Prop} {s : Shared}
theorem one_rc {p q : Value} {b : Bool} {Q : Bool → Shared → Prop} (r : RcLt A.in1 s p q b) (h : Q b s) : wpAny (model prog w) A (oneLt' false p q) Q E s := by
 rw [oneLt'_eq]
 simp only [Bool.false_eq_true, if_false]
 exact wpAny_bind (wpAny_of_in1 (r prog w E _ (wpAny_truthy_bool h)))
theorem keyLt_tuples (f : Bool) (x y : Value) : keyLt' (tuples' f) x y = (do
   let xs ← Builtin.List.listItems x
   let ys ← Builtin.List.listItems y
   for ((p, q), i) in (xs.toList.zip ys.toList).zipIdx do
     if !(← eqBool p q) then return ← oneLt' (f && i == 0) p q
   return decide (xs.size < ys.size)) := rfl
theorem kl_tup {a b : Addr} {us zs : List Value} {k : Bool} {Q : Bool → Shared → Prop} (ha : IsTup s.heap a us.toArray) (hb : IsTup s.heap b zs.toArray) (L : LtS A s us zs k) (h : Q k s) :
   wpAny (model prog w) A (keyLt' (tuples' false) (.ref a) (.ref b)) Q E s := by
 rw [keyLt_tuples]
 obtain ⟨o, e1, c1, _, d1⟩ := ha
 obtain ⟨o2, e2, c2, _, d2⟩ := hb
 refine wpAny_bind (listItems_at e1 d1 (wpAny_bind (listItems_at e2 d2 ?_)))
 simp only [Bool.false_and]
 refine wpAny_bind (wpAny_mono (wpAny_forIn_list _ (fun rest c s' => s' = s ∧ c = (none, ()) ∧ ∃ (i : Nat) (vs ws : List Value), rest = (vs.zip ws).zipIdx i ∧ LtS A s vs ws k ∧ vs.length + zs.length = ws.length + us.length)
   (fun c s' => s' = s ∧ (c = (some k, ()) ∨ (c = (none, ()) ∧ k = decide (us.length < zs.length)))) ?_ ?_ _ _ ⟨rfl, rfl, 0, us, zs, rfl, L, by omega⟩) ?_ fun _ _ e => e)
 · rintro x rest c s' ⟨rfl, rfl, i, vs, ws, hr, L', hl⟩
   cases L' with
   | nn => simp at hr
   | nc _ _ => simp at hr
   | cn _ _ => simp at hr
   | @eq p q ps qs _ e t =>
     rw [List.zip_cons_cons, List.zipIdx_cons] at hr
     cases hr
     refine wpAny_bind (e.of_in1 prog w E _ ?_)
     simp only [Bool.not_true, Bool.false_eq_true, if_false]
     exact wpAny_pure ⟨rfl, rfl, i + 1, ps, qs, rfl, t, by simp at hl; omega⟩
   | @lt p q ps qs _ e t =>
     rw [List.zip_cons_cons, List.zipIdx_cons] at hr
     cases hr
     refine wpAny_bind (e.of_in1 prog w E _ ?_)
     simp only [Bool.not_false, if_true]
     exact wpAny_bind (one_rc t (wpAny_pure ⟨rfl, .inl rfl⟩))
 · rintro c s' ⟨rfl, rfl, i, vs, ws, hr, L', hl⟩
   refine ⟨rfl, .inr ⟨rfl, ?_⟩⟩
   cases L' with
   | nn => simp at hl; rw [decide_eq_false (by omega)]
   | nc _ _ => simp at hl; rw [decide_eq_true (by omega)]
   | cn _ _ => simp at hl; rw [decide_eq_false (by omega)]
   | eq _ _ => simp at hr
   | lt _ _ => simp at hr
 · rintro c s' ⟨rfl, z⟩
   rcases z with rfl | ⟨rfl, z⟩
   · exact wpAny_pure h
   · refine wpAny_pure ?_
     rw [List.size_toArray, List.size_toArray, ← z]
     exact h
end
end Mi
end
section
namespace Mi
open PySem PySem.Spec PyProof.Rows L2
section
variable {prog : Program} {w : World} {A : Around} {E : Value → Shared → Prop} {s : Shared}
theorem mapM_wp {M : Model} {α β : Type} {f : α → Sem β} {P : α → β → Prop} : ∀ {l : List α} {Q : List β → Shared → Prop}, (∀ v ∈ l, ∃ r, P v r ∧ ∀ Q : β → Shared → Prop, Q r s → wpAny M A (f v) Q E s) →
   (∀ rs, rs.length = l.length → (∀ r ∈ rs, ∃ v ∈ l, P v r) → Q rs s) → wpAny M A (l.mapM f) Q E s
 | [], Q, _, q => by rw [List.mapM_nil]; exact wpAny_pure (q [] rfl fun r hr => by cases hr)
 | v :: l, Q, h, q => by
   rw [List.mapM_cons]
   obtain ⟨r, p, hr⟩ := h v List.mem_cons_self
   refine wpAny_bind (hr _ ?_)
   refine wpAny_bind (mapM_wp (fun v hv => h v (List.mem_cons_of_mem _ hv)) fun rs hl hm => ?_)
   refine wpAny_pure (q (r :: rs) (by rw [List.length_cons, List.length_cons, hl]) fun x hx => ?_)
   rcases List.mem_cons.mp hx with z | z
   · exact ⟨v, List.mem_cons_self, by rw [z]; exact p⟩
   · obtain ⟨v', h1, h2⟩ := hm x z
     exact ⟨v', List.mem_cons_of_mem _ h1, h2⟩
theorem first_eq (v : Value) : firstOfTuple' v = (do
   if (← typeOf v) != .type "tuple" then return none
   return (← Builtin.List.listItems v)[0]?) := rfl
theorem kk_tup {vs : List Value} {Q : SortKind → Shared → Prop} (hne : vs ≠ []) (h : ∀ v ∈ vs, ∃ a p ps b qs, v = .ref a ∧ IsTup s.heap a (p :: ps).toArray ∧ p = .ref b ∧ IsTup s.heap b qs) (q : Q (tuples' false) s) :
   wpAny (model prog w) A (keyKind' vs.toArray) Q E s := by
 rw [keyKind'_eq, List.mapM_toArray, ← bind_pure_comp]
 refine wpAny_bind (wpAny_bind (mapM_wp (P := fun _ r => ∃ b qs, r = some (.ref b) ∧ IsTup s.heap b qs) (fun v hv => ?_) fun rs hl hr => wpAny_pure ?_))
 · obtain ⟨a, p, ps, b, qs, rfl, ⟨o, e1, c1, _, d1⟩, rfl, ht⟩ := h v hv
   refine ⟨some (.ref b), ⟨b, qs, rfl, ht⟩, fun Q q => ?_⟩
   rw [first_eq]
   refine wpAny_bind (wpAny_typeOf (T := "tuple") ⟨o, e1, c1⟩ ?_)
   rw [if_neg (by decide)]
   refine wpAny_bind (listItems_at e1 d1 (wpAny_pure ?_))
   simpa using q
 · have hs : rs.toArray.all (·.isSome) = true := by
     rw [List.all_toArray, List.all_eq_true]
     intro r hm
     obtain ⟨v, _, b, qs, e, _⟩ := hr r hm
     rw [e]; rfl
   rw [if_pos hs]
   refine wpAny_bind (wpAny_rule ?_)
   rw [oneTypeOnly'_eq]
   have hf : rs.toArray.filterMap id = (rs.filterMap id).toArray := by simp
   rw [hf, List.mapM_toArray, ← bind_pure_comp]
   refine wpAny_bind (wpAny_bind (wpAny_bind (mapM_wp (P := fun _ t => t = Value.type "tuple") (fun v hv => ?_) fun ts htl ht => wpAny_pure ?_)))
   · obtain ⟨r, hm, e⟩ := List.mem_filterMap.mp hv
     obtain ⟨v', _, b, qs, e', ⟨o, e1, c1, _⟩⟩ := hr r hm
     rw [e'] at e
     cases e
     exact ⟨_, rfl, fun Q q => wpAny_typeOf (T := "tuple") ⟨o, e1, c1⟩ q⟩
   · cases ts with
     | nil =>
       exfalso
       cases rs with
       | nil => exact hne (List.length_eq_zero_iff.mp hl.symm)
       | cons r rs =>
         obtain ⟨_, _, b, _, e, _⟩ := hr r List.mem_cons_self
         rw [e] at htl
         simp at htl
     | cons t ts =>
       have all : ∀ x ∈ t :: ts, x = Value.type "tuple" := fun x hx => by obtain ⟨_, _, z⟩ := ht x hx; exact z
       have e0 := all t List.mem_cons_self
       subst e0
       have ha : ((Value.type "tuple" :: ts).toArray.all fun x => x == Value.type "tuple") = true := by
         rw [List.all_toArray, List.all_eq_true]
         intro x hx
         rw [all x hx]; rfl
       show wpAny _ _ (pure (if ((Value.type "tuple" :: ts).toArray.all fun x => x == Value.type "tuple") = true then some (Value.type "tuple") else none)) _ _ _
       rw [if_pos ha]
       exact wpAny_pure (wpAny_pure q)
theorem so_sort {a : Addr} {vs ws : List Value} {n : Nat} {κ : SortKind} {P : Fin → Shared → Prop} (ho : s.heap.get? a = some (seqObj "list" vs.toArray n)) (h64 : vs.length < 64) (hp : vs.Perm ws)
   (hC : ∀ h', (∀ b o, b ≠ a → s.heap.get? b = some o → h'.get? b = some o) → 2 ≤ vs.length → SoC prog w A { s with heap := h' } κ ws (pairsOf vs) ∧ ∀ Q : SortKind → Shared → Prop, Q κ { s with heap := h' } → wpAny (model prog w) A (keyKind' vs.toArray) Q E { s with heap := h' })
   (h : P (.done (.ret .none)) { s with heap := sortedHeap s.heap a vs ws.toArray }) : wpAny (model prog w) A (Builtin.«list.sort» ⟨[.ref a], []⟩) P E s := by
 rw [list_sort_plain]
 have ha : a < s.heap.objs.size := Heap.lt_size ho
 refine wpAny_bind (listItems_at ho rfl ?_)
 refine wpAny_bind (listUpdate_at ho rfl ?_)
 obtain ⟨e1, ho1⟩ : ∃ e1, (s.heap.update a (Obj.mapSeq fun _ => #[])).get? a = some (seqObj "list" #[] e1) := ⟨_, get?_update_seq ho (fun _ => #[])⟩
 refine wpAny_bind (seqEpoch_at ho1 rfl (wpAny_bind (wpAny_newTuple (wpAny_bind (wpAny_newList (wpAny_holding ?_))))))
 have keep : ∀ b o, b ≠ a → s.heap.get? b = some o → (((s.heap.update a (Obj.mapSeq fun _ => #[])).push (seqObj "tuple" vs.toArray 0)).push (seqObj "list" #[] 0)).get? b = some o := fun b o hb e =>
   Heap.get?_push_of_some _ (Heap.get?_push_of_some _ (by rw [Heap.get?_update_ne _ _ _ _ hb]; exact e))
 have ho6 : (((s.heap.update a (Obj.mapSeq fun _ => #[])).push (seqObj "tuple" vs.toArray 0)).push (seqObj "list" #[] 0)).get? a = some (seqObj "list" #[] e1) := Heap.get?_push_of_some _ (Heap.get?_push_of_some _ ho1)
 show wpAny (model prog w) A _ P E { s with heap := ((s.heap.update a (Obj.mapSeq fun _ => #[])).push (seqObj "tuple" vs.toArray 0)).push (seqObj "list" #[] 0) }
 dsimp only
 have hsz : vs.toArray.size = vs.length := by simp
 have hpl := hp.length_eq
 have fin : ∀ xs : Array Keyed, xs.map (·.2) = ws.toArray → P (.done (.ret .none)) { s with heap := sortedHeap s.heap a vs (xs.map (·.2)) } := fun xs e => by rw [e]; exact h
 by_cases h2 : vs.toArray.size < 2
 · rw [if_pos h2, if_pos h2]
   refine wpAny_bind (wpAny_pure ?_)
   rw [StateT.run_pure]
   refine wpAny_bind (wpAny_pure (wpAny_bind (seqEpoch_at ho6 rfl ?_)))
   have e : ((vs.toArray.zip vs.toArray).map (·.2) : Array Value) = ws.toArray := by
     have : vs = ws := by
       match vs, ws, hp, h2 with
       | [], ws, hp, _ => exact (List.nil_perm.mp hp).symm
       | [x], ws, hp, _ => exact (List.singleton_perm.mp hp).symm ▸ rfl
       | _ :: _ :: _, _, _, h2 => simp at h2; omega
     subst this
     apply Array.ext'
     simp
     exact List.map_snd_zip (Nat.le_refl _)
   refine wpAny_bind (listUpdate_at ho6 rfl ?_ (hsz2 := by
     show (Array.map (·.2) (vs.toArray.zip vs.toArray)).size ≤ _
     rw [e, List.size_toArray, ← hpl, sizeLine_eq]; omega))
   simp only [bne_self_eq_false, Bool.false_eq_true, if_false]
   exact wpAny_pure (fin _ e)
 · rw [if_neg h2, if_neg h2]
   obtain ⟨C, K⟩ := hC _ keep (by omega)
   refine wpAny_bind (K _ ?_)
   refine wpAny_bind (wpAny_mono (so_all C (st := SortSt.mk' κ (vs.toArray.zip vs.toArray) #[] 7 none)
     (Q := fun _ st' => (arrOf st').Perm (pairsOf vs) ∧ failedOf st' = none ∧ Up ws (arrOf st') (pairsOf vs).size) ⟨Array.Perm.refl _, rfl, rfl, rfl⟩ (by rw [pairsOf_size]; omega) (by rw [pairsOf_size]; exact h64) fun st' a1 a2 a3 => ⟨a1, a2, a3⟩) ?_ fun _ _ e => e)
   rintro ⟨⟨⟩, st'⟩ s' ⟨rfl, hq, hf, hu⟩
   have e := so_out C hq hu
   refine wpAny_bind (seqEpoch_at ho6 rfl ?_)
   refine wpAny_bind (listUpdate_at ho6 rfl ?_ (hsz2 := by
     show (Array.map (·.2) (arrOf st')).size ≤ _
     rw [e, List.size_toArray, ← hpl, sizeLine_eq]; omega))
   rw [hf]
   simp only [bne_self_eq_false, Bool.false_eq_true, if_false]
   exact wpAny_pure (fin _ e)
end
end Mi
end
section
namespace Mi
open PySem PySem.Spec PyProof.Rows L2
noncomputable abbrev ItIs (h : Heap) (it d : Addr) (f0 f1 : Value) (i n ep : Nat) (ok ov : Value) : Prop :=
 h.get? it = some { cls := .type "dict_itemiterator", dict := none, data := .fields #[f0, f1, .ref d, .int i 0, .int n 0, .int ep 0, ok, ov], slots := #[] }
section
variable {prog : Program} {w : World} {A : Around} {E : Value → Shared → Prop} {s : Shared}
theorem wpAny_lia {M : Model} {a : Addr} {Q : Option Obj → Shared → Prop} (h : Q (s.heap.get? a) s) : wpAny M A (loadIfAlive a) Q E s := fun Γ p hΓ => h
noncomputable def Outs (h : Heap) (f0 : Value) : Prop := f0 = .none ∨ ∃ a : Addr, f0 = rawInt a ∧ ∃ o, h.get? a = some o
theorem it_next {it d : Addr} {f0 f1 ok ov : Value} {i ep : Nat} {es : Array DictEntry} {o : Obj} {Q : Option Value → Shared → Prop} (hit : ItIs s.heap it d f0 f1 i es.size ep ok ov) (hd : s.heap.get? d = some o) (hdd : o.data = .dict es ep) (hi : i < es.size) (hf : Outs s.heap f0) (hne : it ≠ d)
   (q : ∀ h' g0 g1 ok' ov', ItIs h' it d g0 g1 (i + 1) es.size ep ok' ov' → Outs h' g0 → h'.get? s.heap.objs.size = some { cls := .type "tuple", data := .seq #[es[i].key, es[i].val] } → h'.objs.size = s.heap.objs.size + 1 →
     (∀ b o, b ≠ it → s.heap.get? b = some o → h'.get? b = some o) → Q (some (.ref s.heap.objs.size)) { s with heap := h' }) : wpAny (model prog w) A (pyNext (.ref it)) Q E s := by
 obtain ⟨hp, g, dr, tk, os⟩ := s
 have hT : Shared.TypeIs ⟨hp, g, dr, tk, os⟩ (.ref it) "dict_itemiterator" := ⟨_, hit, rfl⟩
 unfold pyNext
 refine wpAny_bind (wpAny_attempt (wpAny_callSpecial?_slot (name := Str.ofString "__next__") hT PySem.F.slot_dict_itemiterator_next
   (wpAny_call_entry PySem.F.slot_dict_itemiterator_next hT PySem.F.entry_dict_itemiterator_next ?_ (PySem.F.args_dict_itemiterator_next_1 _))))
 refine wpAny_bind (wpAny_pure (wpAny_bind (wpAny_bind (wpAny_bind (wpAny_typeNameOfWhole_itemiter hT (wpAny_pure ?_))))))
 refine wpAny_bind (wpAny_fieldsOf hit rfl ?_)
 have hown : Builtin.Dict_items.ownsTuple "dict_itemiterator" = true := by decide
 simp only [hown, if_true]
 show wpAny _ _ (if (Value.ref d == Value.none) = true then _ else _) _ _ _
 rw [if_neg (show ¬ ((Value.ref d == Value.none) = true) from Bool.false_ne_true)]
 refine wpAny_bind (wpAny_pure (wpAny_bind (wpAny_dictEntries hd hdd ?_)))
 rw [if_neg (by simp)]
 refine wpAny_bind (wpAny_pure (wpAny_bind (wpAny_dictEpoch hd hdd ?_)))
 rw [if_neg (by simp)]
 refine wpAny_pure ?_
 simp only [show ¬ ((i : Int) < 0) from by omega, if_false, Int.toNat_natCast, Array.getElem?_eq_getElem hi]
 refine wpAny_bind (wpAny_bind (wpAny_typeNameOfWhole_itemiter hT (wpAny_pure ?_)))
 refine wpAny_bind (wpAny_isOneOf_itemiter hT ?_)
 show wpAny _ _ (setField (.ref it) 3 (rawInt ((i : Int) + 1)) >>= _) _ _ ⟨hp, g, dr, tk, os⟩
 refine wpAny_bind (wpAny_setField_rec hit (by simp) fun h₁ he₁ hs₁ => ?_)
 replace hs₁ : Heap.SameBut it hp h₁ := hs₁
 replace he₁ : ItIs h₁ it d f0 f1 (i + 1) es.size ep ok ov := by
   have e : ((i + 1 : Nat) : Int) = (i : Int) + 1 := by omega
   unfold ItIs; rw [e]; simpa [rawInt] using he₁
 have hT₁ : Shared.TypeIs ⟨h₁, g, dr, tk, os⟩ (.ref it) "dict_itemiterator" := ⟨_, he₁, rfl⟩
 refine wpAny_bind (wpAny_holding (wpAny_bind (wpAny_isOneOf_itemiter hT₁ (wpAny_bind (wpAny_isOneOf_itemiter hT₁ ?_)))))
 show wpAny _ _ (Builtin.Dict_items.pairFromOwner (.ref it) 6 es[i].key es[i].val) _ _ ⟨h₁, g, dr, tk, os⟩
 unfold Builtin.Dict_items.pairFromOwner
 refine wpAny_bind (wpAny_newTuple ?_)
 have hz₁ : h₁.objs.size = hp.objs.size := hs₁.1
 have hil : it < hp.objs.size := Heap.lt_size hit
 have he₂ : ItIs (h₁.push { cls := .type "tuple", data := .seq #[es[i].key, es[i].val] }) it d f0 f1 (i + 1) es.size ep ok ov := Heap.get?_push_of_some _ he₁
 have ht₂ : (h₁.push { cls := .type "tuple", data := .seq #[es[i].key, es[i].val] }).get? hp.objs.size = some { cls := .type "tuple", data := .seq #[es[i].key, es[i].val] } := by rw [← hz₁]; exact Heap.get?_push_size _ rfl
 have hz₂ : (h₁.push { cls := .type "tuple", data := .seq #[es[i].key, es[i].val] }).objs.size = hp.objs.size + 1 := by rw [Heap.size_push, hz₁]
 have hk₂ : ∀ b o, b ≠ it → hp.get? b = some o → (h₁.push { cls := .type "tuple", data := .seq #[es[i].key, es[i].val] }).get? b = some o := fun b o hb e => Heap.get?_push_of_some _ (hs₁.extBut b o hb e)
 have hal : Outs (h₁.push { cls := .type "tuple", data := .seq #[es[i].key, es[i].val] }) f0 := by
   rcases hf with z | ⟨a, z, o', e⟩
   · exact .inl z
   · refine .inr ⟨a, z, ?_⟩
     by_cases ha : a = it
     · rw [ha]; exact ⟨_, he₂⟩
     · exact ⟨o', hk₂ a o' ha e⟩
 show wpAny _ _ (Builtin.Dict_items.ownedTupleIsFree (.ref it) >>= _) _ _ ⟨_, g, dr, tk, os⟩
 rw [hz₁]
 generalize h₁.push { cls := .type "tuple", data := .seq #[es[i].key, es[i].val] } = h₂ at *
 clear he₁ hs₁ hT₁ hz₁
 refine wpAny_bind ?_
 unfold Builtin.Dict_items.ownedTupleIsFree
 refine wpAny_bind (wpAny_field he₂ rfl (x := f0) rfl ?_)
 have out : ∀ h₆ g0 g1 ok' ov', ItIs h₆ it d g0 g1 (i + 1) es.size ep ok' ov' → Outs h₆ g0 → Heap.SameBut it h₂ h₆ → Q (some (.ref hp.objs.size)) ⟨h₆, g, dr, tk, os⟩ := fun h₆ g0 g1 ok' ov' a b c =>
   q h₆ g0 g1 ok' ov' a b (c.extBut _ _ (Nat.ne_of_gt hil) ht₂) (by rw [c.1]; exact hz₂) fun b o hb e => c.extBut b o hb (hk₂ b o hb e)
 rcases hal with z | ⟨a, z, o', e⟩
 · subst z
   refine wpAny_pure ?_
   simp only [if_true]
   refine wpAny_bind (wpAny_field he₂ rfl (x := ok) rfl (wpAny_bind (wpAny_field he₂ rfl (x := ov) rfl ?_)))
   refine wpAny_bind (wpAny_setField_rec he₂ (by simp) fun h₃ he₃ hs₃ => ?_)
   refine wpAny_bind (wpAny_setField_rec he₃ (by simp) fun h₄ he₄ hs₄ => ?_)
   refine wpAny_bind (wpAny_setField_rec he₄ (by simp) fun h₅ he₅ hs₅ => ?_)
   refine wpAny_bind (wpAny_setField_rec he₅ (by simp) fun h₆ he₆ hs₆ => ?_)
   have sb : Heap.SameBut it h₂ h₆ := ((hs₃.trans hs₄).trans hs₅).trans hs₆
   refine wpAny_bind (wpAny_letGo (wpAny_pure (wpAny_pure ⟨_, rfl, wpAny_pure (out h₆ (rawInt hp.objs.size) (.bool false) es[i].key es[i].val he₆ (.inr ⟨_, rfl, _, sb.extBut _ _ (Nat.ne_of_gt hil) ht₂⟩) sb)⟩)))
 · subst z
   show wpAny _ _ (loadIfAlive (a : Int).toNat >>= _) _ _ _
   rw [Int.toNat_natCast]
   refine wpAny_bind (wpAny_lia ?_)
   rw [show (({ heap := h₂, gens := g, drawn := dr, toks := tk, os := os } : Shared).heap.get? a) = some o' from e]
   simp only [Option.isNone_some, Bool.false_eq_true, if_false]
   refine wpAny_bind (wpAny_field he₂ rfl (x := f1) rfl ?_)
   split
   · refine wpAny_bind (wpAny_setField_rec he₂ (by simp) fun h₃ he₃ hs₃ => wpAny_pure ?_)
     have sb : Heap.SameBut it h₂ h₃ := hs₃
     simp only [Bool.false_eq_true, if_false]
     refine wpAny_pure (wpAny_pure ⟨_, rfl, wpAny_pure (out h₃ (rawInt a) (.bool true) ok ov he₃ (.inr ⟨a, rfl, ?_⟩) sb)⟩)
     by_cases ha : a = it
     · rw [ha]; exact ⟨_, he₃⟩
     · exact ⟨o', sb.extBut a o' ha e⟩
   · refine wpAny_pure ?_
     simp only [Bool.false_eq_true, if_false]
     exact wpAny_pure (wpAny_pure ⟨_, rfl, wpAny_pure (out h₂ (rawInt a) f1 ok ov he₂ (.inr ⟨a, rfl, o', e⟩) (Heap.SameBut.refl _ _))⟩)
theorem it_end {it d : Addr} {f0 f1 ok ov : Value} {i ep : Nat} {es : Array DictEntry} {o : Obj} {Q : Option Value → Shared → Prop} (hh : A.handled = none) (hit : ItIs s.heap it d f0 f1 i es.size ep ok ov) (hd : s.heap.get? d = some o) (hdd : o.data = .dict es ep) (hi : es.size ≤ i)
   (q : ∀ h', (∀ b o, b ≠ it → s.heap.get? b = some o → h'.get? b = some o) → Q none { s with heap := h' }) : wpAny (model prog w) A (pyNext (.ref it)) Q E s := by
 have hT : s.TypeIs (.ref it) "dict_itemiterator" := ⟨_, hit, rfl⟩
 unfold pyNext
 refine wpAny_bind (wpAny_attempt (wpAny_callSpecial?_slot (name := Str.ofString "__next__") hT PySem.F.slot_dict_itemiterator_next
   (wpAny_call_entry PySem.F.slot_dict_itemiterator_next hT PySem.F.entry_dict_itemiterator_next ?_ (PySem.F.args_dict_itemiterator_next_1 _))))
 refine wpAny_bind (wpAny_pure (wpAny_bind (wpAny_bind (wpAny_bind (wpAny_typeNameOfWhole_itemiter hT (wpAny_pure ?_))))))
 refine wpAny_bind (wpAny_fieldsOf hit rfl ?_)
 have hown : Builtin.Dict_items.ownsTuple "dict_itemiterator" = true := by decide
 simp only [hown, if_true]
 show wpAny _ _ (if (Value.ref d == Value.none) = true then _ else _) _ _ s
 rw [if_neg (show ¬ ((Value.ref d == Value.none) = true) from Bool.false_ne_true)]
 refine wpAny_bind (wpAny_pure (wpAny_bind (wpAny_dictEntries hd hdd ?_)))
 rw [if_neg (by simp)]
 refine wpAny_bind (wpAny_pure (wpAny_bind (wpAny_dictEpoch hd hdd ?_)))
 rw [if_neg (by simp)]
 refine wpAny_pure ?_
 simp only [show ¬ ((i : Int) < 0) from by omega, if_false, Int.toNat_natCast, Array.getElem?_eq_none hi]
 refine wpAny_bind (wpAny_bind (wpAny_typeNameOfWhole_itemiter hT (wpAny_pure ?_)))
 show wpAny _ _ (setField (.ref it) 2 .none >>= _) _ _ s
 refine wpAny_bind (wpAny_setField_rec hit (by simp) fun h₁ he₁ hs₁ => ?_)
 show wpAny _ _ (newExc (.type "StopIteration") [] >>= _) _ _ _
 refine wpAny_bind ?_
 simp only [newExc, newTuple]
 refine wpAny_bind (wpAny_newObj_type ?_ (by size_fits))
 refine wpAny_bind (m := firstArgMember _ _) (wpAny_of_eq (a := Value.none) (by first | rfl | (simp only [firstArgMember]; rfl)) ?_)
 refine wpAny_newObj_type ?_ (by size_fits)
 simp only [raiseNew]
 refine wpAny_bind (wpAny_handled ?_)
 rw [show A.in1.handled = none from hh]
 refine wpAny_bind (wpAny_pure (wpAny_throw ?_))
 refine wpAny_bind (wpAny_isInstance (T := "StopIteration") (b := true) ⟨_, Heap.get?_push_size _ rfl, rfl⟩ isSubtype_stop ?_)
 exact wpAny_pure (q _ fun b o hb e => Heap.get?_push_of_some _ (Heap.get?_push_of_some _ (hs₁.extBut b o hb e)))
end
end Mi
end
section
namespace Mi
open PySem PySem.Spec PyProof.Rows L2
noncomputable def Pairs (h : Heap) (lo : Nat) (es : Array DictEntry) (acc : Array Value) (i : Nat) : Prop :=
 acc.size = i ∧ acc.toList.Nodup ∧ ∀ (j : Nat) (v : Value), acc[j]? = some v → ∃ a e, v = .ref a ∧ lo ≤ a ∧ es[j]? = some e ∧ h.get? a = some { cls := .type "tuple", data := .seq #[e.key, e.val] }
section
variable {prog : Program} {w : World} {A : Around} {E : Value → Shared → Prop} {R : Result → Shared → Prop}
theorem it_loop {it d S lo : Addr} {ep : Nat} {es : Array DictEntry} {o : Obj} {res : Value} (hh : A.handled = none) (hdd : o.data = .dict es ep) (h1 : it ≠ d) (h2 : S ≠ d) (h3 : S ≠ it) (h4 : it < lo) (h5 : S < lo) (hn : es.size ≤ sizeLine) :
   ∀ (k i : Nat) (s : Shared) (acc : Array Value) (c : Nat) (f0 f1 ok ov : Value), es.size - i = k → i ≤ es.size → ItIs s.heap it d f0 f1 i es.size ep ok ov → Outs s.heap f0 → s.heap.get? d = some o →
   s.heap.get? S = some { cls := .type "list", dict := none, data := .seq acc c, slots := #[] } → lo ≤ s.heap.objs.size → Pairs s.heap lo es acc i →
   (∀ h' acc' c', (∀ b u, b ≠ it → b ≠ S → s.heap.get? b = some u → h'.get? b = some u) → h'.get? S = some { cls := .type "list", dict := none, data := .seq acc' c', slots := #[] } → Pairs h' lo es acc' es.size → R (.ok (.ret res)) { s with heap := h' }) →
   codeAny (model prog w) A (.builtin "list.extend.loop" ⟨[.ref S, .ref it, res], []⟩) R s := by
 intro k
 induction k with
 | zero =>
   intro i s acc c f0 f1 ok ov hk hi hit hf hd hS hlo hp hR
   have e : i = es.size := by omega
   subst e
   refine codeAny_builtin PySem.F.entry_extend_loop ?_
   rw [Around.under_plainId PySem.F.plain_extend_loop _]
   show wpAny _ A.in1 (pyNext (.ref it) >>= _) _ _ s
   refine wpAny_bind (it_end hh hit hd hdd (Nat.le_refl _) fun h' keep => wpAny_pure ?_)
   refine hR h' acc c (fun b u hb _ e => keep b u hb e) (keep S _ h3 hS) ⟨hp.1, hp.2.1, fun j v e => ?_⟩
   obtain ⟨a, x, h6, h7, h8, h9⟩ := hp.2.2 j v e
   exact ⟨a, x, h6, h7, h8, keep a _ (Nat.ne_of_gt (Nat.lt_of_lt_of_le h4 h7)) h9⟩
 | succ k ih =>
   intro i s acc c f0 f1 ok ov hk hi hit hf hd hS hlo hp hR
   have hlt : i < es.size := by omega
   refine codeAny_builtin PySem.F.entry_extend_loop ?_
   rw [Around.under_plainId PySem.F.plain_extend_loop _]
   show wpAny _ A.in1 (pyNext (.ref it) >>= _) _ _ s
   refine wpAny_bind (it_next hit hd hdd hlt hf h1 fun h' g0 g1 ok' ov' hit' hf' ht hz keep => ?_)
   have hS' := keep S _ h3 hS
   show wpAny _ A.in1 (updateSeq S (·.push (.ref s.heap.objs.size)) >>= _) _ _ _
   refine wpAny_bind (wpAny_updateSeq (s := { s with heap := h' }) hS' rfl ?_ (by rw [hp.1]; omega) (by show (acc.push _).size ≤ sizeLine + 1; rw [Array.size_push, hp.1]; omega))
   have oth : ∀ b u, b ≠ S → h'.get? b = some u → (h'.update S (Obj.mapSeq (·.push (.ref s.heap.objs.size)))).get? b = some u := fun b u hb e => by rw [Heap.get?_update_ne _ _ _ _ hb]; exact e
   refine wpAny_pure ⟨plainId_quiet PySem.F.plain_extend_loop _, ih (i + 1) { s with heap := h'.update S (Obj.mapSeq (·.push (.ref s.heap.objs.size))) } (acc.push (.ref s.heap.objs.size)) _ g0 g1 ok' ov' (by omega) hlt (oth it _ (Ne.symm h3) hit') ?_ (oth d _ (Ne.symm h2) (keep d _ (Ne.symm h1) hd)) (Heap.get?_update_self _ hS' rfl) ?_ ?_ ?_⟩
   · rcases hf' with z | ⟨a, z, u, e⟩
     · exact .inl z
     · refine .inr ⟨a, z, ?_⟩
       by_cases ha : a = S
       · rw [ha]; exact ⟨_, Heap.get?_update_self _ hS' rfl⟩
       · exact ⟨u, oth a u ha e⟩
   · show lo ≤ (h'.update S _).objs.size
     rw [Heap.size_update, hz]
     exact Nat.le_succ_of_le hlo
   · refine ⟨by rw [Array.size_push, hp.1], ?_, fun j v e => ?_⟩
     · rw [Array.toList_push, List.nodup_append]
       refine ⟨hp.2.1, by simp, fun x hx y hy z => ?_⟩
       simp at hy
       subst hy; subst z
       obtain ⟨j, hj⟩ := List.getElem?_of_mem hx
       obtain ⟨a, x, h6, h7, h8, h9⟩ := hp.2.2 j _ (by rw [← Array.getElem?_toList]; exact hj)
       cases h6
       exact Nat.lt_irrefl _ (Heap.lt_size h9)
     rw [Array.getElem?_push] at e
     split at e
     · rename_i ej
       cases e
       rw [hp.1] at ej
       subst ej
       exact ⟨_, es[j], rfl, hlo, Array.getElem?_eq_getElem hlt, oth _ _ (Nat.ne_of_gt (Nat.lt_of_lt_of_le h5 hlo)) ht⟩
     · obtain ⟨a, x, h6, h7, h8, h9⟩ := hp.2.2 j v e
       exact ⟨a, x, h6, h7, h8, oth a _ (Nat.ne_of_gt (Nat.lt_of_lt_of_le h5 h7)) (keep a _ (Nat.ne_of_gt (Nat.lt_of_lt_of_le h4 h7)) h9)⟩
   · intro h'' acc' c' keep2 hS2 hp2
     exact hR h'' acc' c' (fun b u hb hb2 e => keep2 b u hb hb2 (oth b u hb2 (keep b u hb e))) hS2 hp2
theorem it_iter {s : Shared} {v d : Addr} {es : Array DictEntry} {ep : Nat} {o : Obj} {Q : Value → Shared → Prop} (hv : s.heap.IsItemsView v d) (hd : s.heap.get? d = some o) (hdd : o.data = .dict es ep)
   (q : Q (.ref s.heap.objs.size) { s with heap := s.heap.push { cls := .type "dict_itemiterator", data := .fields #[.none, .bool false, .ref d, .int 0 0, .int es.size 0, .int ep 0, .none, .none] } }) :
   wpAny (model prog w) A (pyIter (.ref v)) Q E s := by
 obtain ⟨ov, hov, hcv, hdv⟩ := id hv
 refine wpAny_pyIter_slot hv.typeIs PySem.F.slot_dict_items_iter (wpAny_call_entry PySem.F.slot_dict_items_iter hv.typeIs PySem.F.entry_dict_items_iter ?_ (PySem.F.args_dict_items_iter_1 _))
 unfold Builtin.«dict_items.__iter__»
 refine wpAny_bind (wpAny_pure (wpAny_bind ?_))
 unfold Builtin.Dict_items.dictOf
 refine wpAny_bind (wpAny_field hov hdv (x := .ref d) rfl (wpAny_pure (wpAny_bind ?_)))
 unfold Builtin.Dict_items.newIterator
 refine wpAny_bind (wpAny_dictEntries hd hdd (wpAny_bind (wpAny_dictEpoch hd hdd ?_)))
 have hown : Builtin.Dict_items.ownsTuple "dict_itemiterator" = true := by decide
 simp only [hown, if_true]
 refine wpAny_newObj_type (wpAny_pure ⟨_, rfl, "dict_itemiterator", _, ⟨_, Heap.get?_push_size _ rfl, rfl⟩, PySem.F.slot_dict_itemiterator_next.lookup, ?_⟩)
   (by simp only [sizeOk, Builtin.Dict_items.ownedTupleFields, List.size_toArray, List.length_append, List.length_cons, List.length_nil, sizeLine_eq]; omega)
 simpa [rawInt, Builtin.Dict_items.ownedTupleFields] using q
theorem items_len : typeLookup (.type "dict_items") "__len__" = pure (some (.builtin "dict_items.__len__")) := by rw [typeLookup_type, builtinLookup_eq_fast]; kernel_rfl
theorem it_hint {s : Shared} {v : Addr} {Q : Bool → Shared → Prop} (hT : s.TypeIs (.ref v) "dict_items") (q : Q false s) : wpAny (model prog w) A (Builtin.List.listLengthHint (.ref v)) Q E s := by
 unfold Builtin.List.listLengthHint
 refine wpAny_bind (wpAny_specialOf hT items_len ?_)
 generalize hid : ("dict_items.__len__" : String) = id0
 wp_delta
 rw [show splitId id0 = some ("dict_items", "__len__") from by subst hid; decide +kernel]
 subst hid
 refine wpAny_bind (wpAny_isInstance (b := true) hT (by rw [isSubtype_type]; kernel_rfl) ?_)
 rw [if_neg (by decide)]
 dsimp only
 rw [if_pos (by decide +kernel)]
 refine wpAny_bind (wpAny_typeOf hT ?_)
 exact wpAny_pure q
theorem it_collect {s : Shared} {v d : Addr} {es : Array DictEntry} {ep : Nat} {o : Obj} {Q : List Value → Shared → Prop} (hh : A.handled = none) (hv : s.heap.IsItemsView v d) (hd : s.heap.get? d = some o) (hdd : o.data = .dict es ep) (hn : es.size ≤ sizeLine)
   (q : ∀ h' acc, (∀ b u, s.heap.get? b = some u → h'.get? b = some u) → s.heap.objs.size ≤ h'.objs.size → Pairs h' s.heap.objs.size es acc es.size → Q acc.toList { s with heap := h' }) : wpAny (model prog w) A (collect (.ref v)) Q E s := by
 have hvl : v < s.heap.objs.size := by obtain ⟨ov, hov, _⟩ := hv; exact Heap.lt_size hov
 have hdl : d < s.heap.objs.size := Heap.lt_size hd
 unfold collect
 refine wpAny_bind (wpAny_runValue (codeAny_builtin PySem.F.entry_proto_collect ?_))
 rw [Around.under_plainId PySem.F.plain_proto_collect _]
 show wpAny _ A.in1 (newList [] >>= fun l => again (.builtin "list.__iadd__" ⟨[l, .ref v], []⟩)) _ _ s
 refine wpAny_bind (wpAny_newObj_type ?_)
 refine wpAny_pure ⟨plainId_quiet PySem.F.plain_list_iadd _, codeAny_builtin PySem.F.entry_list_iadd ?_⟩
 rw [Around.under_plainId PySem.F.plain_list_iadd _]
 have hS₁ : (s.heap.push { cls := .type "list", data := .seq ([] : List Value).toArray }).get? s.heap.objs.size = some { cls := .type "list", data := .seq ([] : List Value).toArray } := Heap.get?_push_size _ rfl
 have hv₁ : (s.heap.push { cls := .type "list", data := .seq ([] : List Value).toArray }).IsItemsView v d := let ⟨ov, a, b, c⟩ := hv; ⟨ov, Heap.get?_push_of_some _ a, b, c⟩
 have hd₁ : (s.heap.push { cls := .type "list", data := .seq ([] : List Value).toArray }).get? d = some o := Heap.get?_push_of_some _ hd
 have hne : s.heap.objs.size ≠ v := Nat.ne_of_gt hvl
 have h1 : Builtin.List.listSameRef (.ref s.heap.objs.size) (.ref v) = false := by simp [Builtin.List.listSameRef, hne]
 show wpAny _ A.in1 (Builtin.List.listExtendWith (.ref s.heap.objs.size) (.ref v) (.ref s.heap.objs.size)) _ _ { s with heap := s.heap.push { cls := .type "list", data := .seq ([] : List Value).toArray } }
 unfold Builtin.List.listExtendWith
 refine wpAny_bind (wpAny_typeOf (T := "dict_items") hv₁.typeIs ?_)
 rw [if_neg (by rw [h1]; decide)]
 refine wpAny_bind (it_iter hv₁ hd₁ hdd ?_)
 generalize hh₁ : s.heap.push { cls := .type "list", data := .seq ([] : List Value).toArray } = h₁ at *
 have hz₁ : h₁.objs.size = s.heap.objs.size + 1 := by rw [← hh₁, Heap.size_push]
 have k₁ : ∀ b u, s.heap.get? b = some u → h₁.get? b = some u := fun b u e => by rw [← hh₁]; exact Heap.get?_push_of_some _ e
 dsimp only
 have hit : ItIs (h₁.push { cls := .type "dict_itemiterator", data := .fields #[.none, .bool false, .ref d, .int 0 0, .int es.size 0, .int ep 0, .none, .none] }) h₁.objs.size d .none (.bool false) 0 es.size ep .none .none := Heap.get?_push_size _ rfl
 have hS₂ := Heap.get?_push_of_some { cls := .type "dict_itemiterator", data := .fields #[.none, .bool false, .ref d, .int 0 0, .int es.size 0, .int ep 0, .none, .none] } hS₁
 have hz₂ : (h₁.push { cls := .type "dict_itemiterator", data := .fields #[.none, .bool false, .ref d, .int 0 0, .int es.size 0, .int ep 0, .none, .none] }).objs.size = s.heap.objs.size + 2 := by rw [Heap.size_push, hz₁]
 have k₂ : ∀ b u, s.heap.get? b = some u → (h₁.push { cls := .type "dict_itemiterator", data := .fields #[.none, .bool false, .ref d, .int 0 0, .int es.size 0, .int ep 0, .none, .none] }).get? b = some u := fun b u e => Heap.get?_push_of_some _ (k₁ b u e)
 generalize h₁.push { cls := .type "dict_itemiterator", data := .fields #[.none, .bool false, .ref d, .int 0 0, .int es.size 0, .int ep 0, .none, .none] } = h₂ at *
 have hT₂ : Shared.TypeIs { s with heap := h₂ } (.ref v) "dict_items" := let ⟨ov, a, b, c⟩ := hv; ⟨ov, k₂ v ov a, b⟩
 refine wpAny_bind (wpAny_holding (it_hint hT₂ ?_))
 rw [if_pos (by decide +kernel)]
 refine wpAny_bind (wpAny_rule (wpAny_bind ?_))
 show wpAny _ A.in1 (updateSeq s.heap.objs.size (·.push .none) >>= fun _ => updateSeq s.heap.objs.size (·.pop)) _ _ _
 refine wpAny_bind (wpAny_updateSeq (s := { s with heap := h₂ }) hS₂ rfl ?_)
 have hS₃ := Heap.get?_update_self (Obj.mapSeq (·.push Value.none)) hS₂ rfl
 refine wpAny_updateSeq (s := { s with heap := h₂.update s.heap.objs.size (Obj.mapSeq (·.push Value.none)) }) hS₃ rfl ?_
 have hS₄ := Heap.get?_update_self (Obj.mapSeq (·.pop)) hS₃ rfl
 have oth : ∀ b u, b ≠ s.heap.objs.size → h₂.get? b = some u → ((h₂.update s.heap.objs.size (Obj.mapSeq (·.push Value.none))).update s.heap.objs.size (Obj.mapSeq (·.pop))).get? b = some u := fun b u hb e => by
   rw [Heap.get?_update_ne _ _ _ _ hb, Heap.get?_update_ne _ _ _ _ hb]; exact e
 have hz₄ : ((h₂.update s.heap.objs.size (Obj.mapSeq (·.push Value.none))).update s.heap.objs.size (Obj.mapSeq (·.pop))).objs.size = s.heap.objs.size + 2 := by rw [Heap.size_update, Heap.size_update, hz₂]
 rw [hz₁] at hit ⊢
 have ne1 : s.heap.objs.size + 1 ≠ s.heap.objs.size := Nat.succ_ne_self _
 refine wpAny_pure ⟨plainId_quiet PySem.F.plain_extend_loop _, it_loop (lo := s.heap.objs.size + 2) (o := o) hh hdd (Nat.ne_of_gt (Nat.lt_succ_of_lt hdl)) (Nat.ne_of_gt hdl) (Ne.symm ne1) (Nat.lt_succ_self _) (Nat.lt_succ_of_lt (Nat.lt_succ_self _)) hn es.size 0
   { s with heap := (h₂.update s.heap.objs.size (Obj.mapSeq (·.push Value.none))).update s.heap.objs.size (Obj.mapSeq (·.pop)) } _ _ .none (.bool false) .none .none rfl (Nat.zero_le _) (oth _ _ ne1 hit) (.inl rfl) (oth d o (Nat.ne_of_lt hdl) (k₂ d o hd)) hS₄ (by rw [hz₄]; exact Nat.le_refl _) ⟨rfl, by simp, fun j v e => by simp at e⟩ fun h' acc' c' keep hS' hp => ?_⟩
 show wpAny _ A (load s.heap.objs.size >>= _) _ _ { s with heap := h' }
 refine wpAny_bind (wpAny_load hS' ?_)
 refine wpAny_pure (q h' acc' (fun b u e => ?_) (Nat.le_of_lt (Heap.lt_size hS')) ⟨hp.1, hp.2.1, fun j v e => ?_⟩)
 · have hb : b < s.heap.objs.size := Heap.lt_size e
   exact keep b u (Nat.ne_of_lt (Nat.lt_succ_of_lt hb)) (Nat.ne_of_lt hb) (oth b u (Nat.ne_of_lt hb) (k₂ b u e))
 · obtain ⟨a, x, h6, h7, h8, h9⟩ := hp.2.2 j v e
   exact ⟨a, x, h6, Nat.le_trans (Nat.le_add_right _ 2) h7, h8, h9⟩
end
end Mi
end
section
namespace Mi
open PySem PySem.Spec PyProof.Rows L2
section
variable {prog : Program} {w : World} {A : Around} {E : Value → Shared → Prop} {s : Shared}
theorem it_sorted {v d : Addr} {es : Array DictEntry} {ep : Nat} {o : Obj} {Q : Value → Shared → Prop} (hh : A.handled = none) (hv : s.heap.IsItemsView v d) (hd : s.heap.get? d = some o) (hdd : o.data = .dict es ep) (h64 : es.size < 64)
   (H : ∀ (h' : Heap) (vs : List Value), (∀ b u, s.heap.get? b = some u → h'.get? b = some u) → vs.length = es.size → vs.Nodup → (∀ (j : Nat) (v : Value), vs[j]? = some v → ∃ a e, v = .ref a ∧ s.heap.objs.size ≤ a ∧ es[j]? = some e ∧ h'.get? a = some { cls := .type "tuple", data := .seq #[e.key, e.val] }) →
     ∃ ws κ, vs.Perm ws ∧ (∀ h'' : Heap, (∀ b u, h'.get? b = some u → h''.get? b = some u) → 2 ≤ vs.length → SoC prog w A.in1.in1 { s with heap := h'' } κ ws (pairsOf vs) ∧ ∀ (E : Value → Shared → Prop) (Q : SortKind → Shared → Prop), Q κ { s with heap := h'' } → wpAny (model prog w) A.in1.in1 (keyKind' vs.toArray) Q E { s with heap := h'' }) ∧
     ∀ (h'' : Heap) (L : Addr) (n : Nat), (∀ b u, h'.get? b = some u → h''.get? b = some u) → h'.objs.size ≤ L → h''.get? L = some (seqObj "list" ws.toArray n) → Q (.ref L) { s with heap := h'' }) :
   wpAny (model prog w) A (call (.builtin "sorted") [.ref v]) Q E s := by
 refine Calls.call_function_entry kind_sorted plain_sorted entry_sorted (args_sorted1 _) ?_
 unfold Builtin.«sorted»
 refine wpAny_bind (m := checkCount "sorted" 1 1 _) (wpAny_pure ?_)
 refine wpAny_bind (it_collect hh hv hd hdd (by rw [sizeLine_eq]; omega) fun h' acc keep hz hp => ?_)
 obtain ⟨ws, κ, hpm, hC, fin⟩ := H h' acc.toList keep (by rw [Array.length_toList]; exact hp.1) hp.2.1 fun j v e => hp.2.2 j v (by rw [← Array.getElem?_toList]; exact e)
 refine wpAny_bind (wpAny_newList (hsz := by rw [Array.length_toList, hp.1, sizeLine_eq]; omega) ?_)
 have hoL : (h'.push (seqObj "list" acc.toList.toArray 0)).get? h'.objs.size = some (seqObj "list" acc.toList.toArray 0) := Heap.get?_push_size _ rfl
 have hal : acc.toList.length < 64 := by rw [Array.length_toList, hp.1]; exact h64
 show wpAny _ _ _ _ _ { s with heap := h'.push (seqObj "list" acc.toList.toArray 0) }
 refine wpAny_bind (wpAny_holding (wpAny_call_entry slot_list_sort ⟨_, hoL, rfl⟩ entry_list_sort (so_sort (s := { s with heap := h'.push (seqObj "list" acc.toList.toArray 0) }) (κ := κ) (ws := ws) hoL hal hpm (fun h'' k2 h2 => ?_) ⟨_, rfl, ?_⟩) (args_list_sort _)))
 · have := hC h'' (fun b u e => k2 b u (Nat.ne_of_lt (Heap.lt_size e)) (Heap.get?_push_of_some _ e)) h2
   exact ⟨this.1, this.2 _⟩
 · obtain ⟨n, hat⟩ := sortedHeap_at (out := ws.toArray) hoL
   refine wpAny_pure ⟨_, rfl, fin _ h'.objs.size n (fun b u e => ?_) (Nat.le_refl _) hat⟩
   have hb : b < h'.objs.size := Heap.lt_size e
   show (sortedHeap (h'.push (seqObj "list" acc.toList.toArray 0)) h'.objs.size acc.toList ws.toArray).get? b = some u
   rw [sortedHeap_old (Nat.ne_of_lt hb) (by rw [Heap.size_push]; exact Nat.lt_succ_of_lt hb)]
   exact Heap.get?_push_of_some _ e
end
end Mi
end
section
namespace Mi
open PySem PySem.Spec PyProof.Rows L2
noncomputable def updT (H : Hp) : List (Addr × List V) → Hp
 | [] => H
 | p :: ps => upd (updT H ps) p.1 (.tup p.2)
theorem updT_ne {H : Hp} {b : Addr} : ∀ {ps : List (Addr × List V)}, (∀ p ∈ ps, b ≠ p.1) → updT H ps b = H b
 | [], _ => rfl
 | p :: ps, h => by rw [updT, upd_ne (h p List.mem_cons_self)]; exact updT_ne fun q hq => h q (List.mem_cons_of_mem _ hq)
theorem updT_at {H : Hp} {a : Addr} {vs : List V} : ∀ {ps : List (Addr × List V)}, (ps.map (·.1)).Nodup → (a, vs) ∈ ps → updT H ps a = some (.tup vs)
 | [], _, h => by cases h
 | p :: ps, nd, h => by
   rw [List.map_cons, List.nodup_cons] at nd
   rw [updT]
   rcases List.mem_cons.mp h with z | z
   · subst z; exact upd_same
   · rw [upd_ne (fun e => nd.1 (by rw [← e]; exact List.mem_map.mpr ⟨_, z, rfl⟩))]
     exact updT_at nd.2 z
theorem updT_in {H : Hp} {b : Addr} {o : HO} : ∀ {ps : List (Addr × List V)}, updT H ps b = some o → (∃ vs, (b, vs) ∈ ps ∧ o = .tup vs) ∨ ((∀ p ∈ ps, b ≠ p.1) ∧ H b = some o)
 | [], h => .inr ⟨fun p hp => (by cases hp), h⟩
 | p :: ps, h => by
   rw [updT] at h
   by_cases e : b = p.1
   · subst e
     rw [upd_same] at h
     cases h
     exact .inl ⟨p.2, List.mem_cons_self, rfl⟩
   · rw [upd_ne e] at h
     rcases updT_in h with ⟨vs, h1, h2⟩ | ⟨h1, h2⟩
     · exact .inl ⟨vs, List.mem_cons_of_mem _ h1, h2⟩
     · refine .inr ⟨fun q hq => ?_, h2⟩
       rcases List.mem_cons.mp hq with z | z
       · rw [z]; exact e
       · exact h1 q z
theorem Inv.lays {X : Cx} {pins : List (Addr × Obj)} {σ : L2.St} {H : Hp} {s : Shared} {h' : Heap} {ps : List (Addr × List V)} (I : Inv X pins σ H s) (k : ∀ b u, s.heap.get? b = some u → h'.get? b = some u)
   (hp : ∀ p ∈ ps, s.heap.objs.size ≤ p.1 ∧ p.2.length ≤ sizeLine ∧ ∃ its : List Value, Vals p.2 its ∧ IsTup h' p.1 its.toArray) : Inv X pins σ (updT H ps) { s with heap := h' } := by
 have old : ∀ b o, H b = some o → updT H ps b = some o := fun b o e => by
   rw [updT_ne]
   · exact e
   · intro p hm z
     have h1 := I.hok.lt e
     have h2 := (hp p hm).1
     rw [z] at h1
     exact Nat.lt_irrefl _ (Nat.lt_of_lt_of_le h1 h2)
 refine I.un (t' := s.toks) ⟨fun b u q _ _ _ => k b u q, fun b u q _ _ _ => ⟨u.slots, k b u q⟩, fun b u q n _ => ?_, fun b u q _ => ⟨u, k b u q⟩, fun b xs q => old b _ q, fun b u xs q => old b _ q, fun b ps' q => ⟨#[], by rw [old b _ q]; simp⟩⟩ ?_
 · rw [updT_ne]
   · exact n
   · intro p hm z
     have h1 := Heap.lt_size q
     have h2 := (hp p hm).1
     rw [z] at h1
     exact Nat.lt_irrefl _ (Nat.lt_of_lt_of_le h1 h2)
 · intro b u e
   rcases updT_in e with ⟨vs, h1, rfl⟩ | ⟨_, h1⟩
   · obtain ⟨_, h2, its, h3, h4⟩ := hp _ h1
     exact ⟨h2, its, h3, h4⟩
   · exact (I.hok b u h1).stay (fun c v _ q => k c v q) (fun c q => old c _ q) fun c xs q => old c _ q
theorem Ext.lays {mu : List Addr} {H : Hp} : ∀ {ps : List (Addr × List V)}, (ps.map (·.1)).Nodup → (∀ p ∈ ps, H p.1 = none) → Ext mu mu H (updT H ps)
 | [], _, _ => .refl _ _
 | p :: ps, nd, h => by
   rw [List.map_cons, List.nodup_cons] at nd
   have e := Ext.lays (mu := mu) nd.2 fun q hq => h q (List.mem_cons_of_mem _ hq)
   have hn : updT H ps p.1 = none := by
     rw [updT_ne]
     · exact h p List.mem_cons_self
     · intro q hq z
       exact nd.1 (by rw [z]; exact List.mem_map.mpr ⟨q, hq, rfl⟩)
   exact e.trans (Ext.fresh hn)
end Mi
end
section
namespace Mi
open PySem PySem.Spec PyProof.Rows L2
noncomputable def ltK (a b : TK) : Bool := ltN [] 50 (tkD a) (tkD b) == some true
noncomputable def insG {α : Type} (key : α → TK) (a : α) : List α → List α
 | [] => [a]
 | b :: l => if ltK (key a) (key b) = true then a :: b :: l else b :: insG key a l
noncomputable def sortG {α : Type} (key : α → TK) : List α → List α
 | [] => []
 | a :: l => insG key a (sortG key l)
theorem insG_perm {α : Type} (key : α → TK) (a : α) : ∀ l : List α, (insG key a l).Perm (a :: l)
 | [] => .refl _
 | b :: l => by
   rw [insG]
   split
   · exact .refl _
   · exact ((insG_perm key a l).cons b).trans (.swap _ _ _)
theorem sortG_perm {α : Type} (key : α → TK) : ∀ l : List α, (sortG key l).Perm l
 | [] => .refl _
 | a :: l => (insG_perm key a _).trans ((sortG_perm key l).cons a)
theorem insG_map {α β : Type} {key : β → TK} {g : α → β} {a : α} : ∀ l : List α, (insG (fun x => key (g x)) a l).map g = insG key (g a) (l.map g)
 | [] => rfl
 | b :: l => by
   rw [insG, List.map_cons, insG]
   split
   · rfl
   · rw [List.map_cons, insG_map l]
theorem sortG_map {α β : Type} {key : β → TK} {g : α → β} : ∀ l : List α, (sortG (fun x => key (g x)) l).map g = sortG key (l.map g)
 | [] => rfl
 | a :: l => by rw [sortG, List.map_cons, sortG, insG_map, sortG_map l]
noncomputable def lessK (a b : TK) : Bool := eqN [] 50 (tkD a) (tkD b) == some false && (eqN [] 50 (tkD b) (tkD a) == some false && (ltN [] 50 (tkD a) (tkD b) == some true && ltN [] 50 (tkD b) (tkD a) == some false))
noncomputable def riseK : List TK → Bool
 | [] => true
 | a :: l => l.all (lessK a) && riseK l
noncomputable def isTK : TK → Bool
 | .tup _ => true
 | _ => false
noncomputable def pairK (p : TK × D) : D := .tup [tkD p.1, p.2]
noncomputable def gSortIt : G1 := fun d S => match d with
 | .ref n => match S[n]? with
   | some (.dcT kvs) => if (riseK ((sortG (·.1) kvs).map (·.1)) && (kvs.all (fun p => isTK p.1) && decide (kvs.length < 64))) = true then some (.ref S.length, S ++ [.lst ((sortG (·.1) kvs).map pairK)]) else none
   | some (.dct []) => some (.ref S.length, S ++ [.lst []])
   | _ => none
 | _ => none
theorem riseK_at : ∀ {l : List TK} {i j : Nat} {a b : TK}, riseK l = true → l[i]? = some a → l[j]? = some b → i < j → lessK a b = true
 | [], i, j, a, b, _, h, _, _ => by simp at h
 | x :: l, 0, j + 1, a, b, h, h1, h2, _ => by
   rw [riseK, Bool.and_eq_true, List.all_eq_true] at h
   simp at h1 h2
   subst h1
   exact h.1 b (List.mem_of_getElem? h2)
 | x :: l, i + 1, j + 1, a, b, h, h1, h2, hij => by
   rw [riseK, Bool.and_eq_true] at h
   exact riseK_at h.2 (by simpa using h1) (by simpa using h2) (by omega)
 | x :: l, i, 0, a, b, _, _, _, hij => by omega
mutual
theorem und_tk {n : Nat} : ∀ k : TK, (tkD k).und n = true
 | .non => rfl
 | .int _ => rfl
 | .tup xs => by rw [tkD, D.und]; exact unds_tk xs
theorem unds_tk {n : Nat} : ∀ ks : List TK, D.unds n (tkDs ks) = true
 | [] => rfl
 | k :: ks => by rw [tkDs, D.unds, und_tk k, unds_tk ks]; rfl
end
structure Pr where
 k : TK
 d : D
 ka : Addr
 u : Value
 vv : V
 a : Addr
noncomputable def Pr.Ok (K : PySem.W.Frag) (H : Hp) (mu : List Addr) (h : Heap) (lo : Nat) (y : Pr) : Prop := lo ≤ y.a ∧ Rep K H mu (tkD y.k) (.ref y.ka) ∧ RelV y.vv y.u ∧ Rep K H mu y.d y.vv ∧ h.get? y.a = some { cls := .type "tuple", data := .seq #[.ref y.ka, y.u] }
theorem prs_of {K : PySem.W.Frag} {H : Hp} {mu : List Addr} {h : Heap} {lo : Nat} : ∀ {kvs : List (TK × D)} {xs : List (TK × Addr × Value)} {vs : List Value}, KT K H mu kvs xs → vs.length = xs.length →
   (∀ (j : Nat) (v : Value), vs[j]? = some v → ∃ (a : Addr) (x : TK × Addr × Value), v = .ref a ∧ lo ≤ a ∧ xs[j]? = some x ∧ h.get? a = some { cls := .type "tuple", data := .seq #[.ref x.2.1, x.2.2] }) →
   ∃ Y : List Pr, Y.map (fun y => (y.k, y.d)) = kvs ∧ Y.map (fun y => Value.ref y.a) = vs ∧ ∀ y ∈ Y, y.Ok K H mu h lo
 | _, _, vs, .nil, hl, _ => by
   cases vs with
   | nil => exact ⟨[], rfl, rfl, fun y hy => by cases hy⟩
   | cons _ _ => simp at hl
 | (k, d) :: kvs, x :: xs, vs, .cons ⟨z, _, rk, v, rv, r⟩ t, hl, hj => by
   cases vs with
   | nil => simp at hl
   | cons w vs =>
     obtain ⟨Y, e1, e2, ok⟩ := prs_of (lo := lo) (h := h) (vs := vs) t (by simpa using hl) fun j v e => by
       obtain ⟨a, x, h1, h2, h3, h4⟩ := hj (j + 1) v (by simpa using e)
       exact ⟨a, x, h1, h2, by simpa using h3, h4⟩
     obtain ⟨a, x', h1, h2, h3, h4⟩ := hj 0 w rfl
     have ex : x = x' := by simpa using h3
     subst ex
     refine ⟨⟨k, d, x.2.1, x.2.2, v, a⟩ :: Y, by rw [List.map_cons, e1], by rw [List.map_cons, e2, h1], fun y hy => ?_⟩
     rcases List.mem_cons.mp hy with e | e
     · subst e; exact ⟨h2, rk, rv, r, h4⟩
     · exact ok y e
end Mi
end
section
namespace Mi
open PySem PySem.Spec PyProof.Rows L2
noncomputable def ViewAt (p a : Addr) (h : Heap) : Prop := h.IsItemsView p a
theorem Sim.lays {K : PySem.W.Frag} {H : Hp} {mu : List Addr} {S : Sto} (s : Sim K H mu S) : ∀ {ps : List (Addr × List V)}, (ps.map (·.1)).Nodup → (∀ p ∈ ps, H p.1 = none) → Sim K (updT H ps) mu S
 | [], _, _ => s
 | p :: ps, nd, h => by
   rw [List.map_cons, List.nodup_cons] at nd
   have hn : updT H ps p.1 = none := by
     rw [updT_ne]
     · exact h p List.mem_cons_self
     · intro q hq z
       exact nd.1 (by rw [z]; exact List.mem_map.mpr ⟨q, hq, rfl⟩)
   exact (Sim.lays s nd.2 fun q hq => h q (List.mem_cons_of_mem _ hq)).fresh hn
section
variable {X : Cx}
theorem c_sortI (hc : X.calm = true) (hu : X.A.units + 64 < cLine) : CallR X (.builtin "sorted") (fun xs H Q => ∃ p a mu S kvs ws, xs = [.ref p] ∧ H p = some (.ext (ViewAt p a)) ∧ Sim X.K H mu S ∧ KT X.K H mu kvs ws ∧
   (∀ pins σ s, Inv X pins σ H s → ∃ o es ep, s.heap.get? a = some o ∧ o.data = .dict es ep ∧ es.toList = ws.map fun x => (⟨x.1.hash, .ref x.2.1, x.2.2⟩ : DictEntry)) ∧
   riseK ((sortG (·.1) kvs).map (·.1)) = true ∧ (∀ q ∈ kvs, isTK q.1 = true) ∧ kvs.length < 64 ∧ ∀ H' L, Ext mu (mu ++ [L]) H H' → Sim X.K H' (mu ++ [L]) (S ++ [.lst ((sortG (·.1) kvs).map pairK)]) → Q (.ref L) H') := by
 rintro pins s σ H xs us Q I r ⟨p, a, mu, S, kvs, ws, rfl, hp, hs, hkt, hdict, hrise, htk, hlen, hQ⟩
 obtain ⟨u, rfl, ru⟩ := vals1 r
 cases ru
 obtain ⟨o, es, ep, hd, hdd, hes⟩ := hdict pins σ s I
 obtain ⟨hv, _, _⟩ := (show ObjOk X.prog X.w H s.heap p (.ext (ViewAt p a)) from I.hok p _ hp)
 have hesl : es.size = kvs.length := by rw [← Array.length_toList, hes, List.length_map, hkt.length]
 refine it_sorted (I.ok.hd hc) hv hd hdd (by omega) fun h' vs keep hl hnd hpr => ?_
 obtain ⟨Y, e1, e2, ok⟩ := prs_of (lo := s.heap.objs.size) (h := h') (vs := vs) hkt (by rw [hl, hesl, hkt.length]) fun j v e => by
   obtain ⟨b, x, h1, h2, h3, h4⟩ := hpr j v e
   rw [← Array.getElem?_toList, hes, List.getElem?_map] at h3
   obtain ⟨y, h5, rfl⟩ := Option.map_eq_some_iff.mp h3
   exact ⟨b, y, h1, h2, h5, h4⟩
 have hks : ∀ y ∈ Y, isTK y.k = true := fun y hy => htk (y.k, y.d) (by rw [← e1]; exact List.mem_map.mpr ⟨y, hy, rfl⟩)
 have nda : (Y.map (·.a)).Nodup := by
   rw [← e2] at hnd
   have : (Y.map fun y => Value.ref y.a) = (Y.map (·.a)).map Value.ref := by rw [List.map_map]; rfl
   rw [this] at hnd
   exact (List.pairwise_map.mp hnd).imp fun h e => h (congrArg _ e)
 generalize hps : Y.map (fun y => (y.a, [V.ref y.ka, y.vv])) = ps at *
 have ndp : (ps.map (·.1)).Nodup := by rw [← hps, List.map_map]; exact nda
 have hfr : ∀ q ∈ ps, H q.1 = none := fun q hq => by
   rw [← hps] at hq
   obtain ⟨y, hy, rfl⟩ := List.mem_map.mp hq
   exact I.hok.fresh (ok y hy).1
 have I1 : Inv X pins σ (updT H ps) { s with heap := h' } := Inv.lays I keep fun q hq => by
   rw [← hps] at hq
   obtain ⟨y, hy, rfl⟩ := List.mem_map.mp hq
   obtain ⟨h1, h2, h3, h4, h5⟩ := ok y hy
   exact ⟨h1, (show 2 ≤ sizeLine by decide), [.ref y.ka, y.u], .cons rfl (.cons h3 .nil), ⟨_, h5, rfl, 0, rfl⟩⟩
 have x1 : Ext mu mu H (updT H ps) := Ext.lays ndp hfr
 have s1 : Sim X.K (updT H ps) mu S := hs.lays ndp hfr
 have sq : ∀ y ∈ Y, updT H ps y.a = some (.tup [.ref y.ka, y.vv]) := fun y hy => updT_at ndp (by rw [← hps]; exact List.mem_map.mpr ⟨y, hy, rfl⟩)
 generalize updT H ps = H1 at *
 have pm : (sortG (·.k) Y).Perm Y := sortG_perm _ _
 have sk : (sortG (·.k) Y).map (·.k) = (sortG (·.1) kvs).map (·.1) := by
   have := sortG_map (key := fun q : TK × D => q.1) (g := fun y : Pr => (y.k, y.d)) Y
   rw [← e1, ← this, List.map_map]
   rfl
 have sp : (sortG (·.k) Y).map (fun y => pairK (y.k, y.d)) = (sortG (·.1) kvs).map pairK := by
   have := sortG_map (key := fun q : TK × D => q.1) (g := fun y : Pr => (y.k, y.d)) Y
   rw [← e1, ← this, List.map_map]
   rfl
 generalize hZ : sortG (fun y : Pr => y.k) Y = Z at *
 have okZ : ∀ y ∈ Z, y ∈ Y := fun y hy => pm.mem_iff.mp hy
 have rp : ∀ y ∈ Y, Rep X.K H1 mu (pairK (y.k, y.d)) (.ref y.a) := fun y hy => by
   obtain ⟨h1, h2, h3, h4, h5⟩ := ok y hy
   exact .tup (.inl (Rd.of (sq y hy))) (.cons (h2.ext x1) (.cons (h4.ext x1) .nil))
 have tupk : ∀ y ∈ Y, ∀ h'' : Heap, (∀ b u, h'.get? b = some u → h''.get? b = some u) → ∃ qs, IsTup h'' y.ka qs := fun y hy h'' k2 => by
   obtain ⟨h1, h2, h3, h4, h5⟩ := ok y hy
   have hk := hks y hy
   cases hyk : y.k with
   | tup ks =>
     rw [hyk, tkD] at h2
     cases h2.ext x1 with
     | tup q t =>
       obtain ⟨its, _, it, _⟩ := I1.tuple q
       exact ⟨_, it.keeps k2⟩
   | non => rw [hyk] at hk; cases hk
   | int _ => rw [hyk] at hk; cases hk
 refine ⟨Z.map (fun y => Value.ref y.a), tuples' false, by rw [← e2]; exact (pm.map _).symm, fun h'' k2 hn2 => ⟨⟨?_, ?_, ?_⟩, fun E Q q => ?_⟩, fun h'' L n k2 hL hat => ?_⟩
 · have : (Z.map fun y => Value.ref y.a).Perm vs := by rw [← e2]; exact pm.map _
   exact this.nodup_iff.mpr hnd
 · rw [pairsOf_toList]
   have : (vs.zip vs).map (·.1) = vs := List.map_fst_zip (Nat.le_refl _)
   rw [this, ← e2]
   exact (pm.map _).symm
 · intro x y i j hx hy hij E Q q
   rw [List.getElem?_map] at hx hy
   obtain ⟨yi, hyi, rfl⟩ := Option.map_eq_some_iff.mp hx
   obtain ⟨yj, hyj, rfl⟩ := Option.map_eq_some_iff.mp hy
   have mi := okZ _ (List.mem_of_getElem? hyi)
   have mj := okZ _ (List.mem_of_getElem? hyj)
   have I2 : Inv X pins σ H1 { s with heap := h'' } := I1.kept (t' := s.toks) k2
   obtain ⟨_, ri, _, _, ti⟩ := ok yi mi
   obtain ⟨_, rj, _, _, tj⟩ := ok yj mj
   have ki : ((sortG (·.1) kvs).map (·.1))[i]? = some yi.k := by rw [← sk, List.getElem?_map, hyi]; rfl
   have kj : ((sortG (·.1) kvs).map (·.1))[j]? = some yj.k := by rw [← sk, List.getElem?_map, hyj]; rfl
   have res : eqN S 50 (tkD yi.k) (tkD yj.k) = some false ∧ ltN S 50 (tkD yi.k) (tkD yj.k) = some (decide (i < j)) := by
     rw [eqN_und (und_tk _) (und_tk _), ltN_und (und_tk _) (und_tk _)]
     by_cases z : i < j
     · have := riseK_at hrise ki kj z
       unfold lessK at this
       simp only [Bool.and_eq_true, beq_iff_eq] at this
       rw [decide_eq_true z]
       exact ⟨this.1, this.2.2.1⟩
     · have := riseK_at hrise kj ki (by omega)
       unfold lessK at this
       simp only [Bool.and_eq_true, beq_iff_eq] at this
       rw [decide_eq_false z]
       exact ⟨this.2.1, this.2.2.2⟩
   have hu3 : X.A.in1.in1.in1.units + 50 < cLine := by show X.A.units + 1 + 1 + 1 + 50 < cLine; omega
   have eq := (eqN_at I2 s1 50 (A := X.A.in1.in1.in1) hu3 (ri.ext x1) (rj.ext x1) rfl rfl res.1).1
   have lt := ltN_at I2 s1 50 (A := X.A.in1.in1.in1) hu3 (ri.ext x1) (rj.ext x1) rfl rfl res.2
   exact kl_tup (us := [.ref yi.ka, yi.u]) (zs := [.ref yj.ka, yj.u]) ⟨_, k2 _ _ ti, rfl, 0, rfl⟩ ⟨_, k2 _ _ tj, rfl, 0, rfl⟩ (.lt eq lt) q
 · refine kk_tup (fun z => by rw [z] at hn2; simp at hn2) (fun v hv => ?_) q
   rw [← e2] at hv
   obtain ⟨y, hy, rfl⟩ := List.mem_map.mp hv
   obtain ⟨_, _, _, _, ty⟩ := ok y hy
   obtain ⟨qs, it⟩ := tupk y hy h'' k2
   exact ⟨y.a, .ref y.ka, [y.u], y.ka, qs, rfl, ⟨_, k2 _ _ ty, rfl, 0, rfl⟩, rfl, it⟩
 · have hn : H1 L = none := I1.hok.fresh hL
   have hv : Vals (Z.map fun y => V.ref y.a) (Z.map fun y => Value.ref y.a) := by
     clear hat sk sp pm okZ hZ
     induction Z with
     | nil => exact .nil
     | cons y Z ih => exact .cons rfl ih
   have hr : Reps X.K H1 mu (Z.map fun y => pairK (y.k, y.d)) (Z.map fun y => V.ref y.a) := by
     clear hat sk sp pm hZ hv
     induction Z with
     | nil => exact .nil
     | cons y Z ih => exact .cons (rp y (okZ y List.mem_cons_self)) (ih fun z hz => okZ z (List.mem_cons_of_mem _ hz))
   refine ⟨.ref L, _, I1.laid (t' := s.toks) (o := .lst (Z.map fun y => V.ref y.a)) k2 hL ⟨?_, _, n, hv, hat⟩, rfl, hQ _ L (x1.trans (Ext.new_ hn)) ?_⟩
   · rw [List.length_map, pm.length_eq]
     have : Y.length = kvs.length := by rw [← e1, List.length_map]
     rw [this, sizeLine_eq]; omega
   · rw [← sp]
     exact s1.newL hr hn
end
end Mi
end
section
namespace Mi
open PySem PySem.Spec PyProof.Rows L2
noncomputable def IsDX (H : Hp) (a : Addr) : Prop := (∃ kvs, H a = some (.dK kvs)) ∨ ∃ xs, H a = some (.ext (DictAt a xs))
noncomputable def tItems (to : TE) : TE := fun σ H Q => to σ H fun x H1 => ∃ a, x = .ref a ∧ IsDX H1 a ∧ ∀ p, H1 p = none → Q (.ref p) (upd H1 p (.ext (ViewAt p a)))
section
variable {X : Cx}
theorem isDX_at {pins : List (Addr × Obj)} {σ : L2.St} {H : Hp} {s : Shared} {a : Addr} (I : Inv X pins σ H s) (h : IsDX H a) : (a == sysModules) = false ∧ ∃ o, s.heap.get? a = some o ∧ o.ExactDict := by
 rcases h with ⟨kvs, e⟩ | ⟨xs, e⟩
 · obtain ⟨_, hd, vs, _, o, es, ep, h1, h2, _⟩ := I.hok a _ e
   exact ⟨hd, o, h1, h2⟩
 · obtain ⟨⟨hd, _, o, es, ep, h1, h2, _⟩, _⟩ := (show ObjOk X.prog X.w H s.heap a (.ext (DictAt a xs)) from I.hok a _ e)
   exact ⟨hd, o, h1, h2⟩
theorem pe_items {o : Expr} {apos cpos : Pos} {to : TE} (ho : PE X o to) (hbase : attributeBase o "items" X.env (eval o X.env) = eval o X.env := by rfl) (hline : (apos.endLine == cpos.line) = true := by rfl) :
   PE X (.Call (.Attribute o "items" apos) [] [] cpos) (tItems to) := by
 intro pins s σ H Q I h
 refine wpAny_Call_method0_late hbase hline (thn (ho pins s σ H _ I h) fun v s1 ⟨x, H1, I1, r1, a, ex, hD, q1⟩ => ?_)
 subst ex
 cases r1
 obtain ⟨hd, o', e, exd⟩ := isDX_at I1 hD
 refine ⟨"dict", "dict.items", PySem.F.plainAttrs_dict, PySem.F.slot_dict_items, PySem.F.type_dict_items, ⟨o', e, exd.1⟩, fun b eb => by cases eb; exact ⟨o', e, exd.2.1⟩, Calls.callWith_builtin rfl (PySem.evalArgs_none ?_)⟩
 have hT : s1.TypeIs (.ref a) "dict" := ⟨o', e, exd.1⟩
 refine wpAny_call_entry PySem.F.slot_dict_items hT PySem.F.entry_dict_items ?_ (PySem.F.args_dict_items_1 _)
 unfold Builtin.«dict.items»
 refine wpAny_bind ?_
 unfold Builtin.Dict.noArgs
 refine wpAny_bind (wpAny_notOrdered_dict hT ?_)
 show wpAny _ _ (pure a) _ _ s1
 refine wpAny_pure ?_
 show wpAny _ _ (Builtin.Dict.showsAll a >>= _) _ _ s1
 unfold Builtin.Dict.showsAll
 rw [if_neg (by rw [hd]; exact Bool.false_ne_true)]
 refine wpAny_bind (wpAny_pure (wpAny_bind (wpAny_newObj_type (wpAny_pure ⟨_, rfl, ?_⟩))))
 have hn : H1 s1.heap.objs.size = none := I1.hok.fresh (Nat.le_refl _)
 refine ⟨.ref s1.heap.objs.size, _, I1.laid (t' := s1.toks) (o := .ext (ViewAt s1.heap.objs.size a)) (fun b u q => Heap.get?_push_of_some _ q) (Nat.le_refl _) ?_, rfl, q1 _ hn⟩
 exact ⟨⟨_, Heap.get?_push_size _ rfl, rfl, rfl⟩, ⟨_, Heap.get?_push_size _ rfl⟩, fun h1 h2 ⟨ov, a1, a2, a3⟩ st => ⟨ov, st _ a1, a2, a3⟩⟩
theorem xme_sortI (hc : X.calm = true) (hu : X.A.units + 64 < cLine) {o : Expr} {m : FE} {apos cpos p pos : Pos} (hg : Gl X "sorted") (hm : X.mg "sorted" = none) (ho : XE X o m)
   (hbase : attributeBase o "items" X.env (eval o X.env) = eval o X.env := by rfl) (hline : (apos.endLine == cpos.line) = true := by rfl) : XE X (.Call (.Name "sorted" p) [.Call (.Attribute o "items" apos) [] [] cpos] [] pos) (mN (b1 gSortIt) (mCons m mNil)) :=
 ⟨pe_imp (pe_callB (c_sortI hc hu) hg hm (by decide +kernel) (pa_cons (pe_items ho.h hbase hline) pa_nil)) <| by
   rintro σ H Q ⟨r, mu, S, d, S', he, hs, hm, hcc⟩
   obtain ⟨⟨ds, S1⟩, e1, hm⟩ := Option.bind_eq_some_iff.mp hm
   obtain ⟨⟨d1, S2⟩, e2, e1⟩ := Option.bind_eq_some_iff.mp e1
   cases e1
   dsimp only [b1] at hm
   cases d1 with
   | ref n =>
     dsimp only [gSortIt] at hm
     split at hm
     · rename_i kvs en
       split at hm
       · rename_i hcond
         cases hm
         rw [Bool.and_eq_true, Bool.and_eq_true, decide_eq_true_eq, List.all_eq_true] at hcond
         refine ⟨r, mu, S, .ref n, _, he, hs, e2, fun v H1 mu1 x1 r1 s1 => ?_⟩
         cases r1 with
         | @ref _ a hn =>
           obtain ⟨xs, h1, h2, h3⟩ := s1.dcT en hn
           refine ⟨a, rfl, .inr ⟨xs, h1⟩, fun q hq => ?_⟩
           refine ⟨q, a, mu1, S2, kvs, xs, rfl, upd_same, s1.fresh hq, KT.ext (Ext.fresh hq) h2, fun pins σ s I => ?_, hcond.1, hcond.2.1, hcond.2.2, fun H' L x3 s3 => ?_⟩
           · have h4 : upd H1 q (.ext (ViewAt q a)) a = some (.ext (DictAt a xs)) := by rw [upd_ne (fun z => by rw [z, hq] at h1; cases h1)]; exact h1
             obtain ⟨⟨_, _, o', es, ep, h5, _, h7, h8⟩, _⟩ := (show ObjOk X.prog X.w _ s.heap a (.ext (DictAt a xs)) from I.hok a _ h4)
             exact ⟨o', es, ep, h5, h7, h8⟩
           · exact hcc _ H' _ ((x1.trans (Ext.fresh hq)).trans x3) (.ref (new_at s1.len _)) s3
       · cases hm
     · rename_i en
       cases hm
       refine ⟨r, mu, S, .ref n, _, he, hs, e2, fun v H1 mu1 x1 r1 s1 => ?_⟩
       cases r1 with
       | @ref _ a hn =>
         obtain ⟨ws, h1, h2⟩ := s1.dct en hn
         cases h2
         refine ⟨a, rfl, .inl ⟨[], h1⟩, fun q hq => ?_⟩
         refine ⟨q, a, mu1, S2, [], [], rfl, upd_same, s1.fresh hq, .nil, fun pins σ s I => ?_, rfl, fun _ h => (by cases h), (by decide), fun H' L x3 s3 => ?_⟩
         · have h4 : upd H1 q (.ext (ViewAt q a)) a = some (.dK []) := by rw [upd_ne (fun z => by rw [z, hq] at h1; cases h1)]; exact h1
           obtain ⟨_, _, vs, h5, o', es, ep, h6, _, h7, h8⟩ := I.hok a _ h4
           cases h5
           exact ⟨o', es, ep, h6, h7, List.length_eq_zero_iff.mp (by have := h8.2.1.length; simpa using this)⟩
         · exact hcc _ H' _ ((x1.trans (Ext.fresh hq)).trans x3) (.ref (new_at s1.len _)) s3
     · cases hm
   | _ => cases hm⟩
end
end Mi
end
section
namespace Mi
open PySem PySem.Spec PyProof.Rows L2
noncomputable abbrev KtIs (h : Heap) (it d : Addr) (i n ep : Nat) : Prop := h.get? it = some { cls := .type "dict_keyiterator", dict := none, data := .fields #[.ref d, .int i 0, .int n 0, .int ep 0], slots := #[] }
section
variable {prog : Program} {w : World} {A : Around} {E : Value → Shared → Prop} {s : Shared}
theorem kt_next {it d : Addr} {i ep : Nat} {es : Array DictEntry} {o : Obj} {Q : Option Value → Shared → Prop} (hit : KtIs s.heap it d i es.size ep) (hd : s.heap.get? d = some o) (hdd : o.data = .dict es ep) (hi : i < es.size)
   (q : ∀ h', KtIs h' it d (i + 1) es.size ep → Heap.SameBut it s.heap h' → Q (some es[i].key) { s with heap := h' }) : wpAny (model prog w) A (pyNext (.ref it)) Q E s := by
 have hT : s.TypeIs (.ref it) "dict_keyiterator" := ⟨_, hit, rfl⟩
 unfold pyNext
 refine wpAny_bind (wpAny_attempt (wpAny_callSpecial?_slot (name := Str.ofString "__next__") hT PySem.F.slot_dict_keyiterator_next
   (wpAny_call_entry PySem.F.slot_dict_keyiterator_next hT PySem.F.entry_dict_keyiterator_next ?_ (PySem.F.args_dict_keyiterator_next_1 _))))
 refine wpAny_bind (wpAny_pure (wpAny_bind (wpAny_bind (wpAny_bind (wpAny_typeNameOfWhole_keyiter hT (wpAny_pure ?_))))))
 refine wpAny_bind (wpAny_fieldsOf hit rfl ?_)
 have hown : Builtin.Dict_items.ownsTuple "dict_keyiterator" = false := by decide
 simp only [hown, Bool.false_eq_true, if_false]
 show wpAny _ _ (if (Value.ref d == Value.none) = true then _ else _) _ _ s
 rw [if_neg (show ¬ ((Value.ref d == Value.none) = true) from Bool.false_ne_true)]
 refine wpAny_bind (wpAny_pure (wpAny_bind (wpAny_dictEntries hd hdd ?_)))
 rw [if_neg (by simp)]
 refine wpAny_bind (wpAny_pure (wpAny_bind (wpAny_dictEpoch hd hdd ?_)))
 rw [if_neg (by simp)]
 refine wpAny_pure ?_
 simp only [show ¬ ((i : Int) < 0) from by omega, if_false, Int.toNat_natCast, Array.getElem?_eq_getElem hi]
 refine wpAny_bind (wpAny_bind (wpAny_typeNameOfWhole_keyiter hT (wpAny_pure ?_)))
 refine wpAny_bind (wpAny_isOneOf_keyiter hT ?_)
 show wpAny _ _ (setField (.ref it) 1 (rawInt ((i : Int) + 1)) >>= _) _ _ s
 refine wpAny_bind (wpAny_setField_rec hit (by simp) fun h₁ he₁ hs₁ => ?_)
 replace he₁ : KtIs h₁ it d (i + 1) es.size ep := by
   have e : ((i + 1 : Nat) : Int) = (i : Int) + 1 := by omega
   unfold KtIs; rw [e]; simpa [rawInt] using he₁
 have hT₁ : Shared.TypeIs { s with heap := h₁ } (.ref it) "dict_keyiterator" := ⟨_, he₁, rfl⟩
 refine wpAny_bind (wpAny_holding (wpAny_bind (wpAny_isOneOf_keyiter hT₁ ?_)))
 show wpAny _ _ (pure es[i].key) _ _ _
 exact wpAny_pure (wpAny_pure ⟨_, rfl, wpAny_pure (q h₁ he₁ hs₁)⟩)
theorem kt_end {it d : Addr} {i ep : Nat} {es : Array DictEntry} {o : Obj} {Q : Option Value → Shared → Prop} (hh : A.handled = none) (hit : KtIs s.heap it d i es.size ep) (hd : s.heap.get? d = some o) (hdd : o.data = .dict es ep) (hi : es.size ≤ i)
   (q : ∀ h', (∀ b o, b ≠ it → s.heap.get? b = some o → h'.get? b = some o) → Q none { s with heap := h' }) : wpAny (model prog w) A (pyNext (.ref it)) Q E s := by
 have hT : s.TypeIs (.ref it) "dict_keyiterator" := ⟨_, hit, rfl⟩
 unfold pyNext
 refine wpAny_bind (wpAny_attempt (wpAny_callSpecial?_slot (name := Str.ofString "__next__") hT PySem.F.slot_dict_keyiterator_next
   (wpAny_call_entry PySem.F.slot_dict_keyiterator_next hT PySem.F.entry_dict_keyiterator_next ?_ (PySem.F.args_dict_keyiterator_next_1 _))))
 refine wpAny_bind (wpAny_pure (wpAny_bind (wpAny_bind (wpAny_bind (wpAny_typeNameOfWhole_keyiter hT (wpAny_pure ?_))))))
 refine wpAny_bind (wpAny_fieldsOf hit rfl ?_)
 have hown : Builtin.Dict_items.ownsTuple "dict_keyiterator" = false := by decide
 simp only [hown, Bool.false_eq_true, if_false]
 show wpAny _ _ (if (Value.ref d == Value.none) = true then _ else _) _ _ s
 rw [if_neg (show ¬ ((Value.ref d == Value.none) = true) from Bool.false_ne_true)]
 refine wpAny_bind (wpAny_pure (wpAny_bind (wpAny_dictEntries hd hdd ?_)))
 rw [if_neg (by simp)]
 refine wpAny_bind (wpAny_pure (wpAny_bind (wpAny_dictEpoch hd hdd ?_)))
 rw [if_neg (by simp)]
 refine wpAny_pure ?_
 simp only [show ¬ ((i : Int) < 0) from by omega, if_false, Int.toNat_natCast, Array.getElem?_eq_none hi]
 refine wpAny_bind (wpAny_bind (wpAny_typeNameOfWhole_keyiter hT (wpAny_pure ?_)))
 show wpAny _ _ (setField (.ref it) 0 .none >>= _) _ _ s
 refine wpAny_bind (wpAny_setField_rec hit (by simp) fun h₁ he₁ hs₁ => ?_)
 show wpAny _ _ (newExc (.type "StopIteration") [] >>= _) _ _ _
 refine wpAny_bind ?_
 simp only [newExc, newTuple]
 refine wpAny_bind (wpAny_newObj_type ?_ (by size_fits))
 refine wpAny_bind (m := firstArgMember _ _) (wpAny_of_eq (a := Value.none) (by first | rfl | (simp only [firstArgMember]; rfl)) ?_)
 refine wpAny_newObj_type ?_ (by size_fits)
 simp only [raiseNew]
 refine wpAny_bind (wpAny_handled ?_)
 rw [show A.in1.handled = none from hh]
 refine wpAny_bind (wpAny_pure (wpAny_throw ?_))
 refine wpAny_bind (wpAny_isInstance (T := "StopIteration") (b := true) ⟨_, Heap.get?_push_size _ rfl, rfl⟩ isSubtype_stop ?_)
 exact wpAny_pure (q _ fun b o hb e => Heap.get?_push_of_some _ (Heap.get?_push_of_some _ (hs₁.extBut b o hb e)))
theorem kt_iter {d : Addr} {es : Array DictEntry} {ep : Nat} {o : Obj} {Q : Value → Shared → Prop} (hm : (d == sysModules) = false) (hd : s.heap.get? d = some o) (hc : o.cls = .type "dict") (hdd : o.data = .dict es ep) (hn : es.size ≤ sizeLine)
   (q : Q (.ref s.heap.objs.size) { s with heap := s.heap.push { cls := .type "dict_keyiterator", data := .fields #[.ref d, .int 0 0, .int es.size 0, .int ep 0] } }) : wpAny (model prog w) A (pyIter (.ref d)) Q E s := by
 have hT : s.TypeIs (.ref d) "dict" := ⟨o, hd, hc⟩
 refine wpAny_pyIter_slot hT PySem.F.slot_dict_iter (wpAny_call_entry PySem.F.slot_dict_iter hT PySem.F.entry_dict_iter ?_ (PySem.F.args_dict_iter_1 _))
 unfold Builtin.«dict.__iter__»
 refine wpAny_bind ?_
 unfold Builtin.Dict.dictSlotNone
 refine wpAny_bind (wpAny_notOrdered_dict hT ?_)
 show wpAny _ _ (pure (Value.ref d)) _ _ s
 refine wpAny_pure ?_
 show wpAny _ _ (Builtin.Dict.showsAll d >>= _) _ _ s
 unfold Builtin.Dict.showsAll
 rw [if_neg (by rw [hm]; exact Bool.false_ne_true)]
 refine wpAny_bind (wpAny_pure (wpAny_bind (wpAny_dictEntries hd hdd (wpAny_bind (wpAny_dictEpoch hd hdd (wpAny_bind ?_))))))
 refine wpAny_newObj_type (wpAny_pure ⟨_, rfl, "dict_keyiterator", _, ⟨_, Heap.get?_push_size _ rfl, rfl⟩, PySem.F.slot_dict_keyiterator_next.lookup, ?_⟩)
 simpa [rawInt] using q
end
end Mi
end
section
namespace Mi
open PySem PySem.Spec PyProof.Rows L2
section
variable {prog : Program} {w : World} {A : Around} {E : Value → Shared → Prop} {R : Result → Shared → Prop}
theorem kt_loop {it d S : Addr} {ep : Nat} {es : Array DictEntry} {o : Obj} {res : Value} (hh : A.handled = none) (hdd : o.data = .dict es ep) (h1 : it ≠ d) (h2 : S ≠ d) (h3 : S ≠ it) (hn : es.size ≤ sizeLine) :
   ∀ (k i : Nat) (s : Shared) (acc : Array Value) (c : Nat), es.size - i = k → i ≤ es.size → KtIs s.heap it d i es.size ep → s.heap.get? d = some o →
   s.heap.get? S = some { cls := .type "list", dict := none, data := .seq acc c, slots := #[] } → acc.toList = (es.toList.take i).map (·.key) →
   (∀ h' acc' c', (∀ b u, b ≠ it → b ≠ S → s.heap.get? b = some u → h'.get? b = some u) → h'.get? S = some { cls := .type "list", dict := none, data := .seq acc' c', slots := #[] } → acc'.toList = es.toList.map (·.key) → R (.ok (.ret res)) { s with heap := h' }) →
   codeAny (model prog w) A (.builtin "list.extend.loop" ⟨[.ref S, .ref it, res], []⟩) R s := by
 intro k
 induction k with
 | zero =>
   intro i s acc c hk hi hit hd hS hp hR
   have e : i = es.size := by omega
   subst e
   refine codeAny_builtin PySem.F.entry_extend_loop ?_
   rw [Around.under_plainId PySem.F.plain_extend_loop _]
   show wpAny _ A.in1 (pyNext (.ref it) >>= _) _ _ s
   refine wpAny_bind (kt_end hh hit hd hdd (Nat.le_refl _) fun h' keep => wpAny_pure ?_)
   exact hR h' acc c (fun b u hb _ e => keep b u hb e) (keep S _ h3 hS) (by rw [hp, ← Array.length_toList, List.take_length])
 | succ k ih =>
   intro i s acc c hk hi hit hd hS hp hR
   have hlt : i < es.size := by omega
   have hal : acc.size = i := by rw [← Array.length_toList, hp, List.length_map, List.length_take, Array.length_toList]; omega
   refine codeAny_builtin PySem.F.entry_extend_loop ?_
   rw [Around.under_plainId PySem.F.plain_extend_loop _]
   show wpAny _ A.in1 (pyNext (.ref it) >>= _) _ _ s
   refine wpAny_bind (kt_next hit hd hdd hlt fun h' hit' sb => ?_)
   have hS' := sb.extBut S _ h3 hS
   show wpAny _ A.in1 (updateSeq S (·.push es[i].key) >>= _) _ _ _
   refine wpAny_bind (wpAny_updateSeq (s := { s with heap := h' }) hS' rfl ?_ (by rw [hal]; omega) (by show (acc.push _).size ≤ sizeLine + 1; rw [Array.size_push, hal]; omega))
   have oth : ∀ b u, b ≠ S → h'.get? b = some u → (h'.update S (Obj.mapSeq (·.push es[i].key))).get? b = some u := fun b u hb e => by rw [Heap.get?_update_ne _ _ _ _ hb]; exact e
   refine wpAny_pure ⟨plainId_quiet PySem.F.plain_extend_loop _, ih (i + 1) { s with heap := h'.update S (Obj.mapSeq (·.push es[i].key)) } (acc.push es[i].key) _ (by omega) hlt (oth it _ (Ne.symm h3) hit') (oth d _ (Ne.symm h2) (sb.extBut d _ (Ne.symm h1) hd)) (Heap.get?_update_self _ hS' rfl) ?_ ?_⟩
   · rw [Array.toList_push, hp, List.take_succ, Array.getElem?_toList, Array.getElem?_eq_getElem hlt, List.map_append]
     rfl
   · intro h'' acc' c' keep2 hS2 hp2
     exact hR h'' acc' c' (fun b u hb hb2 e => keep2 b u hb hb2 (oth b u hb2 (sb.extBut b u hb e))) hS2 hp2
theorem dict_len : typeLookup (.type "dict") "__len__" = pure (some (.builtin "dict.__len__")) := by rw [typeLookup_type, builtinLookup_eq_fast]; kernel_rfl
theorem kt_hint {s : Shared} {v : Addr} {Q : Bool → Shared → Prop} (hT : s.TypeIs (.ref v) "dict") (q : Q false s) : wpAny (model prog w) A (Builtin.List.listLengthHint (.ref v)) Q E s := by
 unfold Builtin.List.listLengthHint
 refine wpAny_bind (wpAny_specialOf hT dict_len ?_)
 generalize hid : ("dict.__len__" : String) = id0
 wp_delta
 rw [show splitId id0 = some ("dict", "__len__") from by subst hid; decide +kernel]
 subst hid
 refine wpAny_bind (wpAny_isInstance (b := true) hT (by rw [isSubtype_type]; kernel_rfl) ?_)
 rw [if_neg (by decide)]
 dsimp only
 rw [if_pos (by decide +kernel)]
 refine wpAny_bind (wpAny_typeOf hT ?_)
 exact wpAny_pure q
theorem kt_list {s : Shared} {d : Addr} {es : Array DictEntry} {ep : Nat} {o : Obj} {Q : Value → Shared → Prop} (hh : A.handled = none) (hm : (d == sysModules) = false) (hd : s.heap.get? d = some o) (hc : o.cls = .type "dict") (hdd : o.data = .dict es ep) (hn : es.size ≤ sizeLine)
   (q : ∀ h' c', (∀ b u, s.heap.get? b = some u → h'.get? b = some u) → h'.get? s.heap.objs.size = some { cls := .type "list", dict := none, data := .seq (es.toList.map (·.key)).toArray c', slots := #[] } → Q (.ref s.heap.objs.size) { s with heap := h' }) :
   wpAny (model prog w) A (call (.type "list") [.ref d]) Q E s := by
 have hdl : d < s.heap.objs.size := Heap.lt_size hd
 refine callType_codes (Q₁ := fun obj s₁ => obj = .ref s.heap.objs.size ∧ s₁ = { s with heap := s.heap.push { cls := .type "list", data := .seq #[] } }) PySem.F.called_list (PySem.F.typeCall_list_1 _) PySem.F.entry_list_init
   (code_list_new _ ⟨rfl, rfl⟩) fun obj s₁ h₁ => ?_
 obtain ⟨rfl, rfl⟩ := h₁
 have hS : (s.heap.push { cls := .type "list", data := .seq #[] }).get? s.heap.objs.size = some { cls := .type "list", data := .seq #[] } := Heap.get?_push_size _ rfl
 refine ⟨⟨_, hS, rfl⟩, PySem.F.args_list_init_2 _ _, ?_⟩
 have k₁ : ∀ b u, s.heap.get? b = some u → (s.heap.push { cls := .type "list", data := .seq #[] }).get? b = some u := fun b u e => Heap.get?_push_of_some _ e
 have hz₁ : (s.heap.push { cls := .type "list", data := .seq #[] }).objs.size = s.heap.objs.size + 1 := by rw [Heap.size_push]
 generalize s.heap.push { cls := .type "list", data := .seq #[] } = h₁ at *
 show wpAny _ A.in1.in1 (do let old ← Builtin.List.listItems (.ref s.heap.objs.size); Builtin.List.listUpdate (.ref s.heap.objs.size) (fun _ => #[]); letGo old.toList.reverse; Builtin.List.listExtendWith (.ref s.heap.objs.size) (.ref d) .none) _ _ { s with heap := h₁ }
 refine wpAny_bind (listItems_at hS rfl ?_)
 show wpAny _ A.in1.in1 (updateSeq s.heap.objs.size (fun _ => #[]) >>= fun _ => letGo (#[] : Array Value).toList.reverse >>= fun _ => Builtin.List.listExtendWith (.ref s.heap.objs.size) (.ref d) .none) _ _ { s with heap := h₁ }
 refine wpAny_bind (wpAny_updateSeq (s := { s with heap := h₁ }) hS rfl ?_)
 have hS₂ := Heap.get?_update_self (Obj.mapSeq (fun _ => (#[] : Array Value))) hS rfl
 have k₂ : ∀ b u, s.heap.get? b = some u → (h₁.update s.heap.objs.size (Obj.mapSeq (fun _ => (#[] : Array Value)))).get? b = some u := fun b u e => by rw [Heap.get?_update_ne _ _ _ _ (Nat.ne_of_lt (Heap.lt_size e))]; exact k₁ b u e
 have hz₂ : (h₁.update s.heap.objs.size (Obj.mapSeq (fun _ => (#[] : Array Value)))).objs.size = s.heap.objs.size + 1 := by rw [Heap.size_update, hz₁]
 generalize h₁.update s.heap.objs.size (Obj.mapSeq (fun _ => (#[] : Array Value))) = h₂ at *
 refine wpAny_bind (wpAny_letGo ?_)
 unfold Builtin.List.listExtendWith
 have hT₂ : Shared.TypeIs { s with heap := h₂ } (.ref d) "dict" := ⟨o, k₂ d o hd, hc⟩
 refine wpAny_bind (wpAny_typeOf hT₂ ?_)
 have h1 : Builtin.List.listSameRef (.ref s.heap.objs.size) (.ref d) = false := by simp [Builtin.List.listSameRef, Nat.ne_of_gt hdl]
 rw [if_neg (by rw [h1]; decide)]
 refine wpAny_bind (kt_iter (s := { s with heap := h₂ }) hm (k₂ d o hd) hc hdd hn ?_)
 dsimp only
 have hit : KtIs (h₂.push { cls := .type "dict_keyiterator", data := .fields #[.ref d, .int 0 0, .int es.size 0, .int ep 0] }) h₂.objs.size d 0 es.size ep := Heap.get?_push_size _ rfl
 have hS₃ := Heap.get?_push_of_some { cls := .type "dict_keyiterator", data := .fields #[.ref d, .int 0 0, .int es.size 0, .int ep 0] } hS₂
 have k₃ : ∀ b u, s.heap.get? b = some u → (h₂.push { cls := .type "dict_keyiterator", data := .fields #[.ref d, .int 0 0, .int es.size 0, .int ep 0] }).get? b = some u := fun b u e => Heap.get?_push_of_some _ (k₂ b u e)
 generalize h₂.push { cls := .type "dict_keyiterator", data := .fields #[.ref d, .int 0 0, .int es.size 0, .int ep 0] } = h₃ at *
 rw [hz₂] at hit ⊢
 have hT₃ : Shared.TypeIs { s with heap := h₃ } (.ref d) "dict" := ⟨o, k₃ d o hd, hc⟩
 refine wpAny_bind (wpAny_holding (kt_hint hT₃ ?_))
 rw [if_pos (by decide +kernel)]
 refine wpAny_bind (wpAny_rule (wpAny_bind ?_))
 show wpAny _ A.in1.in1 (updateSeq s.heap.objs.size (·.push .none) >>= fun _ => updateSeq s.heap.objs.size (·.pop)) _ _ _
 refine wpAny_bind (wpAny_updateSeq (s := { s with heap := h₃ }) hS₃ rfl ?_)
 have hS₄ := Heap.get?_update_self (Obj.mapSeq (·.push Value.none)) hS₃ rfl
 refine wpAny_updateSeq (s := { s with heap := h₃.update s.heap.objs.size (Obj.mapSeq (·.push Value.none)) }) hS₄ rfl ?_
 have hS₅ := Heap.get?_update_self (Obj.mapSeq (·.pop)) hS₄ rfl
 have oth : ∀ b u, b ≠ s.heap.objs.size → h₃.get? b = some u → ((h₃.update s.heap.objs.size (Obj.mapSeq (·.push Value.none))).update s.heap.objs.size (Obj.mapSeq (·.pop))).get? b = some u := fun b u hb e => by
   rw [Heap.get?_update_ne _ _ _ _ hb, Heap.get?_update_ne _ _ _ _ hb]; exact e
 have ne1 : s.heap.objs.size + 1 ≠ s.heap.objs.size := Nat.succ_ne_self _
 refine wpAny_pure ⟨plainId_quiet PySem.F.plain_extend_loop _, kt_loop (A := A.in1) (it := s.heap.objs.size + 1) (o := o) hh hdd (Nat.ne_of_gt (Nat.lt_succ_of_lt hdl)) (Nat.ne_of_gt hdl) (Ne.symm ne1) hn es.size 0
   { s with heap := (h₃.update s.heap.objs.size (Obj.mapSeq (·.push Value.none))).update s.heap.objs.size (Obj.mapSeq (·.pop)) } _ _ rfl (Nat.zero_le _) (oth _ _ ne1 hit) (oth d o (Nat.ne_of_lt hdl) (k₃ d o hd)) hS₅ rfl fun h' acc' c' keep hS' hp => ⟨rfl, ?_⟩⟩
 refine q h' c' (fun b u e => ?_) (by rw [hS', ← hp, Array.toArray_toList])
 have hb : b < s.heap.objs.size := Heap.lt_size e
 exact keep b u (Nat.ne_of_lt (Nat.lt_succ_of_lt hb)) (Nat.ne_of_lt hb) (oth b u (Nat.ne_of_lt hb) (k₃ b u e))
noncomputable def gLstY : G1 := fun d S => match d with
 | .ref n => match S[n]? with
   | some (.dcT kvs) => some (.ref S.length, S ++ [.lst (kvs.map fun p => tkD p.1)])
   | some (.dct []) => some (.ref S.length, S ++ [.lst []])
   | _ => gLst d S
 | _ => gLst d S
end
section
variable {X : Cx}
theorem KT.keys {K : PySem.W.Frag} {H : Hp} {mu : List Addr} : ∀ {ks : List (TK × D)} {ws : List (TK × Addr × Value)}, KT K H mu ks ws → Reps K H mu (ks.map fun p => tkD p.1) (ws.map fun x => V.ref x.2.1)
 | _, _, .nil => .nil
 | _, _, .cons ⟨z, d, k, _⟩ t => .cons k (KT.keys t)
theorem vals_keys : ∀ ws : List (TK × Addr × Value), Vals (ws.map fun x => V.ref x.2.1) (ws.map fun x => Value.ref x.2.1)
 | [] => .nil
 | _ :: ws => .cons rfl (vals_keys ws)
theorem c_listY (hcm : X.calm = true) : CallR X (.type "list") (rN X.K (b1 gLstY)) := by
 intro pins s σ H xs us Q I r h
 obtain ⟨x, mu, S, d, r', S', hx, r1, hs, hm, hc⟩ := rn1 h
 have back : gLst d S = some (r', S') → wpAny (model X.prog X.w) X.A (call (.type "list") us) (EP X pins σ Q) X.xe s := fun hm => c_list pins s σ H xs us Q I r (by rw [hx]; exact ⟨mu, S, [d], r', S', .cons r1 .nil, hs, hm, hc⟩)
 unfold gLstY at hm
 split at hm
 · rename_i n
   split at hm
   · rename_i kvs en
     cases hm
     subst hx
     obtain ⟨u, rfl, r2⟩ := vals1 r
     cases r1 with
     | @ref _ a hn =>
       cases r2
       obtain ⟨ws, h1, h2, h3⟩ := hs.dcT en hn
       obtain ⟨⟨hsm, _, o, es, ep, h5, h6, h7, h8⟩, _⟩ := (show ObjOk X.prog X.w H s.heap a (.ext (DictAt a ws)) from I.hok a _ h1)
       have hsz : es.size ≤ sizeLine := by rw [← Array.length_toList, h8, List.length_map]; exact h3
       refine kt_list (I.ok.hd hcm) hsm h5 h6.1 h7 hsz fun h' c' keep hat => ?_
       have hfr := I.hok.fresh (Nat.le_refl s.heap.objs.size)
       have hv : Vals (ws.map fun x => V.ref x.2.1) (es.toList.map (·.key)) := by
         rw [h8, List.map_map]
         exact vals_keys ws
       refine ⟨.ref s.heap.objs.size, _, I.laid (t' := s.toks) (o := .lst (ws.map fun x => V.ref x.2.1)) keep (Nat.le_refl _) ⟨by rw [List.length_map]; exact h3, _, c', hv, hat⟩, rfl, hc _ _ (mu ++ [_]) (Ext.new_ hfr) (.ref (new_at hs.len _)) (hs.newL h2.keys hfr)⟩
   · rename_i en
     cases hm
     subst hx
     obtain ⟨u, rfl, r2⟩ := vals1 r
     cases r1 with
     | @ref _ a hn =>
       cases r2
       obtain ⟨ws, h1, h2⟩ := hs.dct en hn
       cases h2
       obtain ⟨_, hsm, vs, h5, o, es, ep, h6, h7, h8, h9⟩ := I.hok a _ h1
       cases h5
       have hes : es.toList = [] := List.length_eq_zero_iff.mp (by have := h9.2.1.length; simpa using this)
       have hsz : es.size = 0 := by rw [← Array.length_toList, hes]; rfl
       refine kt_list (I.ok.hd hcm) hsm h6 h7.1 h8 (by rw [hsz]; exact Nat.zero_le _) fun h' c' keep hat => ?_
       have hfr := I.hok.fresh (Nat.le_refl s.heap.objs.size)
       rw [hes] at hat
       exact ⟨.ref s.heap.objs.size, _, I.laid (t' := s.toks) (o := .lst []) keep (Nat.le_refl _) ⟨Nat.zero_le _, [], c', .nil, hat⟩, rfl, hc _ _ (mu ++ [_]) (Ext.new_ hfr) (.ref (new_at hs.len _)) (hs.newL .nil hfr)⟩
   · exact back hm
 · exact back hm
end
end Mi
end
section
namespace Mi
open PySem PySem.Spec PyProof.Rows L2
section
variable {X : Cx}
end
end Mi
end
section
namespace Mi
open PySem PySem.Spec PyProof.Rows L2
noncomputable def NF (X : Cx) (a : Addr) : Prop := (∀ xs, X.H₀ a ≠ some (.tup xs)) ∧ (∀ o v, X.H₀ a ≠ some (.frz o v)) ∧ ∀ ps, X.H₀ a ≠ some (.tbl ps)
section
variable {X : Cx} {pins : List (Addr × Obj)} {σ : L2.St} {H : Hp} {s : Shared} {a : Addr} {u v : HO}
theorem inv_swap (I : Inv X pins σ H s) (e : H a = some u) (nf : NF X a) (h1 : ∀ c, u ≠ .own c) (h2 : ∀ xs, u ≠ .tup xs) (new : ObjOk X.prog X.w H s.heap a v) : Inv X pins σ (upd H a v) s := by
 have ne : ∀ {b : Addr}, H b = none → b ≠ a := fun {b} z => by rintro rfl; rw [e] at z; cases z
 have ho : ∀ b c, H b = some (.own c) → upd H a v b = some (.own c) := fun b c z => by
   rw [upd_ne (by rintro rfl; rw [e] at z; cases z; exact h1 _ rfl)]; exact z
 have ht : ∀ b xs, H b = some (.tup xs) → upd H a v b = some (.tup xs) := fun b xs z => by
   rw [upd_ne (by rintro rfl; rw [e] at z; cases z; exact h2 _ rfl)]; exact z
 refine ⟨I.ok, I.os, I.bare, ⟨I.base.keep, I.base.slot, fun b o q n hx => ?_, I.base.there, fun b xs q => ?_, fun b o w q => ?_, fun b ps q => ?_⟩, I.loc, I.cell, ?_, fun x c q => ?_, fun p hp => ?_, fun b w q => ?_, I.len⟩
 · have z := I.base.free b o q n hx
   rw [upd_ne (ne z)]; exact z
 · rw [upd_ne (by rintro rfl; exact nf.1 _ q)]; exact I.base.tups b xs q
 · rw [upd_ne (by rintro rfl; exact nf.2.1 _ _ q)]; exact I.base.frzs b o w q
 · rw [upd_ne (by rintro rfl; exact nf.2.2 _ q)]; exact I.base.tbls b ps q
 · rw [upd_ne (ne I.free)]; exact I.free
 · rw [upd_ne (ne (I.freeC x c q))]; exact I.freeC x c q
 · obtain ⟨p1, p2, p3⟩ := I.pin p hp
   exact ⟨p1, by rw [upd_ne (ne p2)]; exact p2, p3⟩
 · by_cases hb : b = a
   · subst hb
     rw [upd_same] at q; cases q
     exact new.stay (fun c o _ z => z) (fun c z => ho c _ z) fun c xs z => ht c xs z
   · rw [upd_ne hb] at q
     exact (I.hok b w q).stay (fun c o _ z => z) (fun c z => ho c _ z) fun c xs z => ht c xs z
end
inductive DicO (a : Addr) : List (TK × Addr × Value) → HO → Prop
 | ext (xs : List (TK × Addr × Value)) : DicO a xs (.ext (DictAt a xs))
 | dK : DicO a [] (.dK [])
noncomputable def ItD (a : Addr) (o : Obj) (xs : List (TK × Addr × Value)) : It :=
 ⟨fun i H => (∃ u, H a = some (.frz o u)) ∧ i < xs.length, fun i H x H' => H' = H ∧ ∃ q, xs[i]? = some q ∧ x = .ref q.2.1, fun i H => (∃ u, H a = some (.frz o u)) ∧ xs.length ≤ i⟩
theorem turn_keys {P : Program} {w : World} {K : PySem.W.Frag} {tg : Expr} {a it : Addr} {o : Obj} {xs : List (TK × Addr × Value)} {es : Array DictEntry} {ep : Nat} (hd : o.data = .dict es ep) (hes : es.toList = xs.map fun x => (⟨x.1.hash, .ref x.2.1, x.2.2⟩ : DictEntry)) :
   Turn P w K tg (ItD a o xs) [it] it (fun i h => KtIs h it a i es.size ep) where
 mem := by simp
 obj := fun i h st b hb => by
   have e : b = it := by simpa using hb
   subst e
   exact ⟨_, st, fun v z => by cases z⟩
 keep := fun i h h' st k => k it (by simp) _ st
 item := by
   intro X hP hw hK hc i pins s σ H E I hf st hg
   subst hP hw hK
   obtain ⟨⟨u, hu⟩, hi⟩ := hg
   obtain ⟨ho, _⟩ := (show ObjOk X.prog X.w H s.heap a (.frz o u) from I.hok a _ hu)
   have hsz : es.size = xs.length := by rw [← Array.length_toList, hes, List.length_map]
   obtain ⟨f0, f1, f2, f3, f4, f5⟩ := hf it (by simp)
   refine kt_next st ho hd (by omega) fun h' st' sb => ?_
   have I1 : Inv X pins σ H { s with heap := h' } := I.turned (t' := s.toks) (fun b o hb e => (sb.2 b hb).trans e) f0 f1 f3 f4 f5
   have hk : es[i].key = .ref (xs[i]).2.1 := by
     have : es.toList[i]? = (xs.map fun x => (⟨x.1.hash, .ref x.2.1, x.2.2⟩ : DictEntry))[i]? := by rw [hes]
     rw [Array.getElem?_toList, Array.getElem?_eq_getElem (by omega), List.getElem?_map, List.getElem?_eq_getElem hi] at this
     have := Option.some.inj this
     rw [this]
   refine ⟨_, rfl, go_of (s := { s with heap := h' }) st' rfl rfl (by decide) ⟨.ref (xs[i]).2.1, H, I1, hk, ⟨rfl, _, List.getElem?_eq_getElem hi, rfl⟩, st', fun b hb => (hf b hb).1⟩⟩
 done := by
   intro X hP hw hK hc i pins s σ H E I hf st hg
   subst hP hw hK
   obtain ⟨⟨u, hu⟩, hi⟩ := hg
   obtain ⟨ho, _⟩ := (show ObjOk X.prog X.w H s.heap a (.frz o u) from I.hok a _ hu)
   have hsz : es.size = xs.length := by rw [← Array.length_toList, hes, List.length_map]
   obtain ⟨f0, f1, f2, f3, f4, f5⟩ := hf it (by simp)
   exact kt_end (I.ok.hd hc) st ho hd (by omega) fun h' eb => ⟨rfl, I.turned (t' := s.toks) (fun b o hb e => eb b o hb e) f0 f1 f3 f4 f5⟩
 self := fun _ _ _ _ _ st h => wpAny_pyIter_keyiter ⟨_, st, rfl, rfl⟩ h
noncomputable def iDic (X : Cx) (tl : TE) : TI := fun σ H R => tl σ H fun x H1 => ∃ a xs u, x = .ref a ∧ H1 a = some u ∧ DicO a xs u ∧ xs.length ≤ sizeLine ∧ ∀ o, DictO a xs o → NF X a → R (ItD a o xs) (upd H1 a (.frz o u))
theorem dic_at {X : Cx} {pins : List (Addr × Obj)} {σ : L2.St} {H : Hp} {s : Shared} {a : Addr} {u : HO} {xs : List (TK × Addr × Value)} (I : Inv X pins σ H s) (e : H a = some u) (h : DicO a xs u) : ∃ o, s.heap.get? a = some o ∧ DictO a xs o := by
 cases h with
 | ext xs =>
   obtain ⟨⟨h1, h2, o, es, ep, h3, h4, h5, h6⟩, _⟩ := (show ObjOk X.prog X.w H s.heap a (.ext (DictAt a xs)) from I.hok a _ e)
   exact ⟨o, h3, h1, h2, h4, es, ep, h5, h6⟩
 | dK =>
   obtain ⟨_, h1, vs, h2, h3⟩ := (show ObjOk X.prog X.w H s.heap a (.dK []) from I.hok a _ e)
   cases h2
   obtain ⟨o, es, ep, h3, h4, h5, h6, _⟩ := empty_of h3
   exact ⟨o, h3, h1, List.nodup_nil, h4, es, ep, h5, h6⟩
theorem dic_nf {X : Cx} {pins : List (Addr × Obj)} {σ : L2.St} {H : Hp} {s : Shared} {a : Addr} {u : HO} {xs : List (TK × Addr × Value)} (I : Inv X pins σ H s) (e : H a = some u) (h : DicO a xs u) : NF X a := by
 refine ⟨fun ys q => ?_, fun o v q => ?_, fun ps q => ?_⟩
 · have := I.base.tups a ys q; rw [e] at this; cases this; cases h
 · have := I.base.frzs a o v q; rw [e] at this; cases this; cases h
 · obtain ⟨m, z⟩ := I.base.tbls a ps q; rw [e] at z; cases z; cases h
theorem pi_dic {X : Cx} {tg l : Expr} {tl : TE} (hl : PE X l tl) : PI X tg l (iDic X tl) := by
 intro pins s σ H R I h
 refine thn (hl pins s σ H _ I h) fun v s1 ⟨x, H1, I1, r1, q1⟩ => ?_
 obtain ⟨a, xs, u, e, hu, hd, hz, q⟩ := q1
 subst e
 cases r1
 obtain ⟨o, ho, hO⟩ := dic_at I1 hu hd
 have nf := dic_nf I1 hu hd
 have q := q o hO nf
 obtain ⟨g1, g2, g3, es, ep, g4, g5⟩ := hO
 have hsz : es.size = xs.length := by rw [← Array.length_toList, g5, List.length_map]
 refine kt_iter g1 ho g3.1 g4 (by omega) ?_
 have I2 : Inv X pins σ (upd H1 a (.frz o u)) s1 := inv_swap I1 hu nf (fun c z => by subst z; cases hd) (fun c z => by subst z; cases hd) ⟨ho, I1.hok a _ hu⟩
 refine ⟨s1.heap.objs.size, [s1.heap.objs.size], _, _, _, rfl, I2.kept (t' := s1.toks) fun b o e => Heap.get?_push_of_some _ e, turn_keys g4 g5, Heap.get?_push_size _ rfl, fun b hb => ?_, q⟩
 have e : b = s1.heap.objs.size := by simpa using hb
 subst e
 exact I1.fpOk (Nat.le_refl _) (I2.hok.fresh (Nat.le_refl _))
noncomputable def keysO : Ob → Option (List (TK × D))
 | .dcT kvs => some kvs
 | .dct [] => some []
 | _ => none
noncomputable def fCompK (k : Nat) (keep : List Nat) (m : FE) (g : FG) (t : FT) (b : FV) : FE := fun r S => (m r S).bind fun p => match p.1 with
 | .ref n => (p.2[n]?).bind fun ob => (keysO ob).bind fun kvs => (loopF [] g t b (kvs.map fun q => tkD q.1) (inEv k keep r) (p.2.set n (.dcF kvs))).bind fun q =>
     if q.1.length ≤ sizeLine then some (.ref q.2.2.length, q.2.2.set n ob ++ [.lst q.1]) else none
 | _ => none
section
variable {K : PySem.W.Frag} {H H' : Hp} {mu mu' : List Addr} {S : Sto} {n : Nat} {a : Addr} {o : Obj} {u : HO}
theorem ObR.exv {b : Addr} (e : Exv mu mu' H H') (h : ∀ o, H b = some o → H' b = some o) : ∀ {o : Ob}, ObR K H mu b o → ObR K H' mu' b o
 | .lst _, ⟨vs, q, r⟩ => ⟨vs, h _ q, r.exv e⟩
 | .dct _, ⟨ws, q, r⟩ => ⟨ws, h _ q, Paired.mapP r fun _ _ z => ⟨z.1, z.2.exv e⟩⟩
 | .dcT _, ⟨ws, q, r, l⟩ => ⟨ws, h _ q, Paired.mapP r fun _ _ ⟨z, d, k, v, rv, r⟩ => ⟨z, d, k.exv e, v, rv, r.exv e⟩, l⟩
 | .iset _, q => ⟨h _ q.1, q.2⟩
 | .dcF _, ⟨ws, ⟨o, u, e1, e2⟩, r, l⟩ => ⟨ws, ⟨o, u, h _ e1, e2⟩, Paired.mapP r fun _ _ ⟨z, d, k, v, rv, r⟩ => ⟨z, d, k.exv e, v, rv, r.exv e⟩, l⟩
theorem thaw_exv (e : H a = some (.frz o u)) (h1 : ∀ xs, u ≠ .tup xs) (h2 : ∀ xs, u ≠ .lst xs) : Exv mu mu H (upd H a u) where
 pre := List.prefix_rfl
 tup := fun b xs h => by
   have ne : b ≠ a := by
     rintro rfl
     rcases h with h | ⟨_, h⟩ <;> (rw [e] at h; cases h)
     exact h1 _ rfl
   rcases h with h | ⟨ob, h⟩
   · exact .inl (by rw [upd_ne ne]; exact h)
   · exact .inr ⟨ob, by rw [upd_ne ne]; exact h⟩
 frl := fun b ob xs h => by
   rw [upd_ne (by rintro rfl; rw [e] at h; cases h; exact h2 _ rfl)]; exact h
theorem Sim.thaw (s : Sim K H mu S) {ob : Ob} (hn : mu[n]? = some a) (x : Exv mu mu H (upd H a u)) (ho : ObR K (upd H a u) mu a ob) : Sim K (upd H a u) mu (S.set n ob) := by
 refine ⟨by rw [List.length_set]; exact s.len, s.nd, fun k o' b h1 h2 => ?_⟩
 by_cases hk : n = k
 · subst hk
   have hl : n < S.length := by
     have := (List.getElem?_eq_some_iff.mp h1).1
     rwa [List.length_set] at this
   rw [List.getElem?_set_self hl] at h1
   cases h1
   rw [hn] at h2; cases h2
   exact ho
 · rw [List.getElem?_set_ne hk] at h1
   have ne : b ≠ a := fun e => by
     subst e
     obtain ⟨l1, e1⟩ := List.getElem?_eq_some_iff.mp hn
     obtain ⟨l2, e2⟩ := List.getElem?_eq_some_iff.mp h2
     exact hk ((List.getElem_inj s.nd).mp (e1.trans e2.symm))
   exact (s.ob k o' b h1 h2).exv x fun ob e => by rw [upd_ne ne]; exact e
theorem keys_at (s : Sim K H mu S) {ob : Ob} {kvs : List (TK × D)} (h : S[n]? = some ob) (hk : keysO ob = some kvs) (hn : mu[n]? = some a) :
   ∃ xs u, H a = some u ∧ DicO a xs u ∧ KT K H mu kvs xs ∧ xs.length ≤ sizeLine ∧ ∀ H' mu', Exv mu mu' H H' → H' a = some u → ObR K H' mu' a ob := by
 cases ob with
 | dcT ks =>
   cases hk
   obtain ⟨xs, e, r, l⟩ := s.dcT h hn
   exact ⟨xs, _, e, .ext xs, r, l, fun H' mu' x e' => ⟨xs, e', Paired.mapP r fun _ _ ⟨z, d, k, v, rv, r⟩ => ⟨z, d, k.exv x, v, rv, r.exv x⟩, l⟩⟩
 | dct ks =>
   cases ks with
   | nil =>
     cases hk
     obtain ⟨ws, e, r⟩ := s.dct h hn
     cases r
     exact ⟨[], _, e, .dK, .nil, Nat.zero_le _, fun H' mu' x e' => ⟨[], e', .nil⟩⟩
   | cons _ _ => cases hk
 | _ => cases hk
end
theorem KT.keyOf {K : PySem.W.Frag} {H : Hp} {mu : List Addr} {ks : List (TK × D)} {ws : List (TK × Addr × Value)} (h : KT K H mu ks ws) {i : Nat} {d : D} (e : (ks.map fun q => tkD q.1)[i]? = some d) {q : TK × Addr × Value} (e2 : ws[i]? = some q) : Rep K H mu d (.ref q.2.1) := by
 obtain ⟨v, ev, rv⟩ := h.keys.get e
 rw [List.getElem?_map, e2] at ev
 cases ev
 exact rv
theorem compK_ok {X : Cx} {K : PySem.W.Frag} {k : Nat} {keep : List Nat} {m : FE} {g : FG} {t : FT} {b : FV} {tb : Addr → TS} (hb : ∀ a E σ H, tMV K a b E σ H → tb a E σ H) {σ : L2.St} {H : Hp} {Q : VK} (h : tM K (fCompK k keep m g t b) σ H Q) :
   tComp k keep (iDic X (tM K m)) (tMG K g) (tMT K t) tb σ H (fun v H' => ∃ a o u, H' a = some (.frz o u) ∧ (∀ xs, u ≠ .tup xs) ∧ NF X a ∧ Q v (upd H' a u)) := by
 obtain ⟨r, mu, S, d, S', he, hs, hm, hc⟩ := h
 obtain ⟨⟨d1, S1⟩, e1, hm⟩ := Option.bind_eq_some_iff.mp hm
 cases d1 with
 | ref n =>
   obtain ⟨ob, eo, hm⟩ := Option.bind_eq_some_iff.mp hm
   obtain ⟨kvs, ek, hm⟩ := Option.bind_eq_some_iff.mp hm
   obtain ⟨⟨ys, r2, S2⟩, e2, hm⟩ := Option.bind_eq_some_iff.mp hm
   dsimp only at hm
   split at hm
   · rename_i hl
     cases hm
     refine ⟨r, mu, S, .ref n, S1, he, hs, e1, fun v H1 mu1 x1 r1 s1 => ?_⟩
     cases r1 with
     | @ref _ a hn =>
     obtain ⟨xs, u, hu, hd, hk, hz, back⟩ := keys_at s1 eo ek hn
     refine ⟨a, xs, u, rfl, hu, hd, hz, fun o hO nf p hp => ?_⟩
     have mt : Mut (some u) := by cases hd <;> trivial
     have put : Ext mu1 mu1 H1 (upd H1 a (.frz o u)) := Ext.put hu mt (List.mem_of_getElem? hn)
     have sf : Sim K (upd H1 a (.frz o u)) mu1 (S1.set n (.dcF kvs)) := s1.put hn hu mt ⟨xs, ⟨o, u, upd_same, hO⟩, KT.ext put hk, hz⟩
     have hpa : p ≠ a := by rintro rfl; rw [upd_same] at hp; cases hp
     have fr : Ext mu1 mu1 (upd H1 a (.frz o u)) (upd (upd H1 a (.frz o u)) p (.lst [])) := Ext.fresh hp
     have hlen : kvs.length = xs.length := by have := hk.keys.length; simpa using this
     have J1 : ItR K (ItD a o xs) ⟨kvs.map fun q => tkD q.1, []⟩ mu1 (upd H1 a (.frz o u)) := by
       intro i H2 mu2 S2 x2 s2 _
       have hf := x2.frz a o u upd_same
       refine ⟨fun d hd => ?_, fun h => ⟨⟨u, hf⟩, by rw [List.length_map] at h; omega⟩⟩
       have hi : i < xs.length := by have := (List.getElem?_eq_some_iff.mp hd).1; rw [List.length_map] at this; omega
       refine ⟨⟨⟨u, hf⟩, hi⟩, ?_⟩
       rintro y H3 ⟨rfl, q, eq, rfl⟩
       exact ⟨.refl _ _, s2, ((KT.ext put hk).keyOf hd eq).exw x2⟩
     refine loopF_ok (hb p) J1 fr.w upd_same (sf.notin hp) .nil ((inEnv k keep (he.ext (x1.trans put))).ext fr) (sf.fresh hp) e2 (by simpa using hl) fun σ' H' mu' vs' x' ha' hn' hr' he' s' => ?_
     have hf' : H' a = some (.frz o u) := x'.frz a o u (by rw [upd_ne hpa.symm]; exact upd_same)
     have h1 : ∀ xs, u ≠ .tup xs := fun xs z => by subst z; cases hd
     have h2 : ∀ xs, u ≠ .lst xs := fun xs z => by subst z; cases hd
     refine ⟨a, o, u, hf', h1, nf, ?_⟩
     have pre := (List.cons_prefix_cons.mp x'.pre).2
     have na : mu'[n]? = some a := by
       obtain ⟨t, rfl⟩ := pre
       rw [List.getElem?_append_left (List.getElem?_eq_some_iff.mp hn).1]; exact hn
     have ne1 : ∀ {b : Addr}, H1 b = none → b ≠ a := fun {b} z => by rintro rfl; rw [hu] at z; cases z
     have y : Ext mu1 (mu' ++ [p]) H1 (upd H' a u) := by
       refine ⟨pre.trans (List.prefix_append _ _), fun b w e nb => ?_, fun b ys e => ?_, fun b ob w e => ?_, fun b hb' => ?_⟩
       · have ba : b ≠ a := fun z => nb (by rw [z]; exact List.mem_of_getElem? hn)
         have bp : b ≠ p := by rintro rfl; rw [upd_ne hpa, e] at hp; cases hp
         rw [upd_ne ba]
         exact x'.old b w (by rw [upd_ne bp, upd_ne ba]; exact e) fun z => by
           rcases List.mem_cons.mp z with z | z
           · exact bp z
           · exact nb z
       · exact (thaw_exv (mu := mu') hf' h1 h2).tup b ys (x'.tup b ys (fr.tup b ys (put.tup b ys e)))
       · have ba : b ≠ a := by rintro rfl; rw [hu] at e; cases e; cases hd
         rw [upd_ne ba]
         exact x'.frz b ob w (fr.frz b ob w (put.frz b ob w e))
       · rcases List.mem_append.mp hb' with z | z
         · rcases x'.new b (List.mem_cons_of_mem _ z) with q | q
           · rcases List.mem_cons.mp q with q | q
             · exact .inr (by rw [q]; rw [upd_ne hpa] at hp; exact hp)
             · exact .inl q
           · by_cases hbp : b = p
             · exact .inr (by rw [hbp]; rw [upd_ne hpa] at hp; exact hp)
             · rw [upd_ne hbp] at q
               by_cases hba : b = a
               · exact .inl (by rw [hba]; exact List.mem_of_getElem? hn)
               · rw [upd_ne hba] at q; exact .inr q
         · have : b = p := by simpa using z
           exact .inr (by rw [this]; rw [upd_ne hpa] at hp; exact hp)
     have tx := thaw_exv (mu := mu') hf' h1 h2
     have s3 : Sim K (upd H' a u) mu' (S2.set n ob) := s'.thaw na tx (back _ _ ⟨pre, y.tup, fun b ob w e => y.frz b ob _ e⟩ upd_same)
     have hpa' : upd H' a u p = some (.lst vs') := by rw [upd_ne hpa]; exact ha'
     refine hc _ _ (mu' ++ [p]) (x1.trans y) (by rw [show S2.length = (S2.set n ob).length by simp]; exact .ref (new_at s3.len p)) ⟨by rw [List.length_append, List.length_append, s3.len]; rfl, ?_, fun j w b h1 h2 => ?_⟩
     · rw [List.nodup_append]
       refine ⟨s3.nd, by simp, fun b hb c hc e => ?_⟩
       have : c = p := by simpa using hc
       subst this; subst e
       exact hn' hb
     · by_cases hk : j < (S2.set n ob).length
       · rw [List.getElem?_append_left hk] at h1
         rw [List.getElem?_append_left (by rw [s3.len]; exact hk)] at h2
         exact (s3.ob j w b h1 h2).mor [p]
       · have hk' : j = (S2.set n ob).length := by
           have := (List.getElem?_eq_some_iff.mp h1).1
           rw [List.length_append] at this
           simp at this hk
           simp
           omega
         subst hk'
         rw [List.getElem?_append_right (Nat.le_refl _)] at h1
         rw [← s3.len, List.getElem?_append_right (Nat.le_refl _)] at h2
         simp at h1 h2
         subst h1; subst h2
         exact ⟨vs', hpa', ((by simpa using hr' : Reps K H' mu' ys vs').exv tx).mor [p]⟩
   · cases hm
 | _ => cases hm
theorem xfe_compK {X : Cx} {elt tg iter : Expr} {ifs : List Expr} {scope : Scope} {pos : Pos} {T : List Str} {keep : List Nat} {cl : List (Str × Addr)} {m : FE} {g : FG} {t : FT} {e : FE} (hc : X.calm = true)
   (C : CSc X scope T keep) (hcl : cloF X.env.cells scope.names [] = some cl) (hi : XE X iter m) (hb : ∀ s H fp, XB1 (cxC X scope cl T keep s H fp) X.K tg ifs elt g t e)
   (hs : ∀ x, foldedSetIterable iter X.env x = pure x := by intro _; rfl) : XE X (.ListComp elt [⟨tg, iter, ifs, 0⟩] scope pos) (fCompK T.length keep m g t (fEmit e)) := by
 refine ⟨fun pins s σ H Q I h => ?_⟩
 have pe := pe_comp (g := tMG X.K g) (ti := tMT X.K t) (emit := emitE elt) (tb := fun p => tEmit p (tM X.K e)) hc (fun it acc env => turn_A elt tg iter ifs scope pos it acc env) C hcl (pi_dic (tg := tg) hi.h) (fun s H fp p => ⟨(hb s H fp).g.h, (hb s H fp).t.h, pu_emit (hb s H fp).e.h p⟩) hs
 refine wpAny_mono (pe pins s σ H _ I (compK_ok (fun a E σ H q => emitF_ok q) h)) ?_ fun _ _ x => x
 rintro v s2 ⟨x, H2, I2, r2, a, o, u, hf, ht, nf, q⟩
 exact ⟨x, upd H2 a u, inv_swap I2 hf nf (fun c z => by cases z) (fun c z => by cases z) (I2.hok a _ hf).2, r2, q⟩
end Mi
end
section
namespace Mi
open PySem PySem.Spec PyProof.Rows L2
noncomputable def W {α : Type} (o : Option α) (Q : α → Prop) : Prop := ∃ x, o = some x ∧ Q x
section
variable {α β : Type} {Q : α → Prop}
theorem W_some {x : α} : W (some x) Q ↔ Q x := ⟨fun ⟨_, e, h⟩ => (by cases e; exact h), fun h => ⟨x, rfl, h⟩⟩
theorem W_none : W (none : Option α) Q ↔ False := ⟨fun ⟨_, e, _⟩ => (by cases e), False.elim⟩
theorem W_bind {o : Option β} {f : β → Option α} : W (o.bind f) Q ↔ W o fun x => W (f x) Q := by
 cases o with
 | none => exact ⟨fun ⟨_, e, _⟩ => (by cases e), fun ⟨_, e, _⟩ => (by cases e)⟩
 | some x => exact ⟨fun h => ⟨x, rfl, h⟩, fun ⟨_, e, h⟩ => by cases e; exact h⟩
theorem W_map {o : Option β} {f : β → α} : W (o.map f) Q ↔ W o fun x => Q (f x) := by
 cases o with
 | none => exact ⟨fun ⟨_, e, _⟩ => (by cases e), fun ⟨_, e, _⟩ => (by cases e)⟩
 | some x => exact ⟨fun ⟨_, e, h⟩ => (by cases e; exact ⟨x, rfl, h⟩), fun ⟨_, e, h⟩ => (by cases e; exact ⟨_, rfl, h⟩)⟩
theorem W_ite {c : Prop} [Decidable c] {a b : Option α} : W (if c then a else b) Q ↔ if c then W a Q else W b Q := by split <;> exact Iff.rfl
theorem W.mono {o : Option α} {Q' : α → Prop} (h : W o Q) (k : ∀ x, Q x → Q' x) : W o Q' := let ⟨x, e, q⟩ := h; ⟨x, e, k x q⟩
theorem W.of {o : Option α} {x : α} (e : o = some x) (h : Q x) : W o Q := ⟨x, e, h⟩
end
theorem seqW {a b : FS} {r : Ev} {S : Sto} {Q : Fl × Ev × Sto → Prop} (R : Ev → Sto → Prop) (h1 : W (a r S) fun p => p.1 = .nx ∧ R p.2.1 p.2.2) (h2 : ∀ r S, R r S → W (b r S) Q) : W (mSeq a b r S) Q := by
 obtain ⟨⟨f, r1, S1⟩, e, hf, hR⟩ := h1
 dsimp only at hf hR
 subst hf
 unfold mSeq
 rw [e]
 exact h2 r1 S1 hR
theorem fnW {n : Nat} {b : FS} {ds : List D} {S : Sto} {Q : D × Sto → Prop} (h : W (b (startD n ds) S) fun p => match p.1 with
   | .rt d => Q (d, p.2.2)
   | .nx => Q (.non, p.2.2)
   | _ => False) : W (fnB n b ds S) Q := by
 obtain ⟨⟨f, r1, S1⟩, e, q⟩ := h
 unfold fnB
 rw [e]
 cases f with
 | rt d => exact ⟨_, rfl, q⟩
 | nx => exact ⟨_, rfl, q⟩
 | bk => exact q.elim
 | ct => exact q.elim
theorem callW {n : Nat} {f : FN} {ds : List D} {S : Sto} {Q : D × Sto → Prop} (hn : ds.length = n) (hu : D.unds 0 ds = false) (h : W (f ds S) fun p => Q (gc S.length p)) : W (mCall n f ds S) Q := by
 obtain ⟨⟨d, S1⟩, e, q⟩ := h
 exact ⟨_, call_open e hn hu, q⟩
theorem callP {n : Nat} {f : FN} {ds : List D} {S : Sto} {Q : D × Sto → Prop} (hn : ds.length = n) (hu : D.unds 0 ds = true) (h : W (f ds []) fun p => p.1.und 0 = true ∧ Q (p.1, S)) : W (mCall n f ds S) Q := by
 obtain ⟨⟨d, S1⟩, e, q1, q2⟩ := h
 exact ⟨_, call_shut e hn hu q1, q2⟩
mutual
theorem und_mono {n : Nat} : ∀ {d : D}, d.und 0 = true → d.und n = true
 | .non, _ => rfl
 | .bl _, _ => rfl
 | .int _, _ => rfl
 | .str _, _ => rfl
 | .tup xs, h => by rw [D.und] at h ⊢; exact unds_mono h
 | .rol xs, h => by rw [D.und] at h ⊢; exact unds_mono h
 | .ref k, h => by simp [D.und] at h
theorem unds_mono {n : Nat} : ∀ {ds : List D}, D.unds 0 ds = true → D.unds n ds = true
 | [], _ => rfl
 | d :: ds, h => by
   rw [D.unds, Bool.and_eq_true] at h ⊢
   exact ⟨und_mono h.1, unds_mono h.2⟩
end
theorem loopM_W {c : List (Nat × List D)} {g : FG} {b : FS} {Q : Fl × Ev × Sto → Prop} (I : Nat → Ev → Sto → Prop) : ∀ (items : List D) (k : Nat) (r : Ev) (S : Sto), I k r S →
   (∀ i r S, I i r S → okC S c = true) →
   (∀ i d, items[i]? = some d → ∀ r S, I (k + i) r S → W (g d r S) fun p => W (b p.1 p.2) fun q => q.1 = .nx ∧ I (k + i + 1) q.2.1 q.2.2) →
   (∀ r S, I (k + items.length) r S → Q (.nx, r, S)) → W (loopM c g b items r S) Q
 | [], k, r, S, hi, hok, _, hq => by rw [loopM]; dsimp only; rw [if_pos (hok _ _ _ hi), W_some]; exact hq r S (by simpa using hi)
 | d :: ds, k, r, S, hi, hok, hs, hq => by
   rw [loopM]; dsimp only; rw [if_pos (hok _ _ _ hi), W_bind]
   obtain ⟨p, e1, h1⟩ := hs 0 d rfl r S (by simpa using hi)
   refine ⟨p, e1, ?_⟩
   dsimp only
   rw [W_bind]
   obtain ⟨⟨f, r1, S1⟩, e2, h2, h3⟩ := h1
   refine ⟨_, e2, ?_⟩
   dsimp only at h2 h3 ⊢
   subst h2
   refine loopM_W I ds (k + 1) r1 S1 (by simpa using h3) hok (fun i d' hd r S hI => ?_) fun r S hI => hq r S (by rw [List.length_cons, show k + (ds.length + 1) = k + 1 + ds.length by omega]; exact hI)
   have := hs (i + 1) d' (by simpa using hd) r S (by rw [show k + (i + 1) = k + 1 + i by omega]; exact hI)
   rw [show k + (i + 1) + 1 = k + 1 + i + 1 by omega] at this
   exact this
theorem loopF_W {c : List (Nat × List D)} {g : FG} {t : FT} {e : FE} {Q : List D × Ev × Sto → Prop} (I : Nat → List D → Ev → Sto → Prop) : ∀ (items : List D) (k : Nat) (acc : List D) (r : Ev) (S : Sto), I k acc r S →
   (∀ i acc r S, I i acc r S → okC S c = true) →
   (∀ i d, items[i]? = some d → ∀ acc r S, I (k + i) acc r S → W (g d r S) fun p => W (t p.1 p.2) fun b => if b.1 = true then W (e p.1 b.2) fun x => I (k + i + 1) (acc ++ [x.1]) p.1 x.2 else I (k + i + 1) acc p.1 b.2) →
   (∀ xs r S, I (k + items.length) (acc ++ xs) r S → Q (xs, r, S)) → W (loopF c g t (fEmit e) items r S) Q
 | [], k, acc, r, S, hi, hok, _, hq => by rw [loopF]; dsimp only; rw [if_pos (hok _ _ _ _ hi), W_some]; exact hq [] r S (by simpa using hi)
 | d :: ds, k, acc, r, S, hi, hok, hs, hq => by
   rw [loopF]; dsimp only; rw [if_pos (hok _ _ _ _ hi), W_bind]
   obtain ⟨p, e1, h1⟩ := hs 0 d rfl acc r S (by simpa using hi)
   refine ⟨p, e1, ?_⟩
   dsimp only
   rw [W_bind]
   obtain ⟨⟨b, S1⟩, e2, h2⟩ := h1
   refine ⟨_, e2, ?_⟩
   have step : ∀ i d', ds[i]? = some d' → ∀ acc r S, I (k + 1 + i) acc r S → W (g d' r S) fun p => W (t p.1 p.2) fun b => if b.1 = true then W (e p.1 b.2) fun x => I (k + 1 + i + 1) (acc ++ [x.1]) p.1 x.2 else I (k + 1 + i + 1) acc p.1 b.2 := fun i d' hd acc r S hI => by
     have := hs (i + 1) d' (by simpa using hd) acc r S (by rw [show k + (i + 1) = k + 1 + i by omega]; exact hI)
     rw [show k + (i + 1) + 1 = k + 1 + i + 1 by omega] at this
     exact this
   dsimp only at h2 ⊢
   cases b with
   | true =>
     rw [if_pos rfl] at h2 ⊢
     rw [W_bind, fEmit, W_map]
     obtain ⟨⟨x, S2⟩, e3, h3⟩ := h2
     refine ⟨_, e3, ?_⟩
     dsimp only at h3 ⊢
     rw [W_map]
     refine loopF_W I ds (k + 1) (acc ++ [x]) p.1 S2 (by simpa using h3) hok step fun xs r S hI => ?_
     refine hq _ r S ?_
     rw [List.length_cons, show k + (ds.length + 1) = k + 1 + ds.length by omega]
     simpa using hI
   | false =>
     rw [if_neg (by decide)] at h2 ⊢
     refine loopF_W I ds (k + 1) acc p.1 S1 (by simpa using h2) hok step fun xs r S hI => ?_
     refine hq _ r S ?_
     rw [List.length_cons, show k + (ds.length + 1) = k + 1 + ds.length by omega]
     exact hI
theorem tru_bl {S : Sto} {b : Bool} : truD S (.bl b) = some b := rfl
theorem tru_non {S : Sto} : truD S .non = some false := rfl
theorem tru_int {S : Sto} {i : Int} : truD S (.int i) = some (i != 0) := rfl
theorem gEq_int {x y : Int} {S : Sto} : gEq (.int x) (.int y) S = some (.bl (x == y), S) := rfl
theorem gNe_int {x y : Int} {S : Sto} : gNe (.int x) (.int y) S = some (.bl (!(x == y)), S) := rfl
theorem gLt_int {x y : Int} {S : Sto} : gLt (.int x) (.int y) S = some (.bl (decide (x < y)), S) := rfl
theorem gEq_str {x y : Str} {S : Sto} : gEq (.str x) (.str y) S = some (.bl (x == y), S) := rfl
theorem gNe_str {x y : Str} {S : Sto} : gNe (.str x) (.str y) S = some (.bl (!(x == y)), S) := rfl
theorem ite_and' {c p : Prop} [Decidable c] : (if c then p else False) ↔ c ∧ p := by split <;> simp [*]
noncomputable def bnd (j : Int) : Bool := decide (-(2 ^ 62) ≤ j) && decide (j < 2 ^ 62)
theorem bnd_nat {n : Nat} (h : n < 2 ^ 60) : bnd n = true := by
 unfold bnd
 rw [Bool.and_eq_true, decide_eq_true_eq, decide_eq_true_eq]
 omega
noncomputable def rW1 (p : List D × Sto) (Q : Itm × Sto → Prop) : Prop := match p.1 with
 | [.int j] => bnd j = true ∧ Q (⟨nums 0 j.toNat, []⟩, p.2)
 | _ => False
noncomputable def rW2 (p : List D × Sto) (Q : Itm × Sto → Prop) : Prop := match p.1 with
 | [.int i, .int j] => bnd i = true ∧ bnd j = true ∧ Q (⟨nums i (j - i).toNat, []⟩, p.2)
 | _ => False
theorem W_iR1 {m : FA} {r : Ev} {S : Sto} {Q : Itm × Sto → Prop} : W (iR1 m r S) Q ↔ W (m r S) fun p => rW1 p Q := by
 unfold iR1
 rw [W_bind]
 constructor
 · refine fun h => h.mono fun p q => ?_
   unfold rW1
   split at q
   · rename_i j e
     try rw [e]
     rw [W_ite] at q
     split at q
     · rename_i hc
       exact ⟨by unfold bnd; rw [Bool.and_eq_true, decide_eq_true_eq, decide_eq_true_eq]; exact hc, W_some.mp q⟩
     · exact (W_none.mp q).elim
   · exact (W_none.mp q).elim
 · refine fun h => h.mono fun p q => ?_
   unfold rW1 at q
   split at q
   · rename_i j e
     obtain ⟨q1, q2⟩ := q
     unfold bnd at q1
     rw [Bool.and_eq_true, decide_eq_true_eq, decide_eq_true_eq] at q1
     try rw [e]
     try dsimp only
     rw [if_pos q1]
     exact W_some.mpr q2
   · exact q.elim
theorem W_iR2 {m : FA} {r : Ev} {S : Sto} {Q : Itm × Sto → Prop} : W (iR2 m r S) Q ↔ W (m r S) fun p => rW2 p Q := by
 unfold iR2
 rw [W_bind]
 constructor
 · refine fun h => h.mono fun p q => ?_
   unfold rW2
   split at q
   · rename_i i j e
     try rw [e]
     rw [W_ite] at q
     split at q
     · rename_i hc
       refine ⟨?_, ?_, W_some.mp q⟩
       · unfold bnd; rw [Bool.and_eq_true, decide_eq_true_eq, decide_eq_true_eq]; exact ⟨hc.1, hc.2.1⟩
       · unfold bnd; rw [Bool.and_eq_true, decide_eq_true_eq, decide_eq_true_eq]; exact hc.2.2
     · exact (W_none.mp q).elim
   · exact (W_none.mp q).elim
 · refine fun h => h.mono fun p q => ?_
   unfold rW2 at q
   split at q
   · rename_i i j e
     obtain ⟨q1, q3, q2⟩ := q
     unfold bnd at q1 q3
     rw [Bool.and_eq_true, decide_eq_true_eq, decide_eq_true_eq] at q1 q3
     try rw [e]
     try dsimp only
     rw [if_pos ⟨q1.1, q1.2, q3⟩]
     exact W_some.mpr q2
   · exact q.elim
noncomputable def fits (n : Nat) : Bool := decide (n ≤ sizeLine)
theorem fits_le {n : Nat} (h : n ≤ 100000) : fits n = true := by unfold fits; rw [decide_eq_true_eq]; exact Nat.le_trans h (by decide)
theorem fits_iff {n : Nat} : fits n = true ↔ n ≤ sizeLine := by unfold fits; rw [decide_eq_true_eq]
theorem ft0 : fits 0 = true := fits_le (by decide)
theorem ft1 : fits 1 = true := fits_le (by decide)
theorem ft2 : fits 2 = true := fits_le (by decide)
theorem ft3 : fits 3 = true := fits_le (by decide)
theorem ft4 : fits 4 = true := fits_le (by decide)
theorem ft5 : fits 5 = true := fits_le (by decide)
theorem ft6 : fits 6 = true := fits_le (by decide)
theorem ft7 : fits 7 = true := fits_le (by decide)
theorem ft8 : fits 8 = true := fits_le (by decide)
theorem W_fits {α : Type} {n : Nat} {o : Option α} {Q : α → Prop} : W (if n ≤ sizeLine then o else none) Q ↔ fits n = true ∧ W o Q := by
 rw [fits_iff, W_ite]
 split
 · rename_i h; exact ⟨fun q => ⟨h, q⟩, fun q => q.2⟩
 · rename_i h; exact ⟨fun q => (W_none.mp q).elim, fun q => absurd q.1 h⟩
theorem W_mTup {a : FA} {r : Ev} {S : Sto} {Q : D × Sto → Prop} : W (mTup a r S) Q ↔ W (a r S) fun p => fits p.1.length = true ∧ Q (.tup p.1, p.2) := by
 unfold mTup
 rw [W_bind]
 exact ⟨fun h => h.mono fun p q => (W_fits.mp q).imp_right W_some.mp, fun h => h.mono fun p q => W_fits.mpr (q.imp_right W_some.mpr)⟩
theorem W_mLst {a : FA} {r : Ev} {S : Sto} {Q : D × Sto → Prop} : W (mLst a r S) Q ↔ W (a r S) fun p => fits p.1.length = true ∧ Q (.ref p.2.length, p.2 ++ [.lst p.1]) := by
 unfold mLst
 rw [W_bind]
 exact ⟨fun h => h.mono fun p q => (W_fits.mp q).imp_right W_some.mp, fun h => h.mono fun p q => W_fits.mpr (q.imp_right W_some.mpr)⟩
theorem W_fComp {k : Nat} {keep : List Nat} {m : FI} {g : FG} {t : FT} {b : FV} {r : Ev} {S : Sto} {Q : D × Sto → Prop} : W (fComp k keep m g t b r S) Q ↔ W (m r S) fun p => W (loopF p.1.chk g t b p.1.items (inEv k keep r) p.2) fun q => fits q.1.length = true ∧ Q (.ref q.2.2.length, q.2.2 ++ [.lst q.1]) := by
 unfold fComp
 rw [W_bind]
 refine ⟨fun h => h.mono fun p q => ?_, fun h => h.mono fun p q => ?_⟩
 · rw [W_bind] at q
   exact q.mono fun z w => (W_fits.mp w).imp_right W_some.mp
 · rw [W_bind]
   exact q.mono fun z w => W_fits.mpr (w.imp_right W_some.mpr)
theorem W_addT {xs ys : List D} {S : Sto} {Q : D × Sto → Prop} : W (gAdd (.tup xs) (.tup ys) S) Q ↔ fits (xs.length + ys.length) = true ∧ Q (.tup (xs ++ ys), S) :=
 ⟨fun q => (W_fits.mp q).imp_right W_some.mp, fun q => W_fits.mpr (q.imp_right W_some.mpr)⟩
theorem W_addI {x y : Int} {S : Sto} {Q : D × Sto → Prop} : W (gAdd (.int x) (.int y) S) Q ↔ Q (.int (x + y), S) := W_some
theorem W_addL {a b : Nat} {xs ys : List D} {S : Sto} {Q : D × Sto → Prop} (h1 : S[a]? = some (.lst xs)) (h2 : S[b]? = some (.lst ys)) : W (gAdd (.ref a) (.ref b) S) Q ↔ fits (xs.length + ys.length) = true ∧ Q (.ref S.length, S ++ [.lst (xs ++ ys)]) := by
 rw [gAdd]; simp only [h1, h2]
 exact ⟨fun q => (W_fits.mp q).imp_right W_some.mp, fun q => W_fits.mpr (q.imp_right W_some.mpr)⟩
theorem W_app {n : Nat} {v : D} {xs : List D} {S : Sto} {Q : D × Sto → Prop} (h : S[n]? = some (.lst xs)) : W (gApp (.ref n) v S) Q ↔ fits (xs.length + 1) = true ∧ Q (.non, S.set n (.lst (xs ++ [v]))) := by
 rw [gApp]; simp only [h]
 rw [W_ite, fits_iff]
 split
 · rename_i hl; exact ⟨fun q => ⟨hl, W_some.mp q⟩, fun q => W_some.mpr q.2⟩
 · rename_i hl; exact ⟨fun q => (W_none.mp q).elim, fun q => absurd q.1 hl⟩
theorem W_ixL {n : Nat} {i : Nat} {xs : List D} {x : D} {S : Sto} {Q : D × Sto → Prop} (h : S[n]? = some (.lst xs)) (hx : xs[i]? = some x) (q : Q (x, S)) : W (gIxY (.ref n) (.int i) S) Q := by
 refine W.of (x := (x, S)) ?_ q
 have hl := (List.getElem?_eq_some_iff.mp hx).1
 simp only [gIxY, gIxX, gIx, h, seqOf, atI, ixN, Option.bind_some, if_pos (show (0 : Int) ≤ i by omega)]
 rw [if_pos (by omega)]
 simp [hx]
theorem W_ixT {i : Nat} {xs : List D} {x : D} {S : Sto} {Q : D × Sto → Prop} (hx : xs[i]? = some x) (q : Q (x, S)) : W (gIxY (.tup xs) (.int i) S) Q := by
 refine W.of (x := (x, S)) ?_ q
 have hl := (List.getElem?_eq_some_iff.mp hx).1
 simp only [gIxY, gIxX, gIx, seqOf, atI, ixN, Option.bind_some, if_pos (show (0 : Int) ≤ i by omega)]
 rw [if_pos (by omega)]
 simp [hx]
theorem rp0 : List.replicate 0 (none : Option D) = [] := rfl
theorem rp1 : List.replicate 1 (none : Option D) = [none] := rfl
theorem rp2 : List.replicate 2 (none : Option D) = [none, none] := rfl
theorem rp3 : List.replicate 3 (none : Option D) = [none, none, none] := rfl
theorem rp4 : List.replicate 4 (none : Option D) = [none, none, none, none] := rfl
theorem rp5 : List.replicate 5 (none : Option D) = [none, none, none, none, none] := rfl
theorem rp6 : List.replicate 6 (none : Option D) = [none, none, none, none, none, none] := rfl
theorem rp7 : List.replicate 7 (none : Option D) = [none, none, none, none, none, none, none] := rfl
theorem rp8 : List.replicate 8 (none : Option D) = [none, none, none, none, none, none, none, none] := rfl
theorem rp9 : List.replicate 9 (none : Option D) = [none, none, none, none, none, none, none, none, none] := rfl
theorem rp10 : List.replicate 10 (none : Option D) = [none, none, none, none, none, none, none, none, none, none] := rfl
theorem rp11 : List.replicate 11 (none : Option D) = [none, none, none, none, none, none, none, none, none, none, none] := rfl
theorem rp12 : List.replicate 12 (none : Option D) = [none, none, none, none, none, none, none, none, none, none, none, none] := rfl
theorem rp13 : List.replicate 13 (none : Option D) = [none, none, none, none, none, none, none, none, none, none, none, none, none] := rfl
theorem rp14 : List.replicate 14 (none : Option D) = [none, none, none, none, none, none, none, none, none, none, none, none, none, none] := rfl
theorem rp15 : List.replicate 15 (none : Option D) = [none, none, none, none, none, none, none, none, none, none, none, none, none, none, none] := rfl
theorem rp16 : List.replicate 16 (none : Option D) = [none, none, none, none, none, none, none, none, none, none, none, none, none, none, none, none] := rfl
theorem rp17 : List.replicate 17 (none : Option D) = [none, none, none, none, none, none, none, none, none, none, none, none, none, none, none, none, none] := rfl
theorem rp18 : List.replicate 18 (none : Option D) = [none, none, none, none, none, none, none, none, none, none, none, none, none, none, none, none, none, none] := rfl
theorem rp19 : List.replicate 19 (none : Option D) = [none, none, none, none, none, none, none, none, none, none, none, none, none, none, none, none, none, none, none] := rfl
theorem rp20 : List.replicate 20 (none : Option D) = [none, none, none, none, none, none, none, none, none, none, none, none, none, none, none, none, none, none, none, none] := rfl
theorem get_app {α : Type} {T G : List α} {k : Nat} : (T ++ G)[T.length + k]? = G[k]? := by rw [List.getElem?_append_right (by omega)]; congr 1; omega
theorem get_app0 {α : Type} {T G : List α} : (T ++ G)[T.length]? = G[0]? := by rw [List.getElem?_append_right (by omega)]; congr 1; omega
theorem gNe_nil {S : Sto} {i j : Nat} {xs : List D} (h : S[i]? = some (.lst xs)) (h' : S[j]? = some (.lst [])) : gNe (.ref i) (.ref j) S = some (.bl (!xs.isEmpty), S) := by
 unfold gNe deepMost
 rw [show (60 : Nat) = 59 + 1 from rfl, eqN]
 simp only [seqOf, h, h']
 cases xs with
 | nil => simp [eqL]
 | cons x xs => simp
end Mi
end
section
namespace Mi
open PySem PySem.Spec PyProof.Rows L2
theorem nums_eq : ∀ (n : Nat) (lo : Int), nums lo n = (List.range n).map fun i : Nat => D.int (lo + i)
 | 0, lo => rfl
 | n + 1, lo => by
   rw [nums, nums_eq n (lo + 1), List.range_succ_eq_map, List.map_cons, List.map_map]
   congr 1
   · simp
   · apply List.map_congr_left
     intro i _
     simp only [Function.comp_apply, Nat.succ_eq_add_one]
     congr 1
     push_cast
     omega
theorem nums0 (n : Nat) : nums 0 n = (List.range n).map fun i : Nat => D.int i := by
 rw [nums_eq]
 apply List.map_congr_left
 intro i _
 simp
theorem mapW {α : Type} {c : List (Nat × List D)} {g : FG} {t : FT} {e : FE} {S : Sto} {f : α → D} {Q : List D × Ev × Sto → Prop} (F : α → D) (P : Ev → Prop) (hok : okC S c = true) : ∀ (xs : List α) (r : Ev), P r →
   (∀ a ∈ xs, ∀ r, P r → W (g (f a) r S) fun p => W (t p.1 p.2) fun b => b.1 = true ∧ W (e p.1 b.2) fun x => x.1 = F a ∧ x.2 = S ∧ P p.1) →
   (∀ r', P r' → Q (xs.map F, r', S)) → W (loopF c g t (fEmit e) (xs.map f) r S) Q
 | [], r, hr, _, h => by rw [List.map_nil, loopF]; dsimp only; rw [if_pos hok, W_some]; exact h r hr
 | a :: xs, r, hr, hs, h => by
   rw [List.map_cons, loopF]; dsimp only; rw [if_pos hok, W_bind]
   obtain ⟨p, e1, ⟨b, e2, hb, ⟨x, e3, hx, hS, hp⟩⟩⟩ := hs a List.mem_cons_self r hr
   refine ⟨p, e1, ?_⟩
   dsimp only; rw [W_bind]
   refine ⟨b, e2, ?_⟩
   dsimp only; rw [if_pos hb, W_bind, fEmit, W_map]
   refine ⟨x, e3, ?_⟩
   dsimp only
   rw [hS, W_map]
   refine mapW F P hok xs p.1 hp (fun a ha => hs a (List.mem_cons_of_mem _ ha)) fun r' hr' => ?_
   have := h r' hr'
   rw [List.map_cons, ← hx] at this
   exact this
theorem allB_all {α : Type} {f : α → Bool} : ∀ xs : List α, Mi.allB (xs.map fun x => D.bl (f x)) = some (xs.all f)
 | [] => rfl
 | x :: xs => by rw [List.map_cons, Mi.allB, allB_all xs]; rfl
mutual
theorem und_le {n m : Nat} (h : n ≤ m) : ∀ {d : D}, d.und n = true → d.und m = true
 | .non, _ => rfl
 | .bl _, _ => rfl
 | .int _, _ => rfl
 | .str _, _ => rfl
 | .tup xs, q => by rw [D.und] at q ⊢; exact unds_le h q
 | .rol xs, q => by rw [D.und] at q ⊢; exact unds_le h q
 | .ref k, q => by simp [D.und] at q ⊢; omega
theorem unds_le {n m : Nat} (h : n ≤ m) : ∀ {ds : List D}, D.unds n ds = true → D.unds m ds = true
 | [], _ => rfl
 | d :: ds, q => by
   rw [D.unds, Bool.and_eq_true] at q ⊢
   exact ⟨und_le h q.1, unds_le h q.2⟩
end
theorem obund_le {n m : Nat} (h : n ≤ m) : ∀ {o : Ob}, o.und n = true → o.und m = true
 | .lst xs, q => by rw [Ob.und] at q ⊢; exact unds_le h q
 | .dct xs, q => by rw [Ob.und] at q ⊢; exact unds_le h q
 | .dcT xs, q => by rw [Ob.und] at q ⊢; exact unds_le h q
 | .dcF xs, q => by rw [Ob.und] at q ⊢; exact unds_le h q
 | .iset _, _ => rfl
theorem unds_map {α : Type} {n : Nat} {f : α → D} : ∀ {xs : List α}, (∀ x ∈ xs, (f x).und n = true) → D.unds n (xs.map f) = true
 | [], _ => rfl
 | x :: xs, h => by rw [List.map_cons, D.unds, h x List.mem_cons_self, unds_map fun y hy => h y (List.mem_cons_of_mem _ hy)]; rfl
end Mi
end
section
namespace Mi
open PySem PySem.Spec PyProof.Rows L2
theorem al1 {x : Nat} : x + 1 + 1 = x + 2 := rfl
theorem al2 {x : Nat} : x + 2 + 1 = x + 3 := rfl
theorem al3 {x : Nat} : x + 3 + 1 = x + 4 := rfl
theorem al4 {x : Nat} : x + 4 + 1 = x + 5 := rfl
theorem al5 {x : Nat} : x + 5 + 1 = x + 6 := rfl
theorem al6 {x : Nat} : x + 6 + 1 = x + 7 := rfl
theorem al7 {x : Nat} : x + 1 + 2 = x + 3 := rfl
theorem len_tup {xs : List D} {S : Sto} : gLen (.tup xs) S = some (.int xs.length, S) := rfl
theorem len_rol {xs : List D} {S : Sto} : gLen (.rol xs) S = some (.int xs.length, S) := rfl
theorem len_str0 {S : Sto} : gLen (.str "") S = some (.int 0, S) := rfl
theorem seq_tup {xs : List D} {S : Sto} : seqOf S (.tup xs) = some (false, xs) := rfl
theorem seq_rol {xs : List D} {S : Sto} : seqOf S (.rol xs) = some (true, xs) := rfl
theorem chk_tup {xs : List D} {S : Sto} : chkOf S (.tup xs) = [] := rfl
theorem chk_rol {xs : List D} {S : Sto} : chkOf S (.rol xs) = [] := rfl
theorem seq_ref {n : Nat} {xs : List D} {S : Sto} (h : S[n]? = some (.lst xs)) : seqOf S (.ref n) = some (true, xs) := by simp only [seqOf, h]
theorem chk_ref {n : Nat} {xs : List D} {S : Sto} (h : S[n]? = some (.lst xs)) : chkOf S (.ref n) = [(n, xs)] := by simp only [chkOf, h]
noncomputable def sW (S : Sto) (d : D) (Q : List D × List (Nat × List D) → Prop) : Prop := W (seqOf S d) fun q => Q (q.2, chkOf S d)
theorem sW_tup {xs : List D} {S : Sto} {Q : List D × List (Nat × List D) → Prop} : sW S (.tup xs) Q ↔ Q (xs, []) := W_some
theorem sW_ref {n : Nat} {xs : List D} {S : Sto} {Q : List D × List (Nat × List D) → Prop} (h : S[n]? = some (.lst xs)) (q : Q (xs, [(n, xs)])) : sW S (.ref n) Q := by
 unfold sW
 rw [seq_ref h, chk_ref h, W_some]
 exact q
theorem W_iSeq {m : FE} {r : Ev} {S : Sto} {Q : Itm × Sto → Prop} : W (iSeq m r S) Q ↔ W (m r S) fun p => sW p.2 p.1 fun q => Q (⟨q.1, q.2⟩, p.2) := by
 unfold iSeq
 rw [W_bind]
 refine ⟨fun h => h.mono fun p q => ?_, fun h => h.mono fun p q => ?_⟩
 · rw [W_bind] at q
   exact q.mono fun z w => W_some.mp w
 · rw [W_bind]
   exact W.mono (show W (seqOf p.2 p.1) _ from q) fun z w => W_some.mpr w
theorem W_gTup {d : D} {S : Sto} {Q : D × Sto → Prop} : W (Mi.gTup d S) Q ↔ sW S d fun q => Q (.tup q.1, S) := by
 unfold Mi.gTup
 rw [W_map]
 exact Iff.rfl
theorem W_len {n : Nat} {S : Sto} {Q : D × Sto → Prop} : W (gLen (.ref n) S) Q ↔ sW S (.ref n) fun q => Q (.int q.1.length, S) := by
 unfold gLen sW
 rw [W_map]
noncomputable def pD (e : Nat × Nat) : D := .tup [.int e.1, .int e.2]
theorem W_mMt {f : FN} {o : FE} {a : FA} {r : Ev} {S : Sto} {Q : D × Sto → Prop} (h : W (o r S) fun p => ∃ n xs, p.1 = .ref n ∧ p.2[n]? = some (.lst xs) ∧ W (a r p.2) fun q => W (f (.ref n :: q.1) q.2) Q) : W (mMt f o a r S) Q := by
 unfold mMt
 rw [W_bind]
 refine h.mono ?_
 rintro ⟨d, S1⟩ ⟨n, xs, rfl, e, q⟩
 dsimp only at e q ⊢
 rw [e]
 dsimp only
 rw [W_bind]
 exact q
noncomputable def rowOb (row : List (Nat × Nat)) : Ob := .lst (row.map pD)
structure WS (t m : Nat) (T : Sto) (E : List (List (Nat × Nat))) (P : List (Nat × Nat)) (U : Sto) : Prop where
 tl : T.length = t
 low : U.take t = T
 el : E.length = m
 row : ∀ i row, E[i]? = some row → U[t + i]? = some (rowOb row)
 ends : U[t + m]? = some (.lst (refs (t + 1) m))
 prs : U[t + m + 1]? = some (.lst (P.map pD))
theorem WS.split {t m : Nat} {T : Sto} {E : List (List (Nat × Nat))} {P : List (Nat × Nat)} {U : Sto} (w : WS t m T E P U) : U = T ++ U.drop t := by
 conv => lhs; rw [← List.take_append_drop t U, w.low]
end Mi
end
section
namespace Mi
open PySem PySem.Spec PyProof.Rows L2
noncomputable def eyesL (a b c d : Bool) : List D := (if a then [.str "came"] else []) ++ (if b then [.str "chalk"] else []) ++ (if c then [.str "doors"] else []) ++ (if d then [.str "others"] else [])
theorem eyes_sub {xs : List D} (h : xs.Sublist [.str "came", .str "chalk", .str "doors", .str "others"]) : ∃ a b c d, xs = eyesL a b c d := by
 have one : ∀ {x : D} {l ys : List D}, ys.Sublist (x :: l) → ∃ (a : Bool) (zs : List D), zs.Sublist l ∧ ys = (if a then [x] else []) ++ zs := by
   intro x l ys h
   cases h with
   | cons _ h => exact ⟨false, ys, h, rfl⟩
   | cons_cons _ h => exact ⟨true, _, h, rfl⟩
 obtain ⟨a, z1, h1, rfl⟩ := one h
 obtain ⟨b, z2, h2, rfl⟩ := one h1
 obtain ⟨c, z3, h3, rfl⟩ := one h2
 obtain ⟨d, z4, h4, rfl⟩ := one h3
 have : z4 = [] := List.eq_nil_of_sublist_nil h4
 subst this
 exact ⟨a, b, c, d, by simp [eyesL]⟩
theorem eyes_len (a b c d : Bool) : (eyesL a b c d).length ≤ 4 := by cases a <;> cases b <;> cases c <;> cases d <;> decide
theorem eyes_und (a b c d : Bool) : D.unds 0 (eyesL a b c d) = true := by cases a <;> cases b <;> cases c <;> cases d <;> rfl
theorem in_came {a b c d : Bool} {S : Sto} : gInY (.str "came") (.tup (eyesL a b c d)) S = some (.bl a, S) := by cases a <;> cases b <;> cases c <;> cases d <;> rfl
theorem in_chalk {a b c d : Bool} {S : Sto} : gInY (.str "chalk") (.tup (eyesL a b c d)) S = some (.bl b, S) := by cases a <;> cases b <;> cases c <;> cases d <;> rfl
theorem in_doors {a b c d : Bool} {S : Sto} : gInY (.str "doors") (.tup (eyesL a b c d)) S = some (.bl c, S) := by cases a <;> cases b <;> cases c <;> cases d <;> rfl
theorem in_others {a b c d : Bool} {S : Sto} : gInY (.str "others") (.tup (eyesL a b c d)) S = some (.bl d, S) := by cases a <;> cases b <;> cases c <;> cases d <;> rfl
end Mi
end
section
namespace Mi
open PySem PySem.Spec PyProof.Rows L2
theorem look_cons {κ : Type} [DecidableEq κ] {k a : κ} {d : D} {r : List (κ × D)} : lookD ((a, d) :: r) k = if a = k then some d else lookD r k := by
 unfold lookD
 rw [List.find?_cons]
 by_cases h : a = k
 · simp [h]
 · simp [h]
theorem put_len {κ : Type} [DecidableEq κ] {k : κ} {v : D} {a : List (κ × D)} : (putD a k v).length ≤ a.length + 1 := by
 unfold putD
 split
 · rw [List.length_map]; omega
 · rw [List.length_append]; simp
theorem put_ne {κ : Type} [DecidableEq κ] {k : κ} {v : D} {a : List (κ × D)} : putD a k v ≠ [] := by
 unfold putD
 split
 · rename_i h
   intro z
   cases a with
   | nil => simp at h
   | cons x xs => simp at z
 · simp
noncomputable def dO (F : List (TK × D)) : Ob := if F = [] then .dct [] else .dcT F
end Mi
end
local macro_rules | `(tactic| walk_at "own wq") => `(tactic| simp -implicitDefEqProofs only [Mi.W_some, Mi.W_none, Mi.ite_and', Mi.W_bind, Mi.W_map, Mi.W_ite, Mi.mSeq, Mi.mAsg, Mi.mIfS, Mi.mRet, Mi.mRetN, Mi.mDrop, Mi.mNx, Mi.mN, Mi.mCons, Mi.mNil, Mi.m2, Mi.m1, Mi.mV, Mi.mC, Mi.W_mTup, Mi.W_mLst, Mi.mB, Mi.mAnd, Mi.mOr, Mi.mNot, Mi.mAndV, Mi.mOrV, Mi.mNotV, Mi.mIf, Mi.mTrue, Mi.mTr, Mi.tru_bl, Mi.tru_non, Mi.tru_int, Mi.gN, Mi.gT, Mi.gCs, Mi.gNl, Mi.gS, Mi.b1, Mi.b2, Mi.b3, Mi.fnB, Mi.startD, Mi.W_fComp, Mi.W_iR1, Mi.W_iR2, Mi.rW1, Mi.rW2, Mi.mFor, Mi.inEv, Mi.W_addT, Mi.W_addI, Mi.gSub, Mi.gCmp, Mi.gInt, Mi.gEq_int, Mi.gNe_int, Mi.gLt_int, Mi.gEq_str, Mi.gNe_str, Mi.ft0, Mi.ft1, Mi.ft2, Mi.ft3, Mi.ft4, Mi.ft5, Mi.ft6, Mi.ft7, Mi.ft8, true_and, Mi.get_app, Mi.get_app0, List.append_assoc, List.length_append, List.getElem?_cons_zero, List.getElem?_cons_succ, List.getElem?_nil, List.set_cons_zero, List.set_cons_succ, List.length_cons, List.length_nil, List.map_cons, List.map_nil, Mi.rp0, Mi.rp1, Mi.rp2, Mi.rp3, Mi.rp4, Mi.rp5, Mi.rp6, Mi.rp7, Mi.rp8, Mi.rp9, Mi.rp10, Mi.rp11, Mi.rp12, Mi.rp13, Mi.rp14, Mi.rp15, Mi.rp16, Mi.rp17, Mi.rp18, Mi.rp19, Mi.rp20, List.nil_append, List.cons_append, List.append_nil, Nat.reduceAdd, Nat.reduceSub, Option.join_some, Option.join_none, Option.map_some, Option.map_none, Option.bind_some, Option.bind_none, if_true, if_false, Bool.false_eq_true, Bool.not_true, Bool.not_false, ite_true, ite_false, reduceIte, decide_true, decide_false, Mi.al1, Mi.al2, Mi.al3, Mi.al4, Mi.al5, Mi.al6, Mi.al7, Mi.len_tup, Mi.len_rol, Mi.len_str0, Mi.seq_tup, Mi.seq_rol, Mi.chk_tup, Mi.chk_rol, Mi.W_iSeq, Mi.W_gTup, Mi.W_len])
local macro_rules | `(tactic| walk_at "o") => `(tactic| first | exact Or.inl rfl | exact Or.inr rfl)
local macro_rules | `(tactic| walk_at "d") => `(tactic| first | decide | omega)
section
namespace Law
open PySem PySem.Spec PyProof.Rows L2 Mi
noncomputable def top (i : Nat) : Stmt := PySem.Challenge.pw_ringmeet_k32_quiet_machines.main.body.getD i (.Pass ⟨0, 0, 0, 0⟩)
structure Blt (mg : Str → Option Value) : Prop where
 z_all : mg "all" = none
 z_int : mg "int" = none
 z_len : mg "len" = none
 z_list : mg "list" = none
 z_max : mg "max" = none
 z_min : mg "min" = none
 z_range : mg "range" = none
 z_sorted : mg "sorted" = none
 z_tuple : mg "tuple" = none
noncomputable abbrev s_is_quiet : Stmt := top 1
noncomputable def b_is_quiet : FS := (mSeq (mAsg (mV 0) (gT 2 (gCs (gN 2) (gCs (gN 3) gNl))))
   (mRet (mAndV (mOrV (m2 (b2 gNotInY) (mC (D.str "others")) (mV 2)) (m2 (b2 (gCmp fun i j => decide (i ≤ j))) (mV 1) (mC (D.int (2))))) (mN (b1 gAll) (mCons (fComp 2 [] (iSeq (mV 3)) (gT 2 (gCs (gN 0) (gCs (gN 1) gNl))) mTrue (fEmit (m2 (b2 gEq) (m2 (b2 gIxY) (mV 1) (mC (D.int (1)))) (mC (D.str "leave"))))) mNil)))))
noncomputable def m_is_quiet : FN := fnB 4 b_is_quiet
theorem sc_is_quiet : FnScope ["machine", "many", "eyes", "rows"] ["machine", "many"] (defScope s_is_quiet) := ⟨rfl, rfl, rfl, by decide +kernel, rfl, by decide +kernel, by decide +kernel⟩
theorem ok_is_quiet {P : Program} {w : World} {K : PySem.W.Frag} {mg : Str → Option Value} {base : Heap} {f : Addr} {fd : FuncData} (F : Fun K "is_quiet" "is_quiet" s_is_quiet f fd) (hb : Binds K fd ["machine", "many"] []) (hm : mg "is_quiet" = some (.ref f)) (B : Blt mg) :
   Own P w K mg base 1 "is_quiet" 2 m_is_quiet := xown_mk (k := 0) (n := 2) (N := ["machine", "many", "eyes", "rows"]) (ps := ["machine", "many"]) (b := b_is_quiet) F hb hm sc_is_quiet rfl fun cdv A outer s H E hr =>
 (qF (qR (xmv 0) (xmg_tup rfl (xmgs_cons (qO 2 sc_is_quiet.nd rfl (by walk_at "o")) (xmgs_cons (qO 3 sc_is_quiet.nd rfl (by walk_at "o")) xmgs_nil))))
   (qG (qU (xme_and (xme_or (xme_cmp (o_notInY hr.units) xme_str (xmv 2) (by with_unfolding_all rfl)) (xme_one (xme_cmp o_le (xmv 1) qK (nomark _)))) (xme_one (qD (c_all rfl) rfl B.z_all (by decide +kernel) (qA (qZ rfl (T := ["key", "deed"]) (keep := []) ⟨rfl, by decide +kernel, (List.forall_mem_nil _)⟩ rfl (qd (xmv 3)) (fun _ _ _ => ⟨(xmg_tup rfl (xmgs_cons (qO 0 (show List.Nodup (["key", "deed"] : List Str) by decide +kernel) rfl (by walk_at "o")) (xmgs_cons (qO 1 (show List.Nodup (["key", "deed"] : List Str) by decide +kernel) rfl (by walk_at "o")) xmgs_nil))), xmif_nil, (xme_cmp (o_eq hr.units) (qJ (qP hr.units) (xmv 1) qK (fun _ _ => rfl)) xme_str (nomark _))⟩)) qN (st_ListComp ..))))))))
noncomputable abbrev s__law_hand : Stmt := top 3
noncomputable def b__law_hand : FS := (mSeq (mAsg (mC (D.int (0))) (gN 2))
   (mSeq (mIfS (mB (m2 (b2 gLt) (mV 1) (mN (b1 gLen) (mCons (mV 0) mNil)))) (mAsg (m2 (b2 gIxY) (mV 0) (mV 1)) (gN 2)) mNx)
   (mSeq (mAsg (m2 (b2 gMul) (m2 (b2 gMod) (mV 2) (m2 (b2 gMul) (m2 (b2 gPow) (mC (D.int (10))) (mC (D.int (60)))) (m2 (b2 gPow) (mC (D.int (10))) (mC (D.int (30)))))) (mN (b1 gInt) (mCons (m2 (b2 (gCmp fun i j => decide (j ≤ i))) (mV 2) (m2 (b2 gPow) (mC (D.int (10))) (mC (D.int (18))))) mNil))) (gN 3))
   (mRet (mLst (mCons (mV 3) (mCons (m2 (b2 gMod) (m2 (b2 gAdd) (m2 (b2 gAdd) (m2 (b2 gMod) (mV 2) (mC (D.int (2305843009213693951)))) (m2 (b2 gMul) (mC (D.int (7919))) (mV 1))) (mC (D.int (3)))) (mC (D.int (2305843009213693951)))) (mCons (mC (D.int (0))) mNil))))))))
noncomputable def m__law_hand : FN := fnB 4 b__law_hand
theorem sc__law_hand : FnScope ["_law_script", "_law_k", "_law_cell", "_law_great"] ["_law_script", "_law_k"] (defScope s__law_hand) := ⟨rfl, rfl, rfl, by decide +kernel, rfl, by decide +kernel, by decide +kernel⟩
theorem ok__law_hand {P : Program} {w : World} {K : PySem.W.Frag} {mg : Str → Option Value} {base : Heap} {f : Addr} {fd : FuncData} (F : Fun K "_law_hand" "_law_hand" s__law_hand f fd) (hb : Binds K fd ["_law_script", "_law_k"] []) (hm : mg "_law_hand" = some (.ref f)) (B : Blt mg) :
   Own P w K mg base 1 "_law_hand" 2 m__law_hand := xown_mk (k := 0) (n := 2) (N := ["_law_script", "_law_k", "_law_cell", "_law_great"]) (ps := ["_law_script", "_law_k"]) (b := b__law_hand) F hb hm sc__law_hand rfl fun cdv A outer s H E hr =>
 (qF (qY 2 sc__law_hand.nd rfl (by walk_at "o") qK)
   (qF (qV (qX (o_ltN hr.units) (xmv 1) (qD c_len rfl B.z_len (by decide +kernel) (qA (xmv 0) qN (qM ..))) (nomark _)) (qG (qY 2 sc__law_hand.nd rfl (by walk_at "o") (qJ (qP hr.units) (xmv 0) (xmv 1) (fun _ _ => rfl)))) qQ)
   (qF (qY 3 sc__law_hand.nd rfl (by walk_at "o") (qI o_mul (qI o_mod (xmv 2) (qI o_mul (qI o_pow qK qK) (qI o_pow qK qK))) (qE c_int rfl B.z_int (by decide +kernel) (qA (xme_cmp o_ge (xmv 2) (qI o_pow qK qK) (nomark _)) qN (st_Compare ..)))))
   (qG (qU (xme_lst (qA (xmv 3) (qA (qI o_mod (qI o_add (qI o_add (qI o_mod (xmv 2) qK) (qI o_mul qK (xmv 1))) qK) qK) (qA qK qN (qC ..)) (qB ..)) (qM ..))))))))
noncomputable abbrev s__law_take : Stmt := top 4
noncomputable def b__law_take : FS := (mSeq (mIfS (mB (m2 (b2 (gCmp fun i j => decide (j < i))) (m2 (b2 gIxY) (mV 0) (mC (D.int (0)))) (mC (D.int (0))))) (mSeq (mAsg (m2 (b2 gMod) (m2 (b2 gIxY) (mV 0) (mC (D.int (0)))) (mV 1)) (gN 2))
   (mSeq (mAsg (m2 (b2 gDiv) (m2 (b2 gIxY) (mV 0) (mC (D.int (0)))) (mV 1)) (gS (b3 gSetY) (mV 0) (mC (D.int (0)))))
   (mRet (mV 2)))) mNx)
   (mSeq (mAsg (m2 (b2 gAdd) (m2 (b2 gIxY) (mV 0) (mC (D.int (2)))) (mC (D.int (1)))) (gS (b3 gSetY) (mV 0) (mC (D.int (2)))))
   (mSeq (mAsg (m2 (b2 gMod) (m2 (b2 gMul) (m2 (b2 gAdd) (m2 (b2 gAdd) (m2 (b2 gIxY) (mV 0) (mC (D.int (1)))) (m2 (b2 gMul) (m2 (b2 gMul) (mC (D.int (65537))) (m2 (b2 gIxY) (mV 0) (mC (D.int (2))))) (m2 (b2 gIxY) (mV 0) (mC (D.int (2)))))) (mC (D.int (11)))) (mC (D.int (48271)))) (mC (D.int (2305843009213693921)))) (gN 3))
   (mSeq (mAsg (m2 (b2 gMod) (m2 (b2 gMul) (mV 3) (m2 (b2 gAdd) (m2 (b2 gMod) (mV 3) (mC (D.int (1000003)))) (m2 (b2 gMul) (mC (D.int (99991))) (m2 (b2 gIxY) (mV 0) (mC (D.int (2))))))) (mC (D.int (2305843009213693907)))) (gN 3))
   (mRet (m2 (b2 gMod) (m2 (b2 gAdd) (m2 (b2 gDiv) (mV 3) (mC (D.int (97)))) (m2 (b2 gDiv) (mV 3) (mC (D.int (1000033))))) (mV 1)))))))
noncomputable def m__law_take : FN := fnB 4 b__law_take
theorem sc__law_take : FnScope ["_law_hand_here", "_law_many", "_law_digit", "_law_mixed"] ["_law_hand_here", "_law_many"] (defScope s__law_take) := ⟨rfl, rfl, rfl, by decide +kernel, rfl, by decide +kernel, by decide +kernel⟩
theorem ok__law_take {P : Program} {w : World} {K : PySem.W.Frag} {mg : Str → Option Value} {base : Heap} {f : Addr} {fd : FuncData} (F : Fun K "_law_take" "_law_take" s__law_take f fd) (hb : Binds K fd ["_law_hand_here", "_law_many"] []) (hm : mg "_law_take" = some (.ref f)) (B : Blt mg) :
   Own P w K mg base 1 "_law_take" 2 m__law_take := xown_mk (k := 0) (n := 2) (N := ["_law_hand_here", "_law_many", "_law_digit", "_law_mixed"]) (ps := ["_law_hand_here", "_law_many"]) (b := b__law_take) F hb hm sc__law_take rfl fun cdv A outer s H E hr =>
 (qF (qV (qX o_gt (qJ (qP hr.units) (xmv 0) qK (fun _ _ => rfl)) qK (nomark _)) (qF (qY 2 sc__law_take.nd rfl (by walk_at "o") (qI o_mod (qJ (qP hr.units) (xmv 0) qK (fun _ _ => rfl)) (xmv 1)))
   (qF (qR (qI o_div (qJ (qP hr.units) (xmv 0) qK (fun _ _ => rfl)) (xmv 1)) (xmg_sub (xmv 0) qK (s_setY hr.units)))
   (qG (qU (xmv 2))))) qQ)
   (qF (qR (qI o_add (qJ (qP hr.units) (xmv 0) qK (fun _ _ => rfl)) qK) (xmg_sub (xmv 0) qK (s_setY hr.units)))
   (qF (qY 3 sc__law_take.nd rfl (by walk_at "o") (qI o_mod (qI o_mul (qI o_add (qI o_add (qJ (qP hr.units) (xmv 0) qK (fun _ _ => rfl)) (qI o_mul (qI o_mul qK (qJ (qP hr.units) (xmv 0) qK (fun _ _ => rfl))) (qJ (qP hr.units) (xmv 0) qK (fun _ _ => rfl)))) qK) qK) qK))
   (qF (qY 3 sc__law_take.nd rfl (by walk_at "o") (qI o_mod (qI o_mul (xmv 3) (qI o_add (qI o_mod (xmv 3) qK) (qI o_mul qK (qJ (qP hr.units) (xmv 0) qK (fun _ _ => rfl))))) qK))
   (qG (qU (qI o_mod (qI o_add (qI o_div (xmv 3) qK) (qI o_div (xmv 3) qK)) (xmv 1))))))))
noncomputable abbrev s__law_truth : Stmt := top 8
noncomputable def b__law_truth : FS := (mRet (mIf (mTr (mV 1)) (m2 (b2 gIsX) (mV 0) (mC (D.bl true))) (m2 (b2 gIsX) (mV 0) (mC (D.bl false)))))
noncomputable def m__law_truth : FN := fnB 2 b__law_truth
theorem sc__law_truth : FnScope ["_law_found", "_law_due"] ["_law_found", "_law_due"] (defScope s__law_truth) := ⟨rfl, rfl, rfl, by decide +kernel, rfl, by decide +kernel, by decide +kernel⟩
theorem ok__law_truth {P : Program} {w : World} {K : PySem.W.Frag} {mg : Str → Option Value} {base : Heap} {f : Addr} {fd : FuncData} (F : Fun K "_law_truth" "_law_truth" s__law_truth f fd) (hb : Binds K fd ["_law_found", "_law_due"] []) (hm : mg "_law_truth" = some (.ref f)) (B : Blt mg) :
   Own P w K mg base 1 "_law_truth" 2 m__law_truth := xown_mk (k := 0) (n := 2) (N := ["_law_found", "_law_due"]) (ps := ["_law_found", "_law_due"]) (b := b__law_truth) F hb hm sc__law_truth rfl fun cdv A outer s H E hr =>
 (qG (qU (xme_if (xmt_tru (xmv 1)) (xme_cmp o_isX (xmv 0) xme_bl (nomark _)) (xme_cmp o_isX (xmv 0) xme_bl (nomark _)))))
noncomputable abbrev s__law_some_eyes : Stmt := top 5
noncomputable def b__law_some_eyes : FS := (mRet (mN (b1 gTup) (mCons (fComp 1 [0] (iSeq (mTup (mCons (mC (D.str "came")) (mCons (mC (D.str "chalk")) (mCons (mC (D.str "doors")) (mCons (mC (D.str "others")) mNil)))))) (gN 0) (mB (m2 (b2 gEq) (mN (mCall 2 m__law_take) (mCons (mV 1) (mCons (mC (D.int (2))) mNil))) (mC (D.int (0))))) (fEmit (mV 0))) mNil)))
noncomputable def m__law_some_eyes : FN := fnB 1 b__law_some_eyes
theorem sc__law_some_eyes : FnScope ["_law_hand_here"] ["_law_hand_here"] (defScope s__law_some_eyes) := ⟨rfl, rfl, rfl, by decide +kernel, rfl, by decide +kernel, by decide +kernel⟩
theorem ok__law_some_eyes {P : Program} {w : World} {K : PySem.W.Frag} {mg : Str → Option Value} {base : Heap} {f : Addr} {fd : FuncData} (F : Fun K "_law_some_eyes" "_law_some_eyes" s__law_some_eyes f fd) (hb : Binds K fd ["_law_hand_here"] []) (hm : mg "_law_some_eyes" = some (.ref f)) (B : Blt mg) (o__law_take : Own P w K mg base 1 "_law_take" 2 m__law_take) :
   Own P w K mg base 2 "_law_some_eyes" 1 m__law_some_eyes := xown_mk (k := 1) (n := 1) (N := ["_law_hand_here"]) (ps := ["_law_hand_here"]) (b := b__law_some_eyes) F hb hm sc__law_some_eyes rfl fun cdv A outer s H E hr =>
 (qG (qU (qE c_tuple rfl B.z_tuple (by decide +kernel) (qA (qZ rfl (T := ["_law_eye"]) (keep := [0]) ⟨rfl, by decide +kernel, (List.forall_mem_cons.mpr ⟨⟨_, rfl, rfl, (by walk_at "o"), (by first | decide +kernel | (show ¬ (("_law_hand_here" : Str), NameKind.cell) ∈ (_ : List (Str × NameKind)); decide +kernel))⟩, (List.forall_mem_nil _)⟩)⟩ rfl (qd (xme_tup (qA xme_str (qA xme_str (qA xme_str (qA xme_str qN (qC ..)) (qC ..)) (qC ..)) (qC ..)))) (fun _ _ _ => ⟨(qO 0 (show List.Nodup (["_law_eye", "_law_hand_here"] : List Str) by decide +kernel) rfl (by walk_at "o")), (xmif_one (qX (o_eq hr.units) (qH o__law_take hr (by walk_at "d") rfl (qA (xmv 1) (qA qK qN (qC ..)) (qM ..))) qK (nomark _))), (xmv 0)⟩)) qN (st_ListComp ..)))))
noncomputable abbrev s__law_some_sight : Stmt := top 6
noncomputable def p__law_some_sight_1 : FS := (mDrop (mMt (b2 gApp) (mV 2) (mCons (mIf (mB (m2 (b2 gInY) (mV 3) (mV 1))) (mN (mCall 2 m__law_take) (mCons (mV 0) (mCons (m2 (b2 gAdd) (mV 4) (mC (D.int (1)))) mNil))) (mC D.non)) mNil)))
noncomputable def b__law_some_sight : FS := (mSeq (mAsg (mLst mNil) (gN 2))
   (mSeq (mFor (iSeq (mTup (mCons (mTup (mCons (mC (D.str "came")) (mCons (mC (D.int (4))) mNil))) (mCons (mTup (mCons (mC (D.str "chalk")) (mCons (mC (D.int (1))) mNil))) (mCons (mTup (mCons (mC (D.str "doors")) (mCons (mC (D.int (4))) mNil))) (mCons (mTup (mCons (mC (D.str "others")) (mCons (mC (D.int (1))) mNil))) mNil)))))) (gT 2 (gCs (gN 3) (gCs (gN 4) gNl))) p__law_some_sight_1)
   (mRet (mN (b1 gTup) (mCons (mV 2) mNil)))))
noncomputable def m__law_some_sight : FN := fnB 5 b__law_some_sight
theorem sc__law_some_sight : FnScope ["_law_hand_here", "_law_eyes", "_law_parts", "_law_eye", "_law_most"] ["_law_hand_here", "_law_eyes"] (defScope s__law_some_sight) := ⟨rfl, rfl, rfl, by decide +kernel, rfl, by decide +kernel, by decide +kernel⟩
theorem ok__law_some_sight {P : Program} {w : World} {K : PySem.W.Frag} {mg : Str → Option Value} {base : Heap} {f : Addr} {fd : FuncData} (F : Fun K "_law_some_sight" "_law_some_sight" s__law_some_sight f fd) (hb : Binds K fd ["_law_hand_here", "_law_eyes"] []) (hm : mg "_law_some_sight" = some (.ref f)) (B : Blt mg) (o__law_take : Own P w K mg base 1 "_law_take" 2 m__law_take) :
   Own P w K mg base 2 "_law_some_sight" 2 m__law_some_sight := xown_mk (k := 1) (n := 2) (N := ["_law_hand_here", "_law_eyes", "_law_parts", "_law_eye", "_law_most"]) (ps := ["_law_hand_here", "_law_eyes"]) (b := b__law_some_sight) F hb hm sc__law_some_sight rfl fun cdv A outer s H E hr =>
 (qF (qY 2 sc__law_some_sight.nd rfl (by walk_at "o") (xme_lst qN))
   (qF (qW PassesOwn.never rfl (qd (xme_tup (qA (xme_tup (qA xme_str (qA qK qN (qC ..)) (qC ..))) (qA (xme_tup (qA xme_str (qA qK qN (qC ..)) (qC ..))) (qA (xme_tup (qA xme_str (qA qK qN (qC ..)) (qC ..))) (qA (xme_tup (qA xme_str (qA qK qN (qC ..)) (qC ..))) qN (qT ..)) (qT ..)) (qT ..)) (qT ..)))) (xmg_tup rfl (xmgs_cons (qO 3 sc__law_some_sight.nd rfl (by walk_at "o")) (xmgs_cons (qO 4 sc__law_some_sight.nd rfl (by walk_at "o")) xmgs_nil))) (qG (xms_expr (qe PySem.F.slot_list_append PySem.F.type_list_append t_app (xmv 2) (qA (xme_if (qX (o_inY hr.units) (xmv 3) (xmv 1) (by with_unfolding_all rfl)) (qH o__law_take hr (by walk_at "d") rfl (qA (xmv 0) (qA (qI o_add (xmv 4) qK) qN (qB ..)) (qM ..))) xme_non) qN (st_IfExp ..))))))
   (qG (qU (qE c_tuple rfl B.z_tuple (by decide +kernel) (qA (xmv 2) qN (qM ..)))))))
noncomputable abbrev s__law_rows : Stmt := top 7
noncomputable def p__law_rows_1 : FS := (mSeq (mAsg (m2 (b2 gIxY) (mTup (mCons (mC (D.str "leave")) (mCons (mC (D.str "mark")) (mCons (mC (D.str "wipe")) mNil)))) (mN (mCall 2 m__law_take) (mCons (mV 0) (mCons (mC (D.int (3))) mNil)))) (gN 5))
   (mSeq (mIfS (mTr (mV 3)) (mAsg (mC (D.str "leave")) (gN 5)) mNx)
   (mAsg (mTup (mCons (mN (mCall 2 m__law_take) (mCons (mV 0) (mCons (mC (D.int (4))) mNil))) (mCons (mV 5) (mCons (mN (mCall 2 m__law_take) (mCons (mV 0) (mCons (mC (D.int (4))) mNil))) mNil)))) (gS (b3 gSetY) (mV 2) (mTup (mCons (mN (mCall 2 m__law_take) (mCons (mV 0) (mCons (mC (D.int (4))) mNil))) (mCons (mN (mCall 2 m__law_some_sight) (mCons (mV 0) (mCons (mV 1) mNil))) mNil)))))))
noncomputable def b__law_rows : FS := (mSeq (mAsg mDnew (gN 2))
   (mSeq (mAsg (m2 (b2 gEq) (mN (mCall 2 m__law_take) (mCons (mV 0) (mCons (mC (D.int (2))) mNil))) (mC (D.int (0)))) (gN 3))
   (mSeq (mFor (iR1 (mCons (mN (mCall 2 m__law_take) (mCons (mV 0) (mCons (mC (D.int (15))) mNil))) mNil)) (gN 4) p__law_rows_1)
   (mSeq (mAsg (mN (b1 gLstY) (mCons (mV 2) mNil)) (gN 6))
   (mSeq (mIfS (mAnd (mTr (mV 3)) (mAnd (mB (m2 (b2 gNe) (mV 6) (mLst mNil))) (mB (m2 (b2 gEq) (mN (mCall 2 m__law_take) (mCons (mV 0) (mCons (mC (D.int (2))) mNil))) (mC (D.int (0))))))) (mSeq (mAsg (m2 (b2 gIxY) (mV 6) (mN (mCall 2 m__law_take) (mCons (mV 0) (mCons (mN (b1 gLen) (mCons (mV 6) mNil)) mNil)))) (gN 7))
   (mAsg (mTup (mCons (m2 (b2 gIxY) (m2 (b2 gIxY) (mV 2) (mV 7)) (mC (D.int (0)))) (mCons (m2 (b2 gIxY) (mTup (mCons (mC (D.str "mark")) (mCons (mC (D.str "wipe")) mNil))) (mN (mCall 2 m__law_take) (mCons (mV 0) (mCons (mC (D.int (2))) mNil)))) (mCons (m2 (b2 gIxY) (m2 (b2 gIxY) (mV 2) (mV 7)) (mC (D.int (2)))) mNil)))) (gS (b3 gSetY) (mV 2) (mV 7)))) mNx)
   (mRet (mV 2)))))))
noncomputable def m__law_rows : FN := fnB 8 b__law_rows
theorem sc__law_rows : FnScope ["_law_hand_here", "_law_eyes", "_law_rows_here", "_law_calm", "_law_k", "_law_word", "_law_some", "_law_at"] ["_law_hand_here", "_law_eyes"] (defScope s__law_rows) := ⟨rfl, rfl, rfl, by decide +kernel, rfl, by decide +kernel, by decide +kernel⟩
theorem ok__law_rows {P : Program} {w : World} {K : PySem.W.Frag} {mg : Str → Option Value} {base : Heap} {f : Addr} {fd : FuncData} (F : Fun K "_law_rows" "_law_rows" s__law_rows f fd) (hb : Binds K fd ["_law_hand_here", "_law_eyes"] []) (hm : mg "_law_rows" = some (.ref f)) (B : Blt mg) (o__law_some_sight : Own P w K mg base 2 "_law_some_sight" 2 m__law_some_sight) (o__law_take : Own P w K mg base 1 "_law_take" 2 m__law_take) :
   Own P w K mg base 3 "_law_rows" 2 m__law_rows := xown_mk (k := 2) (n := 2) (N := ["_law_hand_here", "_law_eyes", "_law_rows_here", "_law_calm", "_law_k", "_law_word", "_law_some", "_law_at"]) (ps := ["_law_hand_here", "_law_eyes"]) (b := b__law_rows) F hb hm sc__law_rows rfl fun cdv A outer s H E hr =>
 (qF (qY 2 sc__law_rows.nd rfl (by walk_at "o") xme_dnew)
   (qF (qY 3 sc__law_rows.nd rfl (by walk_at "o") (xme_cmp (o_eq hr.units) (qH o__law_take hr (by walk_at "d") rfl (qA (xmv 0) (qA qK qN (qC ..)) (qM ..))) qK (nomark _)))
   (qF (qW PassesOwn.never rfl (xmi_range1 rfl B.z_range (qA (qH o__law_take hr (by walk_at "d") rfl (qA (xmv 0) (qA qK qN (qC ..)) (qM ..))) qN (qL ..))) (qO 4 sc__law_rows.nd rfl (by walk_at "o")) (qF (qY 5 sc__law_rows.nd rfl (by walk_at "o") (qJ (qP hr.units) (xme_tup (qA xme_str (qA xme_str (qA xme_str qN (qC ..)) (qC ..)) (qC ..))) (qH o__law_take hr (by walk_at "d") rfl (qA (xmv 0) (qA qK qN (qC ..)) (qM ..))) (fun _ _ => rfl)))
   (qF (qV (xmt_tru (xmv 3)) (qG (qY 5 sc__law_rows.nd rfl (by walk_at "o") xme_str)) qQ)
   (qG (qR (xme_tup (qA (qH o__law_take hr (by walk_at "d") rfl (qA (xmv 0) (qA qK qN (qC ..)) (qM ..))) (qA (xmv 5) (qA (qH o__law_take hr (by walk_at "d") rfl (qA (xmv 0) (qA qK qN (qC ..)) (qM ..))) qN (qL ..)) (qM ..)) (qL ..))) (xmg_sub (xmv 2) (xme_tup (qA (qH o__law_take hr (by walk_at "d") rfl (qA (xmv 0) (qA qK qN (qC ..)) (qM ..))) (qA (qH o__law_some_sight hr (by walk_at "d") rfl (qA (xmv 0) (qA (xmv 1) qN (qM ..)) (qM ..))) qN (qL ..)) (qL ..))) (s_setY hr.units)))))))
   (qF (qY 6 sc__law_rows.nd rfl (by walk_at "o") (qE (c_listY rfl) rfl B.z_list (by decide +kernel) (qA (xmv 2) qN (qM ..))))
   (qF (qV (xmt_w (xmw_and (xmt_tru (xmv 3)) (xmw_and (qX (o_ne hr.units) (xmv 6) (xme_lst qN) (nomark _)) (xmw_and1 (qX (o_eq hr.units) (qH o__law_take hr (by walk_at "d") rfl (qA (xmv 0) (qA qK qN (qC ..)) (qM ..))) qK (nomark _)))))) (qF (qY 7 sc__law_rows.nd rfl (by walk_at "o") (qJ (qP hr.units) (xmv 6) (qH o__law_take hr (by walk_at "d") rfl (qA (xmv 0) (qA (qD c_len rfl B.z_len (by decide +kernel) (qA (xmv 6) qN (qM ..))) qN (qL ..)) (qM ..))) (fun _ _ => rfl)))
   (qG (qR (xme_tup (qA (qJ (qP hr.units) (qJ (qP hr.units) (xmv 2) (xmv 7) (fun _ _ => rfl)) qK (fun _ _ => rfl)) (qA (qJ (qP hr.units) (xme_tup (qA xme_str (qA xme_str qN (qC ..)) (qC ..))) (qH o__law_take hr (by walk_at "d") rfl (qA (xmv 0) (qA qK qN (qC ..)) (qM ..))) (fun _ _ => rfl)) (qA (qJ (qP hr.units) (qJ (qP hr.units) (xmv 2) (xmv 7) (fun _ _ => rfl)) qK (fun _ _ => rfl)) qN (qS ..)) (qS ..)) (qS ..))) (xmg_sub (xmv 2) (xmv 7) (s_setY hr.units))))) qQ)
   (qG (qU (xmv 2))))))))
noncomputable abbrev s_law : Stmt := top 9
noncomputable def p_law_1 : FS := (mIfS (mNot (mTr (mN (mCall 2 m__law_truth) (mCons (mN (mCall 2 m_is_quiet) (mCons (mV 5) (mCons (mV 7) mNil))) (mCons (mAndV (mV 6) (mOrV (m2 (b2 (gCmp fun i j => decide (i ≤ j))) (mV 7) (mC (D.int (2)))) (m2 (b2 gNotInY) (mC (D.str "others")) (mV 3)))) mNil))))) (mRet (mC (D.bl false))) mNx)
noncomputable def p_law_2 : FS := (mSeq (mAsg (mN (mCall 2 m__law_hand) (mCons (mV 0) (mCons (mV 1) mNil))) (gN 2))
   (mSeq (mAsg (mN (mCall 1 m__law_some_eyes) (mCons (mV 2) mNil)) (gN 3))
   (mSeq (mAsg (mN (mCall 2 m__law_rows) (mCons (mV 2) (mCons (mV 3) mNil))) (gN 4))
   (mSeq (mAsg (mTup (mCons (mV 3) (mCons (mN (b1 gTup) (mCons (mN (b1 gSortIt) (mCons (mV 4) mNil)) mNil)) mNil))) (gN 5))
   (mSeq (mAsg (mN (b1 gAll) (mCons (fCompK 1 [4] (mV 4) (gN 0) mTrue (fEmit (m2 (b2 gEq) (m2 (b2 gIxY) (m2 (b2 gIxY) (mV 1) (mV 0)) (mC (D.int (1)))) (mC (D.str "leave"))))) mNil)) (gN 6))
   (mFor (iSeq (m2 (b2 gAdd) (mLR2 (mCons (mC (D.int (1))) (mCons (mC (D.int (9))) mNil))) (mLst (mCons (m2 (b2 gAdd) (mC (D.int (1))) (mN (mCall 2 m__law_take) (mCons (mV 2) (mCons (mC (D.int (8))) mNil)))) mNil)))) (gN 7) p_law_1))))))
noncomputable def p_law_3 : FS := (mPure [true, true, false, false, false, false, false, false] [true, false, false, false, false, false, false, false] p_law_2)
noncomputable def b_law : FS := (mSeq (mFor (iR1 (mCons (mN (b2 gMax) (mCons (mC (D.int (1))) (mCons (mN (b2 gMin) (mCons (mC (D.int (10))) (mCons (mN (b1 gLen) (mCons (mV 0) mNil)) mNil))) mNil))) mNil)) (gN 1) p_law_3)
   (mRet (mC (D.bl true))))
noncomputable def m_law : FN := fnB 8 b_law
theorem sc_law : FnScope ["_law_script", "_law_k", "_law_hand_here", "_law_eyes", "_law_rows_here", "_law_machine", "_law_still", "_law_many"] ["_law_script"] (defScope s_law) := ⟨rfl, rfl, rfl, by decide +kernel, rfl, by decide +kernel, by decide +kernel⟩
theorem ok_law {P : Program} {w : World} {K : PySem.W.Frag} {mg : Str → Option Value} {base : Heap} {f : Addr} {fd : FuncData} (F : Fun K "law" "law" s_law f fd) (hb : Binds K fd ["_law_script"] []) (hm : mg "law" = some (.ref f)) (B : Blt mg) (o__law_hand : Own P w K mg base 1 "_law_hand" 2 m__law_hand) (o__law_rows : Own P w K mg base 3 "_law_rows" 2 m__law_rows) (o__law_some_eyes : Own P w K mg base 2 "_law_some_eyes" 1 m__law_some_eyes) (o__law_take : Own P w K mg base 1 "_law_take" 2 m__law_take) (o__law_truth : Own P w K mg base 1 "_law_truth" 2 m__law_truth) (o_is_quiet : Own P w K mg base 1 "is_quiet" 2 m_is_quiet) :
   FnOk P w K mg base CX0 4 f fd ["_law_script"] (spM K 1 m_law) := xfn_mk (k := 3) (n := 1) (N := ["_law_script", "_law_k", "_law_hand_here", "_law_eyes", "_law_rows_here", "_law_machine", "_law_still", "_law_many"]) (ps := ["_law_script"]) (b := b_law) F sc_law rfl fun cdv A outer s H E hr =>
 (qF (qW PassesOwn.never rfl (xmi_range1 rfl B.z_range (qA (qD (c_max rfl) rfl B.z_max (by decide +kernel) (qA qK (qA (qD (c_min rfl) rfl B.z_min (by decide +kernel) (qA qK (qA (qD c_len rfl B.z_len (by decide +kernel) (qA (xmv 0) qN (qM ..))) qN (qL ..)) (qC ..))) qN (qL ..)) (qC ..))) qN (qL ..))) (qO 1 sc_law.nd rfl (by walk_at "o")) (xmss_pure [true, true, false, false, false, false, false, false] [true, false, false, false, false, false, false, false] (qF (qY 2 sc_law.nd rfl (by walk_at "o") (qH o__law_hand hr (by walk_at "d") rfl (qA (xmv 0) (qA (xmv 1) qN (qM ..)) (qM ..))))
   (qF (qY 3 sc_law.nd rfl (by walk_at "o") (qH o__law_some_eyes hr (by walk_at "d") rfl (qA (xmv 2) qN (qM ..))))
   (qF (qY 4 sc_law.nd rfl (by walk_at "o") (qH o__law_rows hr (by walk_at "d") rfl (qA (xmv 2) (qA (xmv 3) qN (qM ..)) (qM ..))))
   (qF (qY 5 sc_law.nd rfl (by walk_at "o") (xme_tup (qA (xmv 3) (qA (qE c_tuple rfl B.z_tuple (by decide +kernel) (qA (xme_sortI rfl hr.units rfl B.z_sorted (xmv 4)) qN (qL ..))) qN (qL ..)) (qM ..))))
   (qF (qY 6 sc_law.nd rfl (by walk_at "o") (qD (c_all rfl) rfl B.z_all (by decide +kernel) (qA (xfe_compK rfl (T := ["_law_asked"]) (keep := [4]) ⟨rfl, by decide +kernel, (List.forall_mem_cons.mpr ⟨⟨_, rfl, rfl, (by walk_at "o"), (by first | decide +kernel | (show ¬ (("_law_rows_here" : Str), NameKind.cell) ∈ (_ : List (Str × NameKind)); decide +kernel))⟩, (List.forall_mem_nil _)⟩)⟩ rfl (xmv 4) (fun _ _ _ => ⟨(qO 0 (show List.Nodup (["_law_asked", "_law_rows_here"] : List Str) by decide +kernel) rfl (by walk_at "o")), xmif_nil, (xme_cmp (o_eq hr.units) (qJ (qP hr.units) (qJ (qP hr.units) (xmv 1) (xmv 0) (fun _ _ => rfl)) qK (fun _ _ => rfl)) xme_str (nomark _))⟩)) qN (st_ListComp ..))))
   (qG (qW PassesOwn.never rfl (qd (qI o_add (xme_listR2 rfl rfl B.z_range rfl B.z_list (qA qK (qA qK qN (qC ..)) (qC ..))) (xme_lst (qA (qI o_add qK (qH o__law_take hr (by walk_at "d") rfl (qA (xmv 2) (qA qK qN (qC ..)) (qM ..)))) qN (qB ..))))) (qO 7 sc_law.nd rfl (by walk_at "o")) (qG (qV (xmt_not (xmt_tru (qH o__law_truth hr (by walk_at "d") rfl (qA (qH o_is_quiet hr (by walk_at "d") rfl (qA (xmv 5) (qA (xmv 7) qN (qM ..)) (qM ..))) (qA (xme_and (xmv 6) (xme_one (xme_or (xme_cmp o_le (xmv 7) qK (nomark _)) (xme_one (xme_cmp (o_notInY hr.units) xme_str (xmv 3) (by with_unfolding_all rfl)))))) qN (st_BoolOp ..)) (qL ..))))) (qG (qU xme_bl)) qQ)))))))))))
   (qG (qU xme_bl)))
theorem all_mk {l : PySem.W.OpenLaw} {w : World} {K : PySem.W.Frag} {h : Heap} {mg : Str → Option Value} {fa f1 f2 f3 f4 f5 f6 f7 f8 : Addr} (X : K.In h) (G : h.Ns mainGlobals mg) (hfa : mg "law" = some (.ref fa))
   {oe1 oe2 oe3 oe4 oe5 oe6 oe7 oe8 an1 an2 an3 an4 an5 an6 an7 an8 : Option Addr} {sn1 sn2 sn3 sn4 sn5 sn6 sn7 sn8 : Array (Option Value)} {oc1 oc2 oc3 oc4 oc5 oc6 oc7 oc8 kV1 kV2 kV3 kV4 kV5 kV6 kV7 kV8 dc1 dc2 dc3 dc4 dc5 dc6 dc7 dc8 pm1 pm2 pm3 pm4 pm5 pm6 pm7 pm8 cd1 cd2 cd3 cd4 cd5 cd6 cd7 cd8 ct1 ct2 ct3 ct4 ct5 ct6 ct7 ct8 : Value}
   (a1 : PySem.W.nsIn K mainGlobals "is_quiet" = some (some (.ref f1)))
   (l1 : K.lookup f1 = some ⟨oc1, oe1, .func (PySem.W.fnOf "is_quiet" "is_quiet" (defArgs s_is_quiet) (defBody s_is_quiet) (defScope s_is_quiet) .none kV1 dc1 pm1 an1 cd1 ct1), sn1⟩)
   (c1 : PySem.W.codeIn K cd1 "is_quiet" = true)
   (k1 : PySem.W.keepIn K (.ref f1) = true)
   (a2 : PySem.W.nsIn K mainGlobals "_law_hand" = some (some (.ref f2)))
   (l2 : K.lookup f2 = some ⟨oc2, oe2, .func (PySem.W.fnOf "_law_hand" "_law_hand" (defArgs s__law_hand) (defBody s__law_hand) (defScope s__law_hand) .none kV2 dc2 pm2 an2 cd2 ct2), sn2⟩)
   (c2 : PySem.W.codeIn K cd2 "_law_hand" = true)
   (k2 : PySem.W.keepIn K (.ref f2) = true)
   (a3 : PySem.W.nsIn K mainGlobals "_law_take" = some (some (.ref f3)))
   (l3 : K.lookup f3 = some ⟨oc3, oe3, .func (PySem.W.fnOf "_law_take" "_law_take" (defArgs s__law_take) (defBody s__law_take) (defScope s__law_take) .none kV3 dc3 pm3 an3 cd3 ct3), sn3⟩)
   (c3 : PySem.W.codeIn K cd3 "_law_take" = true)
   (k3 : PySem.W.keepIn K (.ref f3) = true)
   (a4 : PySem.W.nsIn K mainGlobals "_law_truth" = some (some (.ref f4)))
   (l4 : K.lookup f4 = some ⟨oc4, oe4, .func (PySem.W.fnOf "_law_truth" "_law_truth" (defArgs s__law_truth) (defBody s__law_truth) (defScope s__law_truth) .none kV4 dc4 pm4 an4 cd4 ct4), sn4⟩)
   (c4 : PySem.W.codeIn K cd4 "_law_truth" = true)
   (k4 : PySem.W.keepIn K (.ref f4) = true)
   (a5 : PySem.W.nsIn K mainGlobals "_law_some_eyes" = some (some (.ref f5)))
   (l5 : K.lookup f5 = some ⟨oc5, oe5, .func (PySem.W.fnOf "_law_some_eyes" "_law_some_eyes" (defArgs s__law_some_eyes) (defBody s__law_some_eyes) (defScope s__law_some_eyes) .none kV5 dc5 pm5 an5 cd5 ct5), sn5⟩)
   (c5 : PySem.W.codeIn K cd5 "_law_some_eyes" = true)
   (k5 : PySem.W.keepIn K (.ref f5) = true)
   (a6 : PySem.W.nsIn K mainGlobals "_law_some_sight" = some (some (.ref f6)))
   (l6 : K.lookup f6 = some ⟨oc6, oe6, .func (PySem.W.fnOf "_law_some_sight" "_law_some_sight" (defArgs s__law_some_sight) (defBody s__law_some_sight) (defScope s__law_some_sight) .none kV6 dc6 pm6 an6 cd6 ct6), sn6⟩)
   (c6 : PySem.W.codeIn K cd6 "_law_some_sight" = true)
   (k6 : PySem.W.keepIn K (.ref f6) = true)
   (a7 : PySem.W.nsIn K mainGlobals "_law_rows" = some (some (.ref f7)))
   (l7 : K.lookup f7 = some ⟨oc7, oe7, .func (PySem.W.fnOf "_law_rows" "_law_rows" (defArgs s__law_rows) (defBody s__law_rows) (defScope s__law_rows) .none kV7 dc7 pm7 an7 cd7 ct7), sn7⟩)
   (c7 : PySem.W.codeIn K cd7 "_law_rows" = true)
   (k7 : PySem.W.keepIn K (.ref f7) = true)
   (a8 : PySem.W.nsIn K mainGlobals "law" = some (some (.ref f8)))
   (l8 : K.lookup f8 = some ⟨oc8, oe8, .func (PySem.W.fnOf "law" "law" (defArgs s_law) (defBody s_law) (defScope s_law) .none kV8 dc8 pm8 an8 cd8 ct8), sn8⟩)
   (c8 : PySem.W.codeIn K cd8 "law" = true)
   (k8 : PySem.W.keepIn K (.ref f8) = true)
   (z_all : PySem.W.nsIn K mainGlobals "all" = some none)
   (z_int : PySem.W.nsIn K mainGlobals "int" = some none)
   (z_len : PySem.W.nsIn K mainGlobals "len" = some none)
   (z_list : PySem.W.nsIn K mainGlobals "list" = some none)
   (z_max : PySem.W.nsIn K mainGlobals "max" = some none)
   (z_min : PySem.W.nsIn K mainGlobals "min" = some none)
   (z_range : PySem.W.nsIn K mainGlobals "range" = some none)
   (z_sorted : PySem.W.nsIn K mainGlobals "sorted" = some none)
   (z_tuple : PySem.W.nsIn K mainGlobals "tuple" = some none)
   : ∃ fd : FuncData, (∀ (s : Shared) (v : Value), BindsTo s fd ⟨[v], []⟩ [("_law_script", v)]) ∧ ∀ base : Heap, K.In base → base.Ns mainGlobals mg → FnOk l.prog w K mg base CX0 4 fa fd ["_law_script"] (spM K 1 m_law) := by
 have e := hfa.symm.trans (PySem.W.mg_of X G a8)
 cases e
 have B : Blt mg := ⟨PySem.W.mg_none_of X G z_all, PySem.W.mg_none_of X G z_int, PySem.W.mg_none_of X G z_len, PySem.W.mg_none_of X G z_list, PySem.W.mg_none_of X G z_max, PySem.W.mg_none_of X G z_min, PySem.W.mg_none_of X G z_range, PySem.W.mg_none_of X G z_sorted, PySem.W.mg_none_of X G z_tuple⟩
 have F1 := fun_mk (st := s_is_quiet) l1 c1 k1
 have b1 := F1.binds (ps := ["machine", "many"]) fun _ _ _ _ _ _ us hl => ln2 hl fun _ _ => rfl
 have F2 := fun_mk (st := s__law_hand) l2 c2 k2
 have b2 := F2.binds (ps := ["_law_script", "_law_k"]) fun _ _ _ _ _ _ us hl => ln2 hl fun _ _ => rfl
 have F3 := fun_mk (st := s__law_take) l3 c3 k3
 have b3 := F3.binds (ps := ["_law_hand_here", "_law_many"]) fun _ _ _ _ _ _ us hl => ln2 hl fun _ _ => rfl
 have F4 := fun_mk (st := s__law_truth) l4 c4 k4
 have b4 := F4.binds (ps := ["_law_found", "_law_due"]) fun _ _ _ _ _ _ us hl => ln2 hl fun _ _ => rfl
 have F5 := fun_mk (st := s__law_some_eyes) l5 c5 k5
 have b5 := F5.binds (ps := ["_law_hand_here"]) fun _ _ _ _ _ _ us hl => ln1 hl fun _ => rfl
 have F6 := fun_mk (st := s__law_some_sight) l6 c6 k6
 have b6 := F6.binds (ps := ["_law_hand_here", "_law_eyes"]) fun _ _ _ _ _ _ us hl => ln2 hl fun _ _ => rfl
 have F7 := fun_mk (st := s__law_rows) l7 c7 k7
 have b7 := F7.binds (ps := ["_law_hand_here", "_law_eyes"]) fun _ _ _ _ _ _ us hl => ln2 hl fun _ _ => rfl
 have F8 := fun_mk (st := s_law) l8 c8 k8
 have b8 := F8.binds (ps := ["_law_script"]) fun _ _ _ _ _ _ us hl => ln1 hl fun _ => rfl
 refine ⟨PySem.W.fnOf "law" "law" (defArgs s_law) (defBody s_law) (defScope s_law) .none kV8 dc8 pm8 an8 cd8 ct8, fun s v => .of_eq rfl, fun base _ _ => ?_⟩
 have o_is_quiet := ok_is_quiet (P := l.prog) (w := w) (base := base) F1 b1 (PySem.W.mg_of X G a1) B
 have o__law_hand := ok__law_hand (P := l.prog) (w := w) (base := base) F2 b2 (PySem.W.mg_of X G a2) B
 have o__law_take := ok__law_take (P := l.prog) (w := w) (base := base) F3 b3 (PySem.W.mg_of X G a3) B
 have o__law_truth := ok__law_truth (P := l.prog) (w := w) (base := base) F4 b4 (PySem.W.mg_of X G a4) B
 have o__law_some_eyes := ok__law_some_eyes (P := l.prog) (w := w) (base := base) F5 b5 (PySem.W.mg_of X G a5) B o__law_take
 have o__law_some_sight := ok__law_some_sight (P := l.prog) (w := w) (base := base) F6 b6 (PySem.W.mg_of X G a6) B o__law_take
 have o__law_rows := ok__law_rows (P := l.prog) (w := w) (base := base) F7 b7 (PySem.W.mg_of X G a7) B o__law_some_sight o__law_take
 have o_law := ok_law (P := l.prog) (w := w) (base := base) F8 b8 (PySem.W.mg_of X G a8) B o__law_hand o__law_rows o__law_some_eyes o__law_take o__law_truth o_is_quiet
 exact o_law
end Law
end
section
namespace Law
open PySem PySem.Spec PyProof.Rows L2 Mi
noncomputable def hnd (g m c : Int) : Ob := .lst [.int g, .int m, .int c]
noncomputable def mix1 (m c : Int) : Int := (m + 65537 * c * c + 11) * 48271 % 2305843009213693921
noncomputable def mix2 (m c : Int) : Int := mix1 m c * (mix1 m c % 1000003 + 99991 * c) % 2305843009213693907
theorem atI0 {a b c : D} : atI [a, b, c] 0 = some a := by rfl
theorem atI1 {a b c : D} : atI [a, b, c] 1 = some b := by rfl
theorem atI2 {a b c : D} : atI [a, b, c] 2 = some c := by rfl
theorem take_a {T : Sto} {g m c k : Int} (hg : 0 < g) (hk : 0 < k) (hk2 : k < 1073741824) :
   m__law_take [.ref 0, .int k] (hnd g m c :: T) = some (.int (g % k), hnd (g / k) m c :: T) := by
 simp [m__law_take, fnB, startD, b__law_take, mSeq, mIfS, mB, m2, b2, gCmp, mV, mC, gIxY, gIxX, gIx, seqOf, hnd, hg, hk, hk2, mAsg, gN, gMod, gDiv, gS, b3, gSetY, gSetX, gSetIx, mRet, atI0, ixN]
theorem take_b {T : Sto} {g m c k : Int} (hg : ¬ 0 < g) (hk : 0 < k) (hk2 : k < 1073741824) (hc : 0 ≤ c) (hc2 : c < 2 ^ 60) :
   m__law_take [.ref 0, .int k] (hnd g m c :: T) = some (.int ((mix2 m (c + 1) / 97 + mix2 m (c + 1) / 1000033) % k), hnd g m (c + 1) :: T) := by
 have f1 : mulFits 65537 (c + 1) = true := mulF1 (by decide) (by decide)
 have f2 : mulFits (65537 * (c + 1)) (c + 1) = true := mulF2 (by omega) (by omega)
 have f3 : mulFits (m + 65537 * (c + 1) * (c + 1) + 11) 48271 = true := mulF2 (by decide) (by decide)
 have f4 : mulFits 99991 (c + 1) = true := mulF1 (by decide) (by decide)
 have q := Int.emod_lt_of_pos ((m + 65537 * (c + 1) * (c + 1) + 11) * 48271) (show (0 : Int) < 2305843009213693921 by decide)
 have q' := Int.emod_nonneg ((m + 65537 * (c + 1) * (c + 1) + 11) * 48271) (show (2305843009213693921 : Int) ≠ 0 by decide)
 have f5 : mulFits ((m + 65537 * (c + 1) * (c + 1) + 11) * 48271 % 2305843009213693921) ((m + 65537 * (c + 1) * (c + 1) + 11) * 48271 % 2305843009213693921 % 1000003 + 99991 * (c + 1)) = true := mulF1 (by omega) (by omega)
 simp [m__law_take, fnB, startD, b__law_take, mSeq, mIfS, mB, m2, b2, gCmp, mV, mC, gIxY, gIxX, gIx, seqOf, hnd, hg, hk, hk2, mAsg, gN, gMod, gDiv, gS, b3, gSetY, gSetX, gSetIx, mRet, atI0, atI1, atI2, ixN, mNx, gAdd, gMul, f1, f2, f3, f4, f5, mix1, mix2]
noncomputable def Hnd (o : Ob) (n : Nat) : Prop := ∃ g m c : Int, o = hnd g m c ∧ 0 ≤ c ∧ c ≤ n
theorem Hnd.und {o : Ob} {n k : Nat} (h : Hnd o n) : o.und k = true := by
 obtain ⟨g, m, c, rfl, _⟩ := h
 rfl
theorem Hnd.more {o : Ob} {n k : Nat} (h : Hnd o n) (hk : n ≤ k) : Hnd o k := by
 obtain ⟨g, m, c, e, h0, h1⟩ := h
 exact ⟨g, m, c, e, h0, by omega⟩
noncomputable def Shut (S : Sto) : Prop := S.all (Ob.und S.length) = true
theorem all_set {p : Ob → Bool} {S : Sto} {i : Nat} {o : Ob} (h : S.all p = true) (ho : p o = true) : (S.set i o).all p = true := by
 rw [List.all_eq_true] at h ⊢
 intro x hx
 rcases List.mem_or_eq_of_mem_set hx with h1 | h1
 · exact h x h1
 · rw [h1]; exact ho
structure HZ (n : Nat) (B U : Sto) : Prop where
 pos : 0 < B.length
 len : B.length ≤ U.length
 same : ∀ i, 0 < i → i < B.length → U[i]? = B[i]?
 hand : ∃ o, U[0]? = some o ∧ Hnd o n
 shut : Shut U
theorem HZ.more {n k : Nat} {B U : Sto} (s : HZ n B U) (h : n ≤ k) : HZ k B U := by
 obtain ⟨o, e, ho⟩ := s.hand
 exact ⟨s.pos, s.len, s.same, ⟨o, e, ho.more h⟩, s.shut⟩
theorem HZ.self {n : Nat} {B U : Sto} (s : HZ n B U) : HZ n U U := ⟨Nat.lt_of_lt_of_le s.pos s.len, Nat.le_refl _, fun _ _ _ => rfl, s.hand, s.shut⟩
theorem HZ.trans {n n' : Nat} {B U V : Sto} (a : HZ n B U) (b : HZ n' U V) : HZ n' B V :=
 ⟨a.pos, Nat.le_trans a.len b.len, fun i h1 hi => (b.same i h1 (Nat.lt_of_lt_of_le hi a.len)).trans (a.same i h1 hi), b.hand, b.shut⟩
theorem HZ.at {n : Nat} {B U : Sto} (s : HZ n B U) {i : Nat} {o : Ob} (e : B[i]? = some o) (h1 : 0 < i) : U[i]? = some o := by
 rw [s.same i h1 (List.getElem?_eq_some_iff.mp e).1]; exact e
theorem shut_app {U : Sto} {G : Sto} (s : Shut U) (hg : ∀ o ∈ G, o.und (U ++ G).length = true) : Shut (U ++ G) := by
 unfold Shut at *
 rw [List.all_append, Bool.and_eq_true]
 rw [List.all_eq_true] at s
 refine ⟨List.all_eq_true.mpr fun o ho => obund_le (by rw [List.length_append]; omega) (s o ho), List.all_eq_true.mpr hg⟩
theorem shut_set {U : Sto} {i : Nat} {o : Ob} (s : Shut U) (ho : o.und U.length = true) : Shut (U.set i o) := by
 unfold Shut at *
 rw [List.length_set]
 exact all_set s ho
theorem HZ.app {n : Nat} {B U G : Sto} (s : HZ n B U) (hg : ∀ o ∈ G, o.und (U ++ G).length = true) : HZ n B (U ++ G) := by
 obtain ⟨o, e, ho⟩ := s.hand
 refine ⟨s.pos, by rw [List.length_append]; have := s.len; omega, fun i h1 hi => ?_, ⟨o, ?_, ho⟩, shut_app s.shut hg⟩
 · rw [List.getElem?_append_left (by have := s.len; omega)]; exact s.same i h1 hi
 · rw [List.getElem?_append_left (List.getElem?_eq_some_iff.mp e).1]; exact e
theorem HZ.set {n i : Nat} {B U : Sto} {o : Ob} (s : HZ n B U) (hi : B.length ≤ i) (ho : o.und U.length = true) : HZ n B (U.set i o) := by
 obtain ⟨o', e, ho'⟩ := s.hand
 have h1 := s.pos
 refine ⟨s.pos, by rw [List.length_set]; exact s.len, fun j a hj => ?_, ⟨o', ?_, ho'⟩, shut_set s.shut ho⟩
 · rw [List.getElem?_set_ne (by omega)]; exact s.same j a hj
 · rw [List.getElem?_set_ne (by omega)]; exact e
theorem take_W {n : Nat} {B U : Sto} {k : Int} {Q : D × Sto → Prop} (s : HZ n B U) (hn : n ≤ 2 ^ 50) (hk : 0 < k) (hk2 : k < 1073741824)
   (q : ∀ (d : Nat) U', HZ (n + 1) B U' → HZ (n + 1) U U' → U'.length = U.length → (d : Int) < k → Q (.int d, U')) : W (mCall 2 m__law_take [.ref 0, .int k] U) Q := by
 obtain ⟨o, e, ho⟩ := s.hand
 obtain ⟨g, m, c, rfl, h0, h1⟩ := ho
 obtain ⟨T, rfl⟩ : ∃ T, U = hnd g m c :: T := by
   cases U with
   | nil => simp at e
   | cons x T => simp at e; subst e; exact ⟨T, rfl⟩
 have call : ∀ d o', m__law_take [.ref 0, .int k] (hnd g m c :: T) = some (d, o' :: T) → mCall 2 m__law_take [.ref 0, .int k] (hnd g m c :: T) = some (d, o' :: T) := fun d o e => call_same e rfl (by simp [D.unds, D.und]) (by simp)
 have up : ∀ o', Hnd o' (n + 1) → HZ (n + 1) (hnd g m c :: T) (o' :: T) := fun o' h => by
   refine ⟨by simp, by simp, fun i h1 _ => ?_, ⟨o', rfl, h⟩, ?_⟩
   · cases i with
     | zero => omega
     | succ i => rfl
   · exact shut_set (i := 0) s.shut h.und
 by_cases hg : 0 < g
 · have d0 := Int.emod_nonneg g (show k ≠ 0 by omega)
   obtain ⟨d, e⟩ := Int.eq_ofNat_of_zero_le d0
   refine ⟨_, call _ _ (take_a hg hk hk2), ?_⟩
   rw [e]
   have u := up (hnd (g / k) m c) ⟨_, _, _, rfl, h0, by omega⟩
   exact q d _ (s.trans u) u (by simp) (by rw [← e]; exact Int.emod_lt_of_pos _ hk)
 · have d0 := Int.emod_nonneg (mix2 m (c + 1) / 97 + mix2 m (c + 1) / 1000033) (show k ≠ 0 by omega)
   obtain ⟨d, e⟩ := Int.eq_ofNat_of_zero_le d0
   refine ⟨_, call _ _ (take_b hg hk hk2 h0 (by omega)), ?_⟩
   rw [e]
   have u := up (hnd g m (c + 1)) ⟨_, _, _, rfl, by omega, by push_cast; omega⟩
   exact q d _ (s.trans u) u (by simp) (by rw [← e]; exact Int.emod_lt_of_pos _ hk)
theorem callB {n c c' : Nat} {f : FN} {ds : List D} {B U : Sto} {Q : D × Sto → Prop} (hn : ds.length = n) (hu : D.unds 0 ds = false) (s : HZ c B U)
   (q : W (f ds U) fun p => HZ c' U p.2 ∧ p.1.und 0 = true ∧ ∀ U', HZ c' B U' → HZ c' U U' → U'.length = U.length → Q (p.1, U')) : W (mCall n f ds U) Q := by
 refine callW hn hu (q.mono ?_)
 rintro ⟨d, V⟩ ⟨v, hd, q⟩
 dsimp only at v hd q
 have hl := v.len
 have l3 := s.len
 have hp := v.pos
 obtain ⟨o, e, ho⟩ := v.hand
 have tl : (V.take U.length).length = U.length := by rw [List.length_take]; omega
 have get : ∀ i, i < U.length → (V.take U.length)[i]? = V[i]? := fun i hi => by rw [List.getElem?_take_of_lt hi]
 have sh : (V.take U.length).all (Ob.und U.length) = true := by
   rw [List.all_eq_true]
   intro x hx
   obtain ⟨i, hi⟩ := List.getElem?_of_mem hx
   have hil : i < U.length := by have := (List.getElem?_eq_some_iff.mp hi).1; omega
   rw [get i hil] at hi
   by_cases z : i = 0
   · subst z; rw [e] at hi; cases hi; exact ho.und
   · rw [v.same i (by omega) hil] at hi
     have := s.shut
     unfold Shut at this
     rw [List.all_eq_true] at this
     exact this x (List.mem_of_getElem? hi)
 have eg : gc U.length (d, V) = (d, V.take U.length) := by
   unfold gc
   dsimp only
   rw [if_pos (by rw [und_mono hd, sh]; rfl)]
 rw [eg]
 have u : HZ c' U (V.take U.length) := by
   refine ⟨v.pos, by omega, fun i h1 hi => by rw [get i hi]; exact v.same i h1 hi, ⟨o, by rw [get 0 hp]; exact e, ho⟩, ?_⟩
   unfold Shut
   rw [tl]; exact sh
 exact q _ (s.trans u) u tl
theorem hand_ok (ns : List Int) (k : Int) (h0 : 0 ≤ k) (hk : k < 63) : ∃ o, mCall 2 m__law_hand [.rol (ns.map D.int), .int k] [] = some (.ref 0, [o]) ∧ Hnd o 0 := by
 have key : ∃ g m, m__law_hand [.rol (ns.map D.int), .int k] [] = some (.ref 0, [hnd g m 0]) := by
   have f0 : mulFits (10 ^ 60) (10 ^ 30) = true := by decide +kernel
   have f1 : mulFits 7919 k = true := mulF1 (by decide) (by decide)
   have f2 : ∀ x : Int, mulFits x 1 = true := fun x => mulF2 (by decide) (by decide)
   have f3 : ∀ x : Int, mulFits x 0 = true := fun x => mulF2 (by decide) (by decide)
   have lt : gLt (.int k) (.int ns.length) [] = some (.bl (decide (k < ns.length)), []) := by rfl
   by_cases hl : k < ns.length
   · have hat : atI (ns.map D.int) k = some (.int (ns[k.toNat]'(by omega))) := by
       unfold atI ixN
       rw [if_pos h0, if_pos (by simpa using hl)]
       simp [show k.toNat < ns.length by omega]
     generalize hx : ns[k.toNat]'(by omega) = x at hat
     by_cases hb : (10 : Int) ^ 18 ≤ x
     · have hb' : (1000000000000000000 : Int) ≤ x := by simpa using hb
       simp [m__law_hand, fnB, startD, b__law_hand, mSeq, mIfS, mB, m2, b2, b1, mN, mCons, mNil, gCmp, mV, mC, gIxY, gIxX, gIx, gLen, seqOf, mAsg, gN, gMod, gMul, gAdd, gPow, gInt, mRet, mLst, lt, hl, hat, f1, f2, f3, hb', sizeLine, hnd, mNx]
       simp [show mulFits 1000000000000000000000000000000000000000000000000000000000000 1000000000000000000000000000000 = true from f0, f1, f2, f3]
     · have hb' : ¬ (1000000000000000000 : Int) ≤ x := by simpa using hb
       simp [m__law_hand, fnB, startD, b__law_hand, mSeq, mIfS, mB, m2, b2, b1, mN, mCons, mNil, gCmp, mV, mC, gIxY, gIxX, gIx, gLen, seqOf, mAsg, gN, gMod, gMul, gAdd, gPow, gInt, mRet, mLst, lt, hl, hat, f1, f2, f3, hb', sizeLine, hnd, mNx]
       simp [show mulFits 1000000000000000000000000000000000000000000000000000000000000 1000000000000000000000000000000 = true from f0, f1, f2, f3]
   · simp [m__law_hand, fnB, startD, b__law_hand, mSeq, mIfS, mB, m2, b2, b1, mN, mCons, mNil, gCmp, mV, mC, gIxY, gIxX, gIx, gLen, seqOf, mAsg, gN, gMod, gMul, gAdd, gPow, gInt, mRet, mLst, lt, hl, f1, f2, f3, sizeLine, hnd, mNx]
     simp [show mulFits 1000000000000000000000000000000000000000000000000000000000000 1000000000000000000000000000000 = true from f0, f1, f2, f3]
 obtain ⟨g, m, e⟩ := key
 refine ⟨hnd g m 0, ?_, _, _, _, rfl, Int.le_refl _, Int.le_refl _⟩
 rw [call_new (n := 2) e rfl (by rw [D.unds, D.und, unds_ints]; rfl) (by simp [D.und])]
 simp [D.sh, Ob.sh, D.shs, hnd]
end Law
end
section
namespace Law
open PySem PySem.Spec PyProof.Rows L2 Mi
theorem eyes_W {n : Nat} {B U : Sto} {Q : D × Sto → Prop} (s : HZ n B U) (hn : n ≤ 2 ^ 45)
   (q : ∀ a b c d U', HZ (n + 4) B U' → HZ (n + 4) U U' → U'.length = U.length → Q (.tup (eyesL a b c d), U')) : W (mCall 1 m__law_some_eyes [.ref 0] U) Q := by
 refine callB (c' := n + 4) rfl rfl s ?_
 unfold m__law_some_eyes
 refine fnW ?_
 unfold b__law_some_eyes
 walk_at "own wq"
 rw [sW_tup]
 refine loopF_W (fun i acc r S => ∃ x, HZ (n + i) U S ∧ r = [x, some (.ref 0)] ∧ i ≤ 4 ∧ acc.Sublist (([.str "came", .str "chalk", .str "doors", .str "others"] : List D).take i)) _ 0 [] _ _ ⟨none, s.self, rfl, by omega, by simp⟩ (fun _ _ _ _ _ => rfl) ?_ ?_
 · rintro i d hd acc r S ⟨x, hs, rfl, hi, ha⟩
   have hi' : i < 4 := (List.getElem?_eq_some_iff.mp hd).1
   have ht : (([.str "came", .str "chalk", .str "doors", .str "others"] : List D)).take (i + 1) = (([.str "came", .str "chalk", .str "doors", .str "others"] : List D)).take i ++ [d] := by rw [List.take_succ, hd]; rfl
   rw [Nat.zero_add] at *
   walk_at "own wq"
   refine take_W hs (by omega) (by decide) (by decide) fun e U' hs' _ _ he => ?_
   walk_at "own wq"
   split
   · exact ⟨some d, hs', rfl, by omega, by rw [ht]; exact ha.append (List.Sublist.refl _)⟩
   · exact ⟨some d, hs', rfl, by omega, by rw [ht]; exact ha.trans (List.sublist_append_left _ _)⟩
 · rintro xs r S ⟨x, hs, rfl, _, ha⟩
   obtain ⟨a, b, c, d, rfl⟩ := eyes_sub (by simpa using ha)
   walk_at "own wq"
   have hl := eyes_len a b c d
   refine ⟨fits_le (by omega), ?_⟩
   refine sW_ref (xs := eyesL a b c d) (by rw [get_app0]; rfl) ?_
   refine ⟨hs.app fun o ho => ?_, by rw [D.und]; exact eyes_und a b c d, fun U' h1 h2 h3 => q a b c d U' h1 h2 h3⟩
   simp at ho
   subst ho
   rw [Ob.und]; exact unds_mono (eyes_und a b c d)
noncomputable def pt (b : Bool) (x : Nat) : D := if b = true then .int x else .non
theorem pt_und {b : Bool} {x n : Nat} : (pt b x).und n = true := by unfold pt; split <;> rfl
theorem unds_snoc {ps : List D} {x : D} (h : D.unds 0 ps = true) (hx : x.und 0 = true) : D.unds 0 (ps ++ [x]) = true := by
 induction ps with
 | nil => simp [D.unds, hx]
 | cons y ps ih => rw [D.unds, Bool.and_eq_true] at h; rw [List.cons_append, D.unds, h.1, ih h.2]; rfl
noncomputable def sgD (a b c d : Bool) (x y z w : Nat) : D := .tup [pt a x, pt b y, pt c z, pt d w]
theorem part_W {n k : Nat} {e : Str} {b : Bool} {m : Nat} {E : D} {ps : List D} {B S : Sto} (s : HZ n B S) (hn : n ≤ 2 ^ 46) (hm : m ≤ 100) (hin : ∀ S, gInY (.str e) E S = some (.bl b, S)) (hk : B.length ≤ k) (hS : S[k]? = some (.lst ps)) (hp : ps.length ≤ 100) (hu : D.unds 0 ps = true) :
   W (p__law_some_sight_1 [some (.ref 0), some E, some (.ref k), some (.str e), some (.int m)] S) fun p => p.1 = .nx ∧ p.2.1 = [some (.ref 0), some E, some (.ref k), some (.str e), some (.int m)] ∧ ∃ x, x ≤ m ∧ HZ (n + 1) B p.2.2 ∧ p.2.2[k]? = some (.lst (ps ++ [pt b x])) ∧ p.2.2.length = S.length := by
 unfold p__law_some_sight_1
 have hkl := (List.getElem?_eq_some_iff.mp hS).1
 have fin : ∀ (S' : Sto) (x : Nat), HZ (n + 1) B S' → HZ (n + 1) B (S'.set k (.lst (ps ++ [pt b x]))) := fun S' x h1 =>
   h1.set hk (by rw [Ob.und]; exact unds_mono (unds_snoc hu pt_und))
 walk_at "own wq"
 refine W_mMt ?_
 walk_at "own wq"
 refine ⟨k, ps, rfl, hS, ?_⟩
 ((try walk_at "own wq"); repeat (simp -implicitDefEqProofs only [hin]; try walk_at "own wq"))
 cases b with
 | true =>
   rw [if_pos rfl]
   have hm1 : ((m : Int) + 1) = ((m + 1 : Nat) : Int) := by push_cast; rfl
   rw [hm1]
   refine take_W s (by omega) (by omega) (by omega) fun x S' h1 h2 h3 h4 => ?_
   have hk0 : 0 < k := Nat.lt_of_lt_of_le s.pos hk
   have hS' : S'[k]? = some (.lst ps) := by rw [h2.same k hk0 hkl]; exact hS
   refine (W_app hS').mpr ⟨fits_le (by omega), ?_⟩
   refine ⟨x, by omega, fin S' x h1, ?_, by rw [List.length_set]; exact h3⟩
   rw [List.getElem?_set_self (by omega)]
   rfl
 | false =>
   rw [if_neg (by decide)]
   refine (W_app hS).mpr ⟨fits_le (by omega), ?_⟩
   refine ⟨0, by omega, fin S 0 (s.more (by omega)), ?_, by rw [List.length_set]⟩
   rw [List.getElem?_set_self (by omega)]
   rfl
theorem zip_snoc {b : Bool} {x : Nat} : ∀ {bs : List Bool} {xs : List Nat}, bs[xs.length]? = some b → List.zipWith pt bs (xs ++ [x]) = List.zipWith pt bs xs ++ [pt b x]
 | [], xs, h => by simp at h
 | c :: bs, [], h => by simp at h; subst h; cases bs <;> simp
 | c :: bs, y :: xs, h => by
   rw [List.cons_append, List.zipWith_cons_cons, List.zipWith_cons_cons, zip_snoc (by simpa using h)]; rfl
theorem zip_und : ∀ {bs : List Bool} {xs : List Nat}, D.unds 0 (List.zipWith pt bs xs) = true
 | [], xs => rfl
 | c :: bs, [] => rfl
 | c :: bs, y :: xs => by rw [List.zipWith_cons_cons, D.unds, pt_und, zip_und]; rfl
theorem sight_W {n : Nat} {a b c d : Bool} {B U : Sto} {Q : D × Sto → Prop} (s : HZ n B U) (hn : n ≤ 2 ^ 45)
   (q : ∀ x y z w U', x ≤ 4 → y ≤ 4 → z ≤ 4 → w ≤ 4 → HZ (n + 4) B U' → HZ (n + 4) U U' → U'.length = U.length → Q (sgD a b c d x y z w, U')) : W (mCall 2 m__law_some_sight [.ref 0, .tup (eyesL a b c d)] U) Q := by
 refine callB (c' := n + 4) rfl (by simp [D.unds, D.und]) s ?_
 unfold m__law_some_sight
 refine fnW ?_
 unfold b__law_some_sight
 generalize hE : D.tup (eyesL a b c d) = E
 refine seqW (fun r S => S = U ++ [.lst []] ∧ r = [some (.ref 0), some E, some (.ref U.length), none, none]) ?_ ?_
 · walk_at "own wq"
 rintro r S ⟨rfl, rfl⟩
 have s0 : HZ n U (U ++ [.lst []]) := s.self.app fun o ho => by simp at ho; subst ho; rfl
 refine seqW (fun r S => ∃ x y z w y3 y4, x ≤ 4 ∧ y ≤ 4 ∧ z ≤ 4 ∧ w ≤ 4 ∧ HZ (n + 4) U S ∧ S[U.length]? = some (.lst [pt a x, pt b y, pt c z, pt d w]) ∧ r = [some (.ref 0), some E, some (.ref U.length), y3, y4]) ?_ ?_
 · walk_at "own wq"
   rw [sW_tup]
   refine loopM_W (fun i r S => ∃ xs y3 y4, HZ (n + i) U S ∧ xs.length = i ∧ (∀ x ∈ xs, x ≤ 4) ∧ S[U.length]? = some (.lst (List.zipWith pt [a, b, c, d] xs)) ∧ r = [some (.ref 0), some E, some (.ref U.length), y3, y4]) _ 0 _ _ ⟨[], _, _, s0, rfl, fun x hx => (by cases hx), by rw [get_app0]; rfl, rfl⟩ (fun _ _ _ _ => rfl) ?_ ?_
   · rintro i dd hd r S ⟨xs, y3, y4, hs, hl, hx, hS, rfl⟩
     have hi : i < 4 := (List.getElem?_eq_some_iff.mp hd).1
     rw [Nat.zero_add] at *
     have step : ∀ (e : Str) (m : Nat) (bb : Bool), m ≤ 4 → dd = .tup [.str e, .int m] → [a, b, c, d][i]? = some bb → (∀ S, gInY (.str e) E S = some (.bl bb, S)) →
         W (gT 2 (gCs (gN 3) (gCs (gN 4) gNl)) dd [some (.ref 0), some E, some (.ref U.length), y3, y4] S) fun p => W (p__law_some_sight_1 p.1 p.2) fun q => q.1 = .nx ∧ ∃ xs y3 y4, HZ (n + (i + 1)) U q.2.2 ∧ xs.length = i + 1 ∧ (∀ x ∈ xs, x ≤ 4) ∧ q.2.2[U.length]? = some (.lst (List.zipWith pt [a, b, c, d] xs)) ∧ q.2.1 = [some (.ref 0), some E, some (.ref U.length), y3, y4] := by
       intro e m bb hm hdd hbb hin
       subst hdd
       walk_at "own wq"
       refine (part_W hs (by omega) (by omega) hin (Nat.le_refl _) hS (by rw [List.length_zipWith]; simp; omega) zip_und).mono fun p hp => ?_
       obtain ⟨h1, h2, x, h3, h4, h5, h6⟩ := hp
       refine ⟨h1, xs ++ [x], _, _, h4, by simp [hl], fun y hy => ?_, ?_, h2⟩
       · rcases List.mem_append.mp hy with z | z
         · exact hx y z
         · simp at z; omega
       · rw [h5, zip_snoc (by rw [hl]; exact hbb)]
     dsimp only at hd
     subst hE
     have h4 : i = 0 ∨ i = 1 ∨ i = 2 ∨ i = 3 := by omega
     rcases h4 with z | z | z | z
     · rw [z] at hd; exact step "came" 4 a (by omega) (by simpa using hd.symm) (by rw [z]; rfl) fun S => in_came
     · rw [z] at hd; exact step "chalk" 1 b (by omega) (by simpa using hd.symm) (by rw [z]; rfl) fun S => in_chalk
     · rw [z] at hd; exact step "doors" 4 c (by omega) (by simpa using hd.symm) (by rw [z]; rfl) fun S => in_doors
     · rw [z] at hd; exact step "others" 1 d (by omega) (by simpa using hd.symm) (by rw [z]; rfl) fun S => in_others
   · rintro r S ⟨xs, y3, y4, hs, hl, hx, hS, rfl⟩
     match xs, hl with
     | [x, y, z, w], _ => exact ⟨rfl, x, y, z, w, _, _, hx x (by simp), hx y (by simp), hx z (by simp), hx w (by simp), hs, hS, rfl⟩
 rintro r S ⟨x, y, z, w, y3, y4, h1, h2, h3, h4, hs, hS, rfl⟩
 walk_at "own wq"
 refine sW_ref hS ?_
 refine ⟨hs, ?_, fun U' u1 u2 u3 => q x y z w U' h1 h2 h3 h4 u1 u2 u3⟩
 simp [D.und, D.unds, pt_und]
noncomputable def hands : List D := [.str "leave", .str "mark", .str "wipe"]
noncomputable def steps : List D := [.non, .int 0, .int 1, .int 2, .int 3]
structure Deed (x : D) : Prop where
 is : ∃ m h t, x = .tup [.int (m : Nat), h, t] ∧ m < 4000 ∧ h ∈ hands ∧ t ∈ steps
theorem Deed.und {x : D} (h : Deed x) : x.und 0 = true := by
 obtain ⟨m, x, t, rfl, _, h1, h2⟩ := h.is
 have e1 : x.und 0 = true := by simp [hands] at h1; rcases h1 with z | z | z <;> subst z <;> rfl
 have e2 : t.und 0 = true := by simp [steps] at h2; rcases h2 with z | z | z | z | z <;> subst z <;> rfl
 simp [D.und, D.unds, e1, e2]
end Law
end
section
namespace Law
open PySem PySem.Spec PyProof.Rows L2 Mi
noncomputable def cx (b : Bool) (x : Nat) : Nat := if b = true then x else 0
noncomputable def cds : List Bool → List Nat → Nat
 | b :: bs, x :: xs => cx b x * 8 ^ bs.length + cds bs xs
 | _, _ => 0
theorem cds_lt : ∀ {bs : List Bool} {xs : List Nat}, (∀ x ∈ xs, x ≤ 7) → cds bs xs < 8 ^ bs.length
 | [], _, _ => by rw [cds]; simp; simp
 | b :: bs, [], _ => by
   rw [cds]
   · exact Nat.pos_of_ne_zero (by simp)
   · simp
 | b :: bs, x :: xs, h => by
   have h1 := cds_lt (bs := bs) fun y hy => h y (List.mem_cons_of_mem _ hy)
   have h2 : cx b x ≤ 7 := by unfold cx; split; exact h x List.mem_cons_self; omega
   rw [cds, List.length_cons, Nat.pow_succ]
   have h3 : cx b x * 8 ^ bs.length ≤ 7 * 8 ^ bs.length := Nat.mul_le_mul_right _ h2
   omega
theorem eqT {S : Sto} {n : Nat} {xs ys : List D} : eqN S (n + 1) (.tup xs) (.tup ys) = eqL (eqN S n) xs ys := by
 rw [eqN]; simp [seqOf]
theorem ltT {S : Sto} {n : Nat} {xs ys : List D} : ltN S (n + 1) (.tup xs) (.tup ys) = ltL (eqN S n) (ltN S n) xs ys := by
 rw [ltN]; simp [ltF, seqOf]
theorem eq_pt {S : Sto} {n : Nat} {b : Bool} {x y : Nat} : eqN S (n + 1) (pt b x) (pt b y) = some (decide (cx b x = cx b y)) := by
 cases b with
 | false => rfl
 | true =>
   show some ((x : Int) == (y : Int)) = some (decide (x = y))
   congr 1
   rw [Bool.eq_iff_iff, beq_iff_eq, decide_eq_true_eq]
   omega
theorem lt_pt {S : Sto} {n : Nat} {b : Bool} {x y : Nat} (h : cx b x ≠ cx b y) : ltN S (n + 1) (pt b x) (pt b y) = some (decide (cx b x < cx b y)) := by
 cases b with
 | false => exact absurd rfl h
 | true =>
   show some (decide ((x : Int) < (y : Int))) = some (decide (x < y))
   congr 1
   rw [Bool.eq_iff_iff, decide_eq_true_eq, decide_eq_true_eq]
   omega
theorem dig {A B P u v : Nat} (hu : u < P) (hv : v < P) : (A * P + u = B * P + v ↔ A = B ∧ u = v) ∧ (A * P + u < B * P + v ↔ A < B ∨ (A = B ∧ u < v)) := by
 rcases Nat.lt_trichotomy A B with h | h | h
 · have := Nat.mul_le_mul_right P (show A + 1 ≤ B from h)
   rw [Nat.succ_mul] at this
   constructor <;> omega
 · subst h
   constructor <;> omega
 · have := Nat.mul_le_mul_right P (show B + 1 ≤ A from h)
   rw [Nat.succ_mul] at this
   constructor <;> omega
theorem eqL_pt {S : Sto} {n : Nat} : ∀ {bs : List Bool} {xs ys : List Nat}, xs.length = bs.length → ys.length = bs.length → (∀ x ∈ xs, x ≤ 7) → (∀ y ∈ ys, y ≤ 7) →
   eqL (eqN S (n + 1)) (List.zipWith pt bs xs) (List.zipWith pt bs ys) = some (decide (cds bs xs = cds bs ys))
 | [], xs, ys, _, _, _, _ => by simp [eqL, cds]
 | b :: bs, [], ys, h, _, _, _ => by simp at h
 | b :: bs, x :: xs, [], _, h, _, _ => by simp at h
 | b :: bs, x :: xs, y :: ys, h1, h2, hx, hy => by
   have ih := eqL_pt (S := S) (n := n) (bs := bs) (xs := xs) (ys := ys) (by simpa using h1) (by simpa using h2) (fun z hz => hx z (List.mem_cons_of_mem _ hz)) (fun z hz => hy z (List.mem_cons_of_mem _ hz))
   have b1 := cds_lt (bs := bs) (xs := xs) fun z hz => hx z (List.mem_cons_of_mem _ hz)
   have b2 := cds_lt (bs := bs) (xs := ys) fun z hz => hy z (List.mem_cons_of_mem _ hz)
   rw [List.zipWith_cons_cons, List.zipWith_cons_cons, eqL, eq_pt, ih, cds, cds]
   have hd := (dig (A := cx b x) (B := cx b y) b1 b2).1
   rw [Option.bind_some, Option.map_some]
   congr 1
   rw [Bool.eq_iff_iff, Bool.and_eq_true, decide_eq_true_eq, decide_eq_true_eq, decide_eq_true_eq]
   exact hd.symm
theorem ltL_pt {S : Sto} {n : Nat} : ∀ {bs : List Bool} {xs ys : List Nat}, xs.length = bs.length → ys.length = bs.length → (∀ x ∈ xs, x ≤ 7) → (∀ y ∈ ys, y ≤ 7) →
   ltL (eqN S (n + 1)) (ltN S (n + 1)) (List.zipWith pt bs xs) (List.zipWith pt bs ys) = some (decide (cds bs xs < cds bs ys))
 | [], xs, ys, _, _, _, _ => by simp [ltL, cds]
 | b :: bs, [], ys, h, _, _, _ => by simp at h
 | b :: bs, x :: xs, [], _, h, _, _ => by simp at h
 | b :: bs, x :: xs, y :: ys, h1, h2, hx, hy => by
   have ih := ltL_pt (S := S) (n := n) (bs := bs) (xs := xs) (ys := ys) (by simpa using h1) (by simpa using h2) (fun z hz => hx z (List.mem_cons_of_mem _ hz)) (fun z hz => hy z (List.mem_cons_of_mem _ hz))
   have b1 := cds_lt (bs := bs) (xs := xs) fun z hz => hx z (List.mem_cons_of_mem _ hz)
   have b2 := cds_lt (bs := bs) (xs := ys) fun z hz => hy z (List.mem_cons_of_mem _ hz)
   have hd := (dig (A := cx b x) (B := cx b y) b1 b2).2
   rw [List.zipWith_cons_cons, List.zipWith_cons_cons, ltL, eq_pt, Option.bind_some, cds, cds]
   by_cases z : cx b x = cx b y
   · rw [if_pos (decide_eq_true z), ih]
     congr 1
     rw [Bool.eq_iff_iff, decide_eq_true_eq, decide_eq_true_eq]
     omega
   · rw [if_neg (by rw [decide_eq_true_eq]; exact z), lt_pt z]
     congr 1
     rw [Bool.eq_iff_iff, decide_eq_true_eq, decide_eq_true_eq]
     omega
structure Ky where
 m : Nat
 x : Nat
 y : Nat
 z : Nat
 w : Nat
structure Ky.Ok (k : Ky) : Prop where
 m : k.m < 4000
 x : k.x ≤ 4
 y : k.y ≤ 4
 z : k.z ≤ 4
 w : k.w ≤ 4
noncomputable abbrev E4 := Bool × Bool × Bool × Bool
noncomputable def E4.bs (e : E4) : List Bool := [e.1, e.2.1, e.2.2.1, e.2.2.2]
noncomputable def Ky.xs (k : Ky) : List Nat := [k.x, k.y, k.z, k.w]
noncomputable def ptK (b : Bool) (x : Nat) : TK := if b = true then .int x else .non
noncomputable def Ky.sg (k : Ky) (e : E4) : D := sgD e.1 e.2.1 e.2.2.1 e.2.2.2 k.x k.y k.z k.w
noncomputable def Ky.d (k : Ky) (e : E4) : D := .tup [.int k.m, k.sg e]
noncomputable def Ky.tk (k : Ky) (e : E4) : TK := .tup [.int k.m, .tup [ptK e.1 k.x, ptK e.2.1 k.y, ptK e.2.2.1 k.z, ptK e.2.2.2 k.w]]
noncomputable def Ky.code (k : Ky) (e : E4) : Nat := k.m * 4096 + cds e.bs k.xs
theorem Ky.keyT (k : Ky) (e : E4) : Mi.keyT (k.d e) = some (k.tk e) := by
 obtain ⟨a, b, c, d⟩ := e
 cases a <;> cases b <;> cases c <;> cases d <;> rfl
theorem Ky.tkD (k : Ky) (e : E4) : Mi.tkD (k.tk e) = k.d e := (keyT_tk (k.keyT e)).1
theorem Ky.sg_zip (k : Ky) (e : E4) : k.sg e = .tup (List.zipWith pt e.bs k.xs) := rfl
theorem Ky.Ok.all {k : Ky} (h : k.Ok) : ∀ x ∈ k.xs, x ≤ 7 := by
 intro x hx
 have := h.x; have := h.y; have := h.z; have := h.w
 simp [Ky.xs] at hx
 omega
theorem cds_4096 {k : Ky} (h : k.Ok) (e : E4) : cds e.bs k.xs < 4096 := cds_lt (bs := e.bs) h.all
theorem Ky.eq {k l : Ky} {e : E4} {S : Sto} {n : Nat} (hk : k.Ok) (hl : l.Ok) : eqN S (n + 3) (k.d e) (l.d e) = some (decide (k.code e = l.code e)) := by
 have e1 : eqN S (n + 2) (.int k.m) (.int l.m) = some ((k.m : Int) == (l.m : Int)) := rfl
 have e2 : eqN S (n + 2) (k.sg e) (l.sg e) = some (decide (cds e.bs k.xs = cds e.bs l.xs)) := by rw [Ky.sg_zip, Ky.sg_zip, eqT, eqL_pt rfl rfl hk.all hl.all]
 unfold Ky.d Ky.code
 rw [eqT, eqL, e1, Option.bind_some, eqL, e2, eqL]
 have hd := (dig (A := k.m) (B := l.m) (cds_4096 hk e) (cds_4096 hl e)).1
 show some (((k.m : Int) == (l.m : Int)) && (decide (cds e.bs k.xs = cds e.bs l.xs) && true)) = _
 congr 1
 rw [Bool.eq_iff_iff, Bool.and_true, Bool.and_eq_true, decide_eq_true_eq, decide_eq_true_eq, beq_iff_eq, hd]
 omega
theorem Ky.lt {k l : Ky} {e : E4} {S : Sto} {n : Nat} (hk : k.Ok) (hl : l.Ok) : ltN S (n + 3) (k.d e) (l.d e) = some (decide (k.code e < l.code e)) := by
 have e1 : eqN S (n + 2) (.int k.m) (.int l.m) = some ((k.m : Int) == (l.m : Int)) := rfl
 have e3 : ltN S (n + 2) (.int k.m) (.int l.m) = some (decide ((k.m : Int) < (l.m : Int))) := rfl
 have e2 : eqN S (n + 2) (k.sg e) (l.sg e) = some (decide (cds e.bs k.xs = cds e.bs l.xs)) := by rw [Ky.sg_zip, Ky.sg_zip, eqT, eqL_pt rfl rfl hk.all hl.all]
 have e4 : ltN S (n + 2) (k.sg e) (l.sg e) = some (decide (cds e.bs k.xs < cds e.bs l.xs)) := by rw [Ky.sg_zip, Ky.sg_zip, ltT, ltL_pt rfl rfl hk.all hl.all]
 unfold Ky.d Ky.code
 have hd := (dig (A := k.m) (B := l.m) (cds_4096 hk e) (cds_4096 hl e)).2
 rw [ltT, ltL, e1, Option.bind_some]
 by_cases z : k.m = l.m
 · rw [if_pos (by rw [beq_iff_eq]; omega), ltL, e2, Option.bind_some]
   by_cases z2 : cds e.bs k.xs = cds e.bs l.xs
   · rw [if_pos (decide_eq_true z2), ltL]
     congr 1
     rw [eq_comm, decide_eq_false_iff_not]
     omega
   · rw [if_neg (by rw [decide_eq_true_eq]; exact z2), e4]
     congr 1
     rw [Bool.eq_iff_iff, decide_eq_true_eq, decide_eq_true_eq]
     omega
 · rw [if_neg (by rw [beq_iff_eq]; omega), e3]
   congr 1
   rw [Bool.eq_iff_iff, decide_eq_true_eq, decide_eq_true_eq]
   omega
end Law
end
section
namespace Law
open PySem PySem.Spec PyProof.Rows L2 Mi
theorem Ky.und (k : Ky) (e : E4) (n : Nat) : (k.d e).und n = true := by
 rw [← k.tkD e]; exact und_tk _
noncomputable def dO (F : List (TK × D)) : Ob := match F with
 | [] => .dct []
 | _ => .dcT F
theorem dO_ne {F : List (TK × D)} (h : F ≠ []) : dO F = .dcT F := by
 cases F with
 | nil => exact absurd rfl h
 | cons _ _ => rfl
structure RW (e : E4) (F : List (TK × D)) : Prop where
 row : ∀ p ∈ F, ∃ k : Ky, k.Ok ∧ p.1 = k.tk e ∧ Deed p.2
 nd : (F.map (·.1)).Nodup
theorem RW.und {e : E4} {F : List (TK × D)} (h : RW e F) (n : Nat) : (dO F).und n = true := by
 have : D.unds n (F.map (·.2)) = true := Mi.unds_map fun p hp => by
   obtain ⟨_, _, _, h3⟩ := h.row p hp
   exact und_mono h3.und
 cases F with
 | nil => rfl
 | cons _ _ => exact this
theorem RW.put {e : E4} {F : List (TK × D)} {k : Ky} {x : D} (h : RW e F) (hk : k.Ok) (hx : Deed x) : RW e (putD F (k.tk e) x) := by
 unfold putD
 split
 · refine ⟨fun p hp => ?_, ?_⟩
   · obtain ⟨p', hp', rfl⟩ := List.mem_map.mp hp
     obtain ⟨l, h1, h2, h3⟩ := h.row p' hp'
     by_cases z : p'.1 = k.tk e
     · rw [if_pos z]; exact ⟨l, h1, h2, hx⟩
     · rw [if_neg z]; exact ⟨l, h1, h2, h3⟩
   · rw [List.map_map]
     have : (F.map ((fun p : TK × D => p.1) ∘ fun p => if p.1 = k.tk e then (p.1, x) else p)) = F.map (·.1) := by
       apply List.map_congr_left
       intro p _
       simp only [Function.comp]
       split <;> rfl
     rw [this]; exact h.nd
 · rename_i hn
   refine ⟨fun p hp => ?_, ?_⟩
   · rcases List.mem_append.mp hp with z | z
     · exact h.row p z
     · simp at z; subst z; exact ⟨k, hk, rfl, hx⟩
   · rw [List.map_append, List.nodup_append]
     refine ⟨h.nd, by simp, fun a ha b hb z => ?_⟩
     simp at hb
     subst hb; subst z
     obtain ⟨p, hp, e'⟩ := List.mem_map.mp ha
     exact hn (List.any_eq_true.mpr ⟨p, hp, decide_eq_true e'⟩)
theorem setR {e : E4} {F : List (TK × D)} {k : Ky} {x : D} {n : Nat} {S : Sto} (hS : S[n]? = some (dO F)) (hl : F.length ≤ 1000) : gSetY (.ref n) (k.d e) x S = some (.non, S.set n (dO (putD F (k.tk e) x))) := by
 cases F with
 | nil =>
   have hS' : S[n]? = some (.dct []) := hS
   simp only [gSetY, hS', k.keyT e]
   rfl
 | cons p F =>
   have hS' : S[n]? = some (.dcT (p :: F)) := hS
   rw [dO_ne put_ne]
   simp only [gSetY, hS', k.keyT e, Option.bind_some]
   rw [if_pos (Nat.lt_of_le_of_lt hl (by decide))]
theorem getR {e : E4} {F : List (TK × D)} {k : Ky} {x : D} {n : Nat} {S : Sto} (hS : S[n]? = some (dO F)) (h : lookD F (k.tk e) = some x) : gIxY (.ref n) (k.d e) S = some (x, S) := by
 cases F with
 | nil => simp [lookD] at h
 | cons p F =>
   have hS' : S[n]? = some (.dcT (p :: F)) := hS
   simp only [gIxY, hS', k.keyT e, Option.bind_some, h, Option.map_some]
theorem lst_keys {e : E4} {F : List (TK × D)} {n : Nat} {S : Sto} (hS : S[n]? = some (dO F)) : gLstY (.ref n) S = some (.ref S.length, S ++ [.lst (F.map fun p => Mi.tkD p.1)]) := by
 cases F with
 | nil =>
   have hS' : S[n]? = some (.dct []) := hS
   simp only [gLstY, hS']
   rfl
 | cons x F =>
   have hS' : S[n]? = some (.dcT (x :: F)) := hS
   simp only [gLstY, hS']
theorem look_mem {F : List (TK × D)} {k : TK} (h : k ∈ F.map (·.1)) : ∃ x, lookD F k = some x ∧ (k, x) ∈ F := by
 obtain ⟨p, hp, rfl⟩ := List.mem_map.mp h
 unfold lookD
 have : (F.find? fun q => decide (q.1 = p.1)).isSome = true := List.find?_isSome.mpr ⟨p, hp, by simp⟩
 obtain ⟨q, hq⟩ := Option.isSome_iff_exists.mp this
 have h1 := List.find?_some hq
 have h2 := List.mem_of_find?_eq_some hq
 rw [decide_eq_true_eq] at h1
 rw [hq]
 refine ⟨q.2, rfl, ?_⟩
 rw [← h1]; exact h2
theorem RW.row0 {e : E4} : RW e [] := ⟨fun p hp => (by cases hp), List.nodup_nil⟩
theorem deed_mk {m t : Nat} {h : D} (hm : m < 4) (ht : t < 4) (hh : h ∈ hands) : Deed (.tup [.int m, h, .int t]) := by
 refine ⟨m, h, .int t, rfl, by omega, hh, ?_⟩
 have : t = 0 ∨ t = 1 ∨ t = 2 ∨ t = 3 := by omega
 rcases this with z | z | z | z <;> subst z <;> simp [steps]
theorem rows_W {n : Nat} {e : E4} {B U : Sto} {Q : D × Sto → Prop} (s : HZ n B U) (hn : n ≤ 2 ^ 40)
   (q : ∀ F V, RW e F → F.length ≤ 14 → HZ (n + 300) B V → HZ (n + 300) U V → V[U.length]? = some (dO F) → Q (.ref U.length, V)) : W (mCall 2 m__law_rows [.ref 0, .tup (eyesL e.1 e.2.1 e.2.2.1 e.2.2.2)] U) Q := by
 have hp : 0 < U.length := Nat.lt_of_lt_of_le s.pos s.len
 refine callW rfl (by simp [D.unds, D.und]) ?_
 unfold m__law_rows
 refine fnW ?_
 unfold b__law_rows
 generalize hE : D.tup (eyesL e.1 e.2.1 e.2.2.1 e.2.2.2) = E
 refine seqW (fun r S => S = U ++ [.dct []] ∧ r = [some (.ref 0), some E, some (.ref U.length), none, none, none, none, none]) ?_ ?_
 · ((try walk_at "own wq"); repeat (simp -implicitDefEqProofs only [mDnew]; try walk_at "own wq"))
 rintro r S ⟨rfl, rfl⟩
 have s0 : HZ n U (U ++ [.dct []]) := s.self.app fun o ho => by simp at ho; subst ho; rfl
 have hU0 : (U ++ [Ob.dct []])[U.length]? = some (dO []) := by rw [get_app0]; rfl
 refine seqW (fun r S => ∃ c : Bool, HZ (n + 1) U S ∧ S[U.length]? = some (dO []) ∧ r = [some (.ref 0), some E, some (.ref U.length), some (.bl c), none, none, none, none]) ?_ ?_
 · walk_at "own wq"
   refine take_W s0 (by omega) (by omega) (by omega) fun t U1 s1 t1 l1 ht => ?_
   walk_at "own wq"
   exact ⟨_, s1, by rw [t1.same _ hp (by rw [List.length_append]; simp)]; exact hU0, rfl⟩
 rintro r S ⟨calm, s0, hU0, rfl⟩
 have hSl0 := (List.getElem?_eq_some_iff.mp hU0).1
 refine seqW (fun r S => ∃ F y4 y5, RW e F ∧ F.length ≤ 14 ∧ HZ (n + 200) U S ∧ S[U.length]? = some (dO F) ∧ r = [some (.ref 0), some E, some (.ref U.length), some (.bl calm), y4, y5, none, none]) ?_ ?_
 · walk_at "own wq"
   refine take_W s0 (by omega) (by omega) (by omega) fun t U1 s1 t1 l1 ht => ?_
   walk_at "own wq"
   rw [nums0, Int.toNat_natCast]
   refine ⟨bnd_nat (by omega), ?_⟩
   have hU1 : U1[U.length]? = some (dO []) := by rw [t1.same _ hp hSl0]; exact hU0
   refine loopM_W (fun i r S => ∃ F y4 y5, RW e F ∧ F.length ≤ i ∧ i ≤ t ∧ HZ (n + 2 + 10 * i) U S ∧ S[U.length]? = some (dO F) ∧ r = [some (.ref 0), some E, some (.ref U.length), some (.bl calm), y4, y5, none, none]) _ 0 _ _ ⟨[], _, _, RW.row0, by simp, by omega, s1.more (by omega), hU1, rfl⟩ (fun _ _ _ _ => rfl) ?_ ?_
   · rintro i d hd r S ⟨F, y4, y5, hF, hFl, hi, hs, hS, rfl⟩
     have hlt := (List.getElem?_eq_some_iff.mp hd).1
     rw [List.length_map, List.length_range] at hlt
     rw [Nat.zero_add] at *
     have hSl := (List.getElem?_eq_some_iff.mp hS).1
     walk_at "own wq"
     unfold p__law_rows_1
     refine seqW (fun r V => ∃ h ∈ hands, HZ (n + 2 + 10 * i + 1) S V ∧ r = [some (.ref 0), some E, some (.ref U.length), some (.bl calm), some d, some h, none, none]) ?_ ?_
     · walk_at "own wq"
       refine take_W hs.self (by omega) (by omega) (by omega) fun x V v1 _ l hx => ?_
       refine W_ixT (i := x) (xs := hands) (x := hands[x]'(by show x < 3; omega)) (List.getElem?_eq_getElem _) ?_
       walk_at "own wq"
       exact ⟨_, List.getElem_mem _, v1, rfl⟩
     rintro r V ⟨h, hh, v1, rfl⟩
     refine seqW (fun r V' => V' = V ∧ ∃ h ∈ hands, r = [some (.ref 0), some E, some (.ref U.length), some (.bl calm), some d, some h, none, none]) ?_ ?_
     · walk_at "own wq"
       cases calm with
       | true => exact ⟨_, by simp [hands], rfl⟩
       | false => exact ⟨h, hh, rfl⟩
     rintro r V' ⟨rfl, h, hh, rfl⟩
     walk_at "own wq"
     refine take_W v1.self (by omega) (by omega) (by omega) fun x1 V2 v2 w2 l2 hx1 => ?_
     walk_at "own wq"
     refine take_W w2.self (by omega) (by omega) (by omega) fun x2 V3 v3 w3 l3 hx2 => ?_
     walk_at "own wq"
     refine take_W w3.self (by omega) (by omega) (by omega) fun x3 V4 v4 w4 l4 hx3 => ?_
     walk_at "own wq"
     subst hE
     refine sight_W w4.self (by omega) fun xx yy zz ww V5 h1 h2 h3 h4 v5 w5 l5 => ?_
     walk_at "own wq"
     have all := ((((hs.trans v1).trans v2).trans v3).trans v4).trans v5
     have al2 := (((v1.trans v2).trans v3).trans v4).trans v5
     have hS5 : V5[U.length]? = some (dO F) := by rw [al2.same _ hp hSl]; exact hS
     have ek : D.tup [D.int (x3 : Nat), sgD e.1 e.2.1 e.2.2.1 e.2.2.2 xx yy zz ww] = (Ky.mk x3 xx yy zz ww).d e := rfl
     rw [ek]
     have hk : (Ky.mk x3 xx yy zz ww).Ok := ⟨(by show x3 < 4000; omega), h1, h2, h3, h4⟩
     ((try walk_at "own wq"); repeat (simp -implicitDefEqProofs only [setR hS5 (by omega)]; try walk_at "own wq"))
     have hF2 := hF.put hk (deed_mk (m := x1) (t := x2) (by omega) (by omega) hh)
     refine ⟨_, _, _, hF2, Nat.le_trans put_len (by omega), by omega, (all.set (Nat.le_refl _) (hF2.und _)).more (by omega), ?_, rfl⟩
     rw [List.getElem?_set_self (List.getElem?_eq_some_iff.mp hS5).1]
   · rintro r S ⟨F, y4, y5, hF, hFl, hi, hs, hS, rfl⟩
     rw [List.length_map, List.length_range] at *
     exact ⟨rfl, F, _, _, hF, by omega, hs.more (by omega), hS, rfl⟩
 rintro r V ⟨F, y4, y5, hF, hFl, hs, hS, rfl⟩
 have hVl := (List.getElem?_eq_some_iff.mp hS).1
 refine seqW (fun r S => HZ (n + 200) U S ∧ S[U.length]? = some (dO F) ∧ S[V.length]? = some (.lst (F.map fun p => Mi.tkD p.1)) ∧ r = [some (.ref 0), some E, some (.ref U.length), some (.bl calm), y4, y5, some (.ref V.length), none]) ?_ ?_
 · ((try walk_at "own wq"); repeat (simp -implicitDefEqProofs only [lst_keys (e := e) hS]; try walk_at "own wq"))
   refine ⟨hs.app fun o ho => ?_, ?_, trivial⟩
   · simp at ho
     subst ho
     rw [Ob.und]
     exact Mi.unds_map fun p _ => und_tk _
   · rw [List.getElem?_append_left hVl]; exact hS
 rintro r S ⟨s1, hS1, hS2, rfl⟩
 refine seqW (fun r S => ∃ F y7, RW e F ∧ F.length ≤ 14 ∧ HZ (n + 300) U S ∧ S[U.length]? = some (dO F) ∧ r = [some (.ref 0), some E, some (.ref U.length), some (.bl calm), y4, y5, some (.ref V.length), y7]) ?_ ?_
 · have skip : ∀ S' , HZ (n + 300) U S' → S'[U.length]? = some (dO F) → ∃ F' y7, RW e F' ∧ F'.length ≤ 14 ∧ HZ (n + 300) U S' ∧ S'[U.length]? = some (dO F') ∧ [some (D.ref 0), some E, some (.ref U.length), some (.bl calm), y4, y5, some (.ref V.length), none] = [some (D.ref 0), some E, some (.ref U.length), some (.bl calm), y4, y5, some (.ref V.length), y7] := fun S' h1 h2 => ⟨F, _, hF, hFl, h1, h2, rfl⟩
   walk_at "own wq"
   cases calm with
   | false => exact skip S (s1.more (by omega)) hS1
   | true =>
     walk_at "own wq"
     have s2 : HZ (n + 200) U (S ++ [.lst []]) := s1.app fun o ho => by simp at ho; subst ho; rfl
     have lS : V.length < S.length := (List.getElem?_eq_some_iff.mp hS2).1
     have lU : U.length < S.length := (List.getElem?_eq_some_iff.mp hS1).1
     have g1 : (S ++ [Ob.lst []])[V.length]? = some (.lst (F.map fun p => Mi.tkD p.1)) := by rw [List.getElem?_append_left lS]; exact hS2
     have g2 : (S ++ [Ob.lst []])[S.length]? = some (.lst []) := by rw [get_app0]; rfl
     have g3 : (S ++ [Ob.lst []])[U.length]? = some (dO F) := by rw [List.getElem?_append_left lU]; exact hS1
     ((try walk_at "own wq"); repeat (simp -implicitDefEqProofs only [gNe_nil g1 g2]; try walk_at "own wq"))
     generalize S ++ [Ob.lst []] = S3 at *
     cases hFe : F with
     | nil =>
       subst hFe
       exact skip S3 (s2.more (by omega)) g3
     | cons p0 F0 =>
     rw [← hFe]
     have hne : (!(F.map fun p => Mi.tkD p.1).isEmpty) = true := by rw [hFe]; rfl
     rw [hne]
     walk_at "own wq"
     refine take_W s2.self (by omega) (by omega) (by omega) fun x1 S4 v4 _ l4 hx1 => ?_
     walk_at "own wq"
     have u4 := s2.trans v4
     have k1 : S4[V.length]? = some (.lst (F.map fun p => Mi.tkD p.1)) := by rw [v4.same _ (by omega) (List.getElem?_eq_some_iff.mp g1).1]; exact g1
     have k3 : S4[U.length]? = some (dO F) := by rw [v4.same _ hp (List.getElem?_eq_some_iff.mp g3).1]; exact g3
     by_cases hx0 : ((x1 : Int) == 0) = true
     case neg => rw [if_neg hx0]; exact skip S4 (u4.more (by omega)) k3
     rw [if_pos hx0]
     refine sW_ref k1 ?_
     have hl : (F.map fun p => Mi.tkD p.1).length = F.length := List.length_map _
     have hpos : 0 < F.length := by rw [hFe]; simp
     refine take_W v4.self (by omega) (by rw [hl]; omega) (by rw [hl]; omega) fun x2 S5 v5 _ l5 hx2 => ?_
     have u5 := u4.trans v5
     have j1 : S5[V.length]? = some (.lst (F.map fun p => Mi.tkD p.1)) := by rw [v5.same _ (by omega) (List.getElem?_eq_some_iff.mp k1).1]; exact k1
     have j3 : S5[U.length]? = some (dO F) := by rw [v5.same _ hp (List.getElem?_eq_some_iff.mp k3).1]; exact k3
     have hx2' : x2 < F.length := by rw [hl] at hx2; omega
     obtain ⟨k, hk, hk2, hk3⟩ := hF.row (F[x2]'hx2') (List.getElem_mem _)
     have hg : (F.map fun p => Mi.tkD p.1)[x2]? = some (k.d e) := by rw [List.getElem?_map, List.getElem?_eq_getElem hx2', Option.map_some, hk2, k.tkD]
     refine W_ixL j1 hg ?_
     walk_at "own wq"
     obtain ⟨x, hx, hxm⟩ := look_mem (F := F) (k := k.tk e) (List.mem_map.mpr ⟨_, List.getElem_mem hx2', hk2⟩)
     obtain ⟨_, _, _, hxd⟩ := hF.row _ hxm
     dsimp only at hxd
     obtain ⟨m, hh, t, rfl, hm, hh1, ht⟩ := hxd.is
     have e0 : ∀ S, gIxY (.tup [.int (m : Nat), hh, t]) (.int 0) S = some (.int (m : Nat), S) := fun S => rfl
     have e2 : ∀ S, gIxY (.tup [.int (m : Nat), hh, t]) (.int 2) S = some (t, S) := fun S => rfl
     ((try walk_at "own wq"); repeat (simp -implicitDefEqProofs only [getR (e := e) j3 hx, e0]; try walk_at "own wq"))
     refine take_W v5.self (by omega) (by omega) (by omega) fun x3 S6 v6 _ l6 hx3 => ?_
     have u6 := u5.trans v6
     have i3 : S6[U.length]? = some (dO F) := by rw [v6.same _ hp (List.getElem?_eq_some_iff.mp j3).1]; exact j3
     refine W_ixT (i := x3) (xs := [.str "mark", .str "wipe"]) (x := [D.str "mark", .str "wipe"][x3]'(by show x3 < 2; omega)) (List.getElem?_eq_getElem _) ?_
     have hh3 : [D.str "mark", .str "wipe"][x3]'(by show x3 < 2; omega) ∈ hands := by
       have : x3 = 0 ∨ x3 = 1 := by omega
       rcases this with z | z <;> subst z <;> simp [hands]
     generalize [D.str "mark", .str "wipe"][x3]'(by show x3 < 2; omega) = h3 at *
     ((try walk_at "own wq"); repeat (simp -implicitDefEqProofs only [getR (e := e) i3 hx, e2, setR i3 (by omega)]; try walk_at "own wq"))
     have hF2 := hF.put hk (x := .tup [.int (m : Nat), h3, t]) ⟨m, h3, t, rfl, hm, hh3, ht⟩
     have hlen : (putD F (k.tk e) (.tup [.int (m : Nat), h3, t])).length ≤ 14 := by
       unfold putD
       rw [if_pos (List.any_eq_true.mpr ⟨_, hxm, by simp⟩), List.length_map]; exact hFl
     refine ⟨_, _, hF2, hlen, (u6.set (Nat.le_refl _) (hF2.und _)).more (by omega), ?_, rfl⟩
     rw [List.getElem?_set_self (List.getElem?_eq_some_iff.mp i3).1]
 rintro r V' ⟨F', y7, hF, hFl, hs, hS, rfl⟩
 walk_at "own wq"
 have eg : gc U.length (D.ref U.length, V') = (D.ref U.length, V') := by
   unfold gc
   rw [if_neg (by simp [D.und])]
 rw [eg]
 exact q F' V' hF hFl (s.trans hs) hs hS
end Law
end
section
namespace Law
open PySem PySem.Spec PyProof.Rows L2 Mi
noncomputable abbrev Rw := Ky × D
noncomputable def rowD (e : E4) (p : Rw) : D := .tup [p.1.d e, p.2]
noncomputable def RwOk (p : Rw) : Prop := p.1.Ok ∧ Deed p.2
theorem RW.list {e : E4} : ∀ {F : List (TK × D)}, (∀ p ∈ F, ∃ k : Ky, k.Ok ∧ p.1 = k.tk e ∧ Deed p.2) → ∃ L : List Rw, L.map (fun p => (p.1.tk e, p.2)) = F ∧ ∀ p ∈ L, RwOk p
 | [], _ => ⟨[], rfl, fun p hp => by cases hp⟩
 | x :: F, h => by
   obtain ⟨L, h1, h2⟩ := RW.list (F := F) fun p hp => h p (List.mem_cons_of_mem _ hp)
   obtain ⟨k, k1, k2, k3⟩ := h x List.mem_cons_self
   refine ⟨(k, x.2) :: L, by rw [List.map_cons, h1, ← k2], fun p hp => ?_⟩
   rcases List.mem_cons.mp hp with z | z
   · subst z; exact ⟨k1, k3⟩
   · exact h2 p z
theorem ptK_cx (b : Bool) (x : Nat) : ptK b x = if b = true then .int (cx b x) else .non := by unfold ptK cx; cases b <;> rfl
theorem cx_of {b : Bool} {x y : Nat} (h : ptK b x = ptK b y) : cx b x = cx b y := by
 cases b with
 | false => rfl
 | true =>
   have h' : TK.int (x : Int) = TK.int (y : Int) := h
   injection h' with h'
   exact (by omega : x = y)
theorem cds4 (a b c d x y z w : _) : cds [a, b, c, d] [x, y, z, w] = ((cx a x * 8 + cx b y) * 8 + cx c z) * 8 + cx d w := by
 simp only [cds, List.length_cons, List.length_nil]
 omega
theorem tk_code {k l : Ky} {e : E4} (hk : k.Ok) (hl : l.Ok) : k.tk e = l.tk e ↔ k.code e = l.code e := by
 obtain ⟨a, b, c, d⟩ := e
 have e1 : k.code (a, b, c, d) = k.m * 4096 + (((cx a k.x * 8 + cx b k.y) * 8 + cx c k.z) * 8 + cx d k.w) := by unfold Ky.code; rw [← cds4]; rfl
 have e2 : l.code (a, b, c, d) = l.m * 4096 + (((cx a l.x * 8 + cx b l.y) * 8 + cx c l.z) * 8 + cx d l.w) := by unfold Ky.code; rw [← cds4]; rfl
 have le : ∀ (b : Bool) (x : Nat), x ≤ 4 → cx b x ≤ 4 := fun b x h => by unfold cx; split <;> omega
 rw [e1, e2]
 constructor
 · intro h
   unfold Ky.tk at h
   injection h with h
   injection h with h1 h2
   injection h1 with h1
   injection h2 with h2 _
   injection h2 with h2
   injection h2 with p1 h2
   injection h2 with p2 h2
   injection h2 with p3 h2
   injection h2 with p4 _
   rw [cx_of p1, cx_of p2, cx_of p3, cx_of p4, show k.m = l.m by omega]
 · intro h
   have q1 := le a _ hk.x; have q2 := le b _ hk.y; have q3 := le c _ hk.z; have q4 := le d _ hk.w
   have r1 := le a _ hl.x; have r2 := le b _ hl.y; have r3 := le c _ hl.z; have r4 := le d _ hl.w
   have f1 : k.m = l.m := by omega
   have f2 : cx a k.x = cx a l.x := by omega
   have f3 : cx b k.y = cx b l.y := by omega
   have f4 : cx c k.z = cx c l.z := by omega
   have f5 : cx d k.w = cx d l.w := by omega
   unfold Ky.tk
   simp only [ptK_cx, f1, f2, f3, f4, f5]
theorem ltK_code {k l : Ky} {e : E4} (hk : k.Ok) (hl : l.Ok) : ltK (k.tk e) (l.tk e) = decide (k.code e < l.code e) := by
 unfold ltK
 rw [k.tkD, l.tkD, Ky.lt (n := 47) hk hl]
 cases decide (k.code e < l.code e) <;> rfl
theorem less_code {k l : Ky} {e : E4} (hk : k.Ok) (hl : l.Ok) (h : k.code e < l.code e) : lessK (k.tk e) (l.tk e) = true := by
 unfold lessK
 rw [k.tkD, l.tkD, Ky.lt (n := 47) hk hl, Ky.lt (n := 47) hl hk, Ky.eq (n := 47) hk hl, Ky.eq (n := 47) hl hk, decide_eq_true h, decide_eq_false (show ¬ l.code e < k.code e by omega), decide_eq_false (show ¬ k.code e = l.code e by omega), decide_eq_false (show ¬ l.code e = k.code e by omega)]
 rfl
noncomputable def Inc (e : E4) (L : List Rw) : Prop := L.Pairwise fun p q => p.1.code e < q.1.code e
theorem ins_inc {e : E4} {a : Rw} (ha : a.1.Ok) : ∀ {L : List Rw}, (∀ p ∈ L, p.1.Ok) → (∀ p ∈ L, p.1.code e ≠ a.1.code e) → Inc e L → Inc e (insG (fun p => p.1.tk e) a L)
 | [], _, _, _ => List.pairwise_singleton _ _
 | b :: L, ho, hn, h => by
   unfold Inc at h
   rw [List.pairwise_cons] at h
   have hb := ho b List.mem_cons_self
   have hne := hn b List.mem_cons_self
   rw [insG, ltK_code ha hb]
   split
   · rename_i z
     have z := of_decide_eq_true z
     unfold Inc
     rw [List.pairwise_cons, List.pairwise_cons]
     refine ⟨fun x hx => ?_, h.1, h.2⟩
     rcases List.mem_cons.mp hx with y | y
     · rw [y]; exact z
     · exact Nat.lt_trans z (h.1 x y)
   · rename_i z
     rw [decide_eq_true_eq] at z
     unfold Inc
     rw [List.pairwise_cons]
     refine ⟨fun x hx => ?_, ins_inc ha (fun p hp => ho p (List.mem_cons_of_mem _ hp)) (fun p hp => hn p (List.mem_cons_of_mem _ hp)) h.2⟩
     rcases List.mem_cons.mp ((insG_perm _ a L).mem_iff.mp hx) with y | y
     · rw [y]; omega
     · exact h.1 x y
theorem srt_inc {e : E4} : ∀ {L : List Rw}, (∀ p ∈ L, p.1.Ok) → (L.map fun p => p.1.code e).Nodup → Inc e (sortG (fun p => p.1.tk e) L)
 | [], _, _ => .nil
 | a :: L, ho, nd => by
   rw [List.map_cons, List.nodup_cons] at nd
   have pm := sortG_perm (fun p : Rw => p.1.tk e) L
   refine ins_inc (ho a List.mem_cons_self) (fun p hp => ho p (List.mem_cons_of_mem _ (pm.mem_iff.mp hp))) (fun p hp z => ?_) (srt_inc (fun p hp => ho p (List.mem_cons_of_mem _ hp)) nd.2)
   exact nd.1 (List.mem_map.mpr ⟨p, pm.mem_iff.mp hp, z⟩)
theorem rise_inc {e : E4} : ∀ {L : List Rw}, (∀ p ∈ L, p.1.Ok) → Inc e L → riseK (L.map fun p => p.1.tk e) = true
 | [], _, _ => rfl
 | a :: L, ho, h => by
   unfold Inc at h
   rw [List.pairwise_cons] at h
   rw [List.map_cons, riseK, rise_inc (fun p hp => ho p (List.mem_cons_of_mem _ hp)) h.2, Bool.and_true, List.all_eq_true]
   intro x hx
   obtain ⟨p, hp, rfl⟩ := List.mem_map.mp hx
   exact less_code (ho a List.mem_cons_self) (ho p (List.mem_cons_of_mem _ hp)) (h.1 p hp)
theorem sort_rows {e : E4} {F : List (TK × D)} (h : RW e F) (hl : F.length ≤ 14) :
   ∃ L : List Rw, (∀ p ∈ L, RwOk p) ∧ L.length ≤ 14 ∧ (∀ (n : Nat) (S : Sto), S[n]? = some (dO F) → gSortIt (.ref n) S = some (.ref S.length, S ++ [.lst (L.map (rowD e))])) ∧ (L.map (·.2)).Perm (F.map (·.2)) := by
 obtain ⟨L, e1, ok⟩ := RW.list h.row
 have ho : ∀ p ∈ L, p.1.Ok := fun p hp => (ok p hp).1
 have nd : (L.map fun p => p.1.code e).Nodup := by
   have := h.nd
   rw [← e1, List.map_map] at this
   refine (List.pairwise_map.mpr ((List.pairwise_map.mp this).imp_of_mem fun {a b} ha hb hne z => ?_))
   exact hne ((tk_code (ho a ha) (ho b hb)).mpr z)
 have pm := sortG_perm (fun p : Rw => p.1.tk e) L
 have inc := srt_inc ho nd
 have sm := sortG_map (key := fun q : TK × D => q.1) (g := fun p : Rw => (p.1.tk e, p.2)) L
 rw [e1] at sm
 have hll : L.length = F.length := by rw [← e1, List.length_map]
 refine ⟨sortG (fun p : Rw => p.1.tk e) L, fun p hp => ok p (pm.mem_iff.mp hp), by rw [pm.length_eq]; omega, ?_, ?_⟩
 case refine_2 =>
   rw [← e1, List.map_map]
   exact pm.map _
 have hr : riseK ((sortG (·.1) F).map (·.1)) = true := by
   have := rise_inc (L := sortG (fun p : Rw => p.1.tk e) L) (fun p hp => ho p (pm.mem_iff.mp hp)) inc
   have e2 : ((sortG (·.1) F).map (·.1)) = (sortG (fun p : Rw => p.1.tk e) L).map fun p => p.1.tk e := by rw [← sm, List.map_map]; rfl
   rw [e2]; exact this
 have hp : (sortG (·.1) F).map pairK = (sortG (fun p : Rw => p.1.tk e) L).map (rowD e) := by
   rw [← sm, List.map_map]
   apply List.map_congr_left
   intro p _
   show D.tup [Mi.tkD (p.1.tk e), p.2] = _
   rw [p.1.tkD]
   rfl
 intro n S hS
 cases F with
 | nil =>
   have hS' : S[n]? = some (.dct []) := hS
   have : L = [] := List.length_eq_zero_iff.mp hll
   subst this
   simp only [gSortIt, hS']
   rfl
 | cons x F =>
   have hS' : S[n]? = some (.dcT (x :: F)) := hS
   have hc : (riseK ((sortG (·.1) (x :: F)).map (·.1)) && ((x :: F).all (fun p => isTK p.1) && decide ((x :: F).length < 64))) = true := by
     rw [hr, decide_eq_true (by omega), Bool.and_true, Bool.true_and, List.all_eq_true]
     intro p hp
     obtain ⟨k, _, h2, _⟩ := h.row p hp
     rw [h2]; rfl
   simp only [gSortIt, hS']
   rw [if_pos hc, hp]
end Law
end
section
namespace Law
open PySem PySem.Spec PyProof.Rows L2 Mi
noncomputable def lv (x : D) : Bool := match x with
 | .tup [_, .str h, _] => h == "leave"
 | _ => false
theorem lv_eq {x : D} (h : Deed x) : ∀ S, ∃ z, gIxY x (.int 1) S = some (z, S) ∧ gEq z (.str "leave") S = some (.bl (lv x), S) := by
 intro S
 obtain ⟨m, y, t, rfl, _, h1, _⟩ := h.is
 simp only [hands, List.mem_cons, List.not_mem_nil, or_false] at h1
 rcases h1 with e | e | e <;> subst e <;> exact ⟨_, rfl, rfl⟩
theorem notin_others {a b c d : Bool} {S : Sto} : gNotInY (.str "others") (.tup (eyesL a b c d)) S = some (.bl (!d), S) := by cases a <;> cases b <;> cases c <;> cases d <;> rfl
theorem rows_und {e : E4} {L : List Rw} (ok : ∀ p ∈ L, RwOk p) (n : Nat) : (D.tup (L.map (rowD e))).und n = true := by
 rw [D.und]
 refine Mi.unds_map fun p hp => ?_
 unfold rowD
 rw [D.und, D.unds, p.1.und, D.unds, und_mono (ok p hp).2.und]
 rfl
noncomputable def eyD (e : E4) : D := .tup (eyesL e.1 e.2.1 e.2.2.1 e.2.2.2)
theorem eyD_und (e : E4) : (eyD e).und 0 = true := by unfold eyD; rw [D.und]; exact eyes_und _ _ _ _
noncomputable def mcD (e : E4) (L : List Rw) : D := .tup [eyD e, .tup (L.map (rowD e))]
theorem mcD_und {e : E4} {L : List Rw} (ok : ∀ p ∈ L, RwOk p) : (mcD e L).und 0 = true := by
 have h1 := eyD_und e
 have h2 := rows_und (e := e) ok 0
 unfold mcD
 rw [D.und, D.unds, D.unds, h1, h2]; rfl
noncomputable def qt (e : E4) (L : List Rw) (k : Int) : Bool := (!e.2.2.2 || decide (k ≤ 2)) && L.all fun p => lv p.2
theorem quiet_W {e : E4} {L : List Rw} {k : Int} {S : Sto} {Q : D × Sto → Prop} (ok : ∀ p ∈ L, RwOk p) (hl : L.length ≤ 14) (q : Q (.bl (qt e L k), S)) : W (mCall 2 m_is_quiet [mcD e L, .int k] S) Q := by
 refine callP rfl (by rw [D.unds, mcD_und ok]; rfl) ?_
 unfold m_is_quiet
 refine fnW ?_
 unfold b_is_quiet
 refine seqW (fun r V => V = [] ∧ r = [some (mcD e L), some (.int k), some (eyD e), some (.tup (L.map (rowD e)))]) ?_ ?_
 · generalize hM : mcD e L = M
   have hM' : M = .tup [eyD e, .tup (L.map (rowD e))] := hM.symm
   subst hM'
   walk_at "own wq"
 rintro r V ⟨rfl, rfl⟩
 have hn : ∀ S, gNotInY (.str "others") (eyD e) S = some (.bl (!e.2.2.2), S) := fun S => notin_others
 have fin : ∀ Q' : D × Sto → Prop, (∀ V, Q' (.bl (L.all fun p => lv p.2), V)) → W (mN (b1 gAll) (mCons (fComp 2 [] (iSeq (mV 3)) (gT 2 (gCs (gN 0) (gCs (gN 1) gNl))) mTrue (fEmit (m2 (b2 gEq) (m2 (b2 gIxY) (mV 1) (mC (D.int (1)))) (mC (D.str "leave"))))) mNil) [some (mcD e L), some (.int k), some (eyD e), some (.tup (L.map (rowD e)))] []) Q' := fun Q' hq => by
   walk_at "own wq"
   rw [sW_tup]
   refine mapW (fun p : Rw => D.bl (lv p.2)) (fun r => r.length = 2) rfl L _ rfl ?_ fun r' _ => ?_
   · intro p hp r hr
     match r, hr with
     | [z0, z1], _ =>
       obtain ⟨z, e1, e2⟩ := lv_eq (ok p hp).2 []
       unfold rowD
       ((try walk_at "own wq"); repeat (simp -implicitDefEqProofs only [e1, e2]; try walk_at "own wq"))
   · walk_at "own wq"
     refine ⟨fits_le (by rw [List.length_map]; omega), ?_⟩
     have ea : gAll (.ref 0) [Ob.lst (L.map fun p : Rw => D.bl (lv p.2))] = some (.bl (L.all fun p => lv p.2), [Ob.lst (L.map fun p : Rw => D.bl (lv p.2))]) := by
       unfold gAll
       rw [seq_ref (xs := L.map fun p : Rw => D.bl (lv p.2)) rfl, Option.bind_some, allB_all]
       rfl
     exact W.of ea (hq _)
 have e2 : qt e L k = ((!e.2.2.2 || decide (k ≤ 2)) && L.all fun p => lv p.2) := rfl
 rw [e2] at q
 generalize hb : L.all (fun p => lv p.2) = b at *
 generalize mN (b1 gAll) (mCons (fComp 2 [] (iSeq (mV 3)) (gT 2 (gCs (gN 0) (gCs (gN 1) gNl))) mTrue (fEmit (m2 (b2 gEq) (m2 (b2 gIxY) (mV 1) (mC (D.int (1)))) (mC (D.str "leave"))))) mNil) = G at *
 ((try walk_at "own wq"); repeat (simp -implicitDefEqProofs only [hn]; try walk_at "own wq"))
 cases hd : e.2.2.2 with
 | false =>
   rw [hd] at q
   simp only [Bool.not_false, if_true]
   exact fin _ fun V => ⟨rfl, q⟩
 | true =>
   rw [hd] at q
   simp only [Bool.not_true, Bool.false_or, Bool.false_eq_true, if_false] at q ⊢
   by_cases hk : k ≤ 2
   · rw [decide_eq_true hk] at q ⊢
     simp only [if_true]
     exact fin _ fun V => ⟨rfl, q⟩
   · rw [decide_eq_false hk] at q ⊢
     simp only [Bool.false_eq_true, if_false]
     exact ⟨rfl, q⟩
theorem truth_W {b : Bool} {S : Sto} {Q : D × Sto → Prop} (q : Q (.bl true, S)) : W (mCall 2 m__law_truth [.bl b, .bl b] S) Q := by
 refine callP rfl rfl ?_
 refine W.of (x := (.bl true, [])) ?_ ⟨rfl, q⟩
 cases b <;> rfl
end Law
end
section
namespace Law
open PySem PySem.Spec PyProof.Rows L2 Mi
theorem keysO_dO {F : List (TK × D)} : keysO (dO F) = some F := by cases F <;> rfl
theorem look_nd : ∀ {F : List (TK × D)}, (F.map (·.1)).Nodup → ∀ {p : TK × D}, p ∈ F → lookD F p.1 = some p.2
 | [], _, _, hp => by cases hp
 | y :: F, nd, p, hp => by
   rw [List.map_cons, List.nodup_cons] at nd
   obtain ⟨a, b⟩ := y
   rw [look_cons]
   rcases List.mem_cons.mp hp with z | z
   · subst z; rw [if_pos rfl]
   · rw [if_neg (fun w => nd.1 (List.mem_map.mpr ⟨p, z, w.symm⟩))]
     exact look_nd nd.2 z
theorem still_W {e : E4} {F : List (TK × D)} {n : Nat} {r : Ev} {S : Sto} {Q : D × Sto → Prop} (hF : RW e F) (hl : F.length ≤ 14) (hS : S[n]? = some (dO F)) (hr : r[4]? = some (some (.ref n)))
   (q : Q (.bl (F.all fun p => lv p.2), S ++ [.lst (F.map fun p => D.bl (lv p.2))])) : W (mN (b1 gAll) (mCons (fCompK 1 [4] (mV 4) (gN 0) mTrue (fEmit (m2 (b2 gEq) (m2 (b2 gIxY) (m2 (b2 gIxY) (mV 1) (mV 0)) (mC (D.int (1)))) (mC (D.str "leave"))))) mNil) r S) Q := by
 have hn := (List.getElem?_eq_some_iff.mp hS).1
 have e4 : mV 4 r S = some (.ref n, S) := by simp [mV, hr]
 have ein : inEv 1 [4] r = [none, some (.ref n)] := by simp [inEv, hr]
 have hS' : (S.set n (.dcF F))[n]? = some (.dcF F) := by rw [List.getElem?_set_self hn]
 have key : W (fCompK 1 [4] (mV 4) (gN 0) mTrue (fEmit (m2 (b2 gEq) (m2 (b2 gIxY) (m2 (b2 gIxY) (mV 1) (mV 0)) (mC (D.int (1)))) (mC (D.str "leave")))) r S) fun p => p = (.ref S.length, S ++ [.lst (F.map fun p => D.bl (lv p.2))]) := by
   unfold fCompK
   rw [e4, Option.bind_some]
   dsimp only
   rw [hS, Option.bind_some, keysO_dO, Option.bind_some, W_bind, ein]
   refine mapW (fun p : TK × D => D.bl (lv p.2)) (fun r => ∃ z, r = [z, some (.ref n)]) rfl F _ ⟨_, rfl⟩ ?_ fun r' _ => ?_
   · rintro p hp r ⟨z, rfl⟩
     obtain ⟨k, hk, hk2, hd⟩ := hF.row p hp
     obtain ⟨w, e1, e2⟩ := lv_eq hd (S.set n (.dcF F))
     have eg : gIxY (.ref n) (Mi.tkD p.1) (S.set n (.dcF F)) = some (p.2, S.set n (.dcF F)) := by
       simp only [gIxY, hS']
       rw [hk2, k.tkD, k.keyT e, Option.bind_some, ← hk2, look_nd hF.nd hp]
       rfl
     ((try walk_at "own wq"); repeat (simp -implicitDefEqProofs only [eg, e1, e2]; try walk_at "own wq"))
     exact ⟨_, rfl⟩
   · dsimp only
     rw [if_pos (by rw [List.length_map]; exact Nat.le_trans hl (by decide)), W_some, List.length_set, List.set_set]
     have : S.set n (dO F) = S := by
       apply List.ext_getElem?
       intro i
       by_cases h : n = i
       · subst h; rw [List.getElem?_set_self hn, hS]
       · rw [List.getElem?_set_ne h]
     rw [this]
 obtain ⟨p, e1, rfl⟩ := key
 unfold mN mCons mNil b1
 rw [e1]
 simp only [Option.bind_some, Option.map_some]
 have ea : gAll (.ref S.length) (S ++ [Ob.lst (F.map fun p => D.bl (lv p.2))]) = some (.bl (F.all fun p => lv p.2), S ++ [Ob.lst (F.map fun p => D.bl (lv p.2))]) := by
   unfold gAll
   rw [seq_ref (xs := F.map fun p => D.bl (lv p.2)) (by rw [get_app0]; rfl), Option.bind_some, allB_all]
   rfl
 exact W.of ea q
theorem all_perm {L : List Rw} {F : List (TK × D)} (h : (L.map (·.2)).Perm (F.map (·.2))) : (F.all fun p => lv p.2) = L.all fun p => lv p.2 := by
 have a1 : (F.all fun p => lv p.2) = (F.map (·.2)).all lv := by rw [List.all_map]; rfl
 have a2 : (L.all fun p => lv p.2) = (L.map (·.2)).all lv := by rw [List.all_map]; rfl
 rw [a1, a2, Bool.eq_iff_iff, List.all_eq_true, List.all_eq_true]
 exact ⟨fun g x hx => g x (h.mem_iff.mp hx), fun g x hx => g x (h.mem_iff.mpr hx)⟩
theorem turn_W (ns : List Int) (i : Nat) (hi : i < 63) :
   W (p_law_2 [some (.rol (ns.map D.int)), some (.int (i : Nat)), none, none, none, none, none, none] []) fun p => p.1 = .nx ∧ ∃ r, p.2.1 = some (.rol (ns.map D.int)) :: r ∧ r.length = 7 := by
 obtain ⟨o, eh, ho⟩ := hand_ok ns i (by omega) (by omega)
 generalize hN : D.rol (ns.map D.int) = N at *
 unfold p_law_2
 refine seqW (fun r S => S = [o] ∧ r = [some N, some (.int (i : Nat)), some (.ref 0), none, none, none, none, none]) ?_ ?_
 · walk_at "own wq"
   refine W.of eh ?_
   walk_at "own wq"
 rintro r S ⟨rfl, rfl⟩
 have s0 : HZ 0 [o] [o] := ⟨by simp, by simp, fun _ _ _ => rfl, ⟨o, rfl, ho⟩, by unfold Shut; rw [List.all_cons, ho.und]; rfl⟩
 refine seqW (fun r S => ∃ e, HZ 4 S S ∧ S.length = 1 ∧ r = [some N, some (.int (i : Nat)), some (.ref 0), some (eyD e), none, none, none, none]) ?_ ?_
 · walk_at "own wq"
   refine eyes_W s0 (by omega) fun a b c d U' h1 h2 h3 => ?_
   exact ⟨(a, b, c, d), h1.self, h3, rfl⟩
 rintro r U ⟨e, sU, hU, rfl⟩
 refine seqW (fun r S => ∃ n F, 0 < n ∧ S[n]? = some (dO F) ∧ RW e F ∧ F.length ≤ 14 ∧ HZ 304 S S ∧ r = [some N, some (.int (i : Nat)), some (.ref 0), some (eyD e), some (.ref n), none, none, none]) ?_ ?_
 · walk_at "own wq"
   refine rows_W (e := e) sU (by omega) fun F1 V1 r1 l1 a1 b1 c1 => ?_
   exact ⟨U.length, F1, by omega, c1, r1, l1, a1.self, rfl⟩
 rintro r S ⟨n, F, hn0, hS, hF, hFl, sS, rfl⟩
 have hnS := (List.getElem?_eq_some_iff.mp hS).1
 obtain ⟨L, ok, hL, hsrt, hpm⟩ := sort_rows hF hFl
 refine seqW (fun r S => S[n]? = some (dO F) ∧ HZ 304 S S ∧ r = [some N, some (.int (i : Nat)), some (.ref 0), some (eyD e), some (.ref n), some (mcD e L), none, none]) ?_ ?_
 · ((try walk_at "own wq"); repeat (simp -implicitDefEqProofs only [hsrt n S hS]; try walk_at "own wq"))
   refine sW_ref (xs := L.map (rowD e)) (by rw [get_app0]; rfl) ?_
   have ul := rows_und (e := e) ok (S ++ [Ob.lst (L.map (rowD e))]).length
   rw [D.und] at ul
   refine ⟨by rw [List.getElem?_append_left hnS]; exact hS, (sS.app fun o ho => ?_).self, rfl⟩
   simp at ho
   subst ho
   rw [Ob.und]; exact ul
 rintro r S ⟨hS, sS, rfl⟩
 refine seqW (fun r S => HZ 304 S S ∧ r = [some N, some (.int (i : Nat)), some (.ref 0), some (eyD e), some (.ref n), some (mcD e L), some (.bl (L.all fun p => lv p.2)), none]) ?_ ?_
 · unfold mAsg
   refine W_bind.mpr (still_W hF hFl hS rfl ?_)
   walk_at "own wq"
   refine ⟨(sS.app fun o ho => ?_).self, by rw [all_perm hpm]⟩
   simp at ho
   subst ho
   rw [Ob.und]
   exact Mi.unds_map fun p _ => rfl
 rintro r S ⟨sS, rfl⟩
 have hlr : mLR2 (mCons (mC (D.int (1))) (mCons (mC (D.int (9))) mNil)) [some N, some (.int (i : Nat)), some (.ref 0), some (eyD e), some (.ref n), some (mcD e L), some (.bl (L.all fun p => lv p.2)), none] S = some (.ref S.length, S ++ [.lst [.int 1, .int 2, .int 3, .int 4, .int 5, .int 6, .int 7, .int 8]]) := by
   rfl
 unfold mFor
 refine W_bind.mpr ?_
 ((try walk_at "own wq"); repeat (simp -implicitDefEqProofs only [hlr]; try walk_at "own wq"))
 have s1 : HZ 304 S (S ++ [.lst [.int 1, .int 2, .int 3, .int 4, .int 5, .int 6, .int 7, .int 8]]) := sS.app fun o ho => by simp at ho; subst ho; rfl
 refine take_W s1 (by omega) (by omega) (by omega) fun t U1 s2 t2 l2 ht => ?_
 walk_at "own wq"
 have pS : 0 < S.length := sS.pos
 have g1 : U1[S.length]? = some (.lst [.int 1, .int 2, .int 3, .int 4, .int 5, .int 6, .int 7, .int 8]) := by rw [t2.same _ pS (by simp), get_app0]; rfl
 have k1 : (U1 ++ [Ob.lst [.int (1 + (t : Int))]])[S.length]? = some (.lst [.int 1, .int 2, .int 3, .int 4, .int 5, .int 6, .int 7, .int 8]) := by rw [List.getElem?_append_left (List.getElem?_eq_some_iff.mp g1).1]; exact g1
 have k2 : (U1 ++ [Ob.lst [.int (1 + (t : Int))]])[U1.length]? = some (.lst [.int (1 + (t : Int))]) := by rw [get_app0]; rfl
 refine (W_addL k1 k2).mpr ⟨fits_le (by simp), ?_⟩
 walk_at "own wq"
 have k3 : (U1 ++ [Ob.lst [.int (1 + (t : Int))], Ob.lst [.int 1, .int 2, .int 3, .int 4, .int 5, .int 6, .int 7, .int 8, .int (1 + (t : Int))]])[U1.length + 1]? = some (.lst [.int 1, .int 2, .int 3, .int 4, .int 5, .int 6, .int 7, .int 8, .int (1 + (t : Int))]) := by rw [get_app]; rfl
 generalize U1 ++ [Ob.lst [.int (1 + (t : Int))], Ob.lst [.int 1, .int 2, .int 3, .int 4, .int 5, .int 6, .int 7, .int 8, .int (1 + (t : Int))]] = V at *
 refine sW_ref k3 ?_
 refine loopM_W (fun _ r S => S = V ∧ ∃ z, r = [some N, some (.int (i : Nat)), some (.ref 0), some (eyD e), some (.ref n), some (mcD e L), some (.bl (L.all fun p => lv p.2)), z]) _ 0 _ _ ⟨rfl, _, rfl⟩ (fun _ _ S ⟨h, _⟩ => by rw [h]; exact okC_one k3) ?_ ?_
 · rintro j dd hd r S' ⟨rfl, z, rfl⟩
   obtain ⟨k, rfl⟩ : ∃ k : Int, dd = .int k := by
     have := List.mem_of_getElem? hd
     simp only [List.mem_cons, List.not_mem_nil, or_false] at this
     rcases this with z | z | z | z | z | z | z | z | z <;> exact ⟨_, z⟩
   have hn : ∀ S, gNotInY (.str "others") (eyD e) S = some (.bl (!e.2.2.2), S) := fun S => notin_others
   unfold p_law_1
   walk_at "own wq"
   refine quiet_W ok hL ?_
   ((try walk_at "own wq"); repeat (simp -implicitDefEqProofs only [hn]; try walk_at "own wq"))
   split
   · rename_i h1
     split
     · rename_i h2
       have hq : qt e L k = true := by unfold qt; rw [h1, h2, Bool.or_true]; rfl
       rw [hq]
       refine truth_W ?_
       walk_at "own wq"
       exact ⟨_, rfl⟩
     · rename_i h2
       have hq : qt e L k = !e.2.2.2 := by unfold qt; rw [h1, Bool.eq_false_iff.mpr h2, Bool.or_false, Bool.and_true]
       rw [hq]
       refine truth_W ?_
       walk_at "own wq"
       exact ⟨_, rfl⟩
   · rename_i h1
     have hq : qt e L k = false := by unfold qt; rw [Bool.eq_false_iff.mpr h1, Bool.and_false]
     rw [hq]
     refine truth_W ?_
     walk_at "own wq"
     exact ⟨_, rfl⟩
 · rintro r S' ⟨rfl, z, rfl⟩
   exact ⟨rfl, _, rfl, rfl⟩
theorem truth (ns : List Int) (hl : ns.length ≤ 63) : ∃ S, m_law [.rol (ns.map D.int)] [] = some (.bl true, S) := by
 have key : W (m_law [.rol (ns.map D.int)] []) fun p => p.1 = .bl true := by
   unfold m_law
   refine fnW ?_
   unfold b_law
   have hu : (D.rol (ns.map D.int)).und 0 = true := by simp [D.und, unds_ints]
   have ht := fun k hk => turn_W ns k hk
   generalize hN : D.rol (ns.map D.int) = N at *
   have hlen : gLen N [] = some (.int ns.length, []) := by rw [← hN]; simp [gLen, seqOf]
   refine seqW (fun r S => S = [] ∧ r = [some N, none, none, none, none, none, none, none]) ?_ ?_
   · ((try walk_at "own wq"); repeat (simp -implicitDefEqProofs only [gMax, gMin, hlen]; try walk_at "own wq"))
     have hb : ∃ t : Nat, t ≤ 10 ∧ (if (if (ns.length : Int) < 10 then (ns.length : Int) else 10) > 1 then (if (ns.length : Int) < 10 then (ns.length : Int) else 10) else 1) = (t : Int) := by
       by_cases h1 : (ns.length : Int) < 10
       · rw [if_pos h1]
         by_cases h2 : (ns.length : Int) > 1
         · rw [if_pos h2]; exact ⟨ns.length, by omega, rfl⟩
         · rw [if_neg h2]; exact ⟨1, by omega, rfl⟩
       · rw [if_neg h1]
         exact ⟨10, by omega, by decide⟩
     obtain ⟨t, t1, te⟩ := hb
     rw [te, Int.toNat_natCast]
     refine ⟨bnd_nat (by omega), ?_⟩
     refine loopM_W (fun _ r S => S = [] ∧ r = [some N, none, none, none, none, none, none, none]) _ 0 _ _ ⟨rfl, rfl⟩ (fun _ _ _ _ => rfl) ?_ ?_
     · rintro i d hd r S ⟨rfl, rfl⟩
       have hlt := (List.getElem?_eq_some_iff.mp hd).1
       rw [nums_len] at hlt
       have hd' : d = .int (i : Nat) := by
         rw [nums0, List.getElem?_map, List.getElem?_range hlt] at hd
         exact (Option.some.inj hd).symm
       subst hd'
       walk_at "own wq"
       obtain ⟨⟨f, r2, S2⟩, e2, hf, r5, hr5, hl5⟩ := ht i (by omega)
       dsimp only at hf hr5
       subst hf; subst hr5
       obtain ⟨z1, z2, z3, z4, z5, z6, z7, hz⟩ : ∃ z1 z2 z3 z4 z5 z6 z7, r5 = [z1, z2, z3, z4, z5, z6, z7] := by
         match r5, hl5 with
         | [z1, z2, z3, z4, z5, z6, z7], _ => exact ⟨_, _, _, _, _, _, _, rfl⟩
       subst hz
       refine W.of (x := (.nx, [some N, none, none, none, none, none, none, none], [])) ?_ ⟨rfl, rfl, rfl⟩
       unfold p_law_3 mPure
       simp [maskE, shutE, D.und, hu, e2]
     · rintro r S ⟨rfl, rfl⟩
       exact ⟨rfl, rfl, rfl⟩
   · rintro r S ⟨rfl, rfl⟩
     walk_at "own wq"
 obtain ⟨⟨d, S⟩, e, h⟩ := key
 dsimp only at h
 exact ⟨S, by rw [e, h]⟩
end Law
end
open PySem PySem.W PyProof.Rows
set_option maxRecDepth 100000 in
set_option maxHeartbeats 0 in
theorem PySem.Challenge.cw_ringmeet_k32_quiet_machines_holds : PySem.Challenge.rw_ringmeet_k32_quiet_machines.Holds := by
 w_on; o_law; k_head; (case hw => w_witness2)
 k_fill
 refine Mi.walk_m (l := PySem.Challenge.rw_ringmeet_k32_quiet_machines) (m := Law.m_law) (k := 4) (x := "_law_script") rfl rfl ⟨rfl, by decide, by decide, rfl⟩ (fun w h Y => PySem.W.kIn_of Y) Law.truth ?F
 case F =>
   intro w mg fa h KX G hmg
   refine' Law.all_mk KX G hmg ?a1 ?l1 ?c1 ?k1 ?a2 ?l2 ?c2 ?k2 ?a3 ?l3 ?c3 ?k3 ?a4 ?l4 ?c4 ?k4 ?a5 ?l5 ?c5 ?k5 ?a6 ?l6 ?c6 ?k6 ?a7 ?l7 ?c7 ?k7 ?a8 ?l8 ?c8 ?k8 ?z_all ?z_int ?z_len ?z_list ?z_max ?z_min ?z_range ?z_sorted ?z_tuple
   (case a1 => k_is)
   (case l1 => k_is)
   (case c1 => k_is)
   (case k1 => k_is)
   (case a2 => k_is)
   (case l2 => k_is)
   (case c2 => k_is)
   (case k2 => k_is)
   (case a3 => k_is)
   (case l3 => k_is)
   (case c3 => k_is)
   (case k3 => k_is)
   (case a4 => k_is)
   (case l4 => k_is)
   (case c4 => k_is)
   (case k4 => k_is)
   (case a5 => k_is)
   (case l5 => k_is)
   (case c5 => k_is)
   (case k5 => k_is)
   (case a6 => k_is)
   (case l6 => k_is)
   (case c6 => k_is)
   (case k6 => k_is)
   (case a7 => k_is)
   (case l7 => k_is)
   (case c7 => k_is)
   (case k7 => k_is)
   (case a8 => k_is)
   (case l8 => k_is)
   (case c8 => k_is)
   (case k8 => k_is)
   (case z_all => k_is)
   (case z_int => k_is)
   (case z_len => k_is)
   (case z_list => k_is)
   (case z_max => k_is)
   (case z_min => k_is)
   (case z_range => k_is)
   (case z_sorted => k_is)
   (case z_tuple => k_is)

