import PyProof.Rows.All
import Wide.All
import OpenK.AllK
import Wide.FinOn
import Lean
import PyProof.EqAt
import PyProof.EqKinds
import PyProof.TupleCall
import PySem.Challenge.RW_ringmeet_k23_sights_of_eyes
section
set_option Elab.async false
set_option linter.all false
set_option maxRecDepth 100000
/-! THE HAND LAYER, for ints, bools, texts, own classes, LISTS and tuples (index, slices, in, append, pop ..), calls, loops. Paste it whole ahead of your own text; what your proof does not reach may be deleted. -/
namespace L2
open PySem PySem.Spec PyProof.Rows

/-- a key: an int or a str -/
abbrev Key := Sum Int Str
def keyIs : Key → Value → Bool
  | .inl k, v => Value.isInt k v
  | .inr x, v => Value.isStrOf x v
def keyH (w : World) : Key → Int
  | .inl k => hashInt k
  | .inr x => hashStr w x
theorem keyIs_shape : ∀ {k : Key} {v : Value}, keyIs k v = true → (∃ i t, k = Sum.inl i ∧ v = Value.int i t) ∨ (∃ x t, k = Sum.inr x ∧ v = Value.str x t)
  | .inl i, v, h => by
    obtain ⟨t, e⟩ := Value.isInt_shape (k := i) (v := v) h
    exact .inl ⟨i, t, rfl, e⟩
  | .inr x, v, h => by
    obtain ⟨t, e⟩ := Value.isStrOf_shape (x := x) (v := v) h
    exact .inr ⟨x, t, rfl, e⟩
theorem keyIs_int (i : Int) (t : Tok) : keyIs (.inl i) (.int i t) = true := by simp [keyIs, Value.isInt]
theorem keyIs_str (x : Str) (t : Tok) : keyIs (.inr x) (.str x t) = true := by simp [keyIs, Value.isStrOf]
theorem key_ll (a b : Int) : decide ((Sum.inl a : Key) = Sum.inl b) = (a == b) := by
  by_cases e : a = b
  · subst e; simp
  · have h : ¬ (Sum.inl a : Key) = Sum.inl b := fun q => e (Sum.inl.inj q)
    rw [decide_eq_false h]
    exact (beq_eq_false_iff_ne.mpr e).symm
theorem key_rr (a b : Str) : decide ((Sum.inr a : Key) = Sum.inr b) = decide (a = b) := by
  by_cases e : a = b
  · subst e; simp
  · have h : ¬ (Sum.inr a : Key) = Sum.inr b := fun q => e (Sum.inr.inj q)
    rw [decide_eq_false h, decide_eq_false e]
theorem key_lr (a : Int) (b : Str) : decide ((Sum.inl a : Key) = Sum.inr b) = false := decide_eq_false (fun q => nomatch q)
theorem key_rl (a : Str) (b : Int) : decide ((Sum.inr a : Key) = Sum.inl b) = false := decide_eq_false (fun q => nomatch q)

def mixKind (prog : Program) (w : World) : PySem.KeyKind prog w Key where
  is := keyIs
  hash := keyH w
  inj := fun v a b ha hb => by
    rcases keyIs_shape ha with ⟨i, t, rfl, rfl⟩ | ⟨x, t, rfl, rfl⟩
    · rcases keyIs_shape hb with ⟨j, u, rfl, e⟩ | ⟨y, u, rfl, e⟩
      · injection e with e1 _; rw [e1]
      · exact nomatch e
    · rcases keyIs_shape hb with ⟨j, u, rfl, e⟩ | ⟨y, u, rfl, e⟩
      · exact nomatch e
      · injection e with e1 _; rw [e1]
  byValue := fun k v h => by
    rcases keyIs_shape h with ⟨i, t, rfl, rfl⟩ | ⟨x, t, rfl, rfl⟩ <;> rfl
  pyHash := fun hv h => by
    rcases keyIs_shape hv with ⟨i, t, rfl, rfl⟩ | ⟨x, t, rfl, rfl⟩
    · exact wpAny_pyHash_int h
    · exact wpAny_pyHash_str h
  eqBool := fun hu hv h => by
    rcases keyIs_shape hu with ⟨i, t, rfl, rfl⟩ | ⟨x, t, rfl, rfl⟩
    · rcases keyIs_shape hv with ⟨j, u, rfl, rfl⟩ | ⟨y, u, rfl, rfl⟩
      · rw [key_ll] at h; exact wpAny_eqBool_int h
      · rw [key_lr] at h; exact SeqAt.EqAt.int_str i t y u _ _ _ _ h
    · rcases keyIs_shape hv with ⟨j, u, rfl, rfl⟩ | ⟨y, u, rfl, rfl⟩
      · rw [key_rl] at h; exact SeqAt.EqAt.str_int x t j u _ _ _ _ h
      · rw [key_rr] at h; exact wpAny_eqBool_str h
  «strs» := fun k x t v h => by
    rcases keyIs_shape h with ⟨i, u, rfl, e⟩ | ⟨y, u, rfl, e⟩
    · exact nomatch e
    · injection e with e1 _
      subst e1
      cases v <;> rfl

theorem mixKind_is (prog : Program) (w : World) (k : Key) (v : Value) : (mixKind prog w).is k v = keyIs k v := rfl
theorem mixKind_int (prog : Program) (w : World) (i : Int) (t : Tok) : (mixKind prog w).is (.inl i) (.int i t) = true := keyIs_int i t
theorem mixKind_str (prog : Program) (w : World) (x : Str) (t : Tok) : (mixKind prog w).is (.inr x) (.str x t) = true := keyIs_str x t
end L2

namespace L2
open PySem PySem.Spec PyProof.Rows

/-- a value, without the heap -/
inductive V where
  | non | bl (b : Bool) | int (i : Int) | str (x : Str) | byt (b : Array UInt8) | flt (b : UInt64) | ref (a : Addr) | ty (n : String)
  deriving DecidableEq

def RelV : V → Value → Prop
  | .non, u => u = Value.none
  | .bl b, u => u = Value.bool b
  | .int i, u => ∃ t, u = Value.int i t
  | .str x, u => ∃ t, u = Value.str x t
  | .byt b, u => ∃ t, u = Value.bytes b t
  | .flt b, u => ∃ t, u = Value.float b t
  | .ref a, u => u = Value.ref a
  | .ty n, u => u = Value.type n

abbrev Vals : List V → List Value → Prop := Paired RelV
theorem Vals.length {xs : List V} {us : List Value} (r : Vals xs us) : xs.length = us.length := Paired.length r
theorem Vals.get : ∀ {xs : List V} {us : List Value} {i : Nat} {x : V}, Vals xs us → xs[i]? = some x → ∃ u, us[i]? = some u ∧ RelV x u
  | _, _, _, _, .nil, e => by simp at e
  | _, _, 0, _, .cons r _, e => by simp at e; subst e; exact ⟨_, rfl, r⟩
  | _, _, i + 1, x, .cons _ t, e => by
    obtain ⟨u, h1, h2⟩ := Vals.get (i := i) (x := x) t (by simpa using e)
    exact ⟨u, by simpa using h1, h2⟩
theorem Vals.set {x : V} {u : Value} (r : RelV x u) : ∀ {xs : List V} {us : List Value} (i : Nat), Vals xs us → Vals (xs.set i x) (us.set i u)
  | _, _, _, .nil => .nil
  | _, _, 0, .cons _ t => .cons r t
  | _, _, i + 1, .cons q t => .cons q (Vals.set r i t)
theorem Vals.append : ∀ {xs ys : List V} {us ws : List Value}, Vals xs us → Vals ys ws → Vals (xs ++ ys) (us ++ ws)
  | _, _, _, _, .nil, s => s
  | _, _, _, _, .cons r t, s => .cons r (Vals.append t s)
theorem Vals.take : ∀ {xs : List V} {us : List Value} (n : Nat), Vals xs us → Vals (xs.take n) (us.take n)
  | _, _, 0, _ => .nil
  | _, _, _ + 1, .nil => .nil
  | _, _, n + 1, .cons r t => .cons r (Vals.take n t)
theorem Vals.drop : ∀ {xs : List V} {us : List Value} (n : Nat), Vals xs us → Vals (xs.drop n) (us.drop n)
  | _, _, 0, r => r
  | _, _, _ + 1, .nil => .nil
  | _, _, n + 1, .cons _ t => Vals.drop n t
theorem Vals.none_of : ∀ {xs : List V} {us : List Value} {i : Nat}, Vals xs us → xs[i]? = none → us[i]? = none := fun {xs us i} r e => by
  have h1 := r.length
  have h2 : xs.length ≤ i := List.getElem?_eq_none_iff.mp e
  exact List.getElem?_eq_none_iff.mpr (by omega)

def RelO : Option V → Option Value → Prop
  | some v, some u => RelV v u
  | none, none => True
  | _, _ => False
def KV {κ : Type} : List (κ × V) → List (κ × Value) → Prop := Paired fun (p : κ × V) (q : κ × Value) => p.1 = q.1 ∧ RelV p.2 q.2

/-- a key of a dict (00_mix): an int or a text -/
def kV : Key → V
  | .inl i => .int i
  | .inr x => .str x

/-- what stands at a tracked address -/
inductive HO where
  /-- a list -/
  | lst (xs : List V)
  /-- a tuple (never changes) -/
  | tup (xs : List V)
  /-- a dict whose keys are ints and texts; one whose keys are tuples of ints and texts (the empty one is both) -/
  | dK (kvs : List (Key × V)) | dT (kvs : List (List Key × V))
  /-- a set of ints: its members, its size -/
  | set (S : Int → Bool) (n : Nat)
  /-- an instance of the class at C, its dict at dx, its attributes -/
  | ins (C dx : Addr) (fs : List (Str × V))
  /-- the dict of the instance at x -/
  | own (x : Addr)
  /-- the dict of an exception -/
  | xd (fs : List (Str × V))
  /-- a bound method, f of x -/
  | met (f x : Addr)
  /-- a range object lo, lo + 1, .. below hi -/
  | rng (lo hi : Int)
  /-- a thing that is known to the object (the script; a dict while a loop walks it): read, never written while it is so -/
  | frz (o : Obj) (u : HO)
  /-- a code object's table -/
  | tbl (ps : Array Value)
  /-- any other thing, by what is true of its one object (a def of one's own: SetO a S n := HO.ext fun h => ..) -/
  | ext (φ : Heap → Prop)

abbrev Hp := Addr → Option HO
def upd (H : Hp) (a : Addr) (o : HO) : Hp := fun b => if b = a then some o else H b
theorem upd_same {H : Hp} {a : Addr} {o : HO} : upd H a o a = some o := by unfold upd; rw [if_pos rfl]
theorem upd_ne {H : Hp} {a b : Addr} {o : HO} (h : b ≠ a) : upd H a o b = H b := by unfold upd; rw [if_neg h]
theorem upd_upd {H : Hp} {a : Addr} {o u : HO} : upd (upd H a o) a u = upd H a u := by
  funext b; unfold upd; split <;> rfl
/-- two objects of different content stand apart -/
theorem ne_of {H : Hp} {a b : Addr} {o u : HO} (h : H a = some o) (h' : H b = some u) (d : o ≠ u) : a ≠ b := by
  intro e; subst e; rw [h] at h'; exact d (Option.some.inj h')
theorem ne_of_none {H : Hp} {a b : Addr} {o : HO} (h : H a = some o) (h' : H b = none) : a ≠ b := by
  intro e; subst e; rw [h] at h'; cases h'

section
variable (P : Program) (w : World)
def ObjOk (H : Hp) (h : Heap) (a : Addr) : HO → Prop
  | .lst xs => xs.length ≤ sizeLine ∧ ∃ (its : List Value) (n : Nat), Vals xs its ∧ h.get? a = some { cls := .type "list", data := .seq its.toArray n }
  | .tup xs => xs.length ≤ sizeLine ∧ ∃ its : List Value, Vals xs its ∧ IsTup h a its.toArray
  | .dK kvs => kvs.length ≤ sizeLine ∧ (a == sysModules) = false ∧ ∃ vs, KV kvs vs ∧ h.DictOf (mixKind P w) a vs
  | .dT kvs => kvs.length ≤ sizeLine ∧ (a == sysModules) = false ∧ ∃ xs : List (List Key × Addr × Value),
      Paired (fun (p : List Key × V) (q : List Key × Addr × Value) => p.1 = q.1 ∧ H q.2.1 = some (.tup (p.1.map kV)) ∧ RelV p.2 q.2.2) kvs xs ∧
      ∃ o es ep, h.get? a = some o ∧ o.ExactDict ∧ o.data = .dict es ep ∧ es.toList = xs.map (entryOfKey (tupleKind (mixKind P w))) ∧ (xs.map (·.1)).Nodup
  | .set S n => h.SetOf (intKind P w) a S n
  | .ins C dx fs => H dx = some (.own a) ∧ fs.length ≤ 1000 ∧ dx ≠ a ∧ h.get? a = some (PySem.W.instObj C dx) ∧
      ∃ mA, h.Ns1 dx mA ∧ (∀ f, RelO (fs.lookup f) (mA f)) ∧ PySem.Within mA (fs.map (·.1))
  | .own _ => ∃ o, h.get? a = some o
  | .xd fs => ∃ mA, h.Ns1 a mA ∧ ∀ f, RelO (fs.lookup f) (mA f)
  | .rng lo hi => ∃ t u v, h.get? a = some { cls := .type "range", data := .fields #[.int lo t, .int hi u, .int 1 v] }
  | .frz o u => h.get? a = some o ∧ ObjOk H h a u
  | .tbl ps => h.get? a = some { cls := .none, data := .fields ps }
  | .met f x => h.get? a = some (PySem.W.methodObj (.ref f) (.ref x))
  | .ext φ => φ h ∧ (∃ o, h.get? a = some o) ∧ ∀ h1 h2 : Heap, φ h1 → (∀ o, h1.get? a = some o → h2.get? a = some o) → φ h2
/-- the abstract heap is held -/
def HOk (H : Hp) (h : Heap) : Prop := ∀ a o, H a = some o → ObjOk P w H h a o
end

section
variable {P : Program} {w : World} {H H' : Hp} {h h' : Heap} {a : Addr} {o : HO}
theorem ObjOk.lt (x : ObjOk P w H h a o) : a < h.objs.size := by
  cases o with
  | lst xs => obtain ⟨_, _, _, _, e⟩ := x; exact Heap.lt_size e
  | tup xs => obtain ⟨_, _, _, p⟩ := x; exact p.lt
  | dK kvs => obtain ⟨_, _, _, _, o, _, _, e, _⟩ := x; exact Heap.lt_size e
  | dT kvs => obtain ⟨_, _, _, _, o, _, _, e, _⟩ := x; exact Heap.lt_size e
  | set S n => obtain ⟨o, _, _, _, e, _⟩ := x; exact Heap.lt_size e
  | ins C dx fs => obtain ⟨_, _, _, e, _⟩ := x; exact Heap.lt_size e
  | own y => obtain ⟨_, e⟩ := x; exact Heap.lt_size e
  | xd fs => obtain ⟨_, ⟨_, _, _, e, _⟩, _⟩ := x; exact Heap.lt_size e
  | rng lo hi => obtain ⟨_, _, _, e⟩ := x; exact Heap.lt_size e
  | frz ob u => obtain ⟨e, _⟩ := x; exact Heap.lt_size e
  | tbl ps => exact Heap.lt_size (show h.get? a = some _ from x)
  | met f y => exact Heap.lt_size (show h.get? a = some _ from x)
  | ext φ => obtain ⟨_, ⟨_, e⟩, _⟩ := x; exact Heap.lt_size e
theorem Paired.mapP {α β : Type} {F G : α → β → Prop} : ∀ {l₁ : List α} {l₂ : List β}, Paired F l₁ l₂ → (∀ a b, F a b → G a b) → Paired G l₁ l₂
  | _, _, .nil, _ => .nil
  | _, _, .cons r t, f => .cons (f _ _ r) (Paired.mapP t f)
theorem Paired.imp' {α β : Type} {F G : α → β → Prop} (f : ∀ a b, F a b → G a b) {l₁ : List α} {l₂ : List β} (r : Paired F l₁ l₂) : Paired G l₁ l₂ := Paired.mapP r f
/-- what an object's description leans on: its own object, its own dict, the tuples -/
theorem ObjOk.stay (x : ObjOk P w H h a o) (k : ∀ b u, (b = a ∨ H b = some (.own a)) → h.get? b = some u → h'.get? b = some u)
    (ho : ∀ b, H b = some (.own a) → H' b = some (.own a)) (ht : ∀ b xs, H b = some (.tup xs) → H' b = some (.tup xs)) : ObjOk P w H' h' a o := by
  induction o with
  | lst xs => obtain ⟨z, its, n, r, e⟩ := x; exact ⟨z, its, n, r, k _ _ (.inl rfl) e⟩
  | tup xs => obtain ⟨z, its, r, ob, e, c⟩ := x; exact ⟨z, its, r, ob, k _ _ (.inl rfl) e, c⟩
  | dK kvs => obtain ⟨z, y, vs, r, ob, es, ep, e, c⟩ := x; exact ⟨z, y, vs, r, ob, es, ep, k _ _ (.inl rfl) e, c⟩
  | dT kvs =>
    obtain ⟨z, y, xs, r, ob, es, ep, e, c⟩ := x
    exact ⟨z, y, xs, Paired.mapP r fun p q z => ⟨z.1, ht _ _ z.2.1, z.2.2⟩, ob, es, ep, k _ _ (.inl rfl) e, c⟩
  | set S n => obtain ⟨ob, es, ep, t, e, c⟩ := x; exact ⟨ob, es, ep, t, k _ _ (.inl rfl) e, c⟩
  | ins C dx fs =>
    obtain ⟨d, z, ne, e, mA, ⟨od, es, ep, e2, c⟩, r⟩ := x
    exact ⟨ho _ d, z, ne, k _ _ (.inl rfl) e, mA, ⟨od, es, ep, k _ _ (.inr d) e2, c⟩, r⟩
  | own y => obtain ⟨ob, e⟩ := x; exact ⟨ob, k _ _ (.inl rfl) e⟩
  | xd fs => obtain ⟨mA, ⟨od, es, ep, e, c⟩, r⟩ := x; exact ⟨mA, ⟨od, es, ep, k _ _ (.inl rfl) e, c⟩, r⟩
  | rng lo hi => obtain ⟨t, u, v, e⟩ := x; exact ⟨t, u, v, k _ _ (.inl rfl) e⟩
  | frz ob u ih => obtain ⟨e, q⟩ := x; exact ⟨k _ _ (.inl rfl) e, ih q⟩
  | tbl ps =>
    have e : h.get? a = some { cls := .none, data := .fields ps } := x
    show h'.get? a = some { cls := .none, data := .fields ps }
    exact k a _ (.inl rfl) e
  | met f y =>
    have e : h.get? a = some (PySem.W.methodObj (.ref f) (.ref y)) := x
    show h'.get? a = some (PySem.W.methodObj (.ref f) (.ref y))
    exact k a _ (.inl rfl) e
  | ext φ => obtain ⟨p, ⟨o, e⟩, st⟩ := x; exact ⟨st _ _ p fun o q => k _ _ (.inl rfl) q, ⟨o, k _ _ (.inl rfl) e⟩, st⟩
theorem HOk.lt (x : HOk P w H h) (e : H a = some o) : a < h.objs.size := (x a o e).lt
theorem HOk.fresh (x : HOk P w H h) (e : h.objs.size ≤ a) : H a = none := by
  cases q : H a with
  | none => rfl
  | some u => exact absurd (Nat.lt_of_lt_of_le (x.lt q) e) (Nat.lt_irrefl _)
/-- every object of the heap is kept -/
theorem HOk.kept (x : HOk P w H h) (k : ∀ b u, h.get? b = some u → h'.get? b = some u) : HOk P w H h' := fun a o e =>
  (x a o e).stay (fun b u _ q => k b u q) (fun _ q => q) fun _ _ q => q
/-- a new object is laid and tracked -/
theorem HOk.laid (x : HOk P w H h) (k : ∀ b u, h.get? b = some u → h'.get? b = some u) (hp : h.objs.size ≤ a) (new : ObjOk P w (upd H a o) h' a o) : HOk P w (upd H a o) h' := fun b u e => by
  have hn := x.fresh hp
  by_cases hb : b = a
  · subst hb; rw [upd_same] at e; cases e; exact new
  · rw [upd_ne hb] at e
    exact (x b u e).stay (fun c v _ q => k c v q) (fun c q => by rw [upd_ne (ne_of_none q hn)]; exact q) fun c xs q => by rw [upd_ne (ne_of_none q hn)]; exact q
end

/-- what may be read as u: it is u, or a known u -/
def Rd (H : Hp) (a : Addr) (u : HO) : Prop := H a = some u ∨ ∃ o, H a = some (.frz o u)
theorem Rd.of {H : Hp} {a : Addr} {u : HO} (h : H a = some u) : Rd H a u := .inl h
theorem Rd.ok {P : Program} {w : World} {H : Hp} {h : Heap} {a : Addr} {u : HO} (r : Rd H a u) (x : HOk P w H h) : ObjOk P w H h a u := by
  rcases r with r | ⟨o, r⟩
  · exact x a u r
  · obtain ⟨_, q⟩ := x a _ r
    exact q
/-- what may be written -/
def Mut : Option HO → Prop
  | some (.lst _) => True
  | some (.dK _) => True
  | some (.dT _) => True
  | some (.set _ _) => True
  | some (.ins _ _ _) => True
  | some (.ext _) => True
  | _ => False
section
variable {P : Program} {w : World} {H : Hp} {h h' : Heap} {x e : Addr} {o' : HO}
/-- the object at e is changed: x itself, or the dict of the instance x -/
theorem HOk.write (ok : HOk P w H h) (mu : Mut (H x)) (he : e = x ∨ H e = some (.own x)) (k : ∀ b u, b ≠ e → h.get? b = some u → h'.get? b = some u) (heo : ∃ u, h'.get? e = some u)
    (new : ObjOk P w (upd H x o') h' x o') : HOk P w (upd H x o') h' := fun b u q => by
  have nown : ∀ c y, H c = some (.own y) → c ≠ x := fun c y r z => by subst z; rw [r] at mu; exact mu
  have ntup : ∀ c xs, H c = some (.tup xs) → c ≠ x := fun c xs r z => by subst z; rw [r] at mu; exact mu
  by_cases hb : b = x
  · subst hb; rw [upd_same] at q; cases q; exact new
  · rw [upd_ne hb] at q
    by_cases hbe : b = e
    · have q' : H b = some (.own x) := by
        rcases he with z | z
        · exact absurd (hbe.trans z) hb
        · rw [hbe]; exact z
      rw [q] at q'; cases q'
      obtain ⟨v, hv⟩ := heo
      exact ⟨v, by rw [hbe]; exact hv⟩
    · refine (ok b u q).stay (fun c v hc r => k c v ?_ r) (fun c r => by rw [upd_ne (nown c b r)]; exact r) fun c xs r => by rw [upd_ne (ntup c xs r)]; exact r
      rcases hc with rfl | hc
      · exact hbe
      · rintro rfl
        rcases he with z | z
        · exact nown c b hc z
        · rw [hc] at z; cases z; exact hb rfl
end

/-! ### kept unless tracked; of the frames at fs (the callers') the slots may change (an exception that passes writes there); of the records at ex (iterators) nothing is said -/
structure Un (fs ex : List Addr) (H H' : Hp) (h h' : Heap) : Prop where
  keep : ∀ b o, h.get? b = some o → H b = none → b ∉ fs → b ∉ ex → h'.get? b = some o
  slot : ∀ b o, h.get? b = some o → H b = none → b ∈ fs → b ∉ ex → ∃ sl, h'.get? b = some { o with slots := sl }
  free : ∀ b o, h.get? b = some o → H b = none → b ∉ ex → H' b = none
  there : ∀ b o, h.get? b = some o → b ∉ ex → ∃ o', h'.get? b = some o'
  tups : ∀ b xs, H b = some (.tup xs) → H' b = some (.tup xs)
  frzs : ∀ b o u, H b = some (.frz o u) → H' b = some (.frz o u)
  tbls : ∀ b ps, H b = some (.tbl ps) → ∃ more, H' b = some (.tbl (ps ++ more))
section
variable {fs fs' ex ex' : List Addr} {H H1 H2 : Hp} {h h1 h2 h' : Heap} {a x e : Addr} {o : HO}
theorem Un.any (u : Un fs ex H H1 h h1) {b : Addr} {ob : Obj} (q : h.get? b = some ob) (n : H b = none) (hx : b ∉ ex) : ∃ sl, h1.get? b = some { ob with slots := sl } := by
  by_cases hb : b ∈ fs
  · exact u.slot b ob q n hb hx
  · exact ⟨ob.slots, u.keep b ob q n hb hx⟩
theorem Un.trans (a : Un fs ex H H1 h h1) (b : Un fs ex H1 H2 h1 h2) : Un fs ex H H2 h h2 where
  keep := fun c ob q n hc hx => b.keep c ob (a.keep c ob q n hc hx) (a.free c ob q n hx) hc hx
  slot := fun c ob q n hc hx => by
    obtain ⟨sl, e1⟩ := a.slot c ob q n hc hx
    obtain ⟨sl', e2⟩ := b.slot c _ e1 (a.free c ob q n hx) hc hx
    exact ⟨sl', e2⟩
  free := fun c ob q n hx => by
    obtain ⟨o', e1⟩ := a.there c ob q hx
    exact b.free c o' e1 (a.free c ob q n hx) hx
  there := fun c ob q hx => by
    obtain ⟨o', e1⟩ := a.there c ob q hx
    exact b.there c o' e1 hx
  tups := fun c xs q => b.tups c xs (a.tups c xs q)
  frzs := fun c ob xs q => b.frzs c ob xs (a.frzs c ob xs q)
  tbls := fun c ps q => by
    obtain ⟨m1, e1⟩ := a.tbls c ps q
    obtain ⟨m2, e2⟩ := b.tbls c _ e1
    exact ⟨m1 ++ m2, by rw [e2, Array.append_assoc]⟩
theorem Un.kept (k : ∀ b u, h.get? b = some u → h'.get? b = some u) : Un fs ex H H h h' :=
  ⟨fun b ob q _ _ _ => k b ob q, fun b ob q _ _ _ => ⟨ob.slots, k b ob q⟩, fun _ _ _ n _ => n, fun b ob q _ => ⟨ob, k b ob q⟩, fun _ _ q => q, fun _ _ _ q => q, fun _ ps q => ⟨#[], by rw [q]; simp⟩⟩
theorem Un.refl : Un fs ex H H h h := Un.kept fun _ _ q => q
theorem Un.laid (k : ∀ b u, h.get? b = some u → h'.get? b = some u) (hp : h.objs.size ≤ a) (hn : H a = none) : Un fs ex H (upd H a o) h h' where
  keep := fun b u q _ _ _ => k b u q
  slot := fun b u q _ _ _ => ⟨u.slots, k b u q⟩
  free := fun b u q n _ => by rw [upd_ne (Nat.ne_of_lt (Nat.lt_of_lt_of_le (Heap.lt_size q) hp))]; exact n
  there := fun b u q _ => ⟨u, k b u q⟩
  tups := fun b xs q => by rw [upd_ne (ne_of_none q hn)]; exact q
  frzs := fun b u xs q => by rw [upd_ne (ne_of_none q hn)]; exact q
  tbls := fun b ps q => ⟨#[], by rw [upd_ne (ne_of_none q hn), q]; simp⟩
theorem Un.write (mu : Mut (H x)) (he : e = x ∨ H e = some (.own x)) (k : ∀ b u, b ≠ e → h.get? b = some u → h'.get? b = some u) (heo : ∃ u, h'.get? e = some u) : Un fs ex H (upd H x o) h h' := by
  have hx : ∀ b, H b = none → b ≠ x := fun b n z => by subst z; rw [n] at mu; exact mu
  have hb : ∀ b, H b = none → b ≠ e := fun b n z => by
    subst z
    rcases he with r | r
    · exact hx b n r
    · rw [n] at r; cases r
  have hm : ∀ b u, H b = some u → ¬ Mut (some u) → b ≠ x := fun b u q nm z => by subst z; rw [q] at mu; exact nm mu
  refine ⟨fun b u q n _ _ => k b u (hb b n) q, fun b u q n _ _ => ⟨u.slots, k b u (hb b n) q⟩, fun b u q n _ => by rw [upd_ne (hx b n)]; exact n, fun b u q _ => ?_,
    fun b xs q => by rw [upd_ne (hm b _ q fun z => z)]; exact q, fun b u xs q => by rw [upd_ne (hm b _ q fun z => z)]; exact q, fun b ps q => ⟨#[], by rw [upd_ne (hm b _ q fun z => z), q]; simp⟩⟩
  by_cases hbe : b = e
  · subst hbe; exact heo
  · exact ⟨u, k b u hbe q⟩
theorem Un.mono (u : Un fs ex H H1 h h1) (hs : ∀ b ∈ fs, b ∈ fs') (hx : ∀ b ∈ ex, b ∈ ex') : Un fs' ex' H H1 h h1 :=
  ⟨fun b ob q n hb he => u.keep b ob q n (fun z => hb (hs b z)) fun z => he (hx b z), fun _ _ q n _ he => u.any q n fun z => he (hx _ z), fun b ob q n he => u.free b ob q n fun z => he (hx b z), fun b ob q he => u.there b ob q fun z => he (hx b z), u.tups, u.frzs, u.tbls⟩
end

/-! ### the heap without what is tracked -/
def trk (h : Heap) (H : Hp) : List Addr := (List.range h.objs.size).filter fun a => (H a).isSome
def hidT (h : Heap) (H : Hp) : Heap := PySem.W.hideAll h (trk h H)
theorem hidT_size (h : Heap) (H : Hp) : (hidT h H).objs.size = h.objs.size := PySem.W.hideAll_size _ _
theorem hidT_get {h : Heap} {H : Hp} {b : Addr} {o : Obj} (e : h.get? b = some o) (n : H b = none) : (hidT h H).get? b = some o :=
  PySem.W.hideAll_get _ e fun hm => by
    have q : (H b).isSome = true := (List.mem_filter.mp hm).2
    rw [n] at q; simp at q
theorem of_hidT {h : Heap} {H : Hp} {b : Addr} {o : Obj} (e : (hidT h H).get? b = some o) : h.get? b = some o ∧ H b = none := by
  have e' : h.get? b = some o := PySem.W.of_hideAll (trk h H) e
  refine ⟨e', ?_⟩
  cases q : H b with
  | none => rfl
  | some x =>
    have hm : b ∈ trk h H := List.mem_filter.mpr ⟨List.mem_range.mpr (Heap.lt_size e'), by simp [q]⟩
    have z : (hidT h H).get? b = none := PySem.W.hideAll_none (trk h H) hm
    rw [z] at e; cases e

/-! ### OpenK's ledger, filled with every new object but one -/
def allNews (g h : Heap) (L : Addr) : List (Addr × Obj) := (List.range h.objs.size).filterMap fun a => if a = L ∨ (g.get? a).isSome = true then none else (h.get? a).map fun o => (a, o)
theorem mem_allNews {g h : Heap} {L a : Addr} {o : Obj} (h1 : a ≠ L) (h2 : g.get? a = none) (h3 : h.get? a = some o) : (a, o) ∈ allNews g h L :=
  List.mem_filterMap.mpr ⟨a, List.mem_range.mpr (Heap.lt_size h3), by simp [h1, h2, h3]⟩
theorem of_mem_allNews {g h : Heap} {L : Addr} {p : Addr × Obj} (hp : p ∈ allNews g h L) : p.1 ≠ L ∧ g.get? p.1 = none ∧ h.get? p.1 = some p.2 := by
  obtain ⟨b, _, e⟩ := List.mem_filterMap.mp hp
  split at e
  · cases e
  · rename_i hn
    cases q : h.get? b with
    | none => rw [q] at e; simp at e
    | some u =>
      rw [q] at e
      simp only [Option.map_some, Option.some.injEq] at e
      subst e
      refine ⟨fun z => hn (.inl z), ?_, q⟩
      show g.get? b = none
      cases r : g.get? b with
      | none => rfl
      | some v => exact (hn (.inr (by simp [r]))).elim
def rest (g h : Heap) (L d : Addr) : List (Addr × Obj) := (allNews g h L).filter fun p => decide (p.1 ≠ d)
theorem rest_ne {g h : Heap} {L d : Addr} : ∀ p ∈ rest g h L d, p.1 ≠ d := fun p hp => of_decide_eq_true (List.mem_filter.mp hp).2
theorem mem_rest {g h : Heap} {L d a : Addr} {o : Obj} (h1 : a ≠ L) (h2 : g.get? a = none) (h3 : h.get? a = some o) (h4 : a ≠ d) : (a, o) ∈ rest g h L d :=
  List.mem_filter.mpr ⟨mem_allNews h1 h2 h3, decide_eq_true h4⟩
theorem news_all {g h : Heap} {L : Addr} : News g L h (allNews g h L) := fun p hp => let ⟨a, b, c⟩ := of_mem_allNews hp; ⟨c, a, b⟩
theorem news_at {g h : Heap} {L d : Addr} {o : Obj} (h1 : d ≠ L) (h2 : g.get? d = none) (h3 : h.get? d = some o) : News g L h ((d, o) :: rest g h L d) := fun p hp => by
  rcases List.mem_cons.mp hp with rfl | hp
  · exact ⟨h3, h1, h2⟩
  · exact news_all p (List.mem_filter.mp hp).1
/-- behind a rule that changed d alone: all else but the frame is kept -/
theorem kept_of_news {g h h' : Heap} {L d : Addr} {m : Str → Option Value} (k : ∀ b o, g.get? b = some o → h.get? b = some o) (F : Fr g L h' m) (N : News g L h' (rest g h L d)) :
    ∀ b o, b ≠ L → b ≠ d → h.get? b = some o → h'.get? b = some o := fun b o h1 h2 e => by
  cases q : g.get? b with
  | some u =>
    have := k b u q
    rw [e] at this; cases this
    exact F.keep b _ q
  | none => exact (N (b, o) (mem_rest h1 q e h2)).1
end L2

namespace L2
open PySem PySem.Spec PyProof.Rows

/-- the module's facts, over the base: the heap at the law's entry without what is tracked there -/
structure Mod (K : PySem.W.Frag) (mg : Str → Option Value) (base : Heap) : Prop where
  kin : K.In base
  glob : base.Ns mainGlobals mg
  blt : ∃ mb, base.Ns builtinsNs mb ∧ ∀ x : Str, x ≠ "__name__" → mb x = bootBuiltins x
  nolimit : base.NoLimit

/-- the context: a def's body (or a comprehension's block) running. base: fixed through the whole law; s₀, H₀: the entry; outer: the frames whose slots others may change (a def's callers); stack: all frames that run;
   ex: iterators that were made ahead of the entry and are walked here (a comprehension's); fn: the names whose cells were made at the entry (a def: all; a comprehension's block: its own); calm: not within an except suite; pn: pins that every state bears; xe: what is wanted of an exception that leaves the code -/
structure Cx where
  prog : Program
  w : World
  K : PySem.W.Frag
  mg : Str → Option Value
  base : Heap
  A : Around
  N : List Str
  s₀ : Shared
  H₀ : Hp
  env : Env
  outer : List Env
  stack : List Env
  ex : List Addr
  fn : Str → Bool
  calm : Bool
  pn : List (Addr × Obj)
  xe : Value → Shared → Prop
/-- the callers' frames -/
def frs (l : List Env) : List Addr := l.filterMap (·.frame)
abbrev Cx.fs (X : Cx) : List Addr := frs X.outer

def Vis (sc : Scope) (x : Str) : Prop := sc.names.lookup x = some .local ∨ sc.names.lookup x = some .cell ∨ sc.names.lookup x = some .free
def Loc (sc : Scope) (x : Str) : Prop := sc.names.lookup x = some .local ∨ sc.names.lookup x = some .cell
def Look (env : Env) (h : Heap) (m : Str → Option Value) (x : Str) (u : Value) : Prop :=
  (env.kindOf x = some .local ∧ m x = some u) ∨ ((env.kindOf x = some .cell ∨ env.kindOf x = some .free) ∧ ∃ c, env.cells.lookup x = some c ∧ h.IsCell c (some u))

structure Cx.Ok (X : Cx) : Prop where
  mod : Mod X.K X.mg X.base
  kind : X.env.scope.kind = .function
  glob : X.env.globals = mainGlobals
  blt : X.env.builtins = builtinsNs
  above : X.s₀.heap.objs.size ≤ X.env.locals
  inj : ∀ x y c, X.env.cells.lookup x = some c → X.env.cells.lookup y = some c → x = y
  has : ∀ x, (X.env.kindOf x = some .cell ∨ X.env.kindOf x = some .free) → ∃ c, X.env.cells.lookup x = some c
  cab : ∀ x c, X.fn x = true → X.env.cells.lookup x = some c → X.s₀.heap.objs.size ≤ c
  hd : X.calm = true → X.A.handled = none
  frames : X.A.frames = some X.stack
  stk : X.stack = X.outer ∨ (X.stack = X.env :: X.outer ∧ X.env.frame = some X.env.locals)
  exf : ∀ b ∈ X.ex, b ≠ X.env.locals ∧ ∀ x c, X.env.cells.lookup x = some c → c ≠ b
  bs : ∀ b o, X.base.get? b = some o → X.s₀.heap.get? b = some o ∧ X.H₀ b = none
  bsz : X.base.objs.size ≤ X.s₀.heap.objs.size
  noex : ∀ b o, X.base.get? b = some o → b ∉ X.ex
  exfs : ∀ b ∈ X.ex, b ∉ X.fs
  funs : X.s₀.heap.FunFrames X.base X.outer
  frf : ∀ b ∈ X.fs, X.H₀ b = none

structure Inv (X : Cx) (pins : List (Addr × Obj)) (σ : List (Option V)) (H : Hp) (s : Shared) : Prop where
  ok : X.Ok
  os : s.os = X.s₀.os
  bare : AllBare s.gens
  base : Un X.fs X.ex X.H₀ H X.s₀.heap s.heap
  loc : ∃ m, s.heap.Ns X.env.locals m ∧ ∀ (i : Nat) (x : Str) (v : V), X.N[i]? = some x → σ[i]? = some (some v) → Vis X.env.scope x → ∃ u, RelV v u ∧ Look X.env s.heap m x u
  cell : ∀ x c, X.env.cells.lookup x = some c → ∃ v, s.heap.IsCell c v
  free : H X.env.locals = none
  freeC : ∀ x c, X.env.cells.lookup x = some c → H c = none
  pin : ∀ p ∈ X.pn ++ pins, s.heap.get? p.1 = some p.2 ∧ H p.1 = none ∧ p.1 ≠ X.env.locals ∧ p.1 ∉ X.fs ∧ ∀ v, p.2.data ≠ .cell v
  hok : HOk X.prog X.w H s.heap
  len : σ.length = X.N.length

section
variable {X : Cx} {pins : List (Addr × Obj)} {σ : List (Option V)} {H H' : Hp} {s : Shared} {h' : Heap}

theorem Cx.Ok.nofr (ok : X.Ok) {b : Addr} {o : Obj} (e : X.base.get? b = some o) : b ∉ X.fs := fun hb => by
  have := (ok.funs.mem hb).1
  rw [e] at this; cases this
theorem Inv.bs (I : Inv X pins σ H s) : ∀ b o, X.base.get? b = some o → s.heap.get? b = some o ∧ H b = none := fun b o e =>
  ⟨I.base.keep b o (I.ok.bs b o e).1 (I.ok.bs b o e).2 (I.ok.nofr e) (I.ok.noex b o e), I.base.free b o (I.ok.bs b o e).1 (I.ok.bs b o e).2 (I.ok.noex b o e)⟩
theorem Inv.bk (I : Inv X pins σ H s) : ∀ b o, X.base.get? b = some o → s.heap.get? b = some o := fun b o e => (I.bs b o e).1
theorem Inv.mod (I : Inv X pins σ H s) : Mod X.K X.mg X.base := I.ok.mod
theorem Inv.kIn (I : Inv X pins σ H s) : X.K.In s.heap := I.ok.mod.kin.keeps I.bk
theorem Inv.nolimit (I : Inv X pins σ H s) : s.heap.NoLimit := I.ok.mod.nolimit.keeps I.bk
/-- the frame over the base: for OpenK's rules (K.In X.base is I.mod.kin) -/
theorem Inv.fr (I : Inv X pins σ H s) : ∃ m, Fr X.base X.env.locals s.heap m :=
  let ⟨m, hn, _⟩ := I.loc
  ⟨m, hn, I.bk, Nat.le_trans I.ok.bsz I.ok.above⟩
theorem Inv.lt (I : Inv X pins σ H s) : X.env.locals < s.heap.objs.size := let ⟨_, hn, _⟩ := I.loc; hn.lt
theorem Inv.sz (I : Inv X pins σ H s) : X.s₀.heap.objs.size ≤ s.heap.objs.size := Nat.le_trans I.ok.above (Nat.le_of_lt I.lt)
theorem Inv.nofs (I : Inv X pins σ H s) {a : Addr} (h : s.heap.objs.size ≤ a) : a ∉ X.fs := fun hb => by
  obtain ⟨_, o, ho, _⟩ := I.ok.funs.mem hb
  exact absurd (Nat.lt_of_lt_of_le (Heap.lt_size ho) (Nat.le_trans I.sz h)) (Nat.lt_irrefl _)
theorem Inv.cne (I : Inv X pins σ H s) : ∀ x c, X.env.cells.lookup x = some c → c ≠ X.env.locals := fun x c e z => by
  obtain ⟨v, o, ho, hd⟩ := I.cell x c e
  obtain ⟨m, ⟨o', es, ep, ho', hd', _⟩, _⟩ := I.loc
  rw [z, ho'] at ho; cases ho; rw [hd'] at hd; cases hd
theorem Inv.funs (I : Inv X pins σ H s) : s.heap.FunFrames X.base X.outer := by
  have all : ∀ (l : List Env), (∀ b ∈ frs l, b ∈ X.fs) → X.s₀.heap.FunFrames X.base l → s.heap.FunFrames X.base l := by
    intro l
    induction l with
    | nil => intro _ _; trivial
    | cons env r ih =>
      intro hs hl
      obtain ⟨hk, ⟨L, o, hf, hn, ho, hd⟩, hr⟩ := hl
      have hL : L ∈ X.fs := hs L (by unfold frs; rw [List.filterMap_cons, hf]; exact List.mem_cons_self)
      obtain ⟨sl, e⟩ := I.base.slot L o ho (I.ok.frf L hL) hL fun z => I.ok.exfs L z hL
      exact ⟨hk, ⟨L, _, hf, hn, e, hd⟩, ih (fun b hb => hs b (by unfold frs; rw [List.filterMap_cons, hf]; exact List.mem_cons_of_mem _ hb)) hr⟩
  exact all X.outer (fun _ hb => hb) I.ok.funs

/-- the frames that run, for a call -/
theorem Inv.stack (I : Inv X pins σ H s) : s.heap.FunFrames X.base X.stack := by
  rcases I.ok.stk with e | ⟨e, hf⟩
  · rw [e]; exact I.funs
  · rw [e]
    obtain ⟨m, hn, _⟩ := I.loc
    refine .cons (by rw [I.ok.kind]; decide) hf hn ?_ I.funs
    exact Heap.get?_none_of_le (Nat.le_trans I.ok.bsz I.ok.above)
theorem Inv.stkSub (I : Inv X pins σ H s) : ∀ b ∈ frs X.stack, b ∈ X.env.locals :: X.fs := fun b hb => by
  rcases I.ok.stk with e | ⟨e, hf⟩
  · rw [e] at hb; exact List.mem_cons_of_mem _ hb
  · rw [e] at hb
    unfold frs at hb
    rw [List.filterMap_cons, hf] at hb
    exact hb
theorem Inv.stkFree (I : Inv X pins σ H s) : ∀ b ∈ frs X.stack, H b = none := fun b hb => by
  rcases List.mem_cons.mp (I.stkSub b hb) with e | hb
  · rw [e]; exact I.free
  · obtain ⟨_, o, ho, _⟩ := I.ok.funs.mem hb
    exact I.base.free b o ho (I.ok.frf b hb) fun z => I.ok.exfs b z hb

/-- THE STEP: the untracked objects but the frame and the records at ch are kept (the callers' frames up to slots), the frame's map is kept, the new abstract heap is held -/
theorem Inv.step {g' : Array GenState} {t' : Nat} {d' : Drawn} {ch : List Addr} (I : Inv X pins σ H s)
    (hch : ∀ b ∈ ch, (b ∈ X.ex ∨ X.s₀.heap.objs.size ≤ b) ∧ b ≠ X.env.locals ∧ (∀ x c, X.env.cells.lookup x = some c → c ≠ b) ∧ ∀ p ∈ X.pn ++ pins, p.1 ≠ b)
    (keep : ∀ b o, b ≠ X.env.locals → b ∉ X.fs → b ∉ ch → s.heap.get? b = some o → H b = none → h'.get? b = some o)
    (slot : ∀ b o, b ≠ X.env.locals → b ∈ X.fs → b ∉ ch → s.heap.get? b = some o → H b = none → ∃ sl, h'.get? b = some { o with slots := sl }) (free : ∀ b o, b ∉ ch → s.heap.get? b = some o → H b = none → H' b = none)
    (there : ∀ b o, b ∉ ch → s.heap.get? b = some o → ∃ o', h'.get? b = some o')
    (tups : ∀ b xs, H b = some (.tup xs) → H' b = some (.tup xs)) (frzs : ∀ b o u, H b = some (.frz o u) → H' b = some (.frz o u)) (tbls : ∀ b ps, H b = some (.tbl ps) → ∃ more, H' b = some (.tbl (ps ++ more)))
    (ns : ∀ m, s.heap.Ns X.env.locals m → h'.Ns X.env.locals m) (hok : HOk X.prog X.w H' h') (hg : AllBare g') :
    Inv X pins σ H' { s with heap := h', gens := g', drawn := d', toks := t' } := by
  have neL : ∀ b o, X.s₀.heap.get? b = some o → b ≠ X.env.locals := fun b o e => Nat.ne_of_lt (Nat.lt_of_lt_of_le (Heap.lt_size e) I.ok.above)
  have neC : ∀ b o, X.s₀.heap.get? b = some o → b ∉ X.ex → b ∉ ch := fun b o e hx hb => by
    rcases (hch b hb).1 with z | z
    · exact hx z
    · exact absurd (Nat.lt_of_lt_of_le (Heap.lt_size e) z) (Nat.lt_irrefl _)
  have cellK : ∀ x c, X.env.cells.lookup x = some c → ∀ v, s.heap.IsCell c v → h'.IsCell c v := fun x c e v ⟨o, ho, hd⟩ => by
    have nch : c ∉ ch := fun z => (hch c z).2.2.1 x c e rfl
    by_cases hc : c ∈ X.fs
    · obtain ⟨sl, q⟩ := slot c o (I.cne x c e) hc nch ho (I.freeC x c e)
      exact ⟨_, q, hd⟩
    · exact ⟨o, keep c o (I.cne x c e) hc nch ho (I.freeC x c e), hd⟩
  refine ⟨I.ok, I.os, hg, ⟨fun b o e n hb hx => ?_, fun b o e n hb hx => ?_, fun b o e n hx => ?_, fun b o e hx => ?_, fun b xs e => tups b xs (I.base.tups b xs e), fun b o xs e => frzs b o xs (I.base.frzs b o xs e), fun b ps e => ?_⟩, ?_, fun x c e => ?_, ?_, fun x c e => ?_, fun p hp => ?_, hok, I.len⟩
  · exact keep b o (neL b o e) hb (neC b o e hx) (I.base.keep b o e n hb hx) (I.base.free b o e n hx)
  · obtain ⟨sl, e1⟩ := I.base.slot b o e n hb hx
    obtain ⟨sl', e2⟩ := slot b _ (neL b o e) hb (neC b o e hx) e1 (I.base.free b o e n hx)
    exact ⟨sl', e2⟩
  · obtain ⟨o', e1⟩ := I.base.there b o e hx
    exact free b o' (neC b o e hx) e1 (I.base.free b o e n hx)
  · obtain ⟨o', e1⟩ := I.base.there b o e hx
    exact there b o' (neC b o e hx) e1
  · obtain ⟨m1, e1⟩ := I.base.tbls b ps e
    obtain ⟨m2, e2⟩ := tbls b _ e1
    exact ⟨m1 ++ m2, by rw [e2, Array.append_assoc]⟩
  · obtain ⟨m, hn, hl⟩ := I.loc
    refine ⟨m, ns m hn, fun i x v e1 e2 e3 => ?_⟩
    obtain ⟨u, r, l⟩ := hl i x v e1 e2 e3
    refine ⟨u, r, ?_⟩
    rcases l with l | ⟨k, c, e, z⟩
    · exact .inl l
    · exact .inr ⟨k, c, e, cellK x c e _ z⟩
  · obtain ⟨v, z⟩ := I.cell x c e
    exact ⟨v, cellK x c e v z⟩
  · obtain ⟨m, ⟨o, _, _, ho, _⟩, _⟩ := I.loc
    exact free _ o (fun z => (hch _ z).2.1 rfl) ho I.free
  · obtain ⟨v, o, ho, hd⟩ := I.cell x c e
    exact free c o (fun z => (hch c z).2.2.1 x c e rfl) ho (I.freeC x c e)
  · obtain ⟨e, n, ne, nf, d⟩ := I.pin p hp
    have nch : p.1 ∉ ch := fun z => (hch p.1 z).2.2.2 p hp rfl
    exact ⟨keep p.1 p.2 ne nf nch e n, free p.1 p.2 nch e n, ne, nf, d⟩
/-- .. where the frame's own object is kept too -/
theorem Inv.un {t' : Nat} (I : Inv X pins σ H s) (u : Un X.fs [] H H' s.heap h') (hok : HOk X.prog X.w H' h') : Inv X pins σ H' { s with heap := h', toks := t' } := by
  obtain ⟨m, ⟨o, es, ep, ho, r⟩, _⟩ := id I.loc
  obtain ⟨sl, hL⟩ := u.any ho I.free (by simp)
  exact I.step (g' := s.gens) (d' := s.drawn) (ch := []) (fun _ z => nomatch z) (fun b o _ hb _ e n => u.keep b o e n hb (by simp)) (fun b o _ hb _ e n => u.slot b o e n hb (by simp)) (fun b o _ e n => u.free b o e n (by simp)) (fun b o _ e => u.there b o e (by simp)) u.tups u.frzs u.tbls (fun m' hm => by
    obtain ⟨o', es', ep', ho', r'⟩ := hm
    rw [ho] at ho'; cases ho'
    exact ⟨_, es', ep', hL, r'⟩) hok I.bare
/-- behind a call (or a comprehension's block): the slots of this frame may have changed too, the records at ch may have turned -/
theorem Inv.call {g' : Array GenState} {t' : Nat} {d' : Drawn} {ch : List Addr} (I : Inv X pins σ H s) (u : Un (frs X.stack) ch H H' s.heap h') (hok : HOk X.prog X.w H' h') (hg : AllBare g')
    (hch : ∀ b ∈ ch, (b ∈ X.ex ∨ X.s₀.heap.objs.size ≤ b) ∧ b ≠ X.env.locals ∧ (∀ x c, X.env.cells.lookup x = some c → c ≠ b) ∧ ∀ p ∈ X.pn ++ pins, p.1 ≠ b) :
    Inv X pins σ H' { s with heap := h', gens := g', drawn := d', toks := t' } := by
  obtain ⟨m, ⟨o, es, ep, ho, r⟩, _⟩ := id I.loc
  obtain ⟨sl, hL⟩ := u.any ho I.free fun z => (hch _ z).2.1 rfl
  exact I.step (ch := ch) hch (fun b o hL hb hc e n => u.keep b o e n (fun z => (List.mem_cons.mp (I.stkSub b z)).elim hL hb) hc) (fun b o _ _ hc e n => u.any e n hc) (fun b o hc e n => u.free b o e n hc) (fun b o hc e => u.there b o e hc) u.tups u.frzs u.tbls (fun m' hm => by
    obtain ⟨o', es', ep', ho', r'⟩ := hm
    rw [ho] at ho'; cases ho'
    exact ⟨_, es', ep', hL, r'⟩) hok hg
/-- an untracked record of ours (an iterator) has turned -/
theorem Inv.turned {t' : Nat} {it : Addr} (I : Inv X pins σ H s) (k : ∀ b o, b ≠ it → s.heap.get? b = some o → h'.get? b = some o) (hn : H it = none) (hL : it ≠ X.env.locals)
    (h1 : it ∈ X.ex ∨ X.s₀.heap.objs.size ≤ it) (h2 : ∀ x c, X.env.cells.lookup x = some c → c ≠ it) (h3 : ∀ p ∈ X.pn ++ pins, p.1 ≠ it) : Inv X pins σ H { s with heap := h', toks := t' } := by
  have nit : ∀ b u, H b = some u → b ≠ it := fun b u e z => by rw [z, hn] at e; cases e
  refine I.step (g' := s.gens) (d' := s.drawn) (ch := [it]) (fun b hb => ?_) (fun b o _ _ hc e _ => k b o (fun z => hc (by simp [z])) e) (fun b o _ _ hc e _ => ⟨o.slots, k b o (fun z => hc (by simp [z])) e⟩) (fun _ _ _ _ n => n)
    (fun b o hc e => ⟨o, k b o (fun z => hc (by simp [z])) e⟩) (fun _ _ e => e) (fun _ _ _ e => e) (fun b ps e => ⟨#[], by rw [e]; simp⟩) (fun m hm => ?_) (fun b u e => ?_) I.bare
  · have e : b = it := by simpa using hb
    subst e
    exact ⟨h1, hL, h2, h3⟩
  · obtain ⟨o, es, ep, ho, r⟩ := hm
    exact ⟨o, es, ep, k _ o (Ne.symm hL) ho, r⟩
  · refine (I.hok b u e).stay (fun c v hc q => k c v ?_ q) (fun _ q => q) fun _ _ q => q
    rcases hc with z | z
    · rw [z]; exact nit b u e
    · exact nit c _ z
theorem Inv.tok (I : Inv X pins σ H s) (t : Nat) : Inv X pins σ H { s with toks := t } := I.un (h' := s.heap) (t' := t) Un.refl I.hok
/-- all objects kept -/
theorem Inv.kept {t' : Nat} (I : Inv X pins σ H s) (k : ∀ b u, s.heap.get? b = some u → h'.get? b = some u) : Inv X pins σ H { s with heap := h', toks := t' } := I.un (Un.kept k) (I.hok.kept k)
/-- a new object laid and tracked -/
theorem Inv.laid {a : Addr} {o : HO} {t' : Nat} (I : Inv X pins σ H s) (k : ∀ b u, s.heap.get? b = some u → h'.get? b = some u) (hp : s.heap.objs.size ≤ a) (new : ObjOk X.prog X.w (upd H a o) h' a o) :
    Inv X pins σ (upd H a o) { s with heap := h', toks := t' } := I.un (Un.laid k hp (I.hok.fresh hp)) (I.hok.laid k hp new)
/-- an object written -/
theorem Inv.write {x e : Addr} {o : HO} {t' : Nat} (I : Inv X pins σ H s) (mu : Mut (H x)) (he : e = x ∨ H e = some (.own x)) (k : ∀ b u, b ≠ e → s.heap.get? b = some u → h'.get? b = some u) (heo : ∃ u, h'.get? e = some u)
    (new : ObjOk X.prog X.w (upd H x o) h' x o) : Inv X pins σ (upd H x o) { s with heap := h', toks := t' } := I.un (Un.write mu he k heo) (I.hok.write mu he k heo new)
/-- forgetting slots, pins -/
theorem Inv.weak {σ' : List (Option V)} (I : Inv X pins σ H s) (hl : σ'.length = σ.length) (w : ∀ (i : Nat) v, σ'[i]? = some (some v) → σ[i]? = some (some v)) : Inv X pins σ' H s :=
  ⟨I.ok, I.os, I.bare, I.base, let ⟨m, hn, hl'⟩ := I.loc; ⟨m, hn, fun i x v e1 e2 e3 => hl' i x v e1 (w i v e2) e3⟩, I.cell, I.free, I.freeC, I.pin, I.hok, hl.trans I.len⟩
theorem Inv.pins_of {pins' : List (Addr × Obj)} (I : Inv X pins σ H s) (h : ∀ p ∈ pins', s.heap.get? p.1 = some p.2 ∧ H p.1 = none ∧ p.1 ≠ X.env.locals ∧ p.1 ∉ X.fs ∧ ∀ v, p.2.data ≠ .cell v) : Inv X pins' σ H s :=
  ⟨I.ok, I.os, I.bare, I.base, I.loc, I.cell, I.free, I.freeC, fun p hp => (List.mem_append.mp hp).elim (fun z => I.pin p (List.mem_append_left _ z)) (h p), I.hok, I.len⟩

theorem nodup_ix {N : List Str} (hN : N.Nodup) {i j : Nat} {x : Str} (a : N[i]? = some x) (b : N[j]? = some x) : i = j := by
  obtain ⟨h1, e1⟩ := List.getElem?_eq_some_iff.mp a
  obtain ⟨h2, e2⟩ := List.getElem?_eq_some_iff.mp b
  exact (List.getElem_inj hN).mp (e1.trans e2.symm)

/-- a name is stored; what changed -/
theorem store_ok2 {M : Model} {A : Around} {E : Value → Shared → Prop} {i : Nat} {x : Str} {v : V} {u : Value} {Q : Unit → Shared → Prop} (I : Inv X pins σ H s) (hN : X.N.Nodup) (hi : X.N[i]? = some x) (hx : Loc X.env.scope x) (r : RelV v u)
    (h : ∀ s', Inv X pins (σ.set i (some v)) H s' → (∃ a, Heap.SameBut a s.heap s'.heap ∧ (a = X.env.locals ∨ X.env.cells.lookup x = some a)) → Q () s') (hf : X.fn x = true ∨ X.env.scope.names.lookup x = some .local := by first | exact .inl rfl | exact .inr rfl | assumption) : wpAny M A (storeName X.env x u) Q E s := by
  obtain ⟨m, hn, hl⟩ := id I.loc
  have hcls : (X.env.scope.kind == .class || (X.env.scope.kind == .module && X.env.locals != X.env.globals)) = false := by rw [I.ok.kind]; rfl
  have hiσ : i < σ.length := by rw [I.len]; exact (List.getElem?_eq_some_iff.mp hi).1
  have cne := I.cne
  have tracked : ∀ {a : Addr} {h' : Heap}, (∃ o, s.heap.get? a = some o ∧ H a = none) → Heap.SameBut a s.heap h' → HOk X.prog X.w H h' := fun {a h'} ha hs b ob e => by
    obtain ⟨_, _, hfree⟩ := ha
    refine (I.hok b ob e).stay (fun c w' hc q => (hs.2 c ?_).trans q) (fun _ q => q) fun _ _ q => q
    rintro rfl
    rcases hc with rfl | hc
    · rw [hfree] at e; cases e
    · rw [hfree] at hc; cases hc
  rcases hx with hk | hk
  · refine wpAny_storeName_local hk hn (fun h' hn' hs => ?_) hcls
    obtain ⟨oL, _, _, hoL, _⟩ := id hn
    refine h _ ⟨I.ok, I.os, I.bare, ⟨fun b o e n hb hx => ?_, fun b o e n hb hx => ?_, I.base.free, fun b o e hx => ?_, I.base.tups, I.base.frzs, I.base.tbls⟩, ⟨_, hn', fun j y v' e1 e2 e3 => ?_⟩, fun y c e => ?_, I.free, I.freeC, fun p hp => ?_, tracked ⟨oL, hoL, I.free⟩ hs, by simpa using I.len⟩ ⟨_, hs, .inl rfl⟩
    · exact (hs.2 b (Nat.ne_of_lt (Nat.lt_of_lt_of_le (Heap.lt_size e) I.ok.above))).trans (I.base.keep b o e n hb hx)
    · obtain ⟨sl, e1⟩ := I.base.slot b o e n hb hx
      exact ⟨sl, (hs.2 b (Nat.ne_of_lt (Nat.lt_of_lt_of_le (Heap.lt_size e) I.ok.above))).trans e1⟩
    · obtain ⟨o', e1⟩ := I.base.there b o e hx
      exact ⟨o', (hs.2 b (Nat.ne_of_lt (Nat.lt_of_lt_of_le (Heap.lt_size e) I.ok.above))).trans e1⟩
    · by_cases hj : j = i
      · subst hj
        rw [hi] at e1; cases e1
        rw [List.getElem?_set_self hiσ] at e2
        cases e2
        exact ⟨u, r, .inl ⟨hk, by simp⟩⟩
      · rw [List.getElem?_set_ne (Ne.symm hj)] at e2
        obtain ⟨u', r', q⟩ := hl j y v' e1 e2 e3
        refine ⟨u', r', ?_⟩
        rcases q with ⟨k, e⟩ | ⟨k, c, e, z⟩
        · refine .inl ⟨k, ?_⟩
          have : y ≠ x := fun e => hj (nodup_ix hN e1 (e ▸ hi))
          simp [this, e]
        · exact .inr ⟨k, c, e, z.sameBut hs (cne y c e)⟩
    · obtain ⟨w', z⟩ := I.cell y c e
      exact ⟨w', z.sameBut hs (cne y c e)⟩
    · obtain ⟨e, n, ne, nf, d⟩ := I.pin p hp
      exact ⟨(hs.2 p.1 ne).trans e, n, ne, nf, d⟩
  · have hfn : X.fn x = true := by
      rcases hf with z | z
      · exact z
      · rw [z] at hk; cases hk
    obtain ⟨c, hc⟩ := I.ok.has x (.inl hk)
    obtain ⟨w', z⟩ := I.cell x c hc
    refine wpAny_storeName_cell I.ok.kind hk hc z (fun h' hc' hs => ?_)
    obtain ⟨oc, hoc, hocd⟩ := id z
    refine h { s with heap := h' } ⟨I.ok, I.os, I.bare, ⟨fun b o e n hb hx => ?_, fun b o e n hb hx => ?_, I.base.free, fun b o e hx => ?_, I.base.tups, I.base.frzs, I.base.tbls⟩, ⟨m, hn.sameBut hs (Ne.symm (cne x c hc)), fun j y v' e1 e2 e3 => ?_⟩, fun y c' e => ?_, I.free, I.freeC, fun p hp => ?_, tracked ⟨oc, hoc, I.freeC x c hc⟩ hs, by simpa using I.len⟩ ⟨c, hs, .inr hc⟩
    · exact (hs.2 b (Nat.ne_of_lt (Nat.lt_of_lt_of_le (Heap.lt_size e) (I.ok.cab x c hfn hc)))).trans (I.base.keep b o e n hb hx)
    · obtain ⟨sl, e1⟩ := I.base.slot b o e n hb hx
      exact ⟨sl, (hs.2 b (Nat.ne_of_lt (Nat.lt_of_lt_of_le (Heap.lt_size e) (I.ok.cab x c hfn hc)))).trans e1⟩
    · obtain ⟨o', e1⟩ := I.base.there b o e hx
      exact ⟨o', (hs.2 b (Nat.ne_of_lt (Nat.lt_of_lt_of_le (Heap.lt_size e) (I.ok.cab x c hfn hc)))).trans e1⟩
    · by_cases hj : j = i
      · subst hj
        rw [hi] at e1; cases e1
        rw [List.getElem?_set_self hiσ] at e2
        cases e2
        exact ⟨u, r, .inr ⟨.inl hk, c, hc, hc'⟩⟩
      · rw [List.getElem?_set_ne (Ne.symm hj)] at e2
        obtain ⟨u', r', q⟩ := hl j y v' e1 e2 e3
        refine ⟨u', r', ?_⟩
        rcases q with q | ⟨k, c', e, z'⟩
        · exact .inl q
        · refine .inr ⟨k, c', e, z'.sameBut hs ?_⟩
          rintro rfl
          exact hj (nodup_ix hN e1 (I.ok.inj _ _ _ e hc ▸ hi))
    · by_cases hcc : c' = c
      · subst hcc; exact ⟨_, hc'⟩
      · obtain ⟨w2, z2⟩ := I.cell y c' e
        exact ⟨w2, z2.sameBut hs hcc⟩
    · obtain ⟨e, n, ne, nf, d⟩ := I.pin p hp
      refine ⟨(hs.2 p.1 ?_).trans e, n, ne, nf, d⟩
      intro q
      rw [q, hoc] at e
      have q' : oc = p.2 := Option.some.inj e
      exact d w' (by rw [← q']; exact hocd)
theorem store_ok {M : Model} {A : Around} {E : Value → Shared → Prop} {i : Nat} {x : Str} {v : V} {u : Value} {Q : Unit → Shared → Prop} (I : Inv X pins σ H s) (hN : X.N.Nodup) (hi : X.N[i]? = some x) (hx : Loc X.env.scope x) (r : RelV v u)
    (h : ∀ s', Inv X pins (σ.set i (some v)) H s' → Q () s') (hf : X.fn x = true ∨ X.env.scope.names.lookup x = some .local := by first | exact .inl rfl | exact .inr rfl | assumption) : wpAny M A (storeName X.env x u) Q E s :=
  store_ok2 I hN hi hx r (fun s' I' _ => h s' I') hf
/-- behind a call or a block, the state as it is -/
theorem Inv.call' {s' : Shared} {ch : List Addr} (I : Inv X pins σ H s) (ho : s'.os = s.os) (u : Un (frs X.stack) ch H H' s.heap s'.heap) (hok : HOk X.prog X.w H' s'.heap) (hg : AllBare s'.gens)
    (hch : ∀ b ∈ ch, (b ∈ X.ex ∨ X.s₀.heap.objs.size ≤ b) ∧ b ≠ X.env.locals ∧ (∀ x c, X.env.cells.lookup x = some c → c ≠ b) ∧ ∀ p ∈ X.pn ++ pins, p.1 ≠ b) : Inv X pins σ H' s' := by
  obtain ⟨h', g', d', t', o'⟩ := s'
  have e : o' = s.os := ho
  subst e
  exact I.call (g' := g') (t' := t') (d' := d') u hok hg hch
end

/-! ### the judgements -/
/-- an exception: its class, its own dict's address (where it has one), the abstract heap behind it -/
abbrev XK := Value → Option Addr → Hp → Prop
abbrev St := List (Option V)
abbrev VK := V → Hp → Prop
/-- an expression's reading; a test's; an argument list's -/
abbrev TE := St → Hp → VK → Prop
abbrev TT := St → Hp → (Bool → Hp → Prop) → Prop
abbrev TA := St → Hp → (List V → Hp → Prop) → Prop
/-- what is wanted behind a statement -/
structure Ends where
  nx : St → Hp → Prop
  rt : VK
  bk : St → Hp → Prop := fun _ _ => False
  ct : St → Hp → Prop := fun _ _ => False
abbrev TS := Ends → St → Hp → Prop

def EP (X : Cx) (pins : List (Addr × Obj)) (σ : St) (Q : VK) (u : Value) (s' : Shared) : Prop := ∃ v H', Inv X pins σ H' s' ∧ RelV v u ∧ Q v H'
def TP (X : Cx) (pins : List (Addr × Obj)) (σ : St) (Q : Bool → Hp → Prop) (b : Bool) (s' : Shared) : Prop := ∃ H', Inv X pins σ H' s' ∧ Q b H'
def AP (X : Cx) (pins : List (Addr × Obj)) (σ : St) (Q : List V → Hp → Prop) (us : List Value) (s' : Shared) : Prop := ∃ vs H', Inv X pins σ H' s' ∧ Vals vs us ∧ Q vs H'
def SP (X : Cx) (pins : List (Addr × Obj)) (D : Ends) (f : Flow) (s' : Shared) : Prop :=
  match f with
  | .next => ∃ σ' H', Inv X pins σ' H' s' ∧ D.nx σ' H'
  | .brk => ∃ σ' H', Inv X pins σ' H' s' ∧ D.bk σ' H'
  | .cont => ∃ σ' H', Inv X pins σ' H' s' ∧ D.ct σ' H'
  | .ret u => ∃ v σ' H', Inv X pins σ' H' s' ∧ RelV v u ∧ D.rt v H'

def PE (X : Cx) (e : Expr) (t : TE) : Prop :=
  ∀ (pins : List (Addr × Obj)) (s : Shared) (σ : St) (H : Hp) (Q : VK), Inv X pins σ H s → t σ H Q → wpAny (model X.prog X.w) X.A (eval e X.env) (EP X pins σ Q) X.xe s
def PT (X : Cx) (e : Expr) (t : TT) : Prop :=
  ∀ (pins : List (Addr × Obj)) (s : Shared) (σ : St) (H : Hp) (Q : Bool → Hp → Prop), Inv X pins σ H s → t σ H Q → wpAny (model X.prog X.w) X.A (isTrue e X.env (eval e X.env)) (TP X pins σ Q) X.xe s
/-- a test whatever its 'whole' is (and, or) -/
def PW (X : Cx) (e : Expr) (t : TT) : Prop :=
  ∀ (whole : Sem Value) (pins : List (Addr × Obj)) (s : Shared) (σ : St) (H : Hp) (Q : Bool → Hp → Prop), Inv X pins σ H s → t σ H Q → wpAny (model X.prog X.w) X.A (isTrue e X.env whole) (TP X pins σ Q) X.xe s
theorem PW.pt {X : Cx} {e : Expr} {t : TT} (h : PW X e t) : PT X e t := h _
/-- an argument list (no star), from the left -/
def PA (X : Cx) (es : List Expr) (t : TA) : Prop :=
  ∀ (pos : Pos) (pins : List (Addr × Obj)) (s : Shared) (σ : St) (H : Hp) (Q : List V → Hp → Prop), Inv X pins σ H s → t σ H Q → wpAny (model X.prog X.w) X.A (spliced (backTo pos (starEach es X.env))) (AP X pins σ Q) X.xe s
def PS (X : Cx) (st : Stmt) (t : TS) : Prop :=
  ∀ (pins : List (Addr × Obj)) (s : Shared) (σ : St) (H : Hp) (D : Ends), Inv X pins σ H s → t D σ H → wpAny (model X.prog X.w) X.A (exec st X.env) (SP X pins D) X.xe s
def PSs (X : Cx) (st : List Stmt) (t : TS) : Prop :=
  ∀ (pins : List (Addr × Obj)) (s : Shared) (σ : St) (H : Hp) (D : Ends), Inv X pins σ H s → t D σ H → wpAny (model X.prog X.w) X.A (execs st X.env) (SP X pins D) X.xe s
/-- weaken the end -/
theorem thn {α : Type} {t : Sem α} {Q Q' : α → Shared → Prop} {M : Model} {A : Around} {E : Value → Shared → Prop} {s : Shared} (h : wpAny M A t Q E s) (hQ : ∀ a s, Q a s → Q' a s) : wpAny M A t Q' E s := wpAny_mono h hQ fun _ _ x => x
end L2

namespace L2
open PySem PySem.Spec PyProof.Rows
section
variable {X : Cx}

/-- two expressions in a row -/
theorem bin {a b : Expr} {ta tb : TE} (ha : PE X a ta) (hb : PE X b tb) {pins : List (Addr × Obj)} {s : Shared} {σ : St} {H : Hp} {R : V → V → Hp → Prop} (I : Inv X pins σ H s) (h : ta σ H fun x H1 => tb σ H1 fun y H2 => R x y H2)
    {α : Type} {Q : α → Shared → Prop} {f : Value → Value → Sem α}
    (hf : ∀ v u s2 x y H2, Inv X pins σ H2 s2 → RelV x v → RelV y u → R x y H2 → wpAny (model X.prog X.w) X.A (f v u) Q X.xe s2) :
    wpAny (model X.prog X.w) X.A (eval a X.env) (fun v s₁ => wpAny (model X.prog X.w) X.A (eval b X.env) (fun u s₂ => wpAny (model X.prog X.w) X.A (f v u) Q X.xe s₂) X.xe s₁) X.xe s := by
  refine thn (ha pins s σ H _ I h) fun v s1 ⟨x, H1, I1, r1, q1⟩ => ?_
  refine thn (hb pins s1 σ H1 _ I1 q1) fun u s2 ⟨y, H2, I2, r2, q2⟩ => ?_
  exact hf v u s2 x y H2 I2 r1 r2 q2

/-! ### names and constants -/
def tVar (i : Nat) : TE := fun σ H Q => ∃ v, σ[i]? = some (some v) ∧ Q v H
def tC (v : V) : TE := fun _ H Q => Q v H
theorem pe_var {i : Nat} {x : Str} {pos : Pos} (hN : X.N[i]? = some x) (hv : Vis X.env.scope x) (hd : (x == ("__debug__" : Str)) = false := by decide) (hcd : (x == ("__classdict__" : Str)) = false := by decide) : PE X (.Name x pos) (tVar i) := by
  intro pins s σ H Q I h
  obtain ⟨v, e, h⟩ := h
  obtain ⟨m, hn, hl⟩ := I.loc
  obtain ⟨u, r, l⟩ := hl i x v hN e hv
  have fin : EP X pins σ Q u s := ⟨v, H, I, r, h⟩
  rcases l with ⟨hk, hm⟩ | ⟨hk, c, hc, hcell⟩
  · exact wpAny_Name (wpAny_loadName_local I.ok.kind hk hn hm fin) hd
  · rcases hk with hk | hk
    · exact wpAny_Name (wpAny_loadName_cell I.ok.kind hk hc hcell fin) hd
    · exact wpAny_Name (wpAny_loadName_free I.ok.kind hk hc hcell fin hcd) hd
theorem pe_int {i j pos} : PE X (.Constant (.int i) j pos) (tC (.int i)) := fun _ _ _ H _ I h => wpAny_Constant_int ⟨.int i, H, I.tok _, ⟨_, rfl⟩, h⟩
theorem pe_bl {b j pos} : PE X (.Constant (.bool b) j pos) (tC (.bl b)) := fun _ _ _ H _ I h => Constant_bool ⟨.bl b, H, I, rfl, h⟩
theorem pe_non {j pos} : PE X (.Constant .none j pos) (tC .non) := fun _ _ _ H _ I h => Constant_none ⟨.non, H, I, rfl, h⟩
theorem pe_str {x j pos} : PE X (.Constant (.str x) j pos) (tC (.str x)) := fun _ _ _ H _ I h => Calls.Constant_str ⟨.str x, H, I.tok _, ⟨_, rfl⟩, h⟩

/-- a global name of the def -/
def Gl (X : Cx) (x : Str) : Prop := X.env.kindOf x = some .globalImplicit
theorem ld_glob {E : Value → Shared → Prop} {pins : List (Addr × Obj)} {s : Shared} {σ : St} {H : Hp} {x : Str} {u : Value} {pos : Pos} {Q : Value → Shared → Prop} (I : Inv X pins σ H s) (hg : Gl X x) (hm : X.mg x = some u) (h : Q u s)
    (hd : (x == ("__debug__" : Str)) = false := by decide) : wpAny (model X.prog X.w) X.A (eval (.Name x pos) X.env) Q E s :=
  Calls.Name_function_global I.ok.kind hg (Calls.loadGlobal_global (by rw [I.ok.glob]; exact I.mod.glob.keeps I.bk) hm h) hd
theorem ld_blt {E : Value → Shared → Prop} {pins : List (Addr × Obj)} {s : Shared} {σ : St} {H : Hp} {x : Str} {u : Value} {pos : Pos} {Q : Value → Shared → Prop} (I : Inv X pins σ H s) (hg : Gl X x) (hm : X.mg x = none) (hv : bootBuiltins x = some u) (h : Q u s)
    (hn : x ≠ "__name__" := by decide) (hd : (x == ("__debug__" : Str)) = false := by decide) : wpAny (model X.prog X.w) X.A (eval (.Name x pos) X.env) Q E s := by
  obtain ⟨mb, h1, h2⟩ := I.mod.blt
  exact Calls.Name_function_global I.ok.kind hg (Calls.loadGlobal_builtin (by rw [I.ok.glob]; exact I.mod.glob.keeps I.bk) hm (by rw [I.ok.blt]; exact h1.keeps I.bk) ((h2 x hn).trans hv) h) hd
/-- a module's constant, a class, a function, as a value -/
theorem pe_glob {x : Str} {v : V} {u : Value} {pos : Pos} (hg : Gl X x) (hm : X.mg x = some u) (r : RelV v u) (hd : (x == ("__debug__" : Str)) = false := by decide) : PE X (.Name x pos) (tC v) :=
  fun _ _ _ H _ I h => ld_glob I hg hm ⟨v, H, I, r, h⟩ hd
theorem pe_bltn {x : Str} {v : V} {u : Value} {pos : Pos} (hg : Gl X x) (hm : X.mg x = none) (hv : bootBuiltins x = some u) (r : RelV v u) (hn : x ≠ "__name__" := by decide) (hd : (x == ("__debug__" : Str)) = false := by decide) : PE X (.Name x pos) (tC v) :=
  fun _ _ _ H _ I h => ld_blt I hg hm hv ⟨v, H, I, r, h⟩ hn hd

/-! ### arithmetic -/
/-- two ints -/
def t2I (ta tb : TE) (k : Int → Int → Hp → Prop) : St → Hp → Prop := fun σ H => ta σ H fun x H1 => tb σ H1 fun y H2 => ∃ i j, x = .int i ∧ y = .int j ∧ k i j H2
def tAdd (ta tb : TE) : TE := fun σ H Q => t2I ta tb (fun i j H2 => Q (.int (i + j)) H2) σ H
def tSub (ta tb : TE) : TE := fun σ H Q => t2I ta tb (fun i j H2 => Q (.int (i - j)) H2) σ H
/-- the left factor below 2^64 -/
def tMul (ta tb : TE) : TE := fun σ H Q => t2I ta tb (fun i j H2 => (-(2 ^ 64) < i ∧ i < 2 ^ 64) ∧ Q (.int (i * j)) H2) σ H
variable {a b : Expr} {ta tb : TE} {pos : Pos}
theorem pe_add (ha : PE X a ta) (hb : PE X b tb) : PE X (.BinOp a .Add b pos) (tAdd ta tb) := by
  intro pins s σ H Q I h
  refine wpAny_BinOp (bin ha hb I h fun v u s2 x y H2 I2 rx ry q => ?_)
  obtain ⟨i, j, rfl, rfl, q⟩ := q
  obtain ⟨t, rfl⟩ := rx
  obtain ⟨t', rfl⟩ := ry
  exact add_int ⟨.int _, H2, I2.tok _, ⟨_, rfl⟩, q⟩
theorem pe_sub (ha : PE X a ta) (hb : PE X b tb) : PE X (.BinOp a .Sub b pos) (tSub ta tb) := by
  intro pins s σ H Q I h
  refine wpAny_BinOp (bin ha hb I h fun v u s2 x y H2 I2 rx ry q => ?_)
  obtain ⟨i, j, rfl, rfl, q⟩ := q
  obtain ⟨t, rfl⟩ := rx
  obtain ⟨t', rfl⟩ := ry
  exact sub_int ⟨.int _, H2, I2.tok _, ⟨_, rfl⟩, q⟩
theorem pe_mul (ha : PE X a ta) (hb : PE X b tb) : PE X (.BinOp a .Mult b pos) (tMul ta tb) := by
  intro pins s σ H Q I h
  refine wpAny_BinOp (bin ha hb I h fun v u s2 x y H2 I2 rx ry q => ?_)
  obtain ⟨i, j, rfl, rfl, ⟨q1, q2⟩, q⟩ := q
  obtain ⟨t, rfl⟩ := rx
  obtain ⟨t', rfl⟩ := ry
  exact mul_int ⟨.int _, H2, I2.tok _, ⟨_, rfl⟩, q⟩ (.of_left (intBits_le_64 q1 q2))

/-! ### comparisons -/
def PC (X : Cx) (op : CmpOp) (a b : Expr) (t : TE) : Prop :=
  ∀ (pins : List (Addr × Obj)) (s : Shared) (σ : St) (H : Hp) (Q : VK), Inv X pins σ H s → t σ H Q →
    wpAny (model X.prog X.w) X.A (eval a X.env) (fun v s₁ => wpAny (model X.prog X.w) X.A (eval b X.env) (fun u s₂ => wpAny (model X.prog X.w) X.A (compareOp op v u) (EP X pins σ Q) X.xe s₂) X.xe s₁) X.xe s
theorem nobehind (b : Expr) {op : CmpOp} (h : op ≠ .In) (h2 : op ≠ .NotIn) : behindInMarks op b = false := by
  have e1 : (op == CmpOp.In) = false := by cases op <;> first | rfl | exact absurd rfl h
  have e2 : (op == CmpOp.NotIn) = false := by cases op <;> first | rfl | exact absurd rfl h2
  cases b <;> simp [behindInMarks, e1, e2]
def tCmp (p : Int → Int → Bool) (ta tb : TE) : TE := fun σ H Q => t2I ta tb (fun i j H2 => Q (.bl (p i j)) H2) σ H
abbrev tLt : TE → TE → TE := tCmp fun i j => decide (i < j)
abbrev tLe : TE → TE → TE := tCmp fun i j => decide (i ≤ j)
abbrev tGt : TE → TE → TE := tCmp fun i j => decide (j < i)
abbrev tGe : TE → TE → TE := tCmp fun i j => decide (j ≤ i)
abbrev tEqI : TE → TE → TE := tCmp fun i j => decide (i = j)
abbrev tNeI : TE → TE → TE := tCmp fun i j => !decide (i = j)
/-- a comparison of two ints, by its rule -/
theorem pc_int {op : CmpOp} {p : Int → Int → Bool} (ha : PE X a ta) (hb : PE X b tb)
    (rule : ∀ (i j : Int) (t u : Tok) (Q : Value → Shared → Prop) (s : Shared), Q (.bool (p i j)) s → wpAny (model X.prog X.w) X.A (compareOp op (.int i t) (.int j u)) Q X.xe s) : PC X op a b (tCmp p ta tb) := by
  intro pins s σ H Q I h
  refine bin ha hb I h fun v u s2 x y H2 I2 rx ry q => ?_
  obtain ⟨i, j, rfl, rfl, q⟩ := q
  obtain ⟨t, rfl⟩ := rx
  obtain ⟨t', rfl⟩ := ry
  exact rule i j t t' _ s2 ⟨.bl _, H2, I2, rfl, q⟩
theorem pc_lt (ha : PE X a ta) (hb : PE X b tb) : PC X .Lt a b (tLt ta tb) := pc_int ha hb fun _ _ _ _ _ _ h => lt_int h
theorem pc_le (ha : PE X a ta) (hb : PE X b tb) : PC X .LtE a b (tLe ta tb) := pc_int ha hb fun _ _ _ _ _ _ h => le_int h
theorem pc_gt (ha : PE X a ta) (hb : PE X b tb) : PC X .Gt a b (tGt ta tb) := pc_int ha hb fun _ _ _ _ _ _ h => gt_int h
theorem pc_ge (ha : PE X a ta) (hb : PE X b tb) : PC X .GtE a b (tGe ta tb) := pc_int ha hb fun _ _ _ _ _ _ h => ge_int h
theorem pc_eqI (ha : PE X a ta) (hb : PE X b tb) : PC X .Eq a b (tEqI ta tb) := pc_int ha hb fun _ _ _ _ _ _ h => eq_int (by rw [Bool.beq_eq_decide_eq]; exact h)
theorem pc_neI (ha : PE X a ta) (hb : PE X b tb) : PC X .NotEq a b (tNeI ta tb) := pc_int ha hb fun _ _ _ _ _ _ h => ne_int (by rw [bne, Bool.beq_eq_decide_eq]; exact h)
/-- is None -/
def tIsN (ta : TE) : TE := fun σ H Q => ta σ H fun x H1 => Q (.bl (decide (x = .non))) H1
def tNotN (ta : TE) : TE := fun σ H Q => ta σ H fun x H1 => Q (.bl (!decide (x = .non))) H1
theorem RelV.none_iff {x : V} {v : Value} (r : RelV x v) : (v == Value.none) = decide (x = .non) := by
  cases x with
  | non => cases r; rfl
  | bl _ => cases r; rfl
  | int _ => obtain ⟨t, rfl⟩ := r; rfl
  | str _ => obtain ⟨t, rfl⟩ := r; rfl
  | byt _ => obtain ⟨t, rfl⟩ := r; rfl
  | flt _ => obtain ⟨t, rfl⟩ := r; rfl
  | ref _ => cases r; rfl
  | ty _ => cases r; rfl
theorem pc_isN {j pos'} (ha : PE X a ta) : PC X .Is a (.Constant .none j pos') (tIsN ta) := by
  intro pins s σ H Q I h
  refine thn (ha pins s σ H _ I h) fun v s1 ⟨x, H1, I1, r1, q1⟩ => ?_
  exact Constant_none (is_none_gen ⟨.bl _, H1, I1, by rw [r1.none_iff]; rfl, q1⟩)
theorem pc_notN {j pos'} (ha : PE X a ta) : PC X .IsNot a (.Constant .none j pos') (tNotN ta) := by
  intro pins s σ H Q I h
  refine thn (ha pins s σ H _ I h) fun v s1 ⟨x, H1, I1, r1, q1⟩ => ?_
  exact Constant_none (isnot_none_gen ⟨.bl _, H1, I1, by rw [r1.none_iff]; rfl, q1⟩)
/-- a comparison as a value, as a test -/
def tB (t : TE) : TT := fun σ H Q => t σ H fun x H1 => ∃ c, x = .bl c ∧ Q c H1
theorem pe_cmp {op : CmpOp} {t : TE} (h : PC X op a b t) (h1 : behindInMarks op b = false := by first | exact nobehind _ (by decide) (by decide) | rfl) : PE X (.Compare a [op] [b] pos) t := fun pins s σ H Q I hw => wpAny_Compare1 (h pins s σ H Q I hw) h1
theorem pt_cmp {op : CmpOp} {t : TE} (h : PC X op a b t) (h1 : behindInMarks op b = false := by first | exact nobehind _ (by decide) (by decide) | rfl) : PT X (.Compare a [op] [b] pos) (tB t) := by
  intro pins s σ H Q I hw
  refine wpAny_isTrue_Compare1 (thn (h pins s σ H _ I hw) fun v s1 h1 => thn h1 fun u s2 h2 => thn h2 fun c s3 ⟨x, H1, I1, r1, q1⟩ => ?_) h1
  obtain ⟨d, rfl, q⟩ := q1
  cases r1
  exact wpAny_truthy_bool ⟨H1, I1, q⟩
/-- an expression whose value is a bool, as a test -/
theorem pt_val {e : Expr} {t : TE} (h : PE X e t) (he : ∀ whole, isTrue e X.env whole = (do let v ← whole; standAt e.pos; holding [v] (truthy v)) := by intro _; rfl) : PT X e (tB t) := by
  intro pins s σ H Q I hw
  refine isTrue_plain (thn (h pins s σ H _ I hw) fun v s1 ⟨x, H1, I1, r1, q1⟩ => ?_) (he _)
  obtain ⟨d, rfl, q⟩ := q1
  cases r1
  exact wpAny_truthy_bool ⟨H1, I1, q⟩

/-! ### and, or, not -/
variable {tA tB' : TT} {rest : List Expr}
def tAnd (t u : TT) : TT := fun σ H Q => t σ H fun c H1 => if c = true then u σ H1 Q else Q false H1
def tOr (t u : TT) : TT := fun σ H Q => t σ H fun c H1 => if c = true then Q true H1 else u σ H1 Q
def tNot (t : TT) : TT := fun σ H Q => t σ H fun c H1 => Q (!c) H1
theorem pw_and1 (ha : PT X a tA) : PW X (.BoolOp .And [a] pos) tA := by
  intro wh pins s σ H Q I h
  refine isTrue_and (thn (ha pins s σ H Q I h) fun c s1 e => ?_)
  cases c with
  | true => exact isTrue_and_nil e
  | false => exact e
theorem pw_or1 (ha : PT X a tA) : PW X (.BoolOp .Or [a] pos) tA := by
  intro wh pins s σ H Q I h
  refine isTrue_or (thn (ha pins s σ H Q I h) fun c s1 e => ?_)
  cases c with
  | false => exact isTrue_or_nil e
  | true => exact e
theorem pw_and (ha : PT X a tA) (hb : PW X (.BoolOp .And (b :: rest) pos) tB') : PW X (.BoolOp .And (a :: b :: rest) pos) (tAnd tA tB') := by
  intro wh pins s σ H Q I h
  refine isTrue_and (thn (ha pins s σ H _ I h) fun c s1 ⟨H1, I1, q1⟩ => ?_)
  cases c with
  | true => exact hb wh pins s1 σ H1 Q I1 q1
  | false => exact ⟨H1, I1, q1⟩
theorem pw_or (ha : PT X a tA) (hb : PW X (.BoolOp .Or (b :: rest) pos) tB') : PW X (.BoolOp .Or (a :: b :: rest) pos) (tOr tA tB') := by
  intro wh pins s σ H Q I h
  refine isTrue_or (thn (ha pins s σ H _ I h) fun c s1 ⟨H1, I1, q1⟩ => ?_)
  cases c with
  | true => exact ⟨H1, I1, q1⟩
  | false => exact hb wh pins s1 σ H1 Q I1 q1
theorem pt_not (ha : PT X a tA) : PT X (.UnaryOp .Not a pos) (tNot tA) := by
  intro pins s σ H Q I h
  exact isTrue_not (ha pins s σ H (fun c H1 => Q (!c) H1) I h)
/-- .. as values (bools) -/
def tAndV (ta tb : TE) : TE := fun σ H Q => ta σ H fun x H1 => ∃ c, x = .bl c ∧ if c = true then tb σ H1 Q else Q (.bl false) H1
def tOrV (ta tb : TE) : TE := fun σ H Q => ta σ H fun x H1 => ∃ c, x = .bl c ∧ if c = true then Q (.bl true) H1 else tb σ H1 Q
def tNotV (ta : TE) : TE := fun σ H Q => ta σ H fun x H1 => ∃ c, x = .bl c ∧ Q (.bl (!c)) H1
theorem pe_one {op} {t : TE} (h : PE X a t) : PE X (.BoolOp op [a] pos) t := fun pins s σ H Q I hw => BoolOp_one (h pins s σ H Q I hw)
theorem pe_and (ha : PE X a ta) (hb : PE X (.BoolOp .And (b :: rest) pos) tb) : PE X (.BoolOp .And (a :: b :: rest) pos) (tAndV ta tb) := by
  intro pins s σ H Q I h
  refine BoolOp_and (thn (ha pins s σ H _ I h) fun v s1 ⟨x, H1, I1, r1, q1⟩ => ?_)
  obtain ⟨c, rfl, q1⟩ := q1
  cases r1
  refine wpAny_truthy_bool ?_
  cases c with
  | true => exact hb pins s1 σ H1 Q I1 q1
  | false => exact ⟨.bl false, H1, I1, rfl, q1⟩
theorem pe_or (ha : PE X a ta) (hb : PE X (.BoolOp .Or (b :: rest) pos) tb) : PE X (.BoolOp .Or (a :: b :: rest) pos) (tOrV ta tb) := by
  intro pins s σ H Q I h
  refine BoolOp_or (thn (ha pins s σ H _ I h) fun v s1 ⟨x, H1, I1, r1, q1⟩ => ?_)
  obtain ⟨c, rfl, q1⟩ := q1
  cases r1
  refine wpAny_truthy_bool ?_
  cases c with
  | false => exact hb pins s1 σ H1 Q I1 q1
  | true => exact ⟨.bl true, H1, I1, rfl, q1⟩
theorem pe_not (ha : PE X a ta) : PE X (.UnaryOp .Not a pos) (tNotV ta) := by
  intro pins s σ H Q I h
  refine UnaryOp_ (thn (ha pins s σ H _ I h) fun v s1 ⟨x, H1, I1, r1, q1⟩ => ?_)
  obtain ⟨c, rfl, q1⟩ := q1
  cases r1
  exact not_of (wpAny_truthy_bool ⟨.bl (!c), H1, I1, rfl, q1⟩)
/-- a if t else b -/
def tIf (t : TT) (ta tb : TE) : TE := fun σ H Q => t σ H fun c H1 => if c = true then ta σ H1 Q else tb σ H1 Q
theorem pe_ifExp {c : Expr} (hc : PT X c tA) (ha : PE X a ta) (hb : PE X b tb) : PE X (.IfExp c a b pos) (tIf tA ta tb) := by
  intro pins s σ H Q I h
  refine wpAny_IfExp (thn (hc pins s σ H _ I h) fun d s1 ⟨H1, I1, q1⟩ => ?_)
  cases d with
  | true => exact ha pins s1 σ H1 Q I1 q1
  | false => exact hb pins s1 σ H1 Q I1 q1
end
end L2

namespace L2
open PySem PySem.Spec PyProof.Rows

/-! ### a list, a tuple that is read: tracked, frozen, or an object of the module -/
def SqL (K : PySem.W.Frag) (H : Hp) (a : Addr) (xs : List V) : Prop :=
  Rd H a (.lst xs) ∨
    ∃ (o : Obj) (its : Array Value) (n : Nat), K.lookup a = some o ∧ o.cls = .type "list" ∧ o.dict = none ∧ o.data = .seq its n ∧ its.size ≤ sizeLine ∧ Vals xs its.toList
def SqT (K : PySem.W.Frag) (H : Hp) (a : Addr) (xs : List V) : Prop :=
  Rd H a (.tup xs) ∨
    ∃ (o : Obj) (its : Array Value) (n : Nat), K.lookup a = some o ∧ o.cls = .type "tuple" ∧ o.data = .seq its n ∧ its.size ≤ sizeLine ∧ Vals xs its.toList
def absV : Value → Option V
  | .none => some .non
  | .bool b => some (.bl b)
  | .int i _ => some (.int i)
  | .str x _ => some (.str x)
  | .bytes b _ => some (.byt b)
  | .float b _ => some (.flt b)
  | .ref a => some (.ref a)
  | .type n => some (.ty n)
  | _ => none
theorem RelV.abs {x : V} {u : Value} (r : RelV x u) : absV u = some x := by
  cases x with
  | non => cases r; rfl
  | bl _ => cases r; rfl
  | int _ => obtain ⟨t, rfl⟩ := r; rfl
  | str _ => obtain ⟨t, rfl⟩ := r; rfl
  | byt _ => obtain ⟨t, rfl⟩ := r; rfl
  | flt _ => obtain ⟨t, rfl⟩ := r; rfl
  | ref _ => cases r; rfl
  | ty _ => cases r; rfl
theorem RelV.inj {x y : V} {u : Value} (r : RelV x u) (q : RelV y u) : x = y := Option.some.inj (r.abs.symm.trans q.abs)
theorem Vals.inj : ∀ {xs ys : List V} {us : List Value}, Vals xs us → Vals ys us → xs = ys
  | _, _, _, .nil, .nil => rfl
  | _, _, _, .cons r t, .cons r' t' => by rw [r.inj r', Vals.inj t t']
section
variable {X : Cx} {pins : List (Addr × Obj)} {σ : St} {H : Hp} {s : Shared} {a : Addr} {xs ys : List V}
theorem SqL.of {K : PySem.W.Frag} (h : H a = some (.lst xs)) : SqL K H a xs := .inl (.inl h)
theorem SqT.of {K : PySem.W.Frag} (h : H a = some (.tup xs)) : SqT K H a xs := .inl (.inl h)
theorem Inv.list (I : Inv X pins σ H s) (h : SqL X.K H a xs) : ∃ its : List Value, Vals xs its ∧ PlainL s.heap a its.toArray ∧ xs.length ≤ sizeLine := by
  rcases h with h | ⟨o, its, n, hk, hc, hd, hs, hz, r⟩
  · obtain ⟨z, its, n, r, e⟩ := h.ok I.hok
    exact ⟨its, r, ⟨_, n, e, rfl, rfl, rfl⟩, z⟩
  · refine ⟨its.toList, r, ⟨o, n, I.kIn a o hk, hc, hd, by simpa using hs⟩, ?_⟩
    have e := r.length
    simp only [Array.length_toList] at e
    omega
theorem Inv.tuple (I : Inv X pins σ H s) (h : SqT X.K H a xs) : ∃ its : List Value, Vals xs its ∧ IsTup s.heap a its.toArray ∧ xs.length ≤ sizeLine := by
  rcases h with h | ⟨o, its, n, hk, hc, hs, hz, r⟩
  · obtain ⟨z, its, r, p⟩ := h.ok I.hok
    exact ⟨its, r, p, z⟩
  · refine ⟨its.toList, r, ⟨o, I.kIn a o hk, hc, n, by simpa using hs⟩, ?_⟩
    have e := r.length
    simp only [Array.length_toList] at e
    omega
theorem Inv.list_inj (I : Inv X pins σ H s) (h : SqL X.K H a xs) (h' : SqL X.K H a ys) : xs = ys := by
  obtain ⟨its, r, ⟨o, n, e, _, _, d⟩, _⟩ := I.list h
  obtain ⟨its', r', ⟨o', n', e', _, _, d'⟩, _⟩ := I.list h'
  rw [e] at e'; cases e'
  rw [d] at d'
  injection d' with d1 _
  have : its = its' := by simpa using congrArg Array.toList d1
  subst this
  exact r.inj r'
theorem Inv.tuple_inj (I : Inv X pins σ H s) (h : SqT X.K H a xs) (h' : SqT X.K H a ys) : xs = ys := by
  obtain ⟨its, r, ⟨o, e, _, n, d⟩, _⟩ := I.tuple h
  obtain ⟨its', r', ⟨o', e', _, n', d'⟩, _⟩ := I.tuple h'
  rw [e] at e'; cases e'
  rw [d] at d'
  injection d' with d1 _
  have : its = its' := by simpa using congrArg Array.toList d1
  subst this
  exact r.inj r'
end

/-! ### another wish about exceptions -/
abbrev Cx.wish (X : Cx) (E : Value → Shared → Prop) : Cx := { X with xe := E }
/-- no exception leaves -/
abbrev Cx.nox (X : Cx) : Cx := X.wish fun _ _ => False
theorem Cx.Ok.wish {X : Cx} (ok : X.Ok) (E : Value → Shared → Prop) : (X.wish E).Ok :=
  ⟨ok.mod, ok.kind, ok.glob, ok.blt, ok.above, ok.inj, ok.has, ok.cab, ok.hd, ok.frames, ok.stk, ok.exf, ok.bs, ok.bsz, ok.noex, ok.exfs, ok.funs, ok.frf⟩
theorem Cx.Ok.unwish {X : Cx} {E : Value → Shared → Prop} (ok : (X.wish E).Ok) : X.Ok :=
  ⟨ok.mod, ok.kind, ok.glob, ok.blt, ok.above, ok.inj, ok.has, ok.cab, ok.hd, ok.frames, ok.stk, ok.exf, ok.bs, ok.bsz, ok.noex, ok.exfs, ok.funs, ok.frf⟩
section
variable {X : Cx} {pins : List (Addr × Obj)} {σ : St} {H : Hp} {s : Shared} {E : Value → Shared → Prop}
theorem Inv.wish (I : Inv X pins σ H s) (E : Value → Shared → Prop) : Inv (X.wish E) pins σ H s := ⟨I.ok.wish E, I.os, I.bare, I.base, I.loc, I.cell, I.free, I.freeC, I.pin, I.hok, I.len⟩
theorem Inv.unwish (I : Inv (X.wish E) pins σ H s) : Inv X pins σ H s := ⟨I.ok.unwish, I.os, I.bare, I.base, I.loc, I.cell, I.free, I.freeC, I.pin, I.hok, I.len⟩
theorem SP.unwish {D : Ends} {f : Flow} {s' : Shared} (h : SP (X.wish E) pins D f s') : SP X pins D f s' := by
  cases f with
  | next => obtain ⟨σ', H', I, q⟩ := h; exact ⟨σ', H', I.unwish, q⟩
  | brk => obtain ⟨σ', H', I, q⟩ := h; exact ⟨σ', H', I.unwish, q⟩
  | cont => obtain ⟨σ', H', I, q⟩ := h; exact ⟨σ', H', I.unwish, q⟩
  | ret u => obtain ⟨v, σ', H', I, r, q⟩ := h; exact ⟨v, σ', H', I.unwish, r, q⟩
theorem PE.nox {e : Expr} {t : TE} (h : PE X.nox e t) : PE X e t := fun pins s σ H Q I hw =>
  wpAny_mono (h pins s σ H Q (I.wish _) hw) (fun _ _ ⟨v, H', I', r, q⟩ => ⟨v, H', I'.unwish, r, q⟩) fun _ _ z => False.elim z
theorem PT.nox {e : Expr} {t : TT} (h : PT X.nox e t) : PT X e t := fun pins s σ H Q I hw =>
  wpAny_mono (h pins s σ H Q (I.wish _) hw) (fun _ _ ⟨H', I', q⟩ => ⟨H', I'.unwish, q⟩) fun _ _ z => False.elim z
theorem PSs.nox {st : List Stmt} {t : TS} (h : PSs X.nox st t) : PSs X st t := fun pins s σ H D I hw =>
  wpAny_mono (h pins s σ H D (I.wish _) hw) (fun _ _ q => q.unwish) fun _ _ z => False.elim z
end

/-! ### blocks and small statements -/
section
variable {X : Cx} {st : Stmt} {rest : List Stmt} {t u : TS} {e : Expr} {te : TE} {pos : Pos}
def tNext : TS := fun D σ H => D.nx σ H
def tSeq (t u : TS) : TS := fun D σ H => t { D with nx := u D } σ H
theorem pss_nil : PSs X [] tNext := fun _ _ σ H _ I h => wpAny_execs_nil ⟨σ, H, I, h⟩
theorem pss_cons (h1 : PS X st t) (h2 : PSs X rest u) : PSs X (st :: rest) (tSeq t u) := by
  intro pins s σ H D I h
  refine wpAny_execs_cons (thn (h1 pins s σ H { D with nx := u D } I h) fun f s1 q => ?_)
  cases f with
  | next =>
    obtain ⟨σ', H', I', q⟩ := q
    exact h2 pins s1 σ' H' D I' q
  | ret v => exact q
  | brk => exact q
  | cont => exact q
theorem pss_one (h1 : PS X st t) : PSs X [st] t := by
  intro pins s σ H D I h
  refine wpAny_execs_cons (thn (h1 pins s σ H D I h) fun f s1 q => ?_)
  cases f with
  | next => exact wpAny_execs_nil q
  | ret v => exact q
  | brk => exact q
  | cont => exact q
def tBreak : TS := fun D σ H => D.bk σ H
def tCont : TS := fun D σ H => D.ct σ H
theorem ps_pass : PS X (.Pass pos) tNext := fun _ _ σ H _ I h => wpAny_Pass ⟨σ, H, I, h⟩
theorem ps_break : PS X (.Break pos) tBreak := fun _ _ σ H _ I h => wpAny_Break ⟨σ, H, I, h⟩
theorem ps_continue : PS X (.Continue pos) tCont := fun _ _ σ H _ I h => wpAny_Continue ⟨σ, H, I, h⟩
/-- in a def's body nothing is shown -/
theorem Inv.quiet {pins : List (Addr × Obj)} {σ : St} {H : Hp} {s : Shared} (I : Inv X pins σ H s) : interactive X.env = false := by simp [interactive, I.ok.kind]
/-- a docstring -/
theorem ps_doc {x j pos pos'} : PS X (.Expr (.Constant (.str x) j pos) pos') tNext := fun _ s σ H _ I h => wpAny_Expr (Calls.Constant_str (show SP X _ _ .next { s with toks := s.toks + 1 } from ⟨σ, H, I.tok _, h⟩)) I.quiet
/-- an expression whose value is dropped -/
def tDrop (te : TE) : TS := fun D σ H => te σ H fun _ H1 => D.nx σ H1
theorem ps_expr (he : PE X e te) (hs : swapsWith e none pos.line X.env = pure false := by rfl) : PS X (.Expr e pos) (tDrop te) := by
  intro pins s σ H D I h
  exact wpAny_Expr_any (thn (he pins s σ H _ I h) fun v s1 ⟨x, H1, I1, r1, q1⟩ => ⟨σ, H1, I1, q1⟩) I.quiet hs
def tRet (te : TE) : TS := fun D σ H => te σ H D.rt
theorem ps_ret (he : PE X e te) : PS X (.Return (some e) pos) (tRet te) := by
  intro pins s σ H D I h
  exact wpAny_Return_some (thn (he pins s σ H _ I h) fun v s1 ⟨x, H1, I1, r1, q1⟩ => ⟨x, σ, H1, I1, r1, q1⟩)
def tRetN : TS := fun D _ H => D.rt .non H
theorem ps_retN : PS X (.Return none pos) tRetN := fun _ _ σ H _ I h => wpAny_Return_none ⟨.non, σ, H, I, rfl, h⟩
def tIfS (c : TT) (t u : TS) : TS := fun D σ H => c σ H fun b H1 => if b = true then t D σ H1 else u D σ H1
theorem ps_if {c : Expr} {a b : List Stmt} {tc : TT} (hc : PT X c tc) (ha : PSs X a t) (hb : PSs X b u) : PS X (.If c a b pos) (tIfS tc t u) := by
  intro pins s σ H D I h
  refine wpAny_If (thn (hc pins s σ H _ I h) fun d s1 ⟨H1, I1, q1⟩ => ?_)
  cases d with
  | true => exact ha pins s1 σ H1 D I1 q1
  | false => exact hb pins s1 σ H1 D I1 q1
/-- code that the proof never comes to -/
def tNever : TS := fun _ _ _ => False
theorem ps_never : PS X st tNever := fun _ _ _ _ _ _ h => h.elim
theorem pss_never {sts : List Stmt} : PSs X sts tNever := fun _ _ _ _ _ _ h => h.elim
end

/-! ### targets -/
abbrev TG := V → St → Hp → (St → Hp → Prop) → Prop
abbrev TGs := List V → St → Hp → (St → Hp → Prop) → Prop
def PG (X : Cx) (target : Expr) (t : TG) : Prop :=
  ∀ (pins : List (Addr × Obj)) (s : Shared) (σ : St) (H : Hp) (v : V) (u : Value) (Q : St → Hp → Prop), Inv X pins σ H s → RelV v u → t v σ H Q →
    wpAny (model X.prog X.w) X.A (assign target X.env u) (fun _ s' => ∃ σ' H', Inv X pins σ' H' s' ∧ Q σ' H') X.xe s
/-- several targets, one after another -/
def PGs (X : Cx) (ts : List Expr) (t : TGs) : Prop :=
  ∀ (pins : List (Addr × Obj)) (s : Shared) (σ : St) (H : Hp) (vs : List V) (us : List Value) (Q : St → Hp → Prop), Inv X pins σ H s → Vals vs us → t vs σ H Q →
    wpAny (model X.prog X.w) X.A (assignInOrder ((assignEach ts X.env).map (·.2)) us) (fun _ s' => ∃ σ' H', Inv X pins σ' H' s' ∧ Q σ' H') X.xe s
/-- o[i] = v, by values -/
abbrev TSet := V → V → V → Hp → (Hp → Prop) → Prop
def PSet (X : Cx) (t : TSet) : Prop :=
  ∀ (pins : List (Addr × Obj)) (s : Shared) (σ : St) (H : Hp) (o i v : V) (ov iv u : Value) (Q : Hp → Prop), Inv X pins σ H s → RelV o ov → RelV i iv → RelV v u → t o i v H Q →
    wpAny (model X.prog X.w) X.A (setItem ov iv u) (fun _ s' => ∃ H', Inv X pins σ H' s' ∧ Q H') X.xe s
/-- a op= b, by values -/
abbrev TIp := V → V → Hp → VK → Prop
def PIp (X : Cx) (op : Operator) (t : TIp) : Prop :=
  ∀ (pins : List (Addr × Obj)) (s : Shared) (σ : St) (H : Hp) (x y : V) (v u : Value) (Q : VK), Inv X pins σ H s → RelV x v → RelV y u → t x y H Q →
    wpAny (model X.prog X.w) X.A (inplaceOp op v u) (EP X pins σ Q) X.xe s
section
variable {X : Cx} {pos : Pos}
def gName (i : Nat) : TG := fun v σ H Q => Q (σ.set i (some v)) H
theorem pg_name {i : Nat} {x : Str} (hN : X.N.Nodup) (hi : X.N[i]? = some x) (hx : Loc X.env.scope x) (hf : X.fn x = true ∨ X.env.scope.names.lookup x = some .local := by first | exact .inl rfl | exact .inr rfl | assumption) : PG X (.Name x pos) (gName i) := by
  intro pins s σ H v u Q I r h
  exact wpAny_assign_Name (store_ok I hN hi hx r (fun s' I' => ⟨_, H, I', h⟩) hf)
def gNil : TGs := fun vs σ H Q => vs = [] ∧ Q σ H
def gCons (t : TG) (u : TGs) : TGs := fun vs σ H Q => ∃ v r, vs = v :: r ∧ t v σ H fun σ' H' => u r σ' H' Q
theorem pgs_nil : PGs X [] gNil := by
  intro pins s σ H vs us Q I r h
  obtain ⟨e, h⟩ := h
  subst e
  cases r
  exact assignInOrder_nil ⟨σ, H, I, h⟩
theorem pgs_cons {e : Expr} {es : List Expr} {t : TG} {u : TGs} (h1 : PG X e t) (h2 : PGs X es u)
    (hs : (assignEach (e :: es) X.env).map (·.2) = assign e X.env :: (assignEach es X.env).map (·.2) := by rfl) : PGs X (e :: es) (gCons t u) := by
  intro pins s σ H vs us Q I r h
  obtain ⟨v, vr, e1, h⟩ := h
  subst e1
  cases r with
  | cons r rr =>
    rw [hs]
    refine assignInOrder_cons (thn (h1 pins s σ H _ _ _ I r h) fun _ s1 ⟨σ1, H1, I1, q1⟩ => ?_)
    exact h2 pins s1 σ1 H1 _ _ Q I1 rr q1
/-- (a, b, ..) = a tuple of that length -/
def gTup (K : PySem.W.Frag) (n : Nat) (t : TGs) : TG := fun v σ H Q => ∃ a xs, v = .ref a ∧ SqT K H a xs ∧ xs.length = n ∧ t xs σ H Q
theorem pg_tup {es : List Expr} {k : Nat} {t : TGs} {n : Nat} (hc : X.calm = true) (h : PGs X es t)
    (hn : (assignEach es X.env).length = n := by rfl) (hst : (assignEach es X.env).findIdx? (·.1) = none := by rfl) : PG X (.Tuple es k pos) (gTup X.K n t) := by
  intro pins s σ H v u Q I r hw
  obtain ⟨a, xs, e1, hq, hl, hw⟩ := hw
  subst e1
  cases r
  obtain ⟨its, rv, ht, hz⟩ := I.tuple hq
  refine assign_Tuple_tuple (I.ok.hd hc) ht (by simp [hn, ← hl, rv.length]) hst fun h' hx => ?_
  have I1 : Inv X pins σ H { s with heap := h' } := I.kept (t' := s.toks) fun b o e => hx b o (Nat.ne_of_lt (Heap.lt_size e)) e
  exact h pins _ σ H xs _ Q I1 (by simpa using rv) hw
/-- o[i] = .. -/
def gSub (to ti : TE) (t : TSet) : TG := fun v σ H Q => to σ H fun o H1 => ti σ H1 fun i H2 => t o i v H2 fun H3 => Q σ H3
theorem pg_sub {o i : Expr} {to ti : TE} {t : TSet} (ho : PE X o to) (hi : PE X i ti) (hs : PSet X t)
    (ha : ∀ v, assign (.Subscript o i pos) X.env v = (do
      let ov ← holding [v] (eval o X.env)
      let iv ← holding [v, ov] (eval i X.env)
      standAt pos
      holding [v, ov, iv] (setItem ov iv v)
      release [v, ov, iv] []) := by intro _; rfl) : PG X (.Subscript o i pos) (gSub to ti t) := by
  intro pins s σ H v u Q I r h
  rw [ha]
  refine wpAny_bind (wpAny_holding (thn (ho pins s σ H _ I h) fun ov s1 ⟨x, H1, I1, r1, q1⟩ => ?_))
  refine wpAny_bind (wpAny_holding (thn (hi pins s1 σ H1 _ I1 q1) fun iv s2 ⟨y, H2, I2, r2, q2⟩ => ?_))
  refine wpAny_bind (wpAny_standAt (wpAny_bind (wpAny_holding (thn (hs pins s2 σ H2 x y v ov iv u _ I2 r1 r2 r q2) fun _ s3 ⟨H3, I3, q3⟩ => ?_))))
  exact wpAny_release ⟨σ, H3, I3, q3⟩
/-- target = value -/
def tAsg (te : TE) (g : TG) : TS := fun D σ H => te σ H fun x H1 => g x σ H1 D.nx
theorem ps_asg {tg e : Expr} {te : TE} {g : TG} (he : PE X e te) (hg : PG X tg g) (hs : swapsWithSole [tg] e pos.line X.env = pure false := by rfl) (hw : swappedStores [tg] e X.env = pure none := by rfl)
    (h1 : (assignEach [tg] X.env).map (·.2) = [assign tg X.env] := by rfl) : PS X (.Assign [tg] e pos) (tAsg te g) := by
  intro pins s σ H D I h
  refine wpAny_Assign_stores (thn (he pins s σ H _ I h) fun v s1 ⟨x, H1, I1, r1, q1⟩ => ?_) hs hw
  rw [h1]
  exact thn (hg pins s1 σ H1 x v _ I1 r1 q1) fun _ s2 q => q
/-- name = value -/
theorem ps_set {i : Nat} {x : Str} {e : Expr} {te : TE} {pos' : Pos} (hN : X.N.Nodup) (hi : X.N[i]? = some x) (hx : Loc X.env.scope x) (he : PE X e te) (hs : swapsWith e (some (.Name x pos')) pos.line X.env = pure false := by rfl) (hf : X.fn x = true ∨ X.env.scope.names.lookup x = some .local := by first | exact .inl rfl | exact .inr rfl | assumption) :
    PS X (.Assign [.Name x pos'] e pos) (tAsg te (gName i)) := by
  intro pins s σ H D I h
  refine wpAny_Assign_Name (thn (he pins s σ H _ I h) fun v s1 ⟨y, H1, I1, r1, q1⟩ => ?_) hs
  exact store_ok I1 hN hi hx r1 (fun s2 I2 => ⟨_, H1, I2, q1⟩) hf
/-- a, b = x, y with plain local names: stored from the right; the pair itself is not tracked (the opening rows as in PyProof/Rows/TupAssign.lean:23) -/
def tPar (i j : Nat) (ta : TA) : TS := fun D σ H => ta σ H fun vs H1 => ∃ v w, vs = [v, w] ∧ D.nx ((σ.set i (some v)).set j (some w)) H1
theorem ps_par {i j : Nat} {x y : Str} {a b : Expr} {ta : TA} {px py pt : Pos} {kt k2 pt2} (hc : X.calm = true) (hN : X.N.Nodup) (hi : X.N[i]? = some x) (hj : X.N[j]? = some y) (hij : i ≠ j)
    (hx : X.env.scope.names.lookup x = some .local) (hy : X.env.scope.names.lookup y = some .local) (ha : PA X [a, b] ta)
    (hw : swappedStores [.Tuple [.Name x px, .Name y py] kt pt] (.Tuple [a, b] k2 pt2) X.env = pure (some [x, y]))
    (hs : swapsWithSole [.Tuple [.Name x px, .Name y py] kt pt] (.Tuple [a, b] k2 pt2) pos.line X.env = pure false := by rfl) :
    PS X (.Assign [.Tuple [.Name x px, .Name y py] kt pt] (.Tuple [a, b] k2 pt2) pos) (tPar i j ta) := by
  intro pins s σ H D I h
  rw [exec_Assign_arm]
  refine wpAny_bind (wpAny_standAt ?_)
  rw [hs]
  refine wpAny_bind (wpAny_pure ?_)
  rw [if_neg (by decide)]
  refine wpAny_bind (Tuple_ (thn (ha _ pins s σ H _ I h) fun us s1 ⟨vs, H1, I1, r1, q1⟩ => ?_))
  obtain ⟨v, w, e1, q1⟩ := q1
  subst e1
  obtain ⟨u1, u2, rfl, rv, rw'⟩ : ∃ u1 u2, us = [u1, u2] ∧ RelV v u1 ∧ RelV w u2 := by
    cases r1 with
    | cons p q =>
      cases q with
      | cons p' q' =>
        cases q'
        exact ⟨_, _, rfl, p, p'⟩
  refine wpAny_newObj_type ?_ (by show 2 ≤ sizeLine; decide)
  have I2 : Inv X pins σ H1 { s1 with heap := s1.heap.push { cls := .type "tuple", data := .seq [u1, u2].toArray } } := I1.kept (t' := s1.toks) fun b o e => Heap.get?_push_of_some _ e
  rw [hw]
  refine wpAny_bind (wpAny_pure ?_)
  show wpAny (model X.prog X.w) X.A (do rule "assign.swapped-stores"; let items ← unpackItems (.ref s1.heap.objs.size) 2 none; assignInOrder [fun v => bindName X.env y v, fun v => bindName X.env x v] items.reverse; pure Flow.next) _ _ _
  refine wpAny_bind (wpAny_rule (wpAny_bind (unpackItems_tuple (items := #[u1, u2]) (I.ok.hd hc) (IsTup.new s1.heap _) fun h' hx' => ?_)))
  have I3 := I2.kept (h' := h') (t' := s1.toks) fun b o e => hx' b o (Nat.ne_of_lt (Heap.lt_size e)) e
  show wpAny _ _ (assignInOrder [fun v => bindName X.env y v, fun v => bindName X.env x v] [u2, u1] >>= fun _ => pure Flow.next) _ _ _
  refine wpAny_bind (assignInOrder_cons (wpAny_bindName (store_ok I3 hN hj (.inl hy) rw' (fun s2 I4 => ?_) (.inr hy))))
  refine assignInOrder_cons (wpAny_bindName (store_ok I4 hN hi (.inl hx) rv (fun s3 I5 => assignInOrder_nil (wpAny_pure ?_)) (.inr hx)))
  rw [List.set_comm _ _ (Ne.symm hij)] at I5
  exact ⟨_, H1, I5, q1⟩
/-- name op= e -/
def tAug (i : Nat) (te : TE) (ti : TIp) : TS := fun D σ H => ∃ x, σ[i]? = some (some x) ∧ te σ H fun y H1 => ti x y H1 fun z H2 => D.nx (σ.set i (some z)) H2
theorem ps_aug {i : Nat} {x : Str} {e : Expr} {te : TE} {op : Operator} {ti : TIp} {pos' : Pos} (hN : X.N.Nodup) (hi : X.N[i]? = some x) (hx : Loc X.env.scope x) (he : PE X e te) (ho : PIp X op ti) (hf : X.fn x = true ∨ X.env.scope.names.lookup x = some .local := by first | exact .inl rfl | exact .inr rfl | assumption) :
    PS X (.AugAssign (.Name x pos') op e pos) (tAug i te ti) := by
  intro pins s σ H D I h
  obtain ⟨v, e1, h⟩ := h
  obtain ⟨m, hn, hl⟩ := I.loc
  have vis : Vis X.env.scope x := by rcases hx with k | k; exact .inl k; exact .inr (.inl k)
  obtain ⟨u, r, l⟩ := hl i x v hi e1 vis
  refine wpAny_AugAssign_Name ?_
  have go : wpAny (model X.prog X.w) X.A (eval e X.env) (fun w s₂ => wpAny (model X.prog X.w) X.A (inplaceOp op u w) (fun r s₃ => wpAny (model X.prog X.w) X.A (storeName X.env x r) (fun _ => SP X pins D .next) X.xe s₃) X.xe s₂) X.xe s := by
    refine thn (he pins s σ H _ I h) fun w s1 ⟨y, H1, I1, r1, q1⟩ => ?_
    refine thn (ho pins s1 σ H1 v y u w _ I1 r r1 q1) fun z s2 ⟨zv, H2, I2, r2, q2⟩ => ?_
    exact store_ok I2 hN hi hx r2 (fun s3 I3 => ⟨_, H2, I3, q2⟩) hf
  rcases l with ⟨hk, hm⟩ | ⟨hk, c, hc, hcell⟩
  · exact wpAny_loadName_local I.ok.kind hk hn hm go
  · rcases hk with hk | hk
    · exact wpAny_loadName_cell I.ok.kind hk hc hcell go
    · rcases hx with k | k
      · have : X.env.scope.names.lookup x = some .free := hk
        rw [k] at this; cases this
      · have : X.env.scope.names.lookup x = some .free := hk
        rw [k] at this; cases this
/-- o[i] op= e -/
def tAugS (to ti te : TE) (tget : V → V → Hp → VK → Prop) (tip : TIp) (tset : TSet) : TS := fun D σ H => to σ H fun o H1 => ti σ H1 fun i H2 => tget o i H2 fun x H3 => te σ H3 fun y H4 => tip x y H4 fun z H5 => tset o i z H5 fun H6 => D.nx σ H6
/-- o[i], by values -/
def PGet (X : Cx) (t : V → V → Hp → VK → Prop) : Prop :=
  ∀ (pins : List (Addr × Obj)) (s : Shared) (σ : St) (H : Hp) (o i : V) (ov iv : Value) (Q : VK), Inv X pins σ H s → RelV o ov → RelV i iv → t o i H Q →
    wpAny (model X.prog X.w) X.A (getItem ov iv) (EP X pins σ Q) X.xe s
theorem ps_augS {o i e : Expr} {to ti te : TE} {tget : V → V → Hp → VK → Prop} {tip : TIp} {tset : TSet} {op : Operator} {tpos : Pos} (ho : PE X o to) (hi : PE X i ti) (hg : PGet X tget) (he : PE X e te) (hp : PIp X op tip) (hs : PSet X tset)
    (ha : ∀ ov iv new, augStore i ov iv new = (do holding [new, ov, iv] (setItem ov iv new); release [new, ov, iv] []; pure .next) := by intros; rfl) : PS X (.AugAssign (.Subscript o i tpos) op e pos) (tAugS to ti te tget tip tset) := by
  intro pins s σ H D I h
  refine wpAny_AugAssign_SubscriptAny (thn (ho pins s σ H _ I h) fun ov s1 ⟨x1, H1, I1, r1, q1⟩ => ?_) ha
  refine thn (hi pins s1 σ H1 _ I1 q1) fun iv s2 ⟨x2, H2, I2, r2, q2⟩ => ?_
  refine thn (hg pins s2 σ H2 x1 x2 ov iv _ I2 r1 r2 q2) fun old s3 ⟨x3, H3, I3, r3, q3⟩ => ?_
  refine thn (he pins s3 σ H3 _ I3 q3) fun v s4 ⟨x4, H4, I4, r4, q4⟩ => ?_
  refine thn (hp pins s4 σ H4 x3 x4 old v _ I4 r3 r4 q4) fun new s5 ⟨x5, H5, I5, r5, q5⟩ => ?_
  exact thn (hs pins s5 σ H5 x1 x2 x5 ov iv new _ I5 r1 r2 r5 q5) fun _ s6 ⟨H6, I6, q6⟩ => ⟨σ, H6, I6, q6⟩
/-- ints -/
def ipI (f : Int → Int → Int) : TIp := fun x y H Q => ∃ i j, x = .int i ∧ y = .int j ∧ Q (.int (f i j)) H
theorem ip_add : PIp X .Add (ipI fun i j => i + j) := by
  intro pins s σ H x y v u Q I r1 r2 h
  obtain ⟨i, j, e1, e2, q⟩ := h
  subst e1; subst e2
  obtain ⟨t, rfl⟩ := r1
  obtain ⟨t', rfl⟩ := r2
  exact iadd_int ⟨.int _, H, I.tok _, ⟨_, rfl⟩, q⟩
theorem ip_sub : PIp X .Sub (ipI fun i j => i - j) := by
  intro pins s σ H x y v u Q I r1 r2 h
  obtain ⟨i, j, e1, e2, q⟩ := h
  subst e1; subst e2
  obtain ⟨t, rfl⟩ := r1
  obtain ⟨t', rfl⟩ := r2
  exact isub_int ⟨.int _, H, I.tok _, ⟨_, rfl⟩, q⟩
end

/-! ### while -/
section
variable {X : Cx} {pos : Pos}
/-- the invariant W with its measure -/
def tWhile (c : TT) (tb : TS) : TS := fun D σ H => ∃ W : Nat → St → Hp → Prop, (∃ m, W m σ H) ∧ ∀ m σ H, W m σ H →
  c σ H fun b H1 => if b = true then ∃ N : St → Hp → Prop, (∀ σ' H', N σ' H' → ∃ m', m' < m ∧ W m' σ' H') ∧ tb { D with nx := N, ct := N, bk := D.nx } σ H1 else D.nx σ H1
theorem ps_while {c : Expr} {body : List Stmt} {tc : TT} {tb : TS} (hp : PassesOwn (model X.prog X.w) X.A X.env X.xe) (hc : PT X c tc) (hb : PSs X body tb) : PS X (.While c body [] pos) (tWhile tc tb) := by
  intro pins s σ H D I h
  obtain ⟨W, ⟨m0, w0⟩, turn⟩ := h
  refine wpAny_While (codeAny_whileLoop (fun n s' => ∃ σ' H', Inv X pins σ' H' s' ∧ W n σ' H') ?_ m0 ⟨σ, H, I, w0⟩)
  rintro n s1 ⟨σ1, H1, I1, w1⟩
  refine wpAny_passesOwn hp (thn (hc pins s1 σ1 H1 _ I1 (turn n σ1 H1 w1)) fun b s2 ⟨H2, I2, q2⟩ => ?_)
  cases b with
  | true =>
    obtain ⟨N, hN, q2⟩ := q2
    rw [if_pos rfl]
    refine wpAny_passesOwn hp (thn (hb pins s2 σ1 H2 _ I2 q2) fun f s3 q3 => ?_)
    cases f with
    | next =>
      obtain ⟨σ3, H3, I3, n3⟩ := q3
      obtain ⟨m', hm, w3⟩ := hN σ3 H3 n3
      exact ⟨m', hm, σ3, H3, I3, w3⟩
    | cont =>
      obtain ⟨σ3, H3, I3, n3⟩ := q3
      obtain ⟨m', hm, w3⟩ := hN σ3 H3 n3
      exact ⟨m', hm, σ3, H3, I3, w3⟩
    | brk => exact q3
    | ret v => exact q3
  | false =>
    rw [if_neg Bool.false_ne_true]
    exact wpAny_execs_nil ⟨σ1, H2, I2, q2⟩
end

/-! ### what a loop or a comprehension walks -/
/-- at turn i: it yields x (the heap may grow), or it stops -/
structure It where
  go : Nat → Hp → Prop
  yld : Nat → Hp → V → Hp → Prop
  stop : Nat → Hp → Prop
/-- the iterator's own objects may turn: they are not the frame's, not pinned, younger than the entry (or a comprehension's own) -/
def FpOk (X : Cx) (pins : List (Addr × Obj)) (H : Hp) (b : Addr) : Prop :=
  H b = none ∧ b ≠ X.env.locals ∧ b ∉ X.fs ∧ (b ∈ X.ex ∨ X.s₀.heap.objs.size ≤ b) ∧ (∀ x c, X.env.cells.lookup x = some c → c ≠ b) ∧ ∀ p ∈ X.pn ++ pins, p.1 ≠ b
theorem Inv.fpOk {X : Cx} {pins : List (Addr × Obj)} {σ : St} {H H' : Hp} {s : Shared} {b : Addr} (I : Inv X pins σ H s) (hb : s.heap.objs.size ≤ b) (hn : H' b = none) : FpOk X pins H' b := by
  refine ⟨hn, Nat.ne_of_gt (Nat.lt_of_lt_of_le I.lt hb), I.nofs hb, .inr (Nat.le_trans I.sz hb), fun x c e z => ?_, fun p hp z => ?_⟩
  · obtain ⟨v, q⟩ := I.cell x c e
    exact absurd (Nat.lt_of_lt_of_le q.lt (by rw [z]; exact hb)) (Nat.lt_irrefl _)
  · exact absurd (Nat.lt_of_lt_of_le (Heap.lt_size (I.pin p hp).1) (by rw [z]; exact hb)) (Nat.lt_irrefl _)
structure Turn (P : Program) (w : World) (K : PySem.W.Frag) (tg : Expr) (J : It) (fp : List Addr) (it : Addr) (tn : Nat → Heap → Prop) : Prop where
  mem : it ∈ fp
  obj : ∀ i h, tn i h → ∀ b ∈ fp, ∃ o, h.get? b = some o ∧ ∀ v, o.data ≠ .cell v
  keep : ∀ i h h', tn i h → (∀ b ∈ fp, ∀ o, h.get? b = some o → h'.get? b = some o) → tn i h'
  item : ∀ (X : Cx), X.prog = P → X.w = w → X.K = K → X.calm = true → ∀ (i : Nat) (pins : List (Addr × Obj)) (s : Shared) (σ : St) (H : Hp) (E : Value → Shared → Prop), Inv X pins σ H s → (∀ b ∈ fp, FpOk X pins H b) → tn i s.heap → J.go i H →
    wpAny (model P w) X.A (pyNext (.ref it)) (fun r s1 => ∃ u, r = some u ∧
      wpAny (model P w) X.A (letOwnedTupleGo tg (.ref it) u) (fun _ s2 => ∃ x H', Inv X pins σ H' s2 ∧ RelV x u ∧ J.yld i H x H' ∧ tn (i + 1) s2.heap ∧ ∀ b ∈ fp, H' b = none) E s1) E s
  done : ∀ (X : Cx), X.prog = P → X.w = w → X.K = K → X.calm = true → ∀ (i : Nat) (pins : List (Addr × Obj)) (s : Shared) (σ : St) (H : Hp) (E : Value → Shared → Prop), Inv X pins σ H s → (∀ b ∈ fp, FpOk X pins H b) → tn i s.heap → J.stop i H →
    wpAny (model P w) X.A (pyNext (.ref it)) (fun r s1 => r = none ∧ Inv X pins σ H s1) E s
  self : ∀ (A : Around) (i : Nat) (s : Shared) (Q : Value → Shared → Prop) (E : Value → Shared → Prop), tn i s.heap → Q (.ref it) s → wpAny (model P w) A (pyIter (.ref it)) Q E s
abbrev TI := St → Hp → (It → Hp → Prop) → Prop
/-- an iterator has come -/
def PIE (X : Cx) (pins : List (Addr × Obj)) (σ : St) (tg : Expr) (R : It → Hp → Prop) (itv : Value) (s2 : Shared) : Prop :=
  ∃ (it : Addr) (fp : List Addr) (tn : Nat → Heap → Prop) (J : It) (H' : Hp), itv = .ref it ∧ Inv X pins σ H' s2 ∧ Turn X.prog X.w X.K tg J fp it tn ∧ tn 0 s2.heap ∧ (∀ b ∈ fp, FpOk X pins H' b) ∧ R J H'
def PI (X : Cx) (tg iter : Expr) (wi : TI) : Prop :=
  ∀ (pins : List (Addr × Obj)) (s : Shared) (σ : St) (H : Hp) (R : It → Hp → Prop), Inv X pins σ H s → wi σ H R →
    wpAny (model X.prog X.w) X.A (eval iter X.env) (fun v s1 => wpAny (model X.prog X.w) X.A (pyIter v) (PIE X pins σ tg R) X.xe s1) X.xe s

/-- the step ahead of the store is nothing for an iterator that keeps no tuple -/
theorem go_of {M : Model} {A : Around} {E : Value → Shared → Prop} {s : Shared} {tg : Expr} {it : Addr} {u : Value} {o : Obj} {n : String} {vs : Array Value} {Q : Unit → Shared → Prop} (ho : s.heap.get? it = some o) (hc : o.cls = .type n) (hd : o.data = .fields vs)
    (hn : ["enumerate", "zip", "dict_itemiterator", "dict_reverseitemiterator", "odict_iterator", "itertools.zip_longest", "itertools.pairwise"].contains n = false) (hQ : Q () s) : wpAny M A (letOwnedTupleGo tg (.ref it) u) Q E s := by
  unfold letOwnedTupleGo
  cases tg <;> first
    | exact wpAny_pure hQ
    | (cases u <;> first
        | exact wpAny_pure hQ
        | (refine wpAny_bind (wpAny_load ho ?_)
           rw [hc, hd]
           show wpAny M A (if (["enumerate", "zip", "dict_itemiterator", "dict_reverseitemiterator", "odict_iterator", "itertools.zip_longest", "itertools.pairwise"].contains n && vs[0]? == some (rawInt _)) = true then _ else _) Q E s
           rw [if_neg (by intro h; rw [hn, Bool.false_and] at h; cases h)]
           exact wpAny_pure hQ))

/-- the list at a, as it stands at each turn (a loop may append to it) -/
def Itl (K : PySem.W.Frag) (a : Addr) : It :=
  ⟨fun i H => ∃ xs x, SqL K H a xs ∧ xs[i]? = some x, fun i H x H' => H' = H ∧ ∀ xs, SqL K H a xs → xs[i]? = some x, fun i H => ∃ xs, SqL K H a xs ∧ xs.length ≤ i⟩
def Itt (K : PySem.W.Frag) (a : Addr) : It :=
  ⟨fun i H => ∃ xs x, SqT K H a xs ∧ xs[i]? = some x, fun i H x H' => H' = H ∧ ∀ xs, SqT K H a xs → xs[i]? = some x, fun i H => ∃ xs, SqT K H a xs ∧ xs.length ≤ i⟩
/-- lo, lo + 1, .. (n of them) -/
def Itr (lo : Int) (n : Nat) : It := ⟨fun i _ => i < n, fun i H x H' => H' = H ∧ x = .int (lo + i), fun i _ => n ≤ i⟩
theorem turn_list {P : Program} {w : World} {K : PySem.W.Frag} {tg : Expr} (a it : Addr) : Turn P w K tg (Itl K a) [it] it (fun i h => h.IsListIter it a i) where
  mem := by simp
  obj := fun i h st b hb => by
    have e : b = it := by simpa using hb
    subst e
    obtain ⟨o, e, c, d⟩ := st
    exact ⟨o, e, fun v z => by rw [d] at z; cases z⟩
  keep := fun i h h' st k => st.at fun o e => k it (by simp) o e
  item := by
    intro X hP hw hK hc i pins s σ H E I hf st hg
    subst hP hw hK
    obtain ⟨xs, x, hq, hx⟩ := hg
    obtain ⟨its, rv, p, hz⟩ := I.list hq
    obtain ⟨u, hu, ru⟩ := rv.get hx
    obtain ⟨f0, f1, f2, f3, f4, f5⟩ := hf it (by simp)
    refine wpAny_pyNext_list_item st p.isList (x := u) (by simpa using hu) fun h' st' sb => ?_
    have I1 : Inv X pins σ H { s with heap := h' } := I.turned (t' := s.toks) (fun b o hb e => (sb.2 b hb).trans e) f0 f1 f3 f4 f5
    obtain ⟨o, e, c, d⟩ := id st'
    exact ⟨u, rfl, go_of (s := { s with heap := h' }) e c d (by decide) ⟨x, H, I1, ru, ⟨rfl, fun ys hy => by rw [I.list_inj hy hq]; exact hx⟩, st', fun b hb => (hf b hb).1⟩⟩
  done := by
    intro X hP hw hK hc i pins s σ H E I hf st hg
    subst hP hw hK
    obtain ⟨xs, hq, hx⟩ := hg
    obtain ⟨its, rv, p, hz⟩ := I.list hq
    obtain ⟨f0, f1, f2, f3, f4, f5⟩ := hf it (by simp)
    have hl := rv.length
    exact wpAny_pyNext_list_end (I.ok.hd hc) st p.isList (by simp; omega) fun h' eb => ⟨rfl, I.turned (t' := s.toks) (fun b o hb e => eb b o hb e) f0 f1 f3 f4 f5⟩
  self := fun _ _ _ _ _ st h => wpAny_pyIter_listiter st h
theorem turn_tuple {P : Program} {w : World} {K : PySem.W.Frag} {tg : Expr} (a it : Addr) : Turn P w K tg (Itt K a) [it] it (fun i h => h.IsTupleIter it a i) where
  mem := by simp
  obj := fun i h st b hb => by
    have e : b = it := by simpa using hb
    subst e
    obtain ⟨o, e, c, d⟩ := st
    exact ⟨o, e, fun v z => by rw [d] at z; cases z⟩
  keep := fun i h h' st k => st.at fun o e => k it (by simp) o e
  item := by
    intro X hP hw hK hc i pins s σ H E I hf st hg
    subst hP hw hK
    obtain ⟨xs, x, hq, hx⟩ := hg
    obtain ⟨its, rv, p, hz⟩ := I.tuple hq
    obtain ⟨u, hu, ru⟩ := rv.get hx
    obtain ⟨f0, f1, f2, f3, f4, f5⟩ := hf it (by simp)
    refine wpAny_pyNext_tuple_item st (show s.heap.IsTuple a its.toArray from p) (x := u) (by simpa using hu) fun h' st' sb => ?_
    have I1 : Inv X pins σ H { s with heap := h' } := I.turned (t' := s.toks) (fun b o hb e => (sb.2 b hb).trans e) f0 f1 f3 f4 f5
    obtain ⟨o, e, c, d⟩ := id st'
    exact ⟨u, rfl, go_of (s := { s with heap := h' }) e c d (by decide) ⟨x, H, I1, ru, ⟨rfl, fun ys hy => by rw [I.tuple_inj hy hq]; exact hx⟩, st', fun b hb => (hf b hb).1⟩⟩
  done := by
    intro X hP hw hK hc i pins s σ H E I hf st hg
    subst hP hw hK
    obtain ⟨xs, hq, hx⟩ := hg
    obtain ⟨its, rv, p, hz⟩ := I.tuple hq
    obtain ⟨f0, f1, f2, f3, f4, f5⟩ := hf it (by simp)
    have hl := rv.length
    exact wpAny_pyNext_tuple_end (I.ok.hd hc) st (show s.heap.IsTuple a its.toArray from p) (by simp; omega) fun h' eb => ⟨rfl, I.turned (t' := s.toks) (fun b o hb e => eb b o hb e) f0 f1 f3 f4 f5⟩
  self := fun _ _ _ _ _ st h => wpAny_pyIter_tupleiter st h
theorem turn_range {P : Program} {w : World} {K : PySem.W.Frag} {tg : Expr} (it : Addr) (lo : Int) (n : Nat) : Turn P w K tg (Itr lo n) [it] it (fun i h => IsRangeIter h it (lo + (i : Nat) * 1) ((n : Int) - (i : Nat)) 1) where
  mem := by simp
  obj := fun i h st b hb => by
    have e : b = it := by simpa using hb
    subst e
    exact ⟨_, st, fun v z => by
      have z' : Data.fields _ = Data.cell v := z
      cases z'⟩
  keep := fun i h h' st k => k it (by simp) _ st
  item := by
    intro X hP hw hK hc i pins s σ H E I hf st hg
    subst hP hw hK
    obtain ⟨f0, f1, f2, f3, f4, f5⟩ := hf it (by simp)
    have W := Walks.range (prog := X.prog) (w := X.w) (I.ok.hd hc) it lo 1 n
    refine W.item i s _ _ hg st fun v h' tk hv st' kk => ?_
    obtain ⟨t, rfl⟩ := hv
    have I1 : Inv X pins σ H { s with heap := h', toks := tk } := I.turned (fun b o hb e => kk b o (by simpa using hb) e) f0 f1 f3 f4 f5
    refine ⟨_, rfl, go_of (s := { s with heap := h', toks := tk }) (n := "range_iterator") st' rfl rfl (by decide) ⟨.int (lo + i), H, I1, ⟨t, ?_⟩, ⟨rfl, rfl⟩, st', fun b hb => (hf b hb).1⟩⟩
    rw [Int.mul_one]
  done := by
    intro X hP hw hK hc i pins s σ H E I hf st hg
    subst hP hw hK
    obtain ⟨f0, f1, f2, f3, f4, f5⟩ := hf it (by simp)
    exact wpAny_pyNext_range_end (I.ok.hd hc) st (by have : n ≤ i := hg; omega) fun h' eb => ⟨rfl, I.turned (t' := s.toks) (fun b o hb e => eb b o hb e) f0 f1 f3 f4 f5⟩
  self := fun _ _ _ _ _ st h => wpAny_pyIter_rangeiter st h
end L2

namespace L2
open PySem PySem.Spec PyProof.Rows
section
variable {X : Cx} {tg : Expr}
def iList (K : PySem.W.Frag) (tl : TE) : TI := fun σ H R => tl σ H fun x H1 => ∃ a, x = .ref a ∧ (∃ xs, SqL K H1 a xs) ∧ R (Itl K a) H1
def iTup (K : PySem.W.Frag) (tl : TE) : TI := fun σ H R => tl σ H fun x H1 => ∃ a, x = .ref a ∧ (∃ xs, SqT K H1 a xs) ∧ R (Itt K a) H1
theorem pi_list {l : Expr} {tl : TE} (hl : PE X l tl) : PI X tg l (iList X.K tl) := by
  intro pins s σ H R I h
  refine thn (hl pins s σ H _ I h) fun v s1 ⟨x, H1, I1, r1, q1⟩ => ?_
  obtain ⟨a, e, ⟨xs, hq⟩, q⟩ := q1
  subst e
  cases r1
  obtain ⟨its, rv, p, hz⟩ := I1.list hq
  refine wpAny_pyIter_list p.isList ?_
  refine ⟨s1.heap.objs.size, [s1.heap.objs.size], _, _, H1, rfl, I1.kept (t' := s1.toks) fun b o e => Heap.get?_push_of_some _ e, turn_list a _, ⟨_, Heap.get?_push_size _ rfl, rfl, rfl⟩, fun b hb => ?_, q⟩
  have e : b = s1.heap.objs.size := by simpa using hb
  subst e
  exact I1.fpOk (Nat.le_refl _) (I1.hok.fresh (Nat.le_refl _))
theorem pi_tup {l : Expr} {tl : TE} (hl : PE X l tl) : PI X tg l (iTup X.K tl) := by
  intro pins s σ H R I h
  refine thn (hl pins s σ H _ I h) fun v s1 ⟨x, H1, I1, r1, q1⟩ => ?_
  obtain ⟨a, e, ⟨xs, hq⟩, q⟩ := q1
  subst e
  cases r1
  obtain ⟨its, rv, p, hz⟩ := I1.tuple hq
  refine wpAny_pyIter_tuple (show s1.heap.IsTuple a its.toArray from p) ?_
  refine ⟨s1.heap.objs.size, [s1.heap.objs.size], _, _, H1, rfl, I1.kept (t' := s1.toks) fun b o e => Heap.get?_push_of_some _ e, turn_tuple a _, ⟨_, Heap.get?_push_size _ rfl, rfl, rfl⟩, fun b hb => ?_, q⟩
  have e : b = s1.heap.objs.size := by simpa using hb
  subst e
  exact I1.fpOk (Nat.le_refl _) (I1.hok.fresh (Nat.le_refl _))
/-- a range object just made, walked -/
theorem range_it {pins : List (Addr × Obj)} {σ : St} {H : Hp} {s : Shared} {R : It → Hp → Prop} {E : Value → Shared → Prop} {lo hi : Int} {t u v : Tok} {tk : Nat} (I : Inv X pins σ H s) (h1 : -(2 ^ 62) ≤ lo) (h2 : lo < 2 ^ 62) (h3 : -(2 ^ 62) ≤ hi) (h4 : hi < 2 ^ 62)
    (q : R (Itr lo (hi - lo).toNat) H) : wpAny (model X.prog X.w) X.A (pyIter (.ref s.heap.objs.size)) (PIE X pins σ tg R) E { s with heap := s.heap.push { cls := .type "range", data := .fields #[.int lo t, .int hi u, .int 1 v] }, toks := tk } := by
  refine wpAny_pyIter_range (IsRange.new ..) (small_one h1 h2 h3 h4) ?_
  have I1 : Inv X pins σ H { s with heap := s.heap.push { cls := .type "range", data := .fields #[.int lo t, .int hi u, .int 1 v] }, toks := tk } := I.kept fun b o e => Heap.get?_push_of_some _ e
  refine ⟨(s.heap.push { cls := .type "range", data := .fields #[.int lo t, .int hi u, .int 1 v] }).objs.size, [(s.heap.push { cls := .type "range", data := .fields #[.int lo t, .int hi u, .int 1 v] }).objs.size], _, _, H, rfl,
    I1.kept (t' := tk) fun b o e => Heap.get?_push_of_some _ e, turn_range _ lo (hi - lo).toNat, ?_, fun b hb => ?_, q⟩
  · have e1 : lo + ((0 : Nat) : Int) * 1 = lo := by simp
    have e2 : (((hi - lo).toNat : Nat) : Int) - ((0 : Nat) : Int) = Builtin.Range.rangeSize lo hi 1 := by rw [rangeSize_one]; split <;> omega
    show IsRangeIter _ _ (lo + ((0 : Nat) : Int) * 1) ((((hi - lo).toNat : Nat) : Int) - ((0 : Nat) : Int)) 1
    rw [e1, e2]
    exact Heap.get?_push_size _ rfl
  · have e : b = (s.heap.push { cls := .type "range", data := .fields #[.int lo t, .int hi u, .int 1 v] }).objs.size := by simpa using hb
    subst e
    exact I1.fpOk (Nat.le_refl _) (I1.hok.fresh (Nat.le_refl _))
def iRng1 (ta : TA) : TI := fun σ H R => ta σ H fun vs H1 => ∃ j : Int, vs = [.int j] ∧ -(2 ^ 62) ≤ j ∧ j < 2 ^ 62 ∧ R (Itr 0 j.toNat) H1
def iRng2 (ta : TA) : TI := fun σ H R => ta σ H fun vs H1 => ∃ i j : Int, vs = [.int i, .int j] ∧ (-(2 ^ 62) ≤ i ∧ i < 2 ^ 62 ∧ -(2 ^ 62) ≤ j ∧ j < 2 ^ 62) ∧ R (Itr i (j - i).toNat) H1
theorem pi_range1 {a : Expr} {ta : TA} {p pos : Pos} (hg : Gl X "range") (hm : X.mg "range" = none) (ha : PA X [a] ta) (hs : starEach [a] X.env = [(false, eval a X.env)] := by rfl) : PI X tg (.Call (.Name "range" p) [a] [] pos) (iRng1 ta) := by
  intro pins s σ H R I h
  refine Call_ (ld_blt I hg hm boot_range (PyProof.Rows.callWith_type1 (thn (ha pos pins s σ H _ I h) fun us s1 ⟨vs, H1, I1, r1, q1⟩ => ?_) hs rfl))
  obtain ⟨j, e, q1, q2, q⟩ := q1
  subst e
  cases r1 with
  | cons r rr =>
    cases rr
    obtain ⟨t, rfl⟩ := r
    exact call_range_1 (range_it I1 (by omega) (by omega) q1 q2 (by simpa using q))
theorem pi_range2 {a b : Expr} {ta : TA} {p pos : Pos} (hg : Gl X "range") (hm : X.mg "range" = none) (ha : PA X [a, b] ta) (hs : starEach [a, b] X.env = [(false, eval a X.env), (false, eval b X.env)] := by rfl) (hs2 : starEach [b] X.env = [(false, eval b X.env)] := by rfl) :
    PI X tg (.Call (.Name "range" p) [a, b] [] pos) (iRng2 ta) := by
  intro pins s σ H R I h
  refine Call_ (ld_blt I hg hm boot_range (PyProof.Rows.callWith_type1 (thn (ha pos pins s σ H _ I h) fun us s1 ⟨vs, H1, I1, r1, q1⟩ => ?_) (by rw [hs, hs2]) (by rw [hs2]; rfl)))
  obtain ⟨i, j, e, ⟨q1, q2, q3, q4⟩, q⟩ := q1
  subst e
  cases r1 with
  | cons r rr =>
    cases rr with
    | cons r' rr =>
      cases rr
      obtain ⟨t, rfl⟩ := r
      obtain ⟨t', rfl⟩ := r'
      exact call_range_2 (range_it I1 q1 q2 q3 q4 q)

/-! ### for -/
/-- W: the invariant by the turn and a measure; N: what the body is to reach -/
def tFor (wi : TI) (g : TG) (tb : TS) : TS := fun D σ H => wi σ H fun J H1 => ∃ W : Nat → Nat → St → Hp → Prop, (∃ m, W 0 m σ H1) ∧ ∀ i m σ H, W i m σ H →
  (J.stop i H ∧ D.nx σ H) ∨ (J.go i H ∧ ∃ N : St → Hp → Prop, (∀ σ' H', N σ' H' → ∃ m', m' < m ∧ W (i + 1) m' σ' H') ∧ ∀ x H', J.yld i H x H' → g x σ H' fun σ2 H2 => tb { D with nx := N, ct := N, bk := D.nx } σ2 H2)
/-- the records at fp as they stand -/
def pinsAt (fp : List Addr) (h : Heap) : List (Addr × Obj) := fp.filterMap fun b => (h.get? b).map fun o => (b, o)
theorem mem_pinsAt {fp : List Addr} {h : Heap} {b : Addr} {o : Obj} (hb : b ∈ fp) (e : h.get? b = some o) : (b, o) ∈ pinsAt fp h := List.mem_filterMap.mpr ⟨b, hb, by rw [e]; rfl⟩
theorem of_pinsAt {fp : List Addr} {h : Heap} {p : Addr × Obj} (hp : p ∈ pinsAt fp h) : p.1 ∈ fp ∧ h.get? p.1 = some p.2 := by
  obtain ⟨b, hb, e⟩ := List.mem_filterMap.mp hp
  cases q : h.get? b with
  | none => rw [q] at e; cases e
  | some o =>
    rw [q] at e
    have e' : (b, o) = p := Option.some.inj e
    subst e'
    exact ⟨hb, q⟩
theorem Inv.pinned {pins : List (Addr × Obj)} {σ : St} {H : Hp} {s : Shared} {fp : List Addr} (I : Inv X pins σ H s) (hf : ∀ b ∈ fp, FpOk X pins H b) (ho : ∀ b ∈ fp, ∃ o, s.heap.get? b = some o ∧ ∀ v, o.data ≠ .cell v) : Inv X (pins ++ pinsAt fp s.heap) σ H s :=
  I.pins_of fun p hp => (List.mem_append.mp hp).elim (fun z => I.pin p (List.mem_append_right _ z)) fun z => by
    obtain ⟨hb, e⟩ := of_pinsAt z
    obtain ⟨f0, f1, f2, _⟩ := hf p.1 hb
    obtain ⟨o, e', d⟩ := ho p.1 hb
    rw [e] at e'; cases e'
    exact ⟨e, f0, f1, f2, d⟩
theorem Inv.unpinned {pins pl : List (Addr × Obj)} {σ : St} {H : Hp} {s : Shared} (I : Inv X (pins ++ pl) σ H s) : Inv X pins σ H s := I.pins_of fun p hp => I.pin p (List.mem_append_right _ (List.mem_append_left _ hp))
theorem ps_for {iter : Expr} {body : List Stmt} {wi : TI} {g : TG} {tb : TS} {pos : Pos} (hp : PassesOwn (model X.prog X.w) X.A X.env X.xe) (hc : X.calm = true) (hi : PI X tg iter wi) (hg : PG X tg g) (hb : PSs X body tb)
    (hs : ∀ x, foldedSetIterable iter X.env x = pure x := by intro _; rfl) : PS X (.For tg iter body [] pos) (tFor wi g tb) := by
  intro pins s σ H D I h
  refine wpAny_For (thn (hi pins s σ H _ I h) fun v s1 h1 => thn h1 fun itv s2 h2 => ?_) hs
  obtain ⟨it, fp, tn, J, H2, e, I2, T, st2, f2, W, ⟨m0, w0⟩, turn⟩ := h2
  subst e
  -- what stays true of the iterator's objects through the loop
  have stat : ∀ {H' : Hp}, (∀ b ∈ fp, H' b = none) → ∀ b ∈ fp, FpOk X pins H' b := fun hn b hb => ⟨hn b hb, (f2 b hb).2⟩
  refine codeAny_forLoop_any (fun n s' => ∃ i σ' H', Inv X pins σ' H' s' ∧ tn i s'.heap ∧ (∀ b ∈ fp, H' b = none) ∧ W i n σ' H') ?_ m0 ⟨0, σ, H2, I2, st2, fun b hb => (f2 b hb).1, w0⟩
  rintro n s3 ⟨i, σ3, H3, I3, st3, fr3, w3⟩
  rcases turn i n σ3 H3 w3 with ⟨stop, qn⟩ | ⟨go, N, hN, step⟩
  · refine wpAny_passesOwn hp (thn (T.done X rfl rfl rfl hc i pins s3 σ3 H3 X.xe I3 (stat fr3) st3 stop) fun r s4 ⟨hr, I4⟩ => ?_)
    subst hr
    exact wpAny_execs_nil ⟨σ3, H3, I4, qn⟩
  · refine wpAny_passesOwn hp (thn (T.item X rfl rfl rfl hc i pins s3 σ3 H3 X.xe I3 (stat fr3) st3 go) fun r s4 ⟨u, hr, h4⟩ => ?_)
    subst hr
    refine wpAny_passesOwn hp (thn h4 fun _ s5 ⟨x, H5, I5, r5, y5, st5, fr5⟩ => ?_)
    have I5' := I5.pinned (stat fr5) (T.obj _ _ st5)
    refine wpAny_passesOwn hp (thn (hg _ s5 σ3 H5 x u _ I5' r5 (step x H5 y5)) fun _ s6 ⟨σ6, H6, I6, q6⟩ => ?_)
    refine wpAny_passesOwn hp (thn (hb _ s6 σ6 H6 _ I6 q6) fun f s7 q7 => ?_)
    have again : ∀ {σ7 : St} {H7 : Hp}, Inv X (pins ++ pinsAt fp s5.heap) σ7 H7 s7 → N σ7 H7 → ∃ m, m < n ∧ ∃ i σ' H', Inv X pins σ' H' s7 ∧ tn i s7.heap ∧ (∀ b ∈ fp, H' b = none) ∧ W i m σ' H' := fun {σ7 H7} I7 n7 => by
      obtain ⟨m', hm, w7⟩ := hN σ7 H7 n7
      refine ⟨m', hm, i + 1, σ7, H7, I7.unpinned, T.keep _ _ _ st5 fun b hb o e => (I7.pin (b, o) (List.mem_append_right _ (List.mem_append_right _ (mem_pinsAt hb e)))).1, fun b hb => ?_, w7⟩
      obtain ⟨o, e, d⟩ := T.obj _ _ st5 b hb
      exact (I7.pin (b, o) (List.mem_append_right _ (List.mem_append_right _ (mem_pinsAt hb e)))).2.1
    cases f with
    | next => obtain ⟨σ7, H7, I7, n7⟩ := q7; exact again I7 n7
    | cont => obtain ⟨σ7, H7, I7, n7⟩ := q7; exact again I7 n7
    | brk => obtain ⟨σ7, H7, I7, q7⟩ := q7; exact ⟨σ7, H7, I7.unpinned, q7⟩
    | ret v => obtain ⟨x7, σ7, H7, I7, r7, q7⟩ := q7; exact ⟨x7, σ7, H7, I7.unpinned, r7, q7⟩
end

/-! ### the forms one uses -/
/-- over a list that the body leaves as it is -/
theorem for_list {K : PySem.W.Frag} {a : Addr} {xs : List V} {g : TG} {tb : TS} {D : Ends} {σ : St} {H : Hp} (Pv : Nat → St → Hp → Prop) (h0 : Pv 0 σ H) (hl : ∀ i σ H, i ≤ xs.length → Pv i σ H → SqL K H a xs)
    (hs : ∀ i x σ H, xs[i]? = some x → Pv i σ H → g x σ H fun σ2 H2 => tb { D with nx := Pv (i + 1), ct := Pv (i + 1), bk := D.nx } σ2 H2) (hd : ∀ σ H, Pv xs.length σ H → D.nx σ H) :
    ∃ W : Nat → Nat → St → Hp → Prop, (∃ m, W 0 m σ H) ∧ ∀ i m σ H, W i m σ H →
      ((Itl K a).stop i H ∧ D.nx σ H) ∨ ((Itl K a).go i H ∧ ∃ N : St → Hp → Prop, (∀ σ' H', N σ' H' → ∃ m', m' < m ∧ W (i + 1) m' σ' H') ∧ ∀ x H', (Itl K a).yld i H x H' → g x σ H' fun σ2 H2 => tb { D with nx := N, ct := N, bk := D.nx } σ2 H2) := by
  refine ⟨fun i m σ H => m = xs.length - i ∧ i ≤ xs.length ∧ Pv i σ H, ⟨xs.length, by simp, Nat.zero_le _, h0⟩, ?_⟩
  rintro i m σ H ⟨rfl, hi, p⟩
  have q := hl i σ H hi p
  by_cases hlt : i < xs.length
  · refine .inr ⟨⟨xs, xs[i], q, by simp [hlt]⟩, Pv (i + 1), fun σ' H' p' => ⟨xs.length - (i + 1), by omega, rfl, hlt, p'⟩, fun x H' y => ?_⟩
    obtain ⟨e, y⟩ := y
    subst e
    exact hs i x σ _ (y xs q) p
  · have e : i = xs.length := by omega
    subst e
    exact .inl ⟨⟨xs, q, Nat.le_refl _⟩, hd σ H p⟩
theorem for_tup {K : PySem.W.Frag} {a : Addr} {xs : List V} {g : TG} {tb : TS} {D : Ends} {σ : St} {H : Hp} (Pv : Nat → St → Hp → Prop) (h0 : Pv 0 σ H) (hl : ∀ i σ H, i ≤ xs.length → Pv i σ H → SqT K H a xs)
    (hs : ∀ i x σ H, xs[i]? = some x → Pv i σ H → g x σ H fun σ2 H2 => tb { D with nx := Pv (i + 1), ct := Pv (i + 1), bk := D.nx } σ2 H2) (hd : ∀ σ H, Pv xs.length σ H → D.nx σ H) :
    ∃ W : Nat → Nat → St → Hp → Prop, (∃ m, W 0 m σ H) ∧ ∀ i m σ H, W i m σ H →
      ((Itt K a).stop i H ∧ D.nx σ H) ∨ ((Itt K a).go i H ∧ ∃ N : St → Hp → Prop, (∀ σ' H', N σ' H' → ∃ m', m' < m ∧ W (i + 1) m' σ' H') ∧ ∀ x H', (Itt K a).yld i H x H' → g x σ H' fun σ2 H2 => tb { D with nx := N, ct := N, bk := D.nx } σ2 H2) := by
  refine ⟨fun i m σ H => m = xs.length - i ∧ i ≤ xs.length ∧ Pv i σ H, ⟨xs.length, by simp, Nat.zero_le _, h0⟩, ?_⟩
  rintro i m σ H ⟨rfl, hi, p⟩
  have q := hl i σ H hi p
  by_cases hlt : i < xs.length
  · refine .inr ⟨⟨xs, xs[i], q, by simp [hlt]⟩, Pv (i + 1), fun σ' H' p' => ⟨xs.length - (i + 1), by omega, rfl, hlt, p'⟩, fun x H' y => ?_⟩
    obtain ⟨e, y⟩ := y
    subst e
    exact hs i x σ _ (y xs q) p
  · have e : i = xs.length := by omega
    subst e
    exact .inl ⟨⟨xs, q, Nat.le_refl _⟩, hd σ H p⟩
theorem for_range {lo : Int} {n : Nat} {g : TG} {tb : TS} {D : Ends} {σ : St} {H : Hp} (Pv : Nat → St → Hp → Prop) (h0 : Pv 0 σ H)
    (hs : ∀ i σ H, i < n → Pv i σ H → g (.int (lo + i)) σ H fun σ2 H2 => tb { D with nx := Pv (i + 1), ct := Pv (i + 1), bk := D.nx } σ2 H2) (hd : ∀ σ H, Pv n σ H → D.nx σ H) :
    ∃ W : Nat → Nat → St → Hp → Prop, (∃ m, W 0 m σ H) ∧ ∀ i m σ H, W i m σ H →
      ((Itr lo n).stop i H ∧ D.nx σ H) ∨ ((Itr lo n).go i H ∧ ∃ N : St → Hp → Prop, (∀ σ' H', N σ' H' → ∃ m', m' < m ∧ W (i + 1) m' σ' H') ∧ ∀ x H', (Itr lo n).yld i H x H' → g x σ H' fun σ2 H2 => tb { D with nx := N, ct := N, bk := D.nx } σ2 H2) := by
  refine ⟨fun i m σ H => m = n - i ∧ i ≤ n ∧ Pv i σ H, ⟨n, by simp, Nat.zero_le _, h0⟩, ?_⟩
  rintro i m σ H ⟨rfl, hi, p⟩
  by_cases hlt : i < n
  · refine .inr ⟨hlt, Pv (i + 1), fun σ' H' p' => ⟨n - (i + 1), by omega, rfl, hlt, p'⟩, fun x H' y => ?_⟩
    obtain ⟨e, y⟩ := y
    subst e y
    exact hs i σ _ hlt p
  · have e : i = n := by omega
    subst e
    exact .inl ⟨Nat.le_refl _, hd σ H p⟩
/-- while, by a word and a measure of the state -/
theorem while_by {c : TT} {tb : TS} {D : Ends} {σ : St} {H : Hp} (Pv : St → Hp → Prop) (μ : St → Hp → Nat) (h0 : Pv σ H)
    (hs : ∀ σ H, Pv σ H → c σ H fun b H1 => if b = true then tb { D with nx := fun σ' H' => Pv σ' H' ∧ μ σ' H' < μ σ H, ct := fun σ' H' => Pv σ' H' ∧ μ σ' H' < μ σ H, bk := D.nx } σ H1 else D.nx σ H1)
    (mono : ∀ σ H Q Q', (∀ b H1, Q b H1 → Q' b H1) → c σ H Q → c σ H Q') : tWhile c tb D σ H := by
  refine ⟨fun m σ H => m = μ σ H ∧ Pv σ H, ⟨_, rfl, h0⟩, ?_⟩
  rintro m σ H ⟨rfl, p⟩
  refine mono σ H _ _ (fun b H1 q => ?_) (hs σ H p)
  cases b with
  | true => exact ⟨_, fun σ' H' ⟨p', l⟩ => ⟨_, l, rfl, p'⟩, q⟩
  | false => exact q
end L2

namespace L2
open PySem PySem.Spec PyProof.Rows

abbrev R2 := V → V → Hp → VK → Prop
/-- a two-place operation on values: f is binaryOp op, inplaceOp op or compareOp op -/
def OpR (X : Cx) (f : Value → Value → Sem Value) (r : R2) : Prop :=
  ∀ (pins : List (Addr × Obj)) (s : Shared) (σ : St) (H : Hp) (x y : V) (v u : Value) (Q : VK), Inv X pins σ H s → RelV x v → RelV y u → r x y H Q →
    wpAny (model X.prog X.w) X.A (f v u) (EP X pins σ Q) X.xe s
/-- a one-place operation -/
def UnR (X : Cx) (f : Value → Sem Value) (r : V → Hp → VK → Prop) : Prop :=
  ∀ (pins : List (Addr × Obj)) (s : Shared) (σ : St) (H : Hp) (x : V) (v : Value) (Q : VK), Inv X pins σ H s → RelV x v → r x H Q →
    wpAny (model X.prog X.w) X.A (f v) (EP X pins σ Q) X.xe s
/-- a call of a value that is known (a builtin, a type) with values -/
def CallR (X : Cx) (f : Value) (r : List V → Hp → VK → Prop) : Prop :=
  ∀ (pins : List (Addr × Obj)) (s : Shared) (σ : St) (H : Hp) (xs : List V) (us : List Value) (Q : VK), Inv X pins σ H s → Vals xs us → r xs H Q →
    wpAny (model X.prog X.w) X.A (call f us) (EP X pins σ Q) X.xe s
/-- a value's truth -/
def TruR (X : Cx) (r : V → Hp → (Bool → Hp → Prop) → Prop) : Prop :=
  ∀ (pins : List (Addr × Obj)) (s : Shared) (σ : St) (H : Hp) (x : V) (v : Value) (Q : Bool → Hp → Prop), Inv X pins σ H s → RelV x v → r x H Q →
    wpAny (model X.prog X.w) X.A (truthy v) (TP X pins σ Q) X.xe s

def tOp (r : R2) (ta tb : TE) : TE := fun σ H Q => ta σ H fun x H1 => tb σ H1 fun y H2 => r x y H2 Q
def tUn (r : V → Hp → VK → Prop) (ta : TE) : TE := fun σ H Q => ta σ H fun x H1 => r x H1 Q
/-- ints in, under C, and a value out -/
def rI (C : Int → Int → Prop) (g : Int → Int → V) : R2 := fun x y H Q => ∃ i j, x = .int i ∧ y = .int j ∧ C i j ∧ Q (g i j) H
def rI0 (g : Int → Int → V) : R2 := fun x y H Q => ∃ i j, x = .int i ∧ y = .int j ∧ Q (g i j) H
def rU (g : Int → V) : V → Hp → VK → Prop := fun x H Q => ∃ i, x = .int i ∧ Q (g i) H

section
variable {X : Cx} {a b c : Expr} {ta tb tc : TE} {pos : Pos}

theorem binT (ha : PE X a ta) (hb : PE X b tb) {pins : List (Addr × Obj)} {s : Shared} {σ : St} {H : Hp} {R : V → V → Hp → Prop} (I : Inv X pins σ H s)
    (h : ta σ H fun x H1 => tb σ H1 fun y H2 => R x y H2) {Q : Value → Shared → Prop} {f : Value → Value → Sem Value}
    (hf : ∀ v u s2 x y H2, Inv X pins σ H2 s2 → RelV x v → RelV y u → R x y H2 → wpAny (model X.prog X.w) X.A (f v u) Q X.xe s2) :
    wpAny (model X.prog X.w) X.A (eval a X.env) (fun v s₁ => wpAny (model X.prog X.w) X.A (eval b X.env) (fun u s₂ => wpAny (model X.prog X.w) X.A (f v u) Q X.xe s₂) X.xe s₁) X.xe s := by
  refine thn (ha pins s σ H _ I h) fun v s1 ⟨x, H1, I1, r1, q1⟩ => ?_
  refine thn (hb pins s1 σ H1 _ I1 q1) fun u s2 ⟨y, H2, I2, r2, q2⟩ => ?_
  exact hf v u s2 x y H2 I2 r1 r2 q2

theorem pe_op {op : Operator} {r : R2} (ho : OpR X (binaryOp op) r) (ha : PE X a ta) (hb : PE X b tb) : PE X (.BinOp a op b pos) (tOp r ta tb) := by
  intro pins s σ H Q I h
  exact wpAny_BinOp (binT ha hb I h fun v u s2 x y H2 I2 rx ry q => ho pins s2 σ H2 x y v u Q I2 rx ry q)
theorem pe_un {op : UnaryOp} {r : V → Hp → VK → Prop} (ho : UnR X (unaryOp op) r) (ha : PE X a ta) : PE X (.UnaryOp op a pos) (tUn r ta) := by
  intro pins s σ H Q I h
  exact UnaryOp_ (thn (ha pins s σ H _ I h) fun v s1 ⟨x, H1, I1, r1, q1⟩ => ho pins s1 σ H1 x v Q I1 r1 q1)
/-- a op= e at a name: the name's slot i -/
theorem augR {op : Operator} {r : R2} (ho : OpR X (inplaceOp op) r) {pins : List (Addr × Obj)} {s : Shared} {σ : St} {H : Hp} {x y : V} {v u : Value} {Q : VK} (I : Inv X pins σ H s)
    (rx : RelV x v) (ry : RelV y u) (q : r x y H Q) : wpAny (model X.prog X.w) X.A (inplaceOp op v u) (EP X pins σ Q) X.xe s := ho pins s σ H x y v u Q I rx ry q

/-! ### ints -/
theorem opI {f : Value → Value → Sem Value} {C : Int → Int → Prop} {g : Int → Int → Int}
    (rule : ∀ (i j : Int) (t u : Tok) (s : Shared) (Q : Value → Shared → Prop) (E : Value → Shared → Prop), C i j → Q (.int (g i j) s.toks) { s with toks := s.toks + 1 } → wpAny (model X.prog X.w) X.A (f (.int i t) (.int j u)) Q E s) :
    OpR X f (rI C fun i j => .int (g i j)) := by
  intro pins s σ H x y v u Q I rx ry h
  obtain ⟨i, j, rfl, rfl, hc, q⟩ := h
  obtain ⟨t, rfl⟩ := rx
  obtain ⟨t', rfl⟩ := ry
  exact rule i j t t' s _ _ hc ⟨.int (g i j), H, I.tok _, ⟨_, rfl⟩, q⟩
theorem opI0 {f : Value → Value → Sem Value} {g : Int → Int → Int}
    (rule : ∀ (i j : Int) (t u : Tok) (s : Shared) (Q : Value → Shared → Prop) (E : Value → Shared → Prop), Q (.int (g i j) s.toks) { s with toks := s.toks + 1 } → wpAny (model X.prog X.w) X.A (f (.int i t) (.int j u)) Q E s) :
    OpR X f (rI0 fun i j => .int (g i j)) := by
  intro pins s σ H x y v u Q I rx ry h
  obtain ⟨i, j, rfl, rfl, q⟩ := h
  obtain ⟨t, rfl⟩ := rx
  obtain ⟨t', rfl⟩ := ry
  exact rule i j t t' s _ _ ⟨.int (g i j), H, I.tok _, ⟨_, rfl⟩, q⟩
theorem opB0 {f : Value → Value → Sem Value} {g : Int → Int → Bool}
    (rule : ∀ (i j : Int) (t u : Tok) (s : Shared) (Q : Value → Shared → Prop) (E : Value → Shared → Prop), Q (.bool (g i j)) s → wpAny (model X.prog X.w) X.A (f (.int i t) (.int j u)) Q E s) :
    OpR X f (rI0 fun i j => .bl (g i j)) := by
  intro pins s σ H x y v u Q I rx ry h
  obtain ⟨i, j, rfl, rfl, q⟩ := h
  obtain ⟨t, rfl⟩ := rx
  obtain ⟨t', rfl⟩ := ry
  exact rule i j t t' s _ _ ⟨.bl (g i j), H, I, rfl, q⟩

def CDiv (i j : Int) : Prop := 0 < j ∧ j < 1073741824
def CDivN (i j : Int) : Prop := j ≠ 0 ∧ j.natAbs < 1073741824
def CPow (i j : Int) : Prop := 0 ≤ j ∧ j ≤ 1000000 ∧ i.natAbs < 2 ^ 64
def CMul (i j : Int) : Prop := (-(2 ^ 64) < i ∧ i < 2 ^ 64) ∨ (-(2 ^ 64) < j ∧ j < 2 ^ 64)
theorem CMul.ok {i j : Int} (h : CMul i j) : IntMulOk i j := by
  rcases h with ⟨h1, h2⟩ | ⟨h1, h2⟩
  · exact .of_left (intBits_le_64 h1 h2)
  · exact .of_right (intBits_le_64 h1 h2)
theorem two_pow_nn (k : Nat) : (0 : Int) ≤ 2 ^ k := by
  rw [two_pow_cast]
  exact Int.natCast_nonneg _

theorem op_add : OpR X (binaryOp .Add) (rI0 fun i j => .int (i + j)) := opI0 fun _ _ _ _ _ _ _ q => add_int q
theorem op_sub : OpR X (binaryOp .Sub) (rI0 fun i j => .int (i - j)) := opI0 fun _ _ _ _ _ _ _ q => sub_int q
theorem op_mul : OpR X (binaryOp .Mult) (rI CMul fun i j => .int (i * j)) := opI fun _ _ _ _ _ _ _ hc q => mul_int q hc.ok
/-- // by a positive divisor -/
theorem op_fdiv : OpR X (binaryOp .FloorDiv) (rI CDiv fun i j => .int (i / j)) := opI fun i j _ _ _ _ _ hc q => by
  have h1 : (0 : Int) < j := hc.1
  have h2 : j < 1073741824 := hc.2
  exact floordiv_int (by omega) (by rw [Int.fdiv_eq_ediv_of_nonneg i (by omega)]; exact q) (.inl (PyProof.noPylong_small (by omega)))
theorem op_fdivN : OpR X (binaryOp .FloorDiv) (rI CDivN fun i j => .int (i.fdiv j)) := opI fun _ _ _ _ _ _ _ hc q => floordiv_int hc.1 q (.inl (PyProof.noPylong_small hc.2))
/-- % by a positive divisor of any size -/
theorem op_mod : OpR X (binaryOp .Mod) (rI (fun _ j => 0 < j) fun i j => .int (i % j)) := opI fun i j _ _ _ _ _ hc q => by
  have h1 : (0 : Int) < j := hc
  exact mod_int' (by omega) (by rw [Int.fmod_eq_emod_of_nonneg i (by omega)]; exact q)
theorem op_modN : OpR X (binaryOp .Mod) (rI (fun _ j => j ≠ 0) fun i j => .int (i.fmod j)) := opI fun _ _ _ _ _ _ _ hc q => mod_int' hc q
theorem op_pow : OpR X (binaryOp .Pow) (rI CPow fun i j => .int (i ^ j.toNat)) := opI fun _ _ _ _ _ _ _ hc q => pow_int_small hc.1 hc.2.1 hc.2.2 q
theorem op_shl : OpR X (binaryOp .LShift) (rI CPow fun i j => .int (i * 2 ^ j.toNat)) := opI fun _ _ _ _ _ _ _ hc q => lshift_int_small hc.1 hc.2.1 hc.2.2 q
theorem op_shr : OpR X (binaryOp .RShift) (rI (fun _ j => 0 ≤ j) fun i j => .int (i / 2 ^ j.toNat)) := opI fun i j _ _ _ _ _ hc q =>
  rshift_int hc (by rw [Int.fdiv_eq_ediv_of_nonneg i (two_pow_nn _)]; exact q)
theorem op_and : OpR X (binaryOp .BitAnd) (rI0 fun i j => .int (Builtin.bitAnd i j)) := opI0 fun _ _ _ _ _ _ _ q => and_int q
theorem op_or : OpR X (binaryOp .BitOr) (rI0 fun i j => .int (Builtin.bitOr i j)) := opI0 fun _ _ _ _ _ _ _ q => or_int q
theorem op_xor : OpR X (binaryOp .BitXor) (rI0 fun i j => .int (Builtin.bitXor i j)) := opI0 fun _ _ _ _ _ _ _ q => xor_int q

theorem iop_add : OpR X (inplaceOp .Add) (rI0 fun i j => .int (i + j)) := opI0 fun _ _ _ _ _ _ _ q => iadd_int q
theorem iop_sub : OpR X (inplaceOp .Sub) (rI0 fun i j => .int (i - j)) := opI0 fun _ _ _ _ _ _ _ q => isub_int q
theorem iop_mul : OpR X (inplaceOp .Mult) (rI CMul fun i j => .int (i * j)) := opI fun _ _ _ _ _ _ _ hc q => imul_int q hc.ok
theorem iop_fdiv : OpR X (inplaceOp .FloorDiv) (rI CDiv fun i j => .int (i / j)) := opI fun i j _ _ _ _ _ hc q => by
  have h1 : (0 : Int) < j := hc.1
  have h2 : j < 1073741824 := hc.2
  exact ifloordiv_int (by omega) (by rw [Int.fdiv_eq_ediv_of_nonneg i (by omega)]; exact q) (.inl (PyProof.noPylong_small (by omega)))
theorem iop_mod : OpR X (inplaceOp .Mod) (rI (fun _ j => 0 < j) fun i j => .int (i % j)) := opI fun i j _ _ _ _ _ hc q => by
  have h1 : (0 : Int) < j := hc
  exact imod_int (by omega) (by rw [Int.fmod_eq_emod_of_nonneg i (by omega)]; exact q)
theorem iop_shl : OpR X (inplaceOp .LShift) (rI CPow fun i j => .int (i * 2 ^ j.toNat)) := opI fun _ _ _ _ _ _ _ hc q => ilshift_int_small hc.1 hc.2.1 hc.2.2 q
theorem iop_shr : OpR X (inplaceOp .RShift) (rI (fun _ j => 0 ≤ j) fun i j => .int (i / 2 ^ j.toNat)) := opI fun i j _ _ _ _ _ hc q =>
  irshift_int hc (by rw [Int.fdiv_eq_ediv_of_nonneg i (two_pow_nn _)]; exact q)
theorem iop_and : OpR X (inplaceOp .BitAnd) (rI0 fun i j => .int (Builtin.bitAnd i j)) := opI0 fun _ _ _ _ _ _ _ q => iand_int q
theorem iop_or : OpR X (inplaceOp .BitOr) (rI0 fun i j => .int (Builtin.bitOr i j)) := opI0 fun _ _ _ _ _ _ _ q => ior_int q
theorem iop_xor : OpR X (inplaceOp .BitXor) (rI0 fun i j => .int (Builtin.bitXor i j)) := opI0 fun _ _ _ _ _ _ _ q => ixor_int q

theorem unI {f : Value → Sem Value} {g : Int → Int}
    (rule : ∀ (i : Int) (t : Tok) (s : Shared) (Q : Value → Shared → Prop) (E : Value → Shared → Prop), Q (.int (g i) s.toks) { s with toks := s.toks + 1 } → wpAny (model X.prog X.w) X.A (f (.int i t)) Q E s) :
    UnR X f (rU fun i => .int (g i)) := by
  intro pins s σ H x v Q I rx h
  obtain ⟨i, rfl, q⟩ := h
  obtain ⟨t, rfl⟩ := rx
  exact rule i t s _ _ ⟨.int (g i), H, I.tok _, ⟨_, rfl⟩, q⟩
theorem un_neg : UnR X (unaryOp .USub) (rU fun i => .int (-i)) := unI fun _ _ _ _ _ q => neg_int q
theorem un_inv : UnR X (unaryOp .Invert) (rU fun i => .int (Builtin.bitNot i)) := unI fun _ _ _ _ _ q => invert_int q

/-! ### bools among ints: n += (a < b) -/
theorem op_add_ib : OpR X (binaryOp .Add) (fun x y H Q => ∃ i k, x = .int i ∧ y = .bl k ∧ Q (.int (i + b2i k)) H) := by
  intro pins s σ H x y v u Q I rx ry h
  obtain ⟨i, k, rfl, rfl, q⟩ := h
  obtain ⟨t, rfl⟩ := rx
  cases ry
  exact add_int_bool ⟨.int (i + b2i k), H, I.tok _, ⟨_, rfl⟩, q⟩
end

/-! ### comparisons -/
/-- the scalars that == tells apart as data does -/
def scal : V → V → Bool
  | .non, .non => true | .non, .int _ => true | .int _, .non => true | .non, .bl _ => true | .bl _, .non => true | .non, .str _ => true | .str _, .non => true
  | .int _, .int _ => true | .bl _, .bl _ => true | .str _, .str _ => true | .byt _, .byt _ => true
  | .int _, .str _ => true | .str _, .int _ => true | .bl _, .str _ => true | .str _, .bl _ => true
  | _, _ => false
def rEq : R2 := fun x y H Q => scal x y = true ∧ Q (.bl (decide (x = y))) H
def rNe : R2 := fun x y H Q => scal x y = true ∧ Q (.bl (!decide (x = y))) H

theorem dec_int {i j : Int} : decide (V.int i = V.int j) = (i == j) := by
  rw [Bool.eq_iff_iff]
  simp
theorem dec_bl {i j : Bool} : decide (V.bl i = V.bl j) = (i == j) := by
  rw [Bool.eq_iff_iff]
  simp
theorem dec_str {i j : Str} : decide (V.str i = V.str j) = (i == j) := by
  rw [Bool.eq_iff_iff]
  simp
theorem dec_byt {i j : Array UInt8} : decide (V.byt i = V.byt j) = (i.toList == j.toList) := by
  rw [Bool.eq_iff_iff]
  cases i
  cases j
  simp

section
variable {X : Cx} {a b c : Expr} {ta tb tc : TE} {pos : Pos}
theorem fin_bl {pins : List (Addr × Obj)} {σ : St} {H : Hp} {s : Shared} {Q : VK} {k k' : Bool} (I : Inv X pins σ H s) (q : Q (.bl k) H) (e : k = k') : EP X pins σ Q (.bool k') s := by
  subst e
  exact ⟨.bl k, H, I, rfl, q⟩
theorem op_eq : OpR X (compareOp .Eq) rEq := by
  intro pins s σ H x y v u Q I rx ry h
  obtain ⟨hs, q⟩ := h
  cases x with
  | non =>
    cases rx
    cases y with
    | non => cases ry; exact PySem.EqNone.eq_none_none (fin_bl I q (by simp))
    | bl j => cases ry; exact PySem.EqNone.eq_none_bool (fin_bl I q (by simp))
    | int j => obtain ⟨t', rfl⟩ := ry; exact PySem.EqNone.eq_none_int (fin_bl I q (by simp))
    | str j => obtain ⟨t', rfl⟩ := ry; exact PySem.EqNone.eq_none_str (fin_bl I q (by simp))
    | _ => exact absurd (show false = true from hs) Bool.false_ne_true
  | bl i =>
    cases rx
    cases y with
    | non => cases ry; exact PySem.EqNone.eq_bool_none (fin_bl I q (by simp))
    | bl j => cases ry; exact eq_bool (fin_bl I q dec_bl)
    | str j => obtain ⟨t', rfl⟩ := ry; exact PySem.EqMixed.eq_bool_str (fin_bl I q (by simp))
    | _ => exact absurd (show false = true from hs) Bool.false_ne_true
  | int i =>
    obtain ⟨t, rfl⟩ := rx
    cases y with
    | non => cases ry; exact PySem.EqNone.eq_int_none (fin_bl I q (by simp))
    | int j => obtain ⟨t', rfl⟩ := ry; exact eq_int (fin_bl I q dec_int)
    | str j => obtain ⟨t', rfl⟩ := ry; exact PySem.EqMixed.eq_int_str (fin_bl I q (by simp))
    | _ => exact absurd (show false = true from hs) Bool.false_ne_true
  | str i =>
    obtain ⟨t, rfl⟩ := rx
    cases y with
    | non => cases ry; exact PySem.EqNone.eq_str_none (fin_bl I q (by simp))
    | bl j => cases ry; exact PySem.EqMixed.eq_str_bool (fin_bl I q (by simp))
    | int j => obtain ⟨t', rfl⟩ := ry; exact PySem.EqMixed.eq_str_int (fin_bl I q (by simp))
    | str j => obtain ⟨t', rfl⟩ := ry; exact eq_str (fin_bl I q dec_str)
    | _ => exact absurd (show false = true from hs) Bool.false_ne_true
  | byt i =>
    obtain ⟨t, rfl⟩ := rx
    cases y with
    | byt j => obtain ⟨t', rfl⟩ := ry; exact PySem.W.eq_bytes (fin_bl I q dec_byt)
    | _ => exact absurd (show false = true from hs) Bool.false_ne_true
  | _ => cases y <;> exact absurd (show false = true from hs) Bool.false_ne_true
theorem op_ne : OpR X (compareOp .NotEq) rNe := by
  intro pins s σ H x y v u Q I rx ry h
  obtain ⟨hs, q⟩ := h
  cases x with
  | non =>
    cases rx
    cases y with
    | non => cases ry; exact PySem.EqNone.ne_none_none (fin_bl I q (by simp))
    | bl j => cases ry; exact PySem.EqNone.ne_none_bool (fin_bl I q (by simp))
    | int j => obtain ⟨t', rfl⟩ := ry; exact PySem.EqNone.ne_none_int (fin_bl I q (by simp))
    | str j => obtain ⟨t', rfl⟩ := ry; exact PySem.EqNone.ne_none_str (fin_bl I q (by simp))
    | _ => exact absurd (show false = true from hs) Bool.false_ne_true
  | bl i =>
    cases rx
    cases y with
    | non => cases ry; exact PySem.EqNone.ne_bool_none (fin_bl I q (by simp))
    | bl j => cases ry; exact ne_bool (fin_bl I q (congrArg not dec_bl))
    | str j => obtain ⟨t', rfl⟩ := ry; exact PySem.EqMixed.ne_bool_str (fin_bl I q (by simp))
    | _ => exact absurd (show false = true from hs) Bool.false_ne_true
  | int i =>
    obtain ⟨t, rfl⟩ := rx
    cases y with
    | non => cases ry; exact PySem.EqNone.ne_int_none (fin_bl I q (by simp))
    | int j => obtain ⟨t', rfl⟩ := ry; exact ne_int (fin_bl I q (congrArg not dec_int))
    | str j => obtain ⟨t', rfl⟩ := ry; exact PySem.EqMixed.ne_int_str (fin_bl I q (by simp))
    | _ => exact absurd (show false = true from hs) Bool.false_ne_true
  | str i =>
    obtain ⟨t, rfl⟩ := rx
    cases y with
    | non => cases ry; exact PySem.EqNone.ne_str_none (fin_bl I q (by simp))
    | bl j => cases ry; exact PySem.EqMixed.ne_str_bool (fin_bl I q (by simp))
    | int j => obtain ⟨t', rfl⟩ := ry; exact PySem.EqMixed.ne_str_int (fin_bl I q (by simp))
    | str j => obtain ⟨t', rfl⟩ := ry; exact ne_str (fin_bl I q (congrArg not dec_str))
    | _ => exact absurd (show false = true from hs) Bool.false_ne_true
  | byt i =>
    obtain ⟨t, rfl⟩ := rx
    cases y with
    | byt j => obtain ⟨t', rfl⟩ := ry; exact PySem.W.ne_bytes (fin_bl I q (congrArg not dec_byt))
    | _ => exact absurd (show false = true from hs) Bool.false_ne_true
  | _ => cases y <;> exact absurd (show false = true from hs) Bool.false_ne_true

theorem op_lt : OpR X (compareOp .Lt) (rI0 fun i j => .bl (decide (i < j))) := opB0 fun _ _ _ _ _ _ _ q => lt_int q
theorem op_le : OpR X (compareOp .LtE) (rI0 fun i j => .bl (decide (i ≤ j))) := opB0 fun _ _ _ _ _ _ _ q => le_int q
theorem op_gt : OpR X (compareOp .Gt) (rI0 fun i j => .bl (decide (j < i))) := opB0 fun _ _ _ _ _ _ _ q => gt_int q
theorem op_ge : OpR X (compareOp .GtE) (rI0 fun i j => .bl (decide (j ≤ i))) := opB0 fun _ _ _ _ _ _ _ q => ge_int q
theorem op_lt_str : OpR X (compareOp .Lt) (fun x y H Q => ∃ i j, x = .str i ∧ y = .str j ∧ Q (.bl (decide (i.cps.toList < j.cps.toList))) H) := by
  intro pins s σ H x y v u Q I rx ry h
  obtain ⟨i, j, rfl, rfl, q⟩ := h
  obtain ⟨t, rfl⟩ := rx
  obtain ⟨t', rfl⟩ := ry
  exact lt_str (fin_bl I q rfl)
/-- the one string within the other -/
theorem op_in_str : OpR X (compareOp .In) (fun x y H Q => ∃ i j, x = .str i ∧ y = .str j ∧ Q (.bl (!(Builtin.Str.occurrences j i 0 j.length 1).isEmpty)) H) := by
  intro pins s σ H x y v u Q I rx ry h
  obtain ⟨i, j, rfl, rfl, q⟩ := h
  obtain ⟨t, rfl⟩ := rx
  obtain ⟨t', rfl⟩ := ry
  exact in_str (fin_bl I q rfl)

/-- is None, is not None: the right side a value none -/
theorem op_isN : OpR X (compareOp .Is) (fun x y H Q => y = .non ∧ Q (.bl (decide (x = .non))) H) := by
  intro pins s σ H x y v u Q I rx ry h
  obtain ⟨rfl, q⟩ := h
  cases ry
  refine is_none_gen (fin_bl I q ?_)
  cases x <;> first
    | (cases rx; rfl)
    | (obtain ⟨t, rfl⟩ := rx; rfl)
theorem op_notN : OpR X (compareOp .IsNot) (fun x y H Q => y = .non ∧ Q (.bl (!decide (x = .non))) H) := by
  intro pins s σ H x y v u Q I rx ry h
  obtain ⟨rfl, q⟩ := h
  cases ry
  refine isnot_none_gen (fin_bl I q ?_)
  cases x <;> first
    | (cases rx; rfl)
    | (obtain ⟨t, rfl⟩ := rx; rfl)

theorem op_notin_str : OpR X (compareOp .NotIn) (fun x y H Q => ∃ i j, x = .str i ∧ y = .str j ∧ Q (.bl (!(!(Builtin.Str.occurrences j i 0 j.length 1).isEmpty))) H) := by
  intro pins s σ H x y v u Q I rx ry h
  obtain ⟨i, j, rfl, rfl, q⟩ := h
  obtain ⟨t, rfl⟩ := rx
  obtain ⟨t', rfl⟩ := ry
  exact notIn_str (fin_bl I q rfl)
/-- is, is not of two objects that are tracked lists or instances -/
def isObj : HO → Bool
  | .lst _ => true
  | .ins _ _ _ => true
  | _ => false
theorem obj_there {pins : List (Addr × Obj)} {s : Shared} {σ : St} {H : Hp} {a : Addr} {o : HO} (I : Inv X pins σ H s) (h : H a = some o) (p : isObj o = true) : ∃ ob, s.heap.get? a = some ob ∧ ob.cls ≠ .type "tuple" := by
  cases o with
  | lst xs =>
    obtain ⟨_, its, n, _, e⟩ : xs.length ≤ sizeLine ∧ ∃ (its : List Value) (n : Nat), Vals xs its ∧ s.heap.get? a = some { cls := .type "list", data := .seq its.toArray n } := I.hok a _ h
    exact ⟨_, e, (by show Value.type "list" ≠ .type "tuple"; decide +kernel)⟩
  | ins C dx fs =>
    have x := I.hok a _ h
    obtain ⟨_, _, _, e, _⟩ := x
    exact ⟨_, e, (by show Value.ref C ≠ .type "tuple"; exact fun z => by cases z)⟩
  | _ => exact absurd (show false = true from p) Bool.false_ne_true
theorem op_is_ref : OpR X (compareOp .Is) (fun x y H Q => ∃ a b oa ob, x = .ref a ∧ y = .ref b ∧ H a = some oa ∧ isObj oa = true ∧ H b = some ob ∧ isObj ob = true ∧ Q (.bl (decide (a = b))) H) := by
  intro pins s σ H x y v u Q I rx ry h
  obtain ⟨a, b, oa, ob, rfl, rfl, ha, pa, hb, pb, q⟩ := h
  cases rx
  cases ry
  obtain ⟨o1, e1, n1⟩ := obj_there I ha pa
  obtain ⟨o2, e2, _⟩ := obj_there I hb pb
  by_cases z : a = b
  · subst z
    exact wpAny_is_ref_self (fin_bl I q (by simp))
  · exact wpAny_is_ref_other z e1 e2 n1 (fin_bl I q (by simp [z]))
theorem op_isnot_ref : OpR X (compareOp .IsNot) (fun x y H Q => ∃ a b oa ob, x = .ref a ∧ y = .ref b ∧ H a = some oa ∧ isObj oa = true ∧ H b = some ob ∧ isObj ob = true ∧ Q (.bl (!decide (a = b))) H) := by
  intro pins s σ H x y v u Q I rx ry h
  obtain ⟨a, b, oa, ob, rfl, rfl, ha, pa, hb, pb, q⟩ := h
  cases rx
  cases ry
  obtain ⟨o1, e1, n1⟩ := obj_there I ha pa
  obtain ⟨o2, e2, _⟩ := obj_there I hb pb
  by_cases z : a = b
  · subst z
    exact wpAny_isNot_ref_self (fin_bl I q (by simp))
  · exact wpAny_isNot_ref_other z e1 e2 n1 (fin_bl I q (by simp [z]))

/-- two rules for one operation: by cases -/
theorem OpR.or {f : Value → Value → Sem Value} {r r' : R2} (h : OpR X f r) (h' : OpR X f r') : OpR X f (fun x y H Q => r x y H Q ∨ r' x y H Q) := by
  intro pins s σ H x y v u Q I rx ry q
  rcases q with q | q
  · exact h pins s σ H x y v u Q I rx ry q
  · exact h' pins s σ H x y v u Q I rx ry q

theorem nomark (b : Expr) {op : CmpOp} (h : op ≠ .In := by decide) (h2 : op ≠ .NotIn := by decide) : behindInMarks op b = false := by
  have e1 : (op == CmpOp.In) = false := by cases op <;> first | rfl | exact absurd rfl h
  have e2 : (op == CmpOp.NotIn) = false := by cases op <;> first | rfl | exact absurd rfl h2
  cases b <;> simp [behindInMarks, e1, e2]
/-- a comparison as a value; hm: nomark b, or (for in, not in) by with_unfolding_all rfl -/
theorem pe_cmpR {op : CmpOp} {r : R2} (ho : OpR X (compareOp op) r) (ha : PE X a ta) (hb : PE X b tb) (hm : behindInMarks op b = false) : PE X (.Compare a [op] [b] pos) (tOp r ta tb) := by
  intro pins s σ H Q I h
  exact wpAny_Compare1 (binT ha hb I h fun v u s2 x y H2 I2 rx ry q => ho pins s2 σ H2 x y v u Q I2 rx ry q) hm
/-- a reading of a value as a test -/
def tTest (t : TE) : TT := fun σ H Q => t σ H fun x H' => ∃ k, x = .bl k ∧ Q k H'
theorem pt_cmpR {op : CmpOp} {r : R2} (ho : OpR X (compareOp op) r) (ha : PE X a ta) (hb : PE X b tb) (hm : behindInMarks op b = false) : PT X (.Compare a [op] [b] pos) (tTest (tOp r ta tb)) := by
  intro pins s σ H Q I h
  refine wpAny_isTrue_Compare1 (thn (ha pins s σ H _ I h) fun v s1 ⟨x, H1, I1, r1, q1⟩ => thn (hb pins s1 σ H1 _ I1 q1) fun u s2 ⟨y, H2, I2, r2, q2⟩ =>
    thn (ho pins s2 σ H2 x y v u _ I2 r1 r2 q2) fun c s3 ⟨z, H3, I3, r3, k, e, q3⟩ => ?_) hm
  subst e
  cases r3
  exact wpAny_truthy_bool ⟨H3, I3, q3⟩
/-- a op1 b op2 c -/
def tChain (r r' : R2) (ta tb tc : TE) : TE := fun σ H Q => ta σ H fun x H1 => tb σ H1 fun y H2 => r x y H2 fun z H3 => ∃ k, z = .bl k ∧
  (if k = true then tc σ H3 fun w' H4 => r' y w' H4 Q else Q (.bl false) H3)
theorem pe_chain {op op' : CmpOp} {r r' : R2} (ho : OpR X (compareOp op) r) (ho' : OpR X (compareOp op') r') (ha : PE X a ta) (hb : PE X b tb) (hc : PE X c tc)
    (hm : lastMarks [op, op'] [b, c] = false := by with_unfolding_all rfl) : PE X (.Compare a [op, op'] [b, c] pos) (tChain r r' ta tb tc) := by
  intro pins s σ H Q I h
  refine Compare_chain (thn (ha pins s σ H _ I h) fun v s1 ⟨x, H1, I1, r1, q1⟩ => chain_link (thn (hb pins s1 σ H1 _ I1 q1) fun u s2 ⟨y, H2, I2, r2, q2⟩ =>
    thn (ho pins s2 σ H2 x y v u _ I2 r1 r2 q2) fun d s3 ⟨z, H3, I3, r3, k, e, q3⟩ => ?_)) hm
  subst e
  cases r3
  refine wpAny_truthy_bool ?_
  cases k with
  | false => exact ite_ff ⟨.bl false, H3, I3, rfl, q3⟩
  | true => exact ite_tt (chain_last (thn (hc pins s3 σ H3 _ I3 q3) fun w' s4 ⟨z', H4, I4, r4, q4⟩ => ho' pins s4 σ H4 y z' u w' Q I4 r2 r4 q4))
theorem pt_chain {op op' : CmpOp} {r r' : R2} (ho : OpR X (compareOp op) r) (ho' : OpR X (compareOp op') r') (ha : PE X a ta) (hb : PE X b tb) (hc : PE X c tc)
    (hm : lastMarks [op, op'] [b, c] = false := by with_unfolding_all rfl) : PT X (.Compare a [op, op'] [b, c] pos) (tTest (tChain r r' ta tb tc)) := by
  intro pins s σ H Q I h
  refine isTrue_chain (thn (ha pins s σ H _ I h) fun v s1 ⟨x, H1, I1, r1, q1⟩ => test_link (thn (hb pins s1 σ H1 _ I1 q1) fun u s2 ⟨y, H2, I2, r2, q2⟩ =>
    thn (ho pins s2 σ H2 x y v u _ I2 r1 r2 q2) fun d s3 ⟨z, H3, I3, r3, k, e, q3⟩ => ?_)) hm
  subst e
  cases r3
  refine wpAny_truthy_bool ?_
  cases k with
  | false =>
    obtain ⟨k', e', q'⟩ := q3
    cases e'
    exact ite_ff ⟨H3, I3, q'⟩
  | true =>
    refine ite_tt (test_last (thn (hc pins s3 σ H3 _ I3 q3) fun w' s4 ⟨z', H4, I4, r4, q4⟩ => thn (ho' pins s4 σ H4 y z' u w' _ I4 r2 r4 q4) fun d' s5 ⟨z2, H5, I5, r5, k2, e2, q5⟩ => ?_))
    subst e2
    cases r5
    exact wpAny_truthy_bool ⟨H5, I5, q5⟩

/-! ### truth -/
/-- a value's truth by the abstract heap -/
def TruV (K : PySem.W.Frag) (x : V) (H : Hp) (k : Bool) : Prop :=
  match x with
  | .non => k = false
  | .bl b => k = b
  | .int i => k = (i != 0)
  | .str y => y.length ≤ sizeLine ∧ k = ((y.length : Int) != 0)
  | .byt y => y.size ≤ sizeLine ∧ k = ((y.size : Int) != 0)
  | .ref p => (∃ xs, SqL K H p xs ∧ k = !xs.isEmpty) ∨ (∃ xs, SqT K H p xs ∧ k = !xs.isEmpty) ∨ ∃ kvs, H p = some (.dK kvs) ∧ k = !kvs.isEmpty
  | _ => False
theorem isEmpty_kv {κ : Type} {kvs : List (κ × V)} {vs : List (κ × Value)} (r : KV kvs vs) : (!vs.isEmpty) = !kvs.isEmpty := by
  cases r <;> rfl
theorem isEmpty_of {xs : List V} {its : List Value} (r : Vals xs its) : (!its.toArray.isEmpty) = !xs.isEmpty := by
  cases r <;> simp
theorem line63 : (sizeLine : Nat) < 2 ^ 63 := by rw [sizeLine_eq]; decide
theorem tru_ok : TruR X (fun x H Q => ∃ k, TruV X.K x H k ∧ Q k H) := by
  intro pins s σ H x v Q I rx h
  obtain ⟨k, e, q⟩ := h
  have hl := line63
  have hs : sizeLine = 16777216 := sizeLine_eq
  cases x with
  | non =>
    cases rx
    have e' : k = false := e
    subst e'
    exact truthy_none ⟨H, I, q⟩
  | bl b =>
    cases rx
    have e' : k = b := e
    subst e'
    exact wpAny_truthy_bool ⟨H, I, q⟩
  | int i =>
    obtain ⟨t, rfl⟩ := rx
    have e' : k = (i != 0) := e
    subst e'
    exact PySem.P.truthy_int ⟨H, I, q⟩
  | str y =>
    obtain ⟨t, rfl⟩ := rx
    obtain ⟨hy, e'⟩ : y.length ≤ sizeLine ∧ k = ((y.length : Int) != 0) := e
    subst e'
    exact PySem.P.truthy_str (by omega) ⟨H, I.tok _, q⟩
  | byt y =>
    obtain ⟨t, rfl⟩ := rx
    obtain ⟨hy, e'⟩ : y.size ≤ sizeLine ∧ k = ((y.size : Int) != 0) := e
    subst e'
    exact PySem.W.truthy_bytes (by omega) ⟨H, I.tok _, q⟩
  | ref p =>
    cases rx
    have e' : (∃ xs, SqL X.K H p xs ∧ k = !xs.isEmpty) ∨ (∃ xs, SqT X.K H p xs ∧ k = !xs.isEmpty) ∨ ∃ kvs, H p = some (.dK kvs) ∧ k = !kvs.isEmpty := e
    rcases e' with ⟨xs, hx, e'⟩ | ⟨xs, hx, e'⟩ | ⟨kvs, hx, e'⟩
    · subst e'
      obtain ⟨its, r, pl, hz⟩ := I.list hx
      have hlen := r.length
      exact wpAny_truthy_list pl.isList (by simp only [List.size_toArray]; omega) ⟨H, I.tok _, by rw [isEmpty_of r]; exact q⟩
    · subst e'
      obtain ⟨its, r, pl, hz⟩ := I.tuple hx
      have hlen := r.length
      exact truthy_tuple pl (by simp only [List.size_toArray]; omega) ⟨H, I.tok _, by rw [isEmpty_of r]; exact q⟩
    · subst e'
      obtain ⟨hz, hS, vs, r, m⟩ : kvs.length ≤ sizeLine ∧ (p == sysModules) = false ∧ ∃ vs, KV kvs vs ∧ s.heap.DictOf (mixKind X.prog X.w) p vs := I.hok p _ hx
      have hlen : kvs.length = vs.length := Paired.length r
      exact wpAny_truthy_dict hS m (by omega) ⟨H, I.tok _, by rw [isEmpty_kv r]; exact q⟩
  | _ => exact (show False from e).elim
/-- any expression whose test is its value's truth (a name, a call, a subscript, a field ..: he by fun _ => rfl) -/
theorem pt_truth (ha : PE X a ta) (he : ∀ whole, isTrue a X.env whole = (do let v ← whole; standAt a.pos; holding [v] (truthy v))) :
    PT X a (fun σ H Q => ta σ H fun x H' => ∃ k, TruV X.K x H' k ∧ Q k H') := by
  intro pins s σ H Q I h
  exact isTrue_plain (thn (ha pins s σ H _ I h) fun v s1 ⟨x, H1, I1, r1, q1⟩ => tru_ok pins s1 σ H1 x v Q I1 r1 q1) (he _)

/-! ### strs and bytes -/
theorem pe_byt {x : List UInt8} {k : Nat} : PE X (.Constant (.bytes x) k pos) (fun _ H Q => Q (.byt x.toArray) H) := fun _ _ _ H _ I h => PySem.W.Constant_bytes ⟨.byt x.toArray, H, I.tok _, ⟨_, rfl⟩, h⟩
theorem op_add_str : OpR X (binaryOp .Add) (fun x y H Q => ∃ i j, x = .str i ∧ y = .str j ∧ i.length + j.length ≤ sizeLine ∧ Q (.str (i ++ j)) H) := by
  intro pins s σ H x y v u Q I rx ry h
  obtain ⟨i, j, rfl, rfl, hz, q⟩ := h
  obtain ⟨t, rfl⟩ := rx
  obtain ⟨t', rfl⟩ := ry
  exact add_str (fun t' tk => ⟨.str (i ++ j), H, I.tok _, ⟨_, rfl⟩, q⟩) hz
theorem iop_add_str : OpR X (inplaceOp .Add) (fun x y H Q => ∃ i j, x = .str i ∧ y = .str j ∧ i.length + j.length ≤ sizeLine ∧ Q (.str (i ++ j)) H) := by
  intro pins s σ H x y v u Q I rx ry h
  obtain ⟨i, j, rfl, rfl, hz, q⟩ := h
  obtain ⟨t, rfl⟩ := rx
  obtain ⟨t', rfl⟩ := ry
  exact iadd_str (fun t' tk => ⟨.str (i ++ j), H, I.tok _, ⟨_, rfl⟩, q⟩) hz
theorem op_add_byt : OpR X (binaryOp .Add) (fun x y H Q => ∃ i j, x = .byt i ∧ y = .byt j ∧ i.size + j.size ≤ 16777216 ∧ Q (.byt (i ++ j)) H) := by
  intro pins s σ H x y v u Q I rx ry h
  obtain ⟨i, j, rfl, rfl, hz, q⟩ := h
  obtain ⟨t, rfl⟩ := rx
  obtain ⟨t', rfl⟩ := ry
  exact PySem.W.KBy.add_bytes hz (fun t' tk => ⟨.byt (i ++ j), H, I.tok _, ⟨_, rfl⟩, q⟩)

def PlainIxT (b : Expr) : Prop := ∀ o i, subscripted b false o i = operate [o, i] (getItem o i)
/-- s[i], 0 ≤ i < len -/
theorem pe_item_str (ha : PE X a ta) (hb : PE X b tb) (hs : PlainIxT b) :
    PE X (.Subscript a b pos) (tOp (fun x y H Q => ∃ z i c, x = .str z ∧ y = .int i ∧ 0 ≤ i ∧ i < 2 ^ 63 ∧ i < z.length ∧ z.cps[i.toNat]? = some c ∧ Q (.str ⟨#[c]⟩) H) ta tb) := by
  intro pins s σ H Q I h
  refine Subscript_ (binT ha hb I h fun v u s2 x y H2 I2 rx ry q => ?_)
  obtain ⟨z, i, c, rfl, rfl, h0, h63, h1, hc, q⟩ := q
  obtain ⟨t, rfl⟩ := rx
  obtain ⟨t', rfl⟩ := ry
  have e : seqIndex? i z.length = some i.toNat := PySem.StrLaws.seqIndex_nonneg h0 h1
  exact tail_any (typeIs_str s2 z t) slot_str_getitem.lookup (getItem_str (c := c) (by
    have e1 : decide (i < -(2 ^ 63 : Int)) = false := decide_eq_false (by omega)
    have e2 : decide (i ≥ 2 ^ 63) = false := decide_eq_false (by omega)
    rw [e1, e2] <;> rfl) (by rw [e]; exact hc) ⟨.str ⟨#[c]⟩, H2, I2.tok _, ⟨_, rfl⟩, q⟩) (hs _ _)
/-- b[i], 0 ≤ i < len -/
theorem pe_item_byt (ha : PE X a ta) (hb : PE X b tb) (hs : PlainIxT b) :
    PE X (.Subscript a b pos) (tOp (fun x y H Q => ∃ (z : List UInt8) (i : Int), x = .byt z.toArray ∧ y = .int i ∧ z.length ≤ sizeLine ∧ 0 ≤ i ∧ i < z.length ∧ Q (.int ((z.getD i.toNat 0).toNat : Nat)) H) ta tb) := by
  intro pins s σ H Q I h
  refine Subscript_ (binT ha hb I h fun v u s2 x y H2 I2 rx ry q => ?_)
  obtain ⟨z, i, rfl, rfl, hz, h0, h1, q⟩ := q
  obtain ⟨t, rfl⟩ := rx
  obtain ⟨t', rfl⟩ := ry
  have hl : sizeLine = 16777216 := sizeLine_eq
  exact tail_any (PySem.W.typeIs_bytes s2 z.toArray t) PySem.W.FB.slot_bytes_getitem.lookup (PySem.W.getItem_bytes (by omega) h0 h1 ⟨.int ((z.getD i.toNat 0).toNat : Nat), H2, I2.tok _, ⟨_, rfl⟩, q⟩) (hs _ _)

/-! ### scalar builtins, by CallR -/
theorem vals1 {x : V} {us : List Value} (r : Vals [x] us) : ∃ u, us = [u] ∧ RelV x u := by
  cases r with
  | cons r1 r2 => cases r2; exact ⟨_, rfl, r1⟩
theorem vals2 {x y : V} {us : List Value} (r : Vals [x, y] us) : ∃ u w', us = [u, w'] ∧ RelV x u ∧ RelV y w' := by
  cases r with
  | cons r1 r2 =>
    cases r2 with
    | cons r3 r4 => cases r4; exact ⟨_, _, rfl, r1, r3⟩
theorem call_abs : CallR X (.builtin "abs") (fun xs H Q => ∃ i, xs = [.int i] ∧ Q (.int (if i < 0 then -i else i)) H) := by
  intro pins s σ H xs us Q I r h
  obtain ⟨i, rfl, q⟩ := h
  obtain ⟨u, rfl, t, rfl⟩ := vals1 r
  exact call_abs_int fun u tk => ⟨.int (if i < 0 then -i else i), H, I.tok _, ⟨_, rfl⟩, q⟩
theorem call_max2 (hc : X.calm = true) : CallR X (.builtin "max") (fun xs H Q => ∃ i j, xs = [.int i, .int j] ∧ Q (.int (if j > i then j else i)) H) := by
  intro pins s σ H xs us Q I r h
  obtain ⟨i, j, rfl, q⟩ := h
  obtain ⟨u, w', rfl, ⟨t, rfl⟩, ⟨t', rfl⟩⟩ := vals2 r
  refine max_two_ints (I.ok.hd hc) fun h' tk k => ⟨_, H, I.kept k, ?_, q⟩
  by_cases hj : j > i
  · rw [if_pos hj, if_pos hj]; exact ⟨_, rfl⟩
  · rw [if_neg hj, if_neg hj]; exact ⟨_, rfl⟩
theorem call_min2 (hc : X.calm = true) : CallR X (.builtin "min") (fun xs H Q => ∃ i j, xs = [.int i, .int j] ∧ Q (.int (if j < i then j else i)) H) := by
  intro pins s σ H xs us Q I r h
  obtain ⟨i, j, rfl, q⟩ := h
  obtain ⟨u, w', rfl, ⟨t, rfl⟩, ⟨t', rfl⟩⟩ := vals2 r
  refine min_two_ints (I.ok.hd hc) fun h' tk k => ⟨_, H, I.kept k, ?_, q⟩
  by_cases hj : j < i
  · rw [if_pos hj, if_pos hj]; exact ⟨_, rfl⟩
  · rw [if_neg hj, if_neg hj]; exact ⟨_, rfl⟩
theorem call_int1 : CallR X (.type "int") (fun xs H Q => (∃ i, xs = [.int i] ∧ Q (.int i) H) ∨ ∃ k, xs = [.bl k] ∧ Q (.int (if k then 1 else 0)) H) := by
  intro pins s σ H xs us Q I r h
  rcases h with ⟨i, rfl, q⟩ | ⟨k, rfl, q⟩
  · obtain ⟨u, rfl, t, rfl⟩ := vals1 r
    exact call_int_int ⟨.int i, H, I, ⟨_, rfl⟩, q⟩
  · obtain ⟨u, rfl, r1⟩ := vals1 r
    cases r1
    exact call_int_bool ⟨.int (if k then 1 else 0), H, I.tok _, ⟨_, rfl⟩, q⟩
theorem call_bool1 : CallR X (.type "bool") (fun xs H Q => (∃ i, xs = [.int i] ∧ Q (.bl (i != 0)) H) ∨ ∃ k, xs = [.bl k] ∧ Q (.bl k) H) := by
  intro pins s σ H xs us Q I r h
  rcases h with ⟨i, rfl, q⟩ | ⟨k, rfl, q⟩
  · obtain ⟨u, rfl, t, rfl⟩ := vals1 r
    exact call_bool_int ⟨.bl (i != 0), H, I, rfl, q⟩
  · obtain ⟨u, rfl, r1⟩ := vals1 r
    cases r1
    exact call_bool_bool ⟨.bl k, H, I, rfl, q⟩
theorem call_str_int : CallR X (.type "str") (fun xs H Q => ∃ i, xs = [.int i] ∧ i.natAbs.log2 < 1920 ∧ Q (.str (toString i)) H) := by
  intro pins s σ H xs us Q I r h
  obtain ⟨i, rfl, hz, q⟩ := h
  obtain ⟨u, rfl, t, rfl⟩ := vals1 r
  exact PySem.P.str_of_int hz ⟨.str _, H, I.tok _, ⟨_, rfl⟩, q⟩
theorem call_ord : CallR X (.builtin "ord") (fun xs H Q => ∃ x, xs = [.str x] ∧ x.length = 1 ∧ Q (.int (x.cps.getD 0 0 : Nat)) H) := by
  intro pins s σ H xs us Q I r h
  obtain ⟨x, rfl, hz, q⟩ := h
  obtain ⟨u, rfl, t, rfl⟩ := vals1 r
  exact ord_of_one hz ⟨.int _, H, I.tok _, ⟨_, rfl⟩, q⟩
theorem call_chr : CallR X (.builtin "chr") (fun xs H Q => ∃ i, xs = [.int i] ∧ 0 ≤ i ∧ i ≤ 1114111 ∧ Q (.str ⟨#[i.toNat]⟩) H) := by
  intro pins s σ H xs us Q I r h
  obtain ⟨i, rfl, h0, h1, q⟩ := h
  obtain ⟨u, rfl, t, rfl⟩ := vals1 r
  exact chr_of_range h0 h1 ⟨.str _, H, I.tok _, ⟨_, rfl⟩, q⟩
/-- len of a str, a bytes, a list, a tuple -/
def LenV (K : PySem.W.Frag) (x : V) (H : Hp) (n : Nat) : Prop :=
  match x with
  | .str y => y.length ≤ sizeLine ∧ n = y.length
  | .byt y => y.size ≤ sizeLine ∧ n = y.size
  | .ref p => (∃ xs, SqL K H p xs ∧ n = xs.length) ∨ ∃ xs, SqT K H p xs ∧ n = xs.length
  | _ => False
theorem call_len : CallR X (.builtin "len") (fun xs H Q => ∃ x n, xs = [x] ∧ LenV X.K x H n ∧ Q (.int n) H) := by
  intro pins s σ H xs us Q I r h
  obtain ⟨x, n, rfl, e, q⟩ := h
  obtain ⟨u, rfl, rx⟩ := vals1 r
  have hl := line63
  have hs : sizeLine = 16777216 := sizeLine_eq
  cases x with
  | str y =>
    obtain ⟨t, rfl⟩ := rx
    obtain ⟨hy, e'⟩ : y.length ≤ sizeLine ∧ n = y.length := e
    subst e'
    exact len_str (by omega) ⟨.int _, H, I.tok _, ⟨_, rfl⟩, q⟩
  | byt y =>
    obtain ⟨t, rfl⟩ := rx
    obtain ⟨hy, e'⟩ : y.size ≤ sizeLine ∧ n = y.size := e
    subst e'
    exact PySem.W.len_bytes (by omega) ⟨.int _, H, I.tok _, ⟨_, rfl⟩, q⟩
  | ref p =>
    cases rx
    have e' : (∃ xs, SqL X.K H p xs ∧ n = xs.length) ∨ ∃ xs, SqT X.K H p xs ∧ n = xs.length := e
    rcases e' with ⟨xs, hx, e'⟩ | ⟨xs, hx, e'⟩
    · subst e'
      obtain ⟨its, r', pl, hz⟩ := I.list hx
      have hlen := r'.length
      exact Calls.call_len_list pl.isList (by simp only [List.size_toArray]; omega) ⟨.int xs.length, H, I.tok _, ⟨_, by simp only [List.size_toArray]; rw [hlen]⟩, q⟩
    · subst e'
      obtain ⟨its, r', pl, hz⟩ := I.tuple hx
      have hlen := r'.length
      exact len_tuple pl (by simp only [List.size_toArray]; omega) ⟨.int xs.length, H, I.tok _, ⟨_, by simp only [List.size_toArray]; rw [hlen]⟩, q⟩
  | _ => exact (show False from e).elim
/-- divmod: a new tuple -/
theorem call_divmod : CallR X (.builtin "divmod") (fun xs H Q => ∃ i j, xs = [.int i, .int j] ∧ CDiv i j ∧ ∀ p, H p = none → Q (.ref p) (upd H p (.tup [.int (i / j), .int (i % j)]))) := by
  intro pins s σ H xs us Q I r h
  obtain ⟨i, j, rfl, ⟨h1, h2⟩, q⟩ := h
  obtain ⟨u, w', rfl, ⟨t, rfl⟩, ⟨t', rfl⟩⟩ := vals2 r
  refine divmod_int (by omega) ?_ (.inl (PyProof.noPylong_small (by omega)))
  rw [Int.fdiv_eq_ediv_of_nonneg i (by omega), Int.fmod_eq_emod_of_nonneg i (by omega)]
  have hn : H s.heap.objs.size = none := I.hok.fresh (Nat.le_refl _)
  refine ⟨.ref s.heap.objs.size, _, ?_, rfl, q _ hn⟩
  refine I.laid (fun b o e => Heap.get?_push_of_some _ e) (Nat.le_refl _) ⟨by simp only [List.length_cons, List.length_nil]; rw [sizeLine_eq]; decide, [.int (i / j) s.toks, .int (i % j) (s.toks + 1)], .cons ⟨_, rfl⟩ (.cons ⟨_, rfl⟩ .nil), ?_⟩
  exact ⟨_, Heap.get?_push_size s.heap rfl, rfl, 0, rfl⟩
end
end L2

namespace L2
open PySem PySem.Spec PyProof.Rows

/-! ### an instance, its attributes a map -/
structure ObjM (h : Heap) (x dx C : Addr) (mA : Str → Option Value) : Prop where
  obj : h.get? x = some (PySem.W.instObj C dx)
  ns : h.Ns1 dx mA
  ne : dx ≠ x

theorem lookIn_ns {h : Heap} {dx : Addr} {mA : Str → Option Value} (n : h.Ns1 dx mA) : ∃ od, h.get? dx = some od ∧ ∀ name, PySem.W.lookIn name od = some (mA name) := by
  obtain ⟨o, es, ep, ho, hd, hk, _, hm⟩ := n
  refine ⟨o, ho, fun name => ?_⟩
  have e := hm name
  unfold nsFind findBy at e
  rw [← Array.find?_toList] at e
  unfold PySem.W.lookIn
  rw [hd]
  dsimp only
  split
  · rename_i y q
    rw [q] at e
    exact congrArg some e
  · rename_i q
    rw [q] at e
    have a : es.toList.any (·.refKey) = false := by
      rw [List.any_eq_false]
      intro y hy
      obtain ⟨z, t, hkey⟩ := hk y (Array.mem_toList_iff.mp hy)
      simp [DictEntry.refKey, hkey]
    have a' : ¬ es.toList.any (·.refKey) = true := by rw [a]; exact Bool.false_ne_true
    rw [if_neg a']
    exact congrArg some e

theorem ObjM.look {h : Heap} {x dx C : Addr} {mA : Str → Option Value} (I : ObjM h x dx C mA) : ∃ od, PySem.W.InstAt h x (PySem.W.instObj C dx) C (some od) ∧ ∀ name, PySem.W.lookIn name od = some (mA name) :=
  let ⟨od, ho, hl⟩ := lookIn_ns I.ns
  ⟨od, ⟨I.obj, rfl, rfl, ho⟩, hl⟩

section
variable {prog : Program} {w : World} {A : Around} {E : Value → Shared → Prop} {s : Shared} {K : PySem.W.Frag} {x dx C f : Addr} {mA : Str → Option Value} {name : Str} {v : Value}

theorem get_map {expr : Bool} {Q : Value → Shared → Prop} (X : K.In s.heap) (I : ObjM s.heap x dx C mA) (hg : PySem.W.plainGet K C name = true) (hh : PySem.W.hasDictIn K C = true)
    (ha : PySem.W.findIn K (.ref C) name = some none) (hv : mA name = some v) (hv' : PySem.W.handedIn v = true) (h : Q v { s with toks := s.toks + 1 }) :
    wpAny (model prog w) A (getAttr (.ref x) name expr) Q E s := by
  obtain ⟨od, J, hl⟩ := I.look
  exact PySem.W.get_value X J (PySem.W.plainGet_of hg).1 (PySem.W.findObj_own hh ha rfl (by rw [hl, hv])) hv' h

theorem get_const {expr : Bool} {a : Value} {Q : Value → Shared → Prop} (X : K.In s.heap) (I : ObjM s.heap x dx C mA) (hg : PySem.W.plainGet K C name = true) (hh : PySem.W.hasDictIn K C = true)
    (ha : PySem.W.findIn K (.ref C) name = some (some a)) (hn : PySem.W.specialIn K a "__get__" = some none) (hc : PySem.W.copiedNames.contains name = false) (hv : mA name = none) (hv' : PySem.W.handedIn a = true)
    (h : Q a { s with toks := s.toks + 1 }) : wpAny (model prog w) A (getAttr (.ref x) name expr) Q E s := by
  obtain ⟨od, J, hl⟩ := I.look
  exact PySem.W.get_value X J (PySem.W.plainGet_of hg).1 (PySem.W.findObj_cls hh ha hn hv' hc (by rw [hl, hv])) hv' h

theorem get_meth {pl : Sem Bool} {Q : Value × List Value → Shared → Prop} (X : K.In s.heap) (I : ObjM s.heap x dx C mA) (hg : PySem.W.plainGet K C name = true)
    (hf : PySem.W.findIn K (.ref C) name = some (some (.ref f))) (ht : PySem.W.isFn K (.ref f) = true) (hv : mA name = none) (h : Q (.ref f, [.ref x]) s) :
    wpAny (model prog w) A (getMethod (.ref x) name pl) Q E s := by
  obtain ⟨od, J, hl⟩ := I.look
  exact PySem.W.method_fn X J (PySem.W.plainGet_of hg).1 (PySem.W.plainGet_of hg).2 hf (beq_iff_eq.mp ht) (by show (PySem.W.lookIn name od).map (·.isSome) = some false; rw [hl, hv]; rfl) h

theorem set_map {ns : List Str} {Q : Unit → Shared → Prop} (X : K.In s.heap) (I : ObjM s.heap x dx C mA)
    (hs : PySem.W.findIn K (.ref C) "__setattr__" = some (some (.builtin "object.__setattr__"))) (hp : PySem.W.plainOver K C = true) (ht : PySem.W.takerIn K C name = some none) (hh : PySem.W.hasDictIn K C = true)
    (hw : PySem.Within mA ns) (hsz : ns.length ≤ sizeLine)
    (h : ∀ h', ObjM h' x dx C (fun y => if y = name then some v else mA y) → Heap.SameBut dx s.heap h' → Q () { s with heap := h', toks := s.toks + 2 }) :
    wpAny (model prog w) A (setAttr (.ref x) name v) Q E s := by
  obtain ⟨od, J, hl⟩ := I.look
  refine PySem.W.set_plain X J hs (PySem.W.osa_open (s := { s with toks := s.toks + 1 }) (r := none) X J hp ht fun b => ?_)
  obtain ⟨cd, hc, hd'⟩ := PySem.W.any_some hh
  have hx : s.heap.get? x = some ⟨.ref C, some dx, .plain, #[]⟩ := I.obj
  refine wpAny_bind (wpAny_pure (wpAny_bind (wpAny_bind (wpAny_loadPart hx (wpAny_bind (PySem.W.Looks.here (s := { s with toks := s.toks + 1 }) (PySem.W.looks_clsIn X hc) ?_))))))
  rw [hd']
  refine wpAny_pure (a := some dx) (wpAny_bind (wpAny_pure (wpAny_bind ?_)))
  refine wpAny_nsSet1 (s := { s with toks := s.toks + 1 }) I.ns fun h' hn2 hs2 => ?_
  obtain ⟨oD, esD, epD, hoD, hdD, hcD⟩ := hn2.count (PySem.Within.cons name v hw)
  refine wpAny_bind (wpAny_lookBehind hoD (by rw [hdD]; exact pastItsLine_dict (Nat.le_trans hcD (by rw [List.length_cons]; omega))) ?_)
  exact wpAny_pure (h _ ⟨(hs2.2 _ (Ne.symm I.ne)).trans I.obj, hn2, I.ne⟩ hs2)

/-- C(..): the dict at the heap's end, the instance behind it; then its __init__ -/
theorem make_map {R : Result → Shared → Prop} {vs : List Value} {kw : List (Str × Value)} (X : K.In s.heap) (hm : PySem.W.makesIn K C = true)
    (hi : PySem.W.findIn K (.ref C) "__init__" = some (some (.ref f))) (hf : PySem.W.typeIn K (.ref f) = some (.type "function"))
    (h : codeAny (model prog w) (A.under (.builtin "type.__call__" ⟨.ref C :: vs, kw⟩)) (.call (.ref f) ⟨.ref (s.heap.objs.size + 1) :: vs, kw⟩) (PySem.W.InitBack (s.heap.objs.size + 1) R)
      { s with heap := (s.heap.push PySem.W.emptyDict).push (PySem.W.instObj C s.heap.objs.size) }) :
    codeAny (model prog w) A (.call (.ref C) ⟨vs, kw⟩) R s := by
  obtain ⟨hh, g, d, t, os⟩ := s
  exact PySem.W.make_core (PySem.W.makes_of X hm) (PySem.W.looks_findIn X hi) (fun self => PySem.W.bind_fn X self hf) (.inl rfl) h
/-- C() where there is no __init__ but object's -/
theorem make_map0 {R : Result → Shared → Prop} (X : K.In s.heap) (hm : PySem.W.makesIn K C = true)
    (hi : PySem.W.findIn K (.ref C) "__init__" = some (some (.builtin "object.__init__")))
    (hb : ∀ self, PySem.W.Looks (model prog w) s.heap (bindSpecial (.builtin "object.__init__") self) (.builtin "object.__init__", [self]))
    (h : codeAny (model prog w) (A.under (.builtin "type.__call__" ⟨[.ref C], []⟩)) (.call (.builtin "object.__init__") ⟨[.ref (s.heap.objs.size + 1)], []⟩) (PySem.W.InitBack (s.heap.objs.size + 1) R)
      { s with heap := (s.heap.push PySem.W.emptyDict).push (PySem.W.instObj C s.heap.objs.size) }) :
    codeAny (model prog w) A (.call (.ref C) ⟨[], []⟩) R s := by
  obtain ⟨hh, g, d, t, os⟩ := s
  exact PySem.W.make_core (PySem.W.makes_of X hm) (PySem.W.looks_findIn X hi) hb (.inr ⟨rfl, rfl⟩) h
end

/-! ### the attributes as a list of pairs -/
def putF (f : Str) (v : V) : List (Str × V) → List (Str × V)
  | [] => [(f, v)]
  | (g, x) :: r => if g = f then (g, v) :: r else (g, x) :: putF f v r
theorem lookup_putF (f g : Str) (v : V) : ∀ fs : List (Str × V), (putF f v fs).lookup g = if g = f then some v else fs.lookup g
  | [] => by
    show List.lookup g [(f, v)] = _
    by_cases h : g = f
    · have hb : (g == f) = true := beq_iff_eq.mpr h
      simp only [List.lookup, hb, if_pos h]
    · have hb : (g == f) = false := beq_eq_false_iff_ne.mpr h
      simp only [List.lookup, hb, if_neg h]
  | (k, x) :: r => by
    have ih := lookup_putF f g v r
    rw [show putF f v ((k, x) :: r) = (if k = f then (k, v) :: r else (k, x) :: putF f v r) from rfl]
    by_cases hk : k = f
    · rw [if_pos hk]
      by_cases h : g = k
      · have hb : (g == k) = true := beq_iff_eq.mpr h
        simp only [List.lookup, hb, if_pos (h.trans hk)]
      · have hb : (g == k) = false := beq_eq_false_iff_ne.mpr h
        simp only [List.lookup, hb, if_neg (fun e : g = f => h (e.trans hk.symm))]
    · rw [if_neg hk]
      by_cases h : g = k
      · have hb : (g == k) = true := beq_iff_eq.mpr h
        simp only [List.lookup, hb, if_neg (fun e : g = f => hk (h.symm.trans e))]
      · have hb : (g == k) = false := beq_eq_false_iff_ne.mpr h
        simp only [List.lookup, hb]
        exact ih
theorem keys_putF (f : Str) (v : V) : ∀ fs : List (Str × V), f ∈ (putF f v fs).map (·.1) ∧ ∀ g, g ∈ fs.map (·.1) → g ∈ (putF f v fs).map (·.1)
  | [] => ⟨by simp [putF], fun g h => by simp at h⟩
  | (k, x) :: r => by
    obtain ⟨i1, i2⟩ := keys_putF f v r
    rw [show putF f v ((k, x) :: r) = (if k = f then (k, v) :: r else (k, x) :: putF f v r) from rfl]
    by_cases hk : k = f
    · rw [if_pos hk]
      subst hk
      exact ⟨by simp, fun g h => by simpa using h⟩
    · rw [if_neg hk]
      refine ⟨?_, fun g h => ?_⟩
      · rw [List.map_cons]
        exact List.mem_cons_of_mem _ i1
      · rw [List.map_cons] at h ⊢
        rcases List.mem_cons.mp h with e | e
        · exact List.mem_cons.mpr (.inl e)
        · exact List.mem_cons_of_mem _ (i2 g e)
theorem length_putF (f : Str) (v : V) : ∀ fs : List (Str × V), (putF f v fs).length ≤ fs.length + 1
  | [] => by simp [putF]
  | (k, x) :: r => by
    have ih := length_putF f v r
    rw [show putF f v ((k, x) :: r) = (if k = f then (k, v) :: r else (k, x) :: putF f v r) from rfl]
    by_cases hk : k = f
    · rw [if_pos hk, List.length_cons, List.length_cons]; omega
    · rw [if_neg hk, List.length_cons, List.length_cons]; omega

theorem RelO.some_of {v : V} {o : Option Value} (r : RelO (some v) o) : ∃ u, o = some u ∧ RelV v u := by
  cases o with
  | none => exact (show False from r).elim
  | some u => exact ⟨u, rfl, r⟩
theorem RelO.none_of {o : Option Value} (r : RelO none o) : o = none := by
  cases o with
  | none => rfl
  | some u => exact (show False from r).elim
theorem handed_of {v : V} {u : Value} (r : RelV v u) : PySem.W.handedIn u = true := by
  cases v with
  | non => cases (show u = Value.none from r); rfl
  | bl b => cases (show u = Value.bool b from r); rfl
  | int i => obtain ⟨t, e⟩ := (show ∃ t, u = Value.int i t from r); cases e; rfl
  | str x => obtain ⟨t, e⟩ := (show ∃ t, u = Value.str x t from r); cases e; rfl
  | byt b => obtain ⟨t, e⟩ := (show ∃ t, u = Value.bytes b t from r); cases e; rfl
  | flt b => obtain ⟨t, e⟩ := (show ∃ t, u = Value.float b t from r); cases e; rfl
  | ref a => cases (show u = Value.ref a from r); rfl
  | ty n => cases (show u = Value.type n from r); rfl

section
variable {P : Program} {w : World} {H H' : Hp} {h h' : Heap} {a C dx : Addr} {fs fs' : List (Str × V)}
theorem ins_get (hok : HOk P w H h) (e : H a = some (.ins C dx fs)) : ∃ mA, ObjM h a dx C mA ∧ (∀ f, RelO (fs.lookup f) (mA f)) ∧ PySem.Within mA (fs.map (·.1)) ∧ fs.length ≤ 1000 ∧ H dx = some (.own a) := by
  obtain ⟨d, z, ne, ob, mA, n, r, q⟩ := (show ObjOk P w H h a (.ins C dx fs) from hok a _ e)
  exact ⟨mA, ⟨ob, n, ne⟩, r, q, z, d⟩
end

/-! ### what of the text a class must have -/
structure Cls (K : PySem.W.Frag) (C : Addr) : Prop where
  pg : PySem.W.plainGet K C Str.empty = true
  hd : PySem.W.hasDictIn K C = true
  po : PySem.W.plainOver K C = true
  sa : PySem.W.findIn K (.ref C) "__setattr__" = some (some (.builtin "object.__setattr__"))
theorem Cls.get {K : PySem.W.Frag} {C : Addr} (c : Cls K C) (f : Str) : PySem.W.plainGet K C f = true := c.pg
/-- no class of it has the name -/
def NoAttr (K : PySem.W.Frag) (C : Addr) (f : Str) : Prop := PySem.W.findIn K (.ref C) f = some none
theorem NoAttr.taker {K : PySem.W.Frag} {C : Addr} {f : Str} (n : NoAttr K C f) : PySem.W.takerIn K C f = some none := by
  unfold PySem.W.takerIn
  rw [show PySem.W.findIn K (.ref C) f = some none from n]
  rfl
/-- a constant of the class -/
structure Con (K : PySem.W.Frag) (C : Addr) (f : Str) (v : V) (u : Value) : Prop where
  at_ : PySem.W.findIn K (.ref C) f = some (some u)
  rel : RelV v u
  get : PySem.W.specialIn K u "__get__" = some none
  cp : PySem.W.copiedNames.contains f = false
/-- a method: a plain def of the class or of one above it -/
structure Meth (K : PySem.W.Frag) (C : Addr) (m : Str) (f : Addr) : Prop where
  at_ : PySem.W.findIn K (.ref C) m = some (some (.ref f))
  fn : PySem.W.isFn K (.ref f) = true
  kp : PySem.W.keepIn K (.ref f) = true

section
variable {X : Cx} {pins : List (Addr × Obj)} {σ : St} {H : Hp} {s : Shared} {a C dx : Addr} {fs : List (Str × V)} {f : Str} {v : V} {A : Around} {E : Value → Shared → Prop}

theorem getattr_ok {b : Bool} {Q : Value → Shared → Prop} (I : Inv X pins σ H s) (e : H a = some (.ins C dx fs)) (c : Cls X.K C) (n : NoAttr X.K C f) (l : fs.lookup f = some v)
    (h : ∀ u s', Inv X pins σ H s' → RelV v u → Q u s') : wpAny (model X.prog X.w) A (getAttr (.ref a) f b) Q E s := by
  obtain ⟨mA, O, r, _, _, _⟩ := ins_get I.hok e
  obtain ⟨u, hu, ru⟩ := RelO.some_of (v := v) (o := mA f) (by rw [← l]; exact r f)
  exact get_map I.kIn O (c.get f) c.hd n hu (handed_of ru) (h u _ (I.tok _) ru)

theorem getcon_ok {b : Bool} {u : Value} {Q : Value → Shared → Prop} (I : Inv X pins σ H s) (e : H a = some (.ins C dx fs)) (c : Cls X.K C) (k : Con X.K C f v u) (l : fs.lookup f = none)
    (h : ∀ s', Inv X pins σ H s' → Q u s') : wpAny (model X.prog X.w) A (getAttr (.ref a) f b) Q E s := by
  obtain ⟨mA, O, r, _, _, _⟩ := ins_get I.hok e
  have hn : mA f = none := RelO.none_of (by rw [← l]; exact r f)
  exact get_const I.kIn O (c.get f) c.hd k.at_ k.get k.cp hn (handed_of k.rel) (h _ (I.tok _))

theorem getmeth_ok {m : Str} {g : Addr} {pl : Sem Bool} {Q : Value × List Value → Shared → Prop} (I : Inv X pins σ H s) (e : H a = some (.ins C dx fs)) (c : Cls X.K C) (k : Meth X.K C m g) (l : fs.lookup m = none)
    (h : Q (.ref g, [.ref a]) s) : wpAny (model X.prog X.w) A (getMethod (.ref a) m pl) Q E s := by
  obtain ⟨mA, O, r, _, _, _⟩ := ins_get I.hok e
  have hn : mA m = none := RelO.none_of (by rw [← l]; exact r m)
  exact get_meth I.kIn O (c.get m) k.at_ k.fn hn h

theorem setattr_ok {y : V} {u : Value} {Q : Unit → Shared → Prop} (I : Inv X pins σ H s) (e : H a = some (.ins C dx fs)) (c : Cls X.K C) (n : NoAttr X.K C f) (hl : fs.length < 1000) (ry : RelV y u)
    (h : ∀ s', Inv X pins σ (upd H a (.ins C dx (putF f y fs))) s' → Q () s') : wpAny (model X.prog X.w) A (setAttr (.ref a) f u) Q E s := by
  obtain ⟨mA, O, r, wi, _, ho⟩ := ins_get I.hok e
  have hz : (fs.map (·.1)).length ≤ sizeLine := by rw [List.length_map, sizeLine_eq]; omega
  refine set_map I.kIn O c.sa c.po n.taker c.hd wi hz fun h' O' sb => h _ ?_
  have hd : ∃ o, h'.get? dx = some o := let ⟨o, _, _, e', _⟩ := O'.ns; ⟨o, e'⟩
  refine I.write (x := a) (e := dx) (by rw [e]; exact True.intro) (.inr ho) (fun b q hb z => (sb.2 b hb).trans z) hd ?_
  refine ⟨by rw [upd_ne O.ne]; exact ho, ?_, O.ne, O'.obj, _, O'.ns, fun g => ?_, fun g hg => ?_⟩
  · have := length_putF f y fs; omega
  · show RelO ((putF f y fs).lookup g) (if g = f then some u else mA g)
    rw [lookup_putF]
    by_cases q : g = f
    · rw [if_pos q, if_pos q]; exact ry
    · rw [if_neg q, if_neg q]; exact r g
  · by_cases q : g = f
    · rw [q]; exact (keys_putF f y fs).1
    · refine (keys_putF f y fs).2 g (wi g fun z => hg ?_)
      show (if g = f then some u else mA g) = none
      rw [if_neg q]; exact z

/-- a new instance, tracked, without attributes -/
theorem Inv.made (I : Inv X pins σ H s) : Inv X pins σ (upd (upd H s.heap.objs.size (.own (s.heap.objs.size + 1))) (s.heap.objs.size + 1) (.ins C s.heap.objs.size []))
    { s with heap := (s.heap.push PySem.W.emptyDict).push (PySem.W.instObj C s.heap.objs.size) } := by
  have e1 : (s.heap.push PySem.W.emptyDict).get? s.heap.objs.size = some PySem.W.emptyDict := Heap.get?_push_size s.heap rfl
  have e2 : ((s.heap.push PySem.W.emptyDict).push (PySem.W.instObj C s.heap.objs.size)).get? (s.heap.objs.size + 1) = some (PySem.W.instObj C s.heap.objs.size) := by
    have := Heap.get?_push_size (s.heap.push PySem.W.emptyDict) (o := PySem.W.instObj C s.heap.objs.size) rfl
    rwa [Heap.size_push] at this
  have e3 : (s.heap.push PySem.W.emptyDict).Ns s.heap.objs.size (fun _ => none) := ⟨PySem.W.emptyDict, #[], _, e1, rfl, (fun e he => absurd he (by simp)), fun _ => rfl⟩
  have I1 := I.laid (a := s.heap.objs.size) (o := .own (s.heap.objs.size + 1)) (h' := s.heap.push PySem.W.emptyDict) (t' := s.toks) (fun b u q => Heap.get?_push_of_some _ q) (Nat.le_refl _) ⟨_, e1⟩
  refine I1.laid (a := s.heap.objs.size + 1) (o := .ins C s.heap.objs.size []) (t' := s.toks) (fun b u q => Heap.get?_push_of_some _ q) (Nat.le_of_eq (Heap.size_push _ _)) ?_
  have ne : s.heap.objs.size ≠ s.heap.objs.size + 1 := Nat.ne_of_lt (Nat.lt_succ_self _)
  refine ⟨by rw [upd_ne ne, upd_same], Nat.zero_le _, ne, e2, fun _ => none, (Heap.Ns1.of_empty e3).at fun o q => Heap.get?_push_of_some _ q, fun _ => True.intro, fun y hy => absurd rfl hy⟩

/-- e.f where nothing but the object is asked: through attributeBase (super) and the last hold -/
theorem attr_of {prog : Program} {w : World} {env : Env} {e : Expr} {f : Str} {pos : Pos} {s : Shared} {Q : Value → Shared → Prop} (hb : attributeBase e f env (eval e env) = eval e env)
    (h : wpAny (model prog w) A (eval e env) (fun o s₁ => wpAny (model prog w) A (getAttr o f true) Q E s₁) E s) : wpAny (model prog w) A (eval (.Attribute e f pos) env) Q E s :=
  Attribute_any_ h (by rw [arm_eval_Attribute, hb])
end

/-! ### readings and rules -/
/-- e.f, an attribute of the instance -/
def tFld (K : PySem.W.Frag) (ta : TE) (f : Str) : TE := fun σ H Q => ta σ H fun x H1 => ∃ a C dx fs v, x = .ref a ∧ H1 a = some (.ins C dx fs) ∧ Cls K C ∧ NoAttr K C f ∧ fs.lookup f = some v ∧ Q v H1
/-- e.f, a constant of the class -/
def tCon (K : PySem.W.Frag) (ta : TE) (f : Str) : TE := fun σ H Q => ta σ H fun x H1 => ∃ a C dx fs v u, x = .ref a ∧ H1 a = some (.ins C dx fs) ∧ Cls K C ∧ Con K C f v u ∧ fs.lookup f = none ∧ Q v H1
/-- e.f = value -/
def sFld (K : PySem.W.Frag) (ta tv : TE) (f : Str) : TS := fun D σ H => tv σ H fun y H1 => ta σ H1 fun x H2 => ∃ a C dx fs, x = .ref a ∧ H2 a = some (.ins C dx fs) ∧ Cls K C ∧ NoAttr K C f ∧ fs.length < 1000 ∧
  D.nx σ (upd H2 a (.ins C dx (putF f y fs)))
/-- an augmented operator on two values -/
def InOp (X : Cx) (op : Operator) (rd : V → V → Hp → VK → Prop) : Prop :=
  ∀ (pins : List (Addr × Obj)) (s : Shared) (σ : St) (H : Hp) (x y : V) (u v : Value) (Q : VK), Inv X pins σ H s → RelV x u → RelV y v → rd x y H Q → wpAny (model X.prog X.w) X.A (inplaceOp op u v) (EP X pins σ Q) X.xe s
/-- e.f op= value -/
def sFldAug (K : PySem.W.Frag) (ta tv : TE) (rd : V → V → Hp → VK → Prop) (f : Str) : TS := fun D σ H => ta σ H fun x H1 => ∃ a C dx fs v, x = .ref a ∧ H1 a = some (.ins C dx fs) ∧ Cls K C ∧ NoAttr K C f ∧ fs.lookup f = some v ∧
  tv σ H1 fun y H2 => rd v y H2 fun z H3 => ∃ dx' fs', H3 a = some (.ins C dx' fs') ∧ fs'.length < 1000 ∧ D.nx σ (upd H3 a (.ins C dx' (putF f z fs')))

section
variable {X : Cx} {o e value : Expr} {f : Str} {pos pos' tpos : Pos} {ta tv : TE}
theorem pe_fld (he : PE X e ta) (hb : attributeBase e f X.env (eval e X.env) = eval e X.env) : PE X (.Attribute e f pos) (tFld X.K ta f) := by
  intro pins s σ H Q I h
  refine attr_of hb (thn (he pins s σ H _ I h) fun u s1 ⟨x, H1, I1, rx, a, C, dx, fs, v, ex, ea, c, n, l, q⟩ => ?_)
  subst ex
  obtain rfl : u = Value.ref a := rx
  exact getattr_ok I1 ea c n l fun u' s2 I2 ru => ⟨v, H1, I2, ru, q⟩
theorem pe_con (he : PE X e ta) (hb : attributeBase e f X.env (eval e X.env) = eval e X.env) : PE X (.Attribute e f pos) (tCon X.K ta f) := by
  intro pins s σ H Q I h
  refine attr_of hb (thn (he pins s σ H _ I h) fun u s1 ⟨x, H1, I1, rx, a, C, dx, fs, v, u0, ex, ea, c, k, l, q⟩ => ?_)
  subst ex
  obtain rfl : u = Value.ref a := rx
  exact getcon_ok I1 ea c k l fun s2 I2 => ⟨v, H1, I2, k.rel, q⟩
theorem ps_fld (ha : PE X o ta) (hv : PE X value tv) (hs : swapsWith value (some (.Attribute o f pos')) pos.line X.env = pure false) : PS X (.Assign [.Attribute o f pos'] value pos) (sFld X.K ta tv f) := by
  intro pins s σ H D I h
  refine plainObj_wpAny_Assign_Attribute (thn (hv pins s σ H _ I h) fun u s1 ⟨y, H1, I1, ry, q⟩ => thn (ha pins s1 σ H1 _ I1 q) fun ov s2 ⟨x, H2, I2, rx, a, C, dx, fs, ex, ea, c, n, l, q2⟩ => ?_) hs
  subst ex
  obtain rfl : ov = Value.ref a := rx
  exact setattr_ok I2 ea c n l ry fun s3 I3 => ⟨σ, _, I3, q2⟩
theorem ps_fldaug {op : Operator} {rd : V → V → Hp → VK → Prop} (ha : PE X o ta) (hv : PE X value tv) (hop : InOp X op rd) : PS X (.AugAssign (.Attribute o f tpos) op value pos) (sFldAug X.K ta tv rd f) := by
  intro pins s σ H D I h
  refine wpAny_AugAssign_AttributeAny (thn (ha pins s σ H _ I h) fun ov s1 ⟨x, H1, I1, rx, a, C, dx, fs, v, ex, ea, c, n, l, q⟩ => ?_)
  subst ex
  obtain rfl : ov = Value.ref a := rx
  refine getattr_ok I1 ea c n l fun u s2 I2 ru => thn (hv pins s2 σ H1 _ I2 q) fun w3 s3 ⟨y, H2, I3, ry, q3⟩ => thn (hop pins s3 σ H2 v y u w3 _ I3 ru ry q3) fun w4 s4 ⟨z, H3, I4, rz, dx', fs', ea', l', q4⟩ => ?_
  exact setattr_ok I4 ea' c n l' rz fun s5 I5 => ⟨σ, _, I5, q4⟩
def rAdd : V → V → Hp → VK → Prop := fun x y H Q => ∃ i j, x = .int i ∧ y = .int j ∧ Q (.int (i + j)) H
def rSub : V → V → Hp → VK → Prop := fun x y H Q => ∃ i j, x = .int i ∧ y = .int j ∧ Q (.int (i - j)) H
theorem in_add : InOp X .Add rAdd := by
  rintro pins s σ H x y u v Q I rx ry ⟨i, j, rfl, rfl, q⟩
  obtain ⟨t, rfl⟩ := (show ∃ t, u = Value.int i t from rx)
  obtain ⟨t', rfl⟩ := (show ∃ t', v = Value.int j t' from ry)
  exact PyProof.Rows.iadd_int ⟨.int (i + j), H, I.tok _, ⟨_, rfl⟩, q⟩
theorem in_sub : InOp X .Sub rSub := by
  rintro pins s σ H x y u v Q I rx ry ⟨i, j, rfl, rfl, q⟩
  obtain ⟨t, rfl⟩ := (show ∃ t, u = Value.int i t from rx)
  obtain ⟨t', rfl⟩ := (show ∃ t', v = Value.int j t' from ry)
  exact PyProof.Rows.isub_int ⟨.int (i - j), H, I.tok _, ⟨_, rfl⟩, q⟩

/-- what is between an instance and its method: the tree of a method call -/
theorem methcall_of {pl : Sem Bool} {m : Str} {apos : Pos} {args : List Expr} {pins : List (Addr × Obj)} {s : Shared} {σ : St} {H : Hp} {Q : Value → Shared → Prop} {te : TE} (he : PE X e te) (I : Inv X pins σ H s)
    (h : te σ H fun x H1 => ∃ a C dx fs g, x = .ref a ∧ H1 a = some (.ins C dx fs) ∧ Cls X.K C ∧ Meth X.K C m g ∧ fs.lookup m = none ∧
      ∀ s1, Inv X pins σ H1 s1 → wpAny (model X.prog X.w) X.A (callWith pos (.ref g) [.ref a] (backTo pos (starEach args X.env)) (backToKw pos (keywordEach [] X.env))) Q X.xe s1)
    (ht : eval (.Call (.Attribute e m apos) args [] pos) X.env = (do
      let ov ← eval e X.env
      standAt apos.atName
      let (f, first) ← holding [ov] (getMethod ov m pl)
      callWith pos f first (backTo pos (starEach args X.env)) (backToKw pos (keywordEach [] X.env)))) :
    wpAny (model X.prog X.w) X.A (eval (.Call (.Attribute e m apos) args [] pos) X.env) Q X.xe s := by
  refine PySem.W.methodCall_KW (pl := pl) (thn (he pins s σ H _ I h) fun u s1 ⟨x, H1, I1, rx, a, C, dx, fs, g, ex, ea, c, k, l, q⟩ => ?_) ht
  subst ex
  obtain rfl : u = Value.ref a := rx
  exact getmeth_ok I1 ea c k l (q s1 I1)
end

/-! ### isinstance -/
section
variable {X : Cx} {pins : List (Addr × Obj)} {σ : St} {H : Hp} {s : Shared} {A : Around} {E : Value → Shared → Prop} {Q : Value → Shared → Prop} {c : Value} {b : Bool}
/-- the type of a value, as the fragment's deciders take it; for an instance its class -/
inductive TyOf (K : PySem.W.Frag) (H : Hp) : V → Value → Prop where
  | non : TyOf K H .non (.type "NoneType")
  | bl (x : Bool) : TyOf K H (.bl x) (.type "bool")
  | int (i : Int) : TyOf K H (.int i) (.type "int")
  | str (x : Str) : TyOf K H (.str x) (.type "str")
  | flt (x : UInt64) : TyOf K H (.flt x) (.type "float")
  | lst {a : Addr} {xs : List V} (e : H a = some (.lst xs)) : TyOf K H (.ref a) (.type "list")
  | frz {a : Addr} {o : Obj} {xs : List V} (e : H a = some (.frz o (.lst xs))) : TyOf K H (.ref a) (.type "list")
  | tup {a : Addr} {xs : List V} (e : H a = some (.tup xs)) : TyOf K H (.ref a) (.type "tuple")
  | dK {a : Addr} {kvs : List (Key × V)} (e : H a = some (.dK kvs)) : TyOf K H (.ref a) (.type "dict")
  | dT {a : Addr} {kvs : List (List Key × V)} (e : H a = some (.dT kvs)) : TyOf K H (.ref a) (.type "dict")
  | ins {a C dx : Addr} {fs : List (Str × V)} (e : H a = some (.ins C dx fs)) (cl : Cls K C) (ha : PySem.W.findIn K (.ref C) "__class__" = some (some (.builtin "object.__class__")))
      (hn : PySem.W.specialIn K (.builtin "object.__class__") "__get__" = some (some (.builtin "getset_descriptor.__get__"))) (htk : PySem.W.takesIn K (.builtin "object.__class__") = some true)
      (hm : PySem.W.mroIn K C (.type "object") = some true) : TyOf K H (.ref a) (.ref C)
/-- isinstance(x, c) for one class c, a built-in or an own one: kitOne's answer -/
theorem isinst_ok {x : V} {u t : Value} (I : Inv X pins σ H s) (rx : RelV x u) (ty : TyOf X.K H x t) (e : PySem.W.kitOne X.K t c = some b) (h : ∀ tk, Q (.bool b) { s with toks := tk }) :
    wpAny (model X.prog X.w) A (call (.builtin "isinstance") [u, c]) Q E s := by
  cases ty with
  | non => cases (show u = Value.none from rx); exact PySem.W.kia_one PySem.W.kitx_none I.kIn True.intro e (fun z => nomatch z) h
  | bl y => cases (show u = Value.bool y from rx); exact PySem.W.kia_one PySem.W.kitx_bool I.kIn True.intro e (fun z => nomatch z) h
  | int i => obtain ⟨t, q⟩ := (show ∃ t, u = Value.int i t from rx); cases q; exact PySem.W.kia_one PySem.W.kitx_int I.kIn True.intro e (fun z => nomatch z) h
  | str y => obtain ⟨t, q⟩ := (show ∃ t, u = Value.str y t from rx); cases q; exact PySem.W.kia_one PySem.W.kitx_str I.kIn True.intro e (fun z => nomatch z) h
  | flt y => obtain ⟨t, q⟩ := (show ∃ t, u = Value.float y t from rx); cases q; exact PySem.W.kia_one PySem.W.kitx_float I.kIn True.intro e (fun z => nomatch z) h
  | @lst a xs ea =>
    cases (show u = Value.ref a from rx)
    obtain ⟨_, _, n, _, h1⟩ := (show ObjOk X.prog X.w H s.heap a (.lst xs) from I.hok a _ ea)
    exact PySem.W.kia_one PySem.W.kitx_list I.kIn ⟨_, h1, rfl⟩ e (fun z => nomatch z) h
  | @frz a ob xs ea =>
    cases (show u = Value.ref a from rx)
    obtain ⟨_, _, _, n, _, h1⟩ := (show ObjOk X.prog X.w H s.heap a (.frz ob (.lst xs)) from I.hok a _ ea)
    exact PySem.W.kia_one PySem.W.kitx_list I.kIn ⟨_, h1, rfl⟩ e (fun z => nomatch z) h
  | @tup a xs ea =>
    cases (show u = Value.ref a from rx)
    obtain ⟨_, _, _, p⟩ := (show ObjOk X.prog X.w H s.heap a (.tup xs) from I.hok a _ ea)
    obtain ⟨o, h1, h2, _⟩ := p
    exact PySem.W.kia_one PySem.W.kitx_tuple I.kIn ⟨o, h1, h2⟩ e (fun z => nomatch z) h
  | @dK a kvs ea =>
    cases (show u = Value.ref a from rx)
    obtain ⟨_, _, vs, _, p⟩ := (show ObjOk X.prog X.w H s.heap a (.dK kvs) from I.hok a _ ea)
    obtain ⟨o, es, ep, h1, h2, _⟩ := p
    exact PySem.W.kia_one PySem.W.kitx_dict I.kIn ⟨o, h1, h2.1⟩ e (fun z => nomatch z) h
  | @dT a kvs ea =>
    cases (show u = Value.ref a from rx)
    obtain ⟨_, _, xs, _, o, es, ep, h1, h2, _⟩ := (show ObjOk X.prog X.w H s.heap a (.dT kvs) from I.hok a _ ea)
    exact PySem.W.kia_one PySem.W.kitx_dict I.kIn ⟨o, h1, h2.1⟩ e (fun z => nomatch z) h
  | @ins a C dx fs ea cl ha hn htk hm =>
    cases (show u = Value.ref a from rx)
    obtain ⟨mA, O, _⟩ := ins_get I.hok ea
    obtain ⟨od, J, _⟩ := O.look
    exact PySem.W.kia_one (PySem.W.kitx_own (cl.get _) cl.hd ha hn htk hm) I.kIn J e (fun z => nomatch z) h
end
end L2

namespace L2
open PySem PySem.Spec PyProof.Rows

/-! ### room -/
structure Room (k : Nat) (A : Around) : Prop where
  hd : A.handled = none
  dp : A.depth + 3 * k + 5 < recursionLimit
  un : A.units + 16 * k + 200 < cLine
theorem Room.mono {j k : Nat} {A : Around} (r : Room k A) (h : j ≤ k) : Room j A := ⟨r.hd, by have := r.dp; omega, by have := r.un; omega⟩
theorem Room.deeper {k : Nat} {A : Around} (r : Room (k + 1) A) (env : Env) : Room k (A.deeper env) :=
  ⟨r.hd, by have := r.dp; show A.depth + 1 + 3 * k + 5 < _; omega, by have := r.un; show A.units + 3 + 16 * k + 200 < _; omega⟩
theorem Room.in1 {k : Nat} {A : Around} (r : Room (k + 1) A) : Room k A.in1 :=
  ⟨r.hd, by have := r.dp; show A.depth + 3 * k + 5 < _; omega, by have := r.un; show A.units + 1 + 16 * k + 200 < _; omega⟩
theorem make_depth {A : Around} {C : Addr} {us : List Value} {kw : List (Str × Value)} : (A.under (.builtin "type.__call__" ⟨.ref C :: us, kw⟩)).depth = A.depth + 1 := by
  first | rfl | simp [Around.under, Code.weight, Code.isCreation, Code.isGuard, Code.isCaller, Code.frames, Code.isFrame, guardIds]
theorem make_units {A : Around} {C : Addr} {us : List Value} {kw : List (Str × Value)} : (A.under (.builtin "type.__call__" ⟨.ref C :: us, kw⟩)).units = A.units + 1 := by
  first | rfl | simp [Around.under, Code.cUnits, Code.frames, Code.isFrame]
theorem Room.make {k : Nat} {A : Around} (r : Room (k + 1) A) (C : Addr) (us : List Value) (kw : List (Str × Value)) : Room k (A.under (.builtin "type.__call__" ⟨.ref C :: us, kw⟩)) :=
  ⟨r.hd, by have := r.dp; rw [make_depth]; omega, by have := r.un; rw [make_units]; omega⟩
theorem Room.depth {k : Nat} {A : Around} (r : Room k A) : A.depth < recursionLimit := by have := r.dp; omega
theorem Room.units {k : Nat} {A : Around} (r : Room k A) : A.units + 64 < cLine := by have := r.un; omega
theorem Room.units0 {k : Nat} {A : Around} (r : Room k A) : A.units < cLine := by have := r.un; omega

/-! ### argument lists and displays -/
def tNil : TA := fun _ H Q => Q [] H
def tCons (ta : TE) (tr : TA) : TA := fun σ H Q => ta σ H fun x H1 => tr σ H1 fun xs H2 => Q (x :: xs) H2
section
variable {X : Cx} {e : Expr} {es : List Expr} {te : TE} {t : TA} {pos : Pos}
theorem pa_nil : PA X [] tNil := fun _ _ _ _ H Q I h => Calls.spliced_nil ⟨[], H, I, .nil, h⟩
theorem pa_cons (ha : PE X e te) (hr : PA X es t) (hs : starEach (e :: es) X.env = (false, eval e X.env) :: starEach es X.env := by rfl) : PA X (e :: es) (tCons te t) := by
  intro pos pins s σ H Q I h
  rw [hs]
  show wpAny _ _ (spliced ((false, eval e X.env) :: backTo pos (starEach es X.env))) _ _ s
  refine Calls.spliced_cons (thn (ha pins s σ H _ I h) fun u s1 ⟨x, H1, I1, r1, q1⟩ => ?_)
  exact thn (hr pos pins s1 σ H1 _ I1 q1) fun us s2 ⟨xs, H2, I2, r2, q2⟩ => ⟨x :: xs, H2, I2, .cons r1 r2, q2⟩

/-- a tuple, a list of written items -/
def tTup (t : TA) : TE := fun σ H Q => t σ H fun xs H1 => xs.length ≤ sizeLine ∧ ∀ p, H1 p = none → Q (.ref p) (upd H1 p (.tup xs))
def tLst (t : TA) : TE := fun σ H Q => t σ H fun xs H1 => xs.length ≤ sizeLine ∧ ∀ p, H1 p = none → Q (.ref p) (upd H1 p (.lst xs))
theorem pe_tup {x1} (h : PA X es t) : PE X (.Tuple es x1 pos) (tTup t) := by
  intro pins s σ H Q I hq
  refine wpAny_Tuple_spliced (thn (h pos pins s σ H _ I hq) fun us s1 ⟨xs, H1, I1, r, z, q⟩ => ⟨by rw [← r.length]; exact z, ?_⟩)
  have hf : H1 s1.heap.objs.size = none := I1.hok.fresh (Nat.le_refl _)
  refine ⟨.ref s1.heap.objs.size, upd H1 s1.heap.objs.size (.tup xs), I1.laid (t' := s1.toks) (fun b u e => Heap.get?_push_of_some _ e) (Nat.le_refl _) ?_, rfl, q _ hf⟩
  exact ⟨z, us, r, ⟨_, Heap.get?_push_size _ rfl, rfl, _, rfl⟩⟩
theorem pe_lst (h : PA X es t) : PE X (.List es pos) (tLst t) := by
  intro pins s σ H Q I hq
  refine wpAny_List_spliced (thn (h pos pins s σ H _ I hq) fun us s1 ⟨xs, H1, I1, r, z, q⟩ => ⟨by rw [← r.length]; exact z, ?_⟩)
  have hf : H1 s1.heap.objs.size = none := I1.hok.fresh (Nat.le_refl _)
  refine ⟨.ref s1.heap.objs.size, upd H1 s1.heap.objs.size (.lst xs), I1.laid (t' := s1.toks) (fun b u e => Heap.get?_push_of_some _ e) (Nat.le_refl _) ?_, rfl, q _ hf⟩
  exact ⟨z, us, 0, r, Heap.get?_push_size _ rfl⟩
end

/-! ### what a def promises -/
/-- a def's promise: the bound arguments in the parameters' order, the heap, the wanted end, the wanted exception -/
abbrev Sp := List V → Hp → VK → XK → Prop
/-- how an exception lies behind a call (file 08 gives it): the callers' frames, abstract heap and state ahead of the call, the wish, the exception, the state -/
abbrev CXT := List Env → Hp → Shared → XK → Value → Shared → Prop

/-- the state at a call -/
structure Env0 (P : Program) (w : World) (K : PySem.W.Frag) (mg : Str → Option Value) (base : Heap) (A : Around) (outer : List Env) (s : Shared) (H : Hp) : Prop where
  frames : A.frames = some outer
  mod : Mod K mg base
  bs : ∀ b o, base.get? b = some o → s.heap.get? b = some o ∧ H b = none
  bsz : base.objs.size ≤ s.heap.objs.size
  funs : s.heap.FunFrames base outer
  frf : ∀ b ∈ frs outer, H b = none
  hok : HOk P w H s.heap
  bare : AllBare s.gens
/-- a call's end -/
def CE (outer : List Env) (P : Program) (w : World) (H : Hp) (s : Shared) (Q : VK) (u : Value) (s' : Shared) : Prop :=
  ∃ v H', s'.os = s.os ∧ AllBare s'.gens ∧ Un (frs outer) [] H H' s.heap s'.heap ∧ HOk P w H' s'.heap ∧ RelV v u ∧ Q v H'
def CR (CX : CXT) (outer : List Env) (P : Program) (w : World) (H : Hp) (s : Shared) (Q : VK) (E : XK) (r : Result) (s' : Shared) : Prop :=
  match r with
  | .ok (.ret u) => CE outer P w H s Q u s'
  | .ok _ => False
  | .error e => CX outer H s E e s'
structure FnOk (P : Program) (w : World) (K : PySem.W.Frag) (mg : Str → Option Value) (base : Heap) (CX : CXT) (k : Nat) (f : Addr) (fd : FuncData) (ps : List Str) (sp : Sp) : Prop where
  len : ∀ vs H Q E, sp vs H Q E → vs.length = ps.length
  run : ∀ (A : Around) (outer : List Env) (s : Shared) (H : Hp) (args : Args) (us : List Value) (vs : List V) (Q : VK) (E : XK), Room k A → Env0 P w K mg base A outer s H → BindsTo s fd args (ps.zip us) → Vals vs us → sp vs H Q E →
    codeAny (model P w) A (.call (.ref f) args) (CR CX outer P w H s Q E) s
theorem FnOk.mono {P : Program} {w : World} {K : PySem.W.Frag} {mg : Str → Option Value} {base : Heap} {CX : CXT} {j k : Nat} {f : Addr} {fd : FuncData} {ps : List Str} {sp : Sp} (F : FnOk P w K mg base CX j f fd ps sp) (h : j ≤ k) :
    FnOk P w K mg base CX k f fd ps sp := ⟨F.len, fun A outer s H args us vs Q E hr => F.run A outer s H args us vs Q E (hr.mono h)⟩
/-- a weaker promise -/
theorem FnOk.imp {P : Program} {w : World} {K : PySem.W.Frag} {mg : Str → Option Value} {base : Heap} {CX : CXT} {k : Nat} {f : Addr} {fd : FuncData} {ps : List Str} {sp sp' : Sp} (F : FnOk P w K mg base CX k f fd ps sp)
    (h : ∀ vs H Q E, sp' vs H Q E → sp vs H Q E) : FnOk P w K mg base CX k f fd ps sp' :=
  ⟨fun vs H Q E q => F.len vs H Q E (h _ _ _ _ q), fun A outer s H args us vs Q E hr he hb hv hs => F.run A outer s H args us vs Q E hr he hb hv (h _ _ _ _ hs)⟩

theorem Env0.make {P : Program} {w : World} {K : PySem.W.Frag} {mg : Str → Option Value} {base : Heap} {A : Around} {outer : List Env} {s : Shared} {H : Hp} (e : Env0 P w K mg base A outer s H) (C : Addr) (us : List Value) (kw : List (Str × Value)) :
    Env0 P w K mg base (A.under (.builtin "type.__call__" ⟨.ref C :: us, kw⟩)) outer s H := ⟨by first | exact e.frames | (simpa [Around.under, Code.envs, Code.isFrame, pushEnvs] using e.frames), e.mod, e.bs, e.bsz, e.funs, e.frf, e.hok, e.bare⟩
theorem Env0.in1 {P : Program} {w : World} {K : PySem.W.Frag} {mg : Str → Option Value} {base : Heap} {A : Around} {outer : List Env} {s : Shared} {H : Hp} (e : Env0 P w K mg base A outer s H) :
    Env0 P w K mg base A.in1 outer s H := ⟨e.frames, e.mod, e.bs, e.bsz, e.funs, e.frf, e.hok, e.bare⟩

section
variable {X : Cx} {pins : List (Addr × Obj)} {σ : St} {H : Hp} {s s' : Shared}
/-- from a body: what a callee wants -/
theorem Inv.env0 (I : Inv X pins σ H s) : Env0 X.prog X.w X.K X.mg X.base X.A X.stack s H :=
  ⟨I.ok.frames, I.ok.mod, I.bs, Nat.le_trans I.ok.bsz I.sz, I.stack, I.stkFree, I.hok, I.bare⟩
/-- behind a call -/
theorem Inv.after {Q : VK} {u : Value} (I : Inv X pins σ H s) (h : CE X.stack X.prog X.w H s Q u s') : EP X pins σ Q u s' := by
  obtain ⟨v, H', os, bare, un, hok, r, q⟩ := h
  obtain ⟨hh, g, d, t, os'⟩ := s'
  obtain rfl : os' = s.os := os
  exact ⟨v, H', I.call (h' := hh) (g' := g) (d' := d) (t' := t) (ch := []) un hok bare (fun b z => absurd z (by simp)), r, q⟩
end

/-! ### calls -/
/-- f(..): the written arguments, then the defaults dvs; E: what is wanted of an exception -/
def tCall (sp : Sp) (dvs : List V) (E : XK) (t : TA) : TE := fun σ H Q => t σ H fun vs H1 => sp (vs ++ dvs) H1 Q E
/-- o.m(..) of an instance of the class at C -/
def tMeth (C : Addr) (m : Str) (sp : Sp) (dvs : List V) (E : XK) (ta : TE) (t : TA) : TE := fun σ H Q => ta σ H fun x H1 => ∃ a dx fs, x = .ref a ∧ H1 a = some (.ins C dx fs) ∧ fs.lookup m = none ∧
  t σ H1 fun vs H2 => sp (x :: (vs ++ dvs)) H2 Q E
/-- C(..): a new instance and its dict, then __init__ -/
def tMake (C : Addr) (sp : Sp) (dvs : List V) (E : XK) (t : TA) : TE := fun σ H Q => t σ H fun vs H1 => ∀ x dx, H1 x = none → H1 dx = none → dx ≠ x →
  sp (.ref x :: (vs ++ dvs)) (upd (upd H1 dx (.own x)) x (.ins C dx [])) (fun v H2 => v = .non ∧ Q (.ref x) H2) E

/-- how the parameters are bound: us the positional arguments, kw the keywords' values by name, ds the defaults that fill up -/
def Binds (K : PySem.W.Frag) (fd : FuncData) (ps : List Str) (ds : List Value) : Prop :=
  ∀ (s : Shared) (us : List Value), K.In s.heap → (us ++ ds).length = ps.length → BindsTo s fd ⟨us, []⟩ (ps.zip (us ++ ds))
/-- every parameter is given -/
theorem Binds.all {K : PySem.W.Frag} {fd : FuncData} {ps : List Str} (h : ∀ us : List Value, us.length = ps.length → bindArgs fd ⟨us, []⟩ = pure (ps.zip us)) : Binds K fd ps [] := fun s us _ hl => by
  rw [List.append_nil] at hl ⊢
  exact .of_eq (h us hl)

/-- an exception of a callee reaches what this body wants of exceptions -/
def Passes (CX : CXT) (X : Cx) (E : XK) : Prop := ∀ (pins : List (Addr × Obj)) (σ : St) (H : Hp) (s : Shared) (e : Value) (s' : Shared), Inv X pins σ H s → CX X.stack H s E e s' → X.xe e s'

section
variable {X : Cx} {CX : CXT} {k : Nat} {f C : Addr} {fd : FuncData} {ps : List Str} {sp : Sp} {dvs : List V} {ds : List Value} {E : XK} {x m : Str} {p pos apos : Pos} {e o : Expr} {es : List Expr} {ta : TE} {t : TA}

/-- the callee runs -/
theorem run_fn {pins : List (Addr × Obj)} {σ : St} {H : Hp} {s : Shared} {Q : VK} {us : List Value} {vs : List V} (F : FnOk X.prog X.w X.K X.mg X.base CX k f fd ps sp) (hr : Room k X.A) (hb : Binds X.K fd ps ds) (hd : Vals dvs ds) (hx : Passes CX X E)
    (I : Inv X pins σ H s) (r : Vals vs us) (h : sp (vs ++ dvs) H Q E) : wpAny (model X.prog X.w) X.A (call (.ref f) us) (EP X pins σ Q) X.xe s := by
  have r2 : Vals (vs ++ dvs) (us ++ ds) := r.append hd
  have hl : (us ++ ds).length = ps.length := by rw [← r2.length]; exact F.len _ _ _ _ h
  refine wpAny_call (codeAny_mono (F.run X.A X.stack s H ⟨us, []⟩ (us ++ ds) (vs ++ dvs) Q E hr I.env0 (hb s us I.kIn hl) r2 h) fun r s' hq => ?_)
  cases r with
  | error e => exact hx pins σ H s e s' I hq
  | ok fl =>
    cases fl with
    | ret u => exact I.after hq
    | next => exact False.elim hq
    | brk => exact False.elim hq
    | cont => exact False.elim hq

theorem pe_call (F : FnOk X.prog X.w X.K X.mg X.base CX k f fd ps sp) (hr : Room k X.A) (hg : Gl X x) (hm : X.mg x = some (.ref f)) (hk : PySem.W.keepIn X.K (.ref f) = true) (hb : Binds X.K fd ps ds) (hd : Vals dvs ds) (hx : Passes CX X E)
    (ha : PA X (e :: es) t) (hdb : (x == ("__debug__" : Str)) = false := by decide) (he : starEach (e :: es) X.env = (false, eval e X.env) :: starEach es X.env := by rfl) (hpl : (backTo pos (starEach es X.env)).any (·.1) = false := by rfl) :
    PE X (.Call (.Name x p) (e :: es) [] pos) (tCall sp dvs E t) := by
  intro pins s σ H Q I h
  refine wpAny_Call_Name_kw (ld_glob I hg hm ?_ hdb)
  refine PySem.W.callWith_K (h₀ := X.base) I.ok.mod.kin hk (thn (ha pos pins s σ H _ I h) fun us s1 ⟨vs, H1, I1, r, q⟩ => ⟨I1.kIn, ?_⟩) he hpl
  exact run_fn F hr hb hd hx I1 r q
theorem pe_call0 (F : FnOk X.prog X.w X.K X.mg X.base CX k f fd ps sp) (hr : Room k X.A) (hg : Gl X x) (hm : X.mg x = some (.ref f)) (hk : PySem.W.keepIn X.K (.ref f) = true) (hb : Binds X.K fd ps ds) (hd : Vals dvs ds) (hx : Passes CX X E)
    (hdb : (x == ("__debug__" : Str)) = false := by decide) : PE X (.Call (.Name x p) [] [] pos) (tCall sp dvs E tNil) := by
  intro pins s σ H Q I h
  refine wpAny_Call_Name_kw (ld_glob I hg hm ?_ hdb)
  exact PySem.W.callWith_K0 I.kIn hk (run_fn (us := []) F hr hb hd hx I .nil h)

/-- o.m(e, ..) -/
theorem pe_meth {pl : Sem Bool} (he : PE X o ta) (c : Cls X.K C) (hm : Meth X.K C m f) (F : FnOk X.prog X.w X.K X.mg X.base CX k f fd ps sp) (hr : Room k X.A) (hb : Binds X.K fd ps ds) (hd : Vals dvs ds) (hx : Passes CX X E) (ha : PA X (e :: es) t)
    (hst : starEach (e :: es) X.env = (false, eval e X.env) :: starEach es X.env := by rfl) (hpl : (backTo pos (starEach es X.env)).any (·.1) = false := by rfl)
    (ht : eval (.Call (.Attribute o m apos) (e :: es) [] pos) X.env = (do
      let ov ← eval o X.env
      standAt apos.atName
      let (f, first) ← holding [ov] (getMethod ov m pl)
      callWith pos f first (backTo pos (starEach (e :: es) X.env)) (backToKw pos (keywordEach [] X.env))) := by rfl) :
    PE X (.Call (.Attribute o m apos) (e :: es) [] pos) (tMeth C m sp dvs E ta t) := by
  intro pins s σ H Q I h
  refine PySem.W.methodCall_KW (pl := pl) (thn (he pins s σ H _ I h) fun u s1 ⟨x, H1, I1, rx, a, dx, fs, ex, ea, l, q⟩ => ?_) ht
  subst ex
  obtain rfl : u = Value.ref a := rx
  refine getmeth_ok I1 ea c hm l ?_
  refine PySem.W.callWith_K (first := [.ref a]) (h₀ := X.base) I.ok.mod.kin hm.kp (thn (ha pos pins s1 σ H1 _ I1 q) fun us s2 ⟨vs, H2, I2, r, q2⟩ => ⟨I2.kIn, ?_⟩) hst hpl
  exact run_fn (us := .ref a :: us) (vs := .ref a :: vs) F hr hb hd hx I2 (.cons rfl r) q2
/-- o.m() -/
theorem pe_meth0 {pl : Sem Bool} (he : PE X o ta) (c : Cls X.K C) (hm : Meth X.K C m f) (F : FnOk X.prog X.w X.K X.mg X.base CX k f fd ps sp) (hr : Room k X.A) (hb : Binds X.K fd ps ds) (hd : Vals dvs ds) (hx : Passes CX X E)
    (ht : eval (.Call (.Attribute o m apos) [] [] pos) X.env = (do
      let ov ← eval o X.env
      standAt apos.atName
      let (f, first) ← holding [ov] (getMethod ov m pl)
      callWith pos f first (backTo pos (starEach [] X.env)) (backToKw pos (keywordEach [] X.env))) := by rfl) :
    PE X (.Call (.Attribute o m apos) [] [] pos) (tMeth C m sp dvs E ta tNil) := by
  intro pins s σ H Q I h
  refine PySem.W.methodCall_KW (pl := pl) (thn (he pins s σ H _ I h) fun u s1 ⟨x, H1, I1, rx, a, dx, fs, ex, ea, l, q⟩ => ?_) ht
  subst ex
  obtain rfl : u = Value.ref a := rx
  refine getmeth_ok I1 ea c hm l ?_
  exact PySem.W.callWith_K0 (first := [.ref a]) I1.kIn hm.kp (run_fn (us := [.ref a]) (vs := [.ref a]) F hr hb hd hx I1 (.cons rfl .nil) q)

/-- what a class must have to be made -/
structure Mk (K : PySem.W.Frag) (C f : Addr) : Prop where
  makes : PySem.W.makesIn K C = true
  init : PySem.W.findIn K (.ref C) "__init__" = some (some (.ref f))
  fn : PySem.W.isFn K (.ref f) = true
  kp : PySem.W.keepIn K (.ref C) = true

theorem run_make {pins : List (Addr × Obj)} {σ : St} {H : Hp} {s : Shared} {Q : VK} {us : List Value} {vs : List V} (M : Mk X.K C f) (F : FnOk X.prog X.w X.K X.mg X.base CX k f fd ps sp) (hr : Room (k + 1) X.A) (hb : Binds X.K fd ps ds) (hd : Vals dvs ds)
    (hx : Passes CX X E) (I : Inv X pins σ H s) (r : Vals vs us)
    (h : ∀ x dx, H x = none → H dx = none → dx ≠ x → sp (.ref x :: (vs ++ dvs)) (upd (upd H dx (.own x)) x (.ins C dx [])) (fun v H2 => v = .non ∧ Q (.ref x) H2) E) :
    wpAny (model X.prog X.w) X.A (call (.ref C) us) (EP X pins σ Q) X.xe s := by
  have hq := h (s.heap.objs.size + 1) s.heap.objs.size (I.hok.fresh (Nat.le_succ _)) (I.hok.fresh (Nat.le_refl _)) (Nat.ne_of_lt (Nat.lt_succ_self _))
  have I2 := Inv.made (C := C) I
  have r2 : Vals (V.ref (s.heap.objs.size + 1) :: (vs ++ dvs)) (Value.ref (s.heap.objs.size + 1) :: (us ++ ds)) := .cons rfl (r.append hd)
  have hl : (Value.ref (s.heap.objs.size + 1) :: us ++ ds).length = ps.length := by
    have e := r2.length
    rw [F.len _ _ _ _ hq] at e
    exact e.symm
  refine wpAny_call (make_map (f := f) I.kIn M.makes M.init (beq_iff_eq.mp M.fn) (codeAny_mono (F.run _ X.stack _ _ ⟨Value.ref (s.heap.objs.size + 1) :: us, []⟩ (Value.ref (s.heap.objs.size + 1) :: (us ++ ds)) _ _ E (hr.make C us [])
    (I2.env0.make C us []) (hb _ (Value.ref (s.heap.objs.size + 1) :: us) I2.kIn hl) r2 hq) fun r s' hq' => ?_))
  cases r with
  | error e => exact hx pins σ _ _ e s' I2 hq'
  | ok fl =>
    cases fl with
    | ret u =>
      obtain ⟨v, H', I3, rv, ev, q3⟩ := I2.after hq'
      subst ev
      exact ⟨rv, ⟨V.ref (s.heap.objs.size + 1), H', I3, rfl, q3⟩⟩
    | next => exact False.elim hq'
    | brk => exact False.elim hq'
    | cont => exact False.elim hq'
theorem pe_make (M : Mk X.K C f) (F : FnOk X.prog X.w X.K X.mg X.base CX k f fd ps sp) (hr : Room (k + 1) X.A) (hg : Gl X x) (hm : X.mg x = some (.ref C)) (hb : Binds X.K fd ps ds) (hd : Vals dvs ds) (hx : Passes CX X E)
    (ha : PA X (e :: es) t) (hdb : (x == ("__debug__" : Str)) = false := by decide) (he : starEach (e :: es) X.env = (false, eval e X.env) :: starEach es X.env := by rfl) (hpl : (backTo pos (starEach es X.env)).any (·.1) = false := by rfl) :
    PE X (.Call (.Name x p) (e :: es) [] pos) (tMake C sp dvs E t) := by
  intro pins s σ H Q I h
  refine wpAny_Call_Name_kw (ld_glob I hg hm ?_ hdb)
  refine PySem.W.callWith_K (h₀ := X.base) I.ok.mod.kin M.kp (thn (ha pos pins s σ H _ I h) fun us s1 ⟨vs, H1, I1, r, q⟩ => ⟨I1.kIn, ?_⟩) he hpl
  exact run_make M F hr hb hd hx I1 r q
theorem pe_make0 (M : Mk X.K C f) (F : FnOk X.prog X.w X.K X.mg X.base CX k f fd ps sp) (hr : Room (k + 1) X.A) (hg : Gl X x) (hm : X.mg x = some (.ref C)) (hb : Binds X.K fd ps ds) (hd : Vals dvs ds) (hx : Passes CX X E)
    (hdb : (x == ("__debug__" : Str)) = false := by decide) : PE X (.Call (.Name x p) [] [] pos) (tMake C sp dvs E tNil) := by
  intro pins s σ H Q I h
  refine wpAny_Call_Name_kw (ld_glob I hg hm ?_ hdb)
  exact PySem.W.callWith_K0 I.kIn M.kp (run_make (us := []) M F hr hb hd hx I .nil h)
end

/-! ### keywords -/
/-- the values of the keywords, from the left -/
def PK (X : Cx) (kws : List Keyword) (t : TA) : Prop :=
  ∀ (pos : Pos) (pins : List (Addr × Obj)) (s : Shared) (σ : St) (H : Hp) (Q : List V → Hp → Prop), Inv X pins σ H s → t σ H Q → wpAny (model X.prog X.w) X.A (evalAll ((backToKw pos (keywordEach kws X.env)).map (·.2))) (AP X pins σ Q) X.xe s
section
variable {X : Cx} {CX : CXT} {k : Nat} {f C : Addr} {fd : FuncData} {ps ks : List Str} {sp : Sp} {E : XK} {x m : Str} {p pos apos kpos : Pos} {e o : Expr} {es : List Expr} {kws : List Keyword} {te ta : TE} {t tk : TA} {nm : Option Str}
theorem pk_nil : PK X [] tNil := fun _ _ _ _ H Q I h => wpAny_evalAll_nil ⟨[], H, I, .nil, h⟩
theorem pk_cons (ha : PE X e te) (hr : PK X kws t) : PK X (⟨nm, e, kpos⟩ :: kws) (tCons te t) := by
  intro pos pins s σ H Q I h
  show wpAny _ _ (evalAll ((do let v ← eval e X.env; standAt pos; pure v) :: (backToKw pos (keywordEach kws X.env)).map (·.2))) _ _ s
  refine wpAny_evalAll_cons (wpAny_bind (thn (ha pins s σ H _ I h) fun u s1 ⟨x, H1, I1, r1, q1⟩ => wpAny_bind (wpAny_standAt (wpAny_pure ?_))))
  exact thn (hr pos pins s1 σ H1 _ I1 q1) fun us s2 ⟨xs, H2, I2, r2, q2⟩ => ⟨x :: xs, H2, I2, .cons r1 r2, q2⟩

/-- how a call with keywords binds: g puts the positional values us and the keywords' values ws (names ks) in the parameters' order, defaults among them -/
structure KBinds (K : PySem.W.Frag) (fd : FuncData) (ps ks : List Str) (g : List Value → List Value → List Value) (gV : List V → List V → List V) : Prop where
  to : ∀ (s : Shared) (us ws : List Value), K.In s.heap → (g us ws).length = ps.length → BindsTo s fd ⟨us, ks.zip ws⟩ (ps.zip (g us ws))
  rel : ∀ {vs : List V} {us : List Value} {zs : List V} {ws : List Value}, Vals vs us → Vals zs ws → Vals (gV vs zs) (g us ws)
def tCallK (sp : Sp) (gV : List V → List V → List V) (E : XK) (t tk : TA) : TE := fun σ H Q => t σ H fun vs H1 => tk σ H1 fun zs H2 => sp (gV vs zs) H2 Q E
variable {g : List Value → List Value → List Value} {gV : List V → List V → List V}
theorem run_fnk {pins : List (Addr × Obj)} {σ : St} {H : Hp} {s : Shared} {Q : VK} {us ws : List Value} {vs zs : List V} (F : FnOk X.prog X.w X.K X.mg X.base CX k f fd ps sp) (hr : Room k X.A) (hb : KBinds X.K fd ps ks g gV) (hx : Passes CX X E)
    (I : Inv X pins σ H s) (r : Vals vs us) (rz : Vals zs ws) (h : sp (gV vs zs) H Q E) : wpAny (model X.prog X.w) X.A (call (.ref f) us (ks.zip ws)) (EP X pins σ Q) X.xe s := by
  have r2 := hb.rel r rz
  have hl : (g us ws).length = ps.length := by rw [← r2.length]; exact F.len _ _ _ _ h
  refine wpAny_call (codeAny_mono (F.run X.A X.stack s H ⟨us, ks.zip ws⟩ (g us ws) (gV vs zs) Q E hr I.env0 (hb.to s us ws I.kIn hl) r2 h) fun r s' hq => ?_)
  cases r with
  | error e => exact hx pins σ H s e s' I hq
  | ok fl =>
    cases fl with
    | ret u => exact I.after hq
    | next => exact False.elim hq
    | brk => exact False.elim hq
    | cont => exact False.elim hq
/-- f(e, .., k = v, ..) -/
theorem pe_callK (F : FnOk X.prog X.w X.K X.mg X.base CX k f fd ps sp) (hr : Room k X.A) (hg : Gl X x) (hm : X.mg x = some (.ref f)) (hk : PySem.W.keepIn X.K (.ref f) = true) (hb : KBinds X.K fd ps ks g gV) (hx : Passes CX X E)
    (ha : PA X (e :: es) t) (hkw : PK X kws tk) (hall : (backToKw pos (keywordEach kws X.env)).all (·.1.isSome) = true := by rfl) (hks : (backToKw pos (keywordEach kws X.env)).filterMap (·.1) = ks := by rfl)
    (hdb : (x == ("__debug__" : Str)) = false := by decide) (he : starEach (e :: es) X.env = (false, eval e X.env) :: starEach es X.env := by rfl)
    (hpl : ((backTo pos (starEach (e :: es) X.env)).any (·.1) || (backToKw pos (keywordEach kws X.env)).any (·.1.isNone)) = false := by rfl) :
    PE X (.Call (.Name x p) (e :: es) kws pos) (tCallK sp gV E t tk) := by
  intro pins s σ H Q I h
  refine wpAny_Call_Name_kw (ld_glob I hg hm ?_ hdb)
  refine PySem.W.callWith_KW (h₀ := X.base) I.ok.mod.kin hk hall (thn (ha pos pins s σ H _ I h) fun us s1 ⟨vs, H1, I1, r, q⟩ => ?_) hpl he
  refine thn (hkw pos pins s1 σ H1 _ I1 q) fun ws s2 ⟨zs, H2, I2, rz, q2⟩ => ⟨I2.kIn, ?_⟩
  rw [hks]
  exact run_fnk F hr hb hx I2 r rz q2
end

/-! ### a def's body keeps its promise -/
/-- names: the parameters first -/
structure FnScope (N P : List Str) (sc : Scope) : Prop where
  kind : sc.kind = .function
  co : sc.isCoroutine = false
  gen : sc.isGenerator = false
  nd : N.Nodup
  pre : N.take P.length = P
  par : ∀ x ∈ P, sc.names.lookup x = some .local ∨ sc.names.lookup x = some .cell
  nofree : ∀ y ∈ sc.names, y.2 ≠ .free

theorem bindL_out {kindOf : Str → Option NameKind} {x : Str} : ∀ {binds : List (Str × Value)} {m : Str → Option Value}, (∀ v, (x, v) ∉ binds) → bindL kindOf binds m x = m x
  | [], _, _ => rfl
  | (n, v) :: r, m, h => by
    unfold bindL
    rw [bindL_out fun w hw => h w (List.mem_cons_of_mem _ hw)]
    split
    · have : x ≠ n := by rintro rfl; exact h v List.mem_cons_self
      simp [this]
    · rfl
theorem bindC_out {kindOf : Str → Option NameKind} {x : Str} : ∀ {binds : List (Str × Value)} {m : Str → Option Value}, (∀ v, (x, v) ∉ binds) → bindC kindOf binds m x = m x
  | [], _, _ => rfl
  | (n, v) :: r, m, h => by
    unfold bindC
    rw [bindC_out fun w hw => h w (List.mem_cons_of_mem _ hw)]
    split
    · rfl
    · have : x ≠ n := by rintro rfl; exact h v List.mem_cons_self
      simp [this]
theorem bindL_get {kindOf : Str → Option NameKind} {x : Str} {v : Value} : ∀ {P : List Str} {vs : List Value} {i : Nat} {m : Str → Option Value}, P.Nodup → P[i]? = some x → vs[i]? = some v → kindOf x = some .local →
    bindL kindOf (P.zip vs) m x = some v
  | [], _, _, _, _, h, _, _ => by simp at h
  | _ :: _, [], _, _, _, _, h, _ => by simp at h
  | p :: P, w :: vs, 0, m, nd, h1, h2, hk => by
    simp at h1 h2; subst h1; subst h2
    show bindL kindOf ((p, w) :: P.zip vs) m p = _
    unfold bindL
    rw [bindL_out fun v hv => (List.nodup_cons.mp nd).1 (List.of_mem_zip hv).1, if_pos hk]
    simp
  | p :: P, w :: vs, i + 1, m, nd, h1, h2, hk => by
    show bindL kindOf ((p, w) :: P.zip vs) m x = _
    unfold bindL
    exact bindL_get (i := i) (List.nodup_cons.mp nd).2 (by simpa using h1) (by simpa using h2) hk
theorem bindC_get {kindOf : Str → Option NameKind} {x : Str} {v : Value} : ∀ {P : List Str} {vs : List Value} {i : Nat} {m : Str → Option Value}, P.Nodup → P[i]? = some x → vs[i]? = some v → kindOf x ≠ some .local →
    bindC kindOf (P.zip vs) m x = some v
  | [], _, _, _, _, h, _, _ => by simp at h
  | _ :: _, [], _, _, _, _, h, _ => by simp at h
  | p :: P, w :: vs, 0, m, nd, h1, h2, hk => by
    simp at h1 h2; subst h1; subst h2
    show bindC kindOf ((p, w) :: P.zip vs) m p = _
    unfold bindC
    rw [bindC_out fun v hv => (List.nodup_cons.mp nd).1 (List.of_mem_zip hv).1, if_neg hk]
    simp
  | p :: P, w :: vs, i + 1, m, nd, h1, h2, hk => by
    show bindC kindOf ((p, w) :: P.zip vs) m x = _
    unfold bindC
    exact bindC_get (i := i) (List.nodup_cons.mp nd).2 (by simpa using h1) (by simpa using h2) hk

/-- the names' values at the entry -/
def start (N : List Str) (vs : List V) : St := vs.map some ++ List.replicate (N.length - vs.length) none

/-- the context of a def's body, at its entry; an exception leaves the frame, then lies as CX says -/
def cxOf (CX : CXT) (P : Program) (w : World) (K : PySem.W.Frag) (mg : Str → Option Value) (base : Heap) (N : List Str) (qual : Str) (scope : Scope) (f : Addr) (cd : Value) (A : Around) (outer : List Env) (s : Shared) (H : Hp) (E : XK) : Cx where
  prog := P
  w := w
  K := K
  mg := mg
  base := base
  A := A.deeper (envOfC qual scope s.heap.objs.size f cd)
  N := N
  s₀ := s
  H₀ := H
  env := envOfC qual scope s.heap.objs.size f cd
  outer := outer
  stack := envOfC qual scope s.heap.objs.size f cd :: outer
  ex := []
  calm := true
  fn := fun _ => true
  pn := []
  xe := fun e s' => wpAny (model P w) (A.deeper (envOfC qual scope s.heap.objs.size f cd)) (leaving (envOfC qual scope s.heap.objs.size f cd) e) (fun _ s'' => CX outer H s E e s'') (fun e' s'' => CX outer H s E e' s'') s'

theorem cell_has {sc : Scope} {n : Nat} {x : Str} (h : sc.names.lookup x = some .cell) : ∃ c, (cellsFrom n sc.names []).lookup x = some c := by
  have q := PySem.W.cellsFrom_some sc.names n [] (.inl h)
  exact Option.isSome_iff_exists.mp q

theorem inv_start {CX : CXT} {P : Program} {w : World} {K : PySem.W.Frag} {mg : Str → Option Value} {base : Heap} {N ps : List Str} {qual : Str} {scope : Scope} {f : Addr} {cd : Value} {A : Around} {outer : List Env} {s s1 : Shared} {H : Hp} {E : XK} {us : List Value} {vs : List V}
    (S : FnScope N ps scope) (hd : A.handled = none) (e0 : Env0 P w K mg base A outer s H) (hl : vs.length = ps.length) (r : Vals vs us)
    (x : InCallC s s.heap.objs.size (bindL (envOfC qual scope s.heap.objs.size f cd).kindOf (ps.zip us) fun _ => none) (cellsFrom (s.heap.objs.size + 1) scope.names []) (bindC (envOfC qual scope s.heap.objs.size f cd).kindOf (ps.zip us) fun _ => none) s1) :
    Inv (cxOf CX P w K mg base N qual scope f cd A outer s H E) [] (start N vs) H s1 := by
  have hpl : ps.length ≤ N.length := by have := congrArg List.length S.pre; rw [List.length_take] at this; omega
  obtain ⟨h1, tk, rfl, hk⟩ := x.done
  have noA : ∀ b : Addr, b ∉ (cxOf CX P w K mg base N qual scope f cd A outer s H E).ex := fun b z => absurd (show b ∈ ([] : List Addr) from z) (by simp)
  refine ⟨⟨e0.mod, S.kind, rfl, rfl, Nat.le_refl _, fun y z c h1 h2 => ?_, fun y hy => ?_, fun y c _ h => ?_, fun _ => hd, Around.frames_deeper e0.frames, .inr ⟨rfl, rfl⟩, fun b z => absurd z (noA b), e0.bs, e0.bsz, fun b _ _ => noA b, fun b z => absurd z (noA b), e0.funs, e0.frf⟩,
    rfl, e0.bare, Un.kept hk, ⟨_, x.toInCall.ns, fun i y v h1 h2 h3 => ?_⟩, fun y c h => ⟨_, x.cell y c h⟩, e0.hok.fresh (Nat.le_refl _), fun y c h => ?_, fun p hp => absurd (show p ∈ ([] : List (Addr × Obj)) from hp) (by simp), e0.hok.kept hk, ?_⟩
  · exact name_of_addr x.apart (PySem.mem_of_lookup h1) (PySem.mem_of_lookup h2)
  · have hy : scope.names.lookup y = some .cell ∨ scope.names.lookup y = some .free := hy
    rcases hy with hy | hy
    · exact cell_has hy
    · exact absurd rfl (S.nofree _ (PySem.mem_of_lookup hy))
  · exact Nat.le_of_lt (x.above y c (PySem.mem_of_lookup h))
  · have hi : i < vs.length := by
      unfold start at h2
      by_cases hi : i < vs.length
      · exact hi
      · rw [List.getElem?_append_right (by simpa using hi)] at h2
        rw [List.getElem?_replicate] at h2
        split at h2 <;> cases h2
    have ha : vs[i]? = some v := by
      unfold start at h2
      rw [List.getElem?_append_left (by simpa using hi), List.getElem?_map] at h2
      cases e : vs[i]? with
      | none => rw [e] at h2; cases h2
      | some a => rw [e] at h2; cases h2; rfl
    obtain ⟨u, hu, rv⟩ := r.get ha
    have hp : ps[i]? = some y := by
      rw [← S.pre, List.getElem?_take_of_lt (by omega)]; exact h1
    have ndP : ps.Nodup := by rw [← S.pre]; exact S.nd.sublist (List.take_sublist _ _)
    refine ⟨u, rv, ?_⟩
    rcases S.par y (List.mem_of_getElem? hp) with k | k
    · exact .inl ⟨k, bindL_get ndP hp hu k⟩
    · obtain ⟨c, e⟩ := cell_has (n := s.heap.objs.size + 1) k
      refine .inr ⟨.inl k, c, e, ?_⟩
      have q := x.cell y c e
      rw [bindC_get ndP hp hu (by show scope.names.lookup y ≠ _; rw [k]; decide)] at q
      exact q
  · exact e0.hok.fresh (Nat.le_of_lt (x.above y c (PySem.mem_of_lookup h)))
  · unfold start
    show _ = N.length
    rw [List.length_append, List.length_map, List.length_replicate]
    omega

/-- THE RULE: a def (or a method) of the text, by its body. The body's reading t is chosen for each entry; it is run at the parameters' values -/
theorem fn_of {CX : CXT} {P : Program} {w : World} {K : PySem.W.Frag} {mg : Str → Option Value} {base : Heap} {k : Nat} {f : Addr} {name qual : Str} {params : Arguments} {body : List Stmt} {scope : Scope} {dV kV doc pm cdv ct oc : Value} {an od : Option Addr}
    {osl : Array (Option Value)} {N ps : List Str} {sp : Sp} (lk : K.lookup f = some ⟨oc, od, .func (PySem.W.fnOf name qual params body scope dV kV doc pm an cdv ct), osl⟩) (hcd : PySem.W.codeIn K cdv qual = true) (S : FnScope N ps scope)
    (len : ∀ vs H Q E, sp vs H Q E → vs.length = ps.length)
    (hbody : ∀ (A : Around) (outer : List Env) (s : Shared) (H : Hp) (vs : List V) (Q : VK) (E : XK), Room k (A.deeper (envOfC qual scope s.heap.objs.size f cdv)) → sp vs H Q E →
      ∃ t, PSs (cxOf CX P w K mg base N qual scope f cdv A outer s H E) body t ∧ t { nx := fun _ H' => Q .non H', rt := Q } (start N vs) H) :
    FnOk P w K mg base CX (k + 1) f (PySem.W.fnOf name qual params body scope dV kV doc pm an cdv ct) ps sp := by
  refine ⟨len, fun A outer s H args us vs Q E hr e0 hb r hsp => ?_⟩
  have hl := len _ _ _ _ hsp
  have KX : K.In s.heap := e0.mod.kin.keeps fun b o e => (e0.bs b o e).1
  have lim : s.heap.NoLimit := e0.mod.nolimit.keeps fun b o e => (e0.bs b o e).1
  have hkind : ∀ y ∈ ps.zip us, scope.names.lookup y.1 = some .local ∨ (scope.names.lookup y.1 = some .cell ∧ ((cellsFrom (s.heap.objs.size + 1) scope.names []).lookup y.1).isSome = true) := fun ⟨n, v⟩ hy => by
    rcases S.par n (List.of_mem_zip hy).1 with q | q
    · exact .inl q
    · exact .inr ⟨q, PySem.W.cellsFrom_some _ _ _ (.inl q)⟩
  refine codeAny_call_function hr.depth (KX _ _ lk) rfl S.co S.gen rfl (PySem.W.codeRec_of KX hcd) (hb _ _ _ _ ?_)
  refine wpAny_newFunctionEnv_cells S.kind hkind fun env he s1 x => ?_
  subst he
  refine ⟨lim.keeps x.toInCall.keep, codeAny_func ?_⟩
  obtain ⟨t, ht, hq⟩ := hbody A outer s H vs Q E (hr.deeper _) hsp
  have I : Inv (cxOf CX P w K mg base N qual scope f cdv A outer s H E) [] (start N vs) H s1 := inv_start S hr.hd e0 hl r x
  refine wpAny_mono (ht [] s1 (start N vs) H _ I hq) (fun fl s' hs => ?_) fun e s' hs => hs
  have fin : ∀ {σ' : St} {H' : Hp} {v : V} {u : Value}, Inv (cxOf CX P w K mg base N qual scope f cdv A outer s H E) [] σ' H' s' → RelV v u → Q v H' → CE outer P w H s Q u s' :=
    fun {σ' H' v u} J rv q => ⟨v, H', J.os, J.bare, J.base, J.hok, rv, q⟩
  cases fl with
  | ret u =>
    obtain ⟨v, σ', H', J, rv, q⟩ := hs
    exact fin J rv q
  | next =>
    obtain ⟨σ', H', J, q⟩ := hs
    exact fin (v := V.non) (u := Value.none) J rfl q
  | brk =>
    obtain ⟨_, _, _, q⟩ := hs
    exact False.elim q
  | cont =>
    obtain ⟨_, _, _, q⟩ := hs
    exact False.elim q
end L2

namespace L2
open PySem PySem.Spec PyProof.Rows
section
variable {X : Cx} {x : Str} {p pos : Pos} {e : Expr} {es : List Expr} {t : TA} {id T : String} {r : List V → Hp → VK → Prop}

def tCB (r : List V → Hp → VK → Prop) (t : TA) : TE := fun σ H Q => t σ H fun vs H1 => r vs H1 Q
/-- f(e, ..), f a built-in function -/
theorem pe_callB (hc : CallR X (.builtin id) r) (hg : Gl X x) (hm : X.mg x = none) (hv : bootBuiltins x = some (.builtin id)) (ha : PA X (e :: es) t) (hn : x ≠ "__name__" := by decide) (hdb : (x == ("__debug__" : Str)) = false := by decide)
    (he : starEach (e :: es) X.env = (false, eval e X.env) :: starEach es X.env := by rfl) (hpl : (backTo pos (starEach es X.env)).any (·.1) = false := by rfl) : PE X (.Call (.Name x p) (e :: es) [] pos) (tCB r t) := by
  intro pins s σ H Q I h
  refine wpAny_Call_Name_kw (ld_blt I hg hm hv ?_ hn hdb)
  exact PyProof.Rows.callWith_builtin1 (thn (ha pos pins s σ H _ I h) fun us s1 ⟨vs, H1, I1, r1, q1⟩ => hc pins s1 σ H1 vs us Q I1 r1 q1) he hpl
/-- T(e, ..), T a built-in type -/
theorem pe_callTy (hc : CallR X (.type T) r) (hg : Gl X x) (hm : X.mg x = none) (hv : bootBuiltins x = some (.type T)) (ha : PA X (e :: es) t) (hn : x ≠ "__name__" := by decide) (hdb : (x == ("__debug__" : Str)) = false := by decide)
    (he : starEach (e :: es) X.env = (false, eval e X.env) :: starEach es X.env := by rfl) (hpl : (backTo pos (starEach es X.env)).any (·.1) = false := by rfl) : PE X (.Call (.Name x p) (e :: es) [] pos) (tCB r t) := by
  intro pins s σ H Q I h
  refine wpAny_Call_Name_kw (ld_blt I hg hm hv ?_ hn hdb)
  exact PyProof.Rows.callWith_type1 (thn (ha pos pins s σ H _ I h) fun us s1 ⟨vs, H1, I1, r1, q1⟩ => hc pins s1 σ H1 vs us Q I1 r1 q1) he hpl
/-- T() -/
theorem pe_callTy0 (hc : CallR X (.type T) r) (hg : Gl X x) (hm : X.mg x = none) (hv : bootBuiltins x = some (.type T)) (hn : x ≠ "__name__" := by decide) (hdb : (x == ("__debug__" : Str)) = false := by decide) :
    PE X (.Call (.Name x p) [] [] pos) (tCB r tNil) := by
  intro pins s σ H Q I h
  refine wpAny_Call_Name_kw (ld_blt I hg hm hv ?_ hn hdb)
  exact PyProof.Rows.callWith_type0 (hc pins s σ H [] [] Q I .nil h)
end
end L2

namespace HT
open PySem PyProof.Rows

/-- t < u of tuples of ints -/
def lexLt : List Int → List Int → Bool
  | [], [] => false
  | [], _ :: _ => true
  | _ :: _, [] => false
  | x :: xs, y :: ys => if x = y then lexLt xs ys else decide (x < y)
theorem lexLt_cons (x y : Int) (xs ys : List Int) : lexLt (x :: xs) (y :: ys) = if x = y then lexLt xs ys else decide (x < y) := rfl
theorem lexLt_nil_nil : lexLt [] [] = false := rfl
theorem lexLt_nil_cons (y : Int) (ys : List Int) : lexLt [] (y :: ys) = true := rfl
theorem lexLt_cons_nil (x : Int) (xs : List Int) : lexLt (x :: xs) [] = false := rfl

theorem eqAt_int (A : Around) (s : Shared) (a : Int) (t : Tok) (c : Int) (u : Tok) : ∃ e, SeqAt.EqAt A s (.int a t) (.int c u) e ∧ (e = true ↔ a = c) :=
  ⟨(a == c), SeqAt.EqAt.int_int a t c u, by simp⟩
theorem rcLt_int (A : Around) (s : Shared) (a : Int) (t : Tok) (c : Int) (u : Tok) (prog : Program) (w : World) (E : Value → Shared → Prop) (Q : Value → Shared → Prop) (h : Q (.bool (decide (a < c))) s) :
    wpAny (model prog w) A (richCompare .Lt (.int a t) (.int c u)) Q E s :=
  (PyProof.Rows.lt_int h : wpAny (model prog w) A (compareOp .Lt (.int a t) (.int c u)) Q E s)

section
open PySem.SeqAt
open PySem.AutoSeq1 (wpAny_loadPart')
open PySem.MeetsSeq PySem.MeetsSeq2 PySem.MeetsSeq3

theorem tuple_lt_ints (l b : Addr) (items items2 : Array Value) (n n2 : Nat) (dd dd2 : Option Addr) (sl sl2 : Array (Option Value)) (ns ms : List Int) (hi : IntsAre items.toList ns) (hj : IntsAre items2.toList ms) :
    Meets (Builtin.«tuple.__lt__» ⟨[.ref l, .ref b], []⟩)
      (fun _ R s => s.heap.get? l = some { cls := .type "tuple", dict := dd, data := .seq items n, slots := sl } ∧ s.heap.get? b = some { cls := .type "tuple", dict := dd2, data := .seq items2 n2, slots := sl2 } ∧
        R (.ok (.ret (.bool (lexLt ns ms)))) s) :=
  .of_wp fun prog w A R s h => by
    obtain ⟨hp, g, d, tk, os⟩ := s; obtain ⟨hl, hb, h⟩ := h
    have f2 := AutoSeq1.sub_tuple_tuple
    have z1 : items.size = ns.length := by rw [← hi.length]; simp
    have z2 : items2.size = ms.length := by rw [← hj.length]; simp
    wp_walk using wpAny_loadPart' hl, wpAny_loadPart' hb, wpAny_forIn_list _ (fun rest b s' => b.1 = none ∧ s' = ⟨hp, g, d, tk, os⟩ ∧ ∃ (vs ws : List Value) (ns' ms' : List Int), rest = vs.zip ws ∧
      IntsAre vs ns' ∧ IntsAre ws ms' ∧ ns'.length + items2.size = ms'.length + items.size ∧ R (.ok (.ret (.bool (lexLt ns' ms')))) ⟨hp, g, d, tk, os⟩) _
    case turn =>
      rintro ⟨y, x⟩ rest b s' ⟨hb', rfl, vs, ws, ns', ms', hz, hvi, hwi, hlen, hR⟩
      cases hvi with
      | nil => rw [List.zip_nil_left] at hz; cases hz
      | cons a t hvi' =>
        cases hwi with
        | nil => rw [List.zip_nil_right] at hz; cases hz
        | cons c u hwi' =>
          rw [List.zip_cons_cons] at hz
          injection hz with hyx hrest
          injection hyx with hy hx
          subst hy hx
          rw [lexLt_cons] at hR
          simp only [List.length_cons] at hlen
          obtain ⟨e, he, hiff⟩ := eqAt_int A.in1 ⟨hp, g, d, tk, os⟩ a t c u
          refine wpAny_bind (he prog w _ _ ?_)
          cases e with
          | true =>
            rw [if_pos (hiff.mp rfl)] at hR
            wp_walk
            exact ⟨rfl, rfl, _, _, _, _, hrest, hvi', hwi', by omega, hR⟩
          | false =>
            rw [if_neg (fun q => absurd (hiff.mpr q) Bool.false_ne_true)] at hR
            have hri := rcLt_int A.in1 ⟨hp, g, d, tk, os⟩ a t c u prog w
            wp_walk using hri
            exact ⟨_, rfl, by simpa using hR⟩
    case fin =>
      rintro ⟨b1, b2⟩ s' ⟨hb', rfl, vs, ws, ns', ms', hz, hvi, hwi, hlen, hR⟩
      simp only at hb'
      subst hb'
      have hv : lexLt ns' ms' = decide (items.size < items2.size) := by
        cases hvi with
        | nil =>
          cases hwi with
          | nil =>
            simp only [List.length_nil] at hlen
            rw [lexLt_nil_nil]
            exact (decide_eq_false (by omega)).symm
          | cons c u hw =>
            simp only [List.length_nil, List.length_cons] at hlen
            rw [lexLt_nil_cons]
            exact (decide_eq_true (by omega)).symm
        | cons a t hv =>
          cases hwi with
          | nil =>
            simp only [List.length_nil, List.length_cons] at hlen
            rw [lexLt_cons_nil]
            exact (decide_eq_false (by omega)).symm
          | cons c u hw =>
            rw [List.zip_cons_cons] at hz
            cases hz
      rw [hv] at hR
      wp_walk
      exact ⟨_, rfl, by simpa [Builtin.Tuple.tupleCompareSizes] using hR⟩
    case h =>
      exact ⟨rfl, rfl, items.toList, items2.toList, ns, ms, rfl, hi, hj, by omega, h⟩
end

section
variable {prog : Program} {w : World} {A : Around} {E : Value → Shared → Prop} {s : Shared}

theorem lt_tupInts {l b : Addr} {items items2 : Array Value} {ns ms : List Int} {Q : Value → Shared → Prop} (hl : IsTup s.heap l items) (hb : IsTup s.heap b items2) (hi : IntsAre items.toList ns) (hj : IntsAre items2.toList ms)
    (hu : A.units < cLine) (h : Q (.bool (lexLt ns ms)) s) : wpAny (model prog w) A (compareOp .Lt (.ref l) (.ref b)) Q E s := by
  obtain ⟨⟨cls, dd, data, sl⟩, ho, hc, n, hd⟩ := id hl
  obtain ⟨⟨cls2, dd2, data2, sl2⟩, ho2, hc2, n2, hd2⟩ := id hb
  simp only at hc hd hc2 hd2
  subst hc hd hc2 hd2
  exact richCompare_meets_room (op := .Lt) ⟨_, ho, rfl⟩ ⟨_, ho2, rfl⟩ PySem.F.slot_tuple_lt PySem.F.entry_tuple_lt (PySem.F.args_tuple_lt_2 _ _) (tuple_lt_ints l b items items2 n n2 dd dd2 sl sl2 ns ms hi hj)
    ⟨ho, ho2, show Value.bool (lexLt ns ms) ≠ Value.notImplemented ∧ Q (.bool (lexLt ns ms)) s from ⟨(fun x => nomatch x), h⟩⟩ hu

/-- t + u, t not empty -/
theorem cat_tup {t b : Addr} {vs ws : List Value} {Q : Value → Shared → Prop} (ht : IsTup s.heap t vs.toArray) (hb : IsTup s.heap b ws.toArray) (hv : vs ≠ [])
    (h1 : ws = [] → Q (.ref t) s) (h2 : ws ≠ [] → Q (.ref s.heap.objs.size) { s with heap := s.heap.push { cls := .type "tuple", data := .seq (vs ++ ws).toArray } })
    (hsz : vs.length + ws.length ≤ sizeLine) : wpAny (model prog w) A (binaryOp .Add (.ref t) (.ref b)) Q E s := by
  obtain ⟨⟨cls, dd, data, sl⟩, ho, hc, n, hd⟩ := id ht
  obtain ⟨⟨cls2, dd2, data2, sl2⟩, ho2, hc2, n2, hd2⟩ := id hb
  simp only at hc hd hc2 hd2
  subst hc hd hc2 hd2
  have e : vs.toArray ++ ws.toArray = (vs ++ ws).toArray := by simp
  by_cases hw : ws = []
  · exact concat_meets ⟨_, ho, rfl⟩ ⟨_, ho2, rfl⟩ noFill_tuple_add seq_tuple_add PySem.F.slot_tuple_add PySem.F.entry_tuple_add (PySem.F.args_tuple_add_2 _ _)
      (tuple_addW1 t b vs.toArray ws.toArray n n2 dd dd2 sl sl2 (by simpa using hv) (by simp [hw])) ⟨ho, ho2, h1 hw⟩
  · refine concat_meets ⟨_, ho, rfl⟩ ⟨_, ho2, rfl⟩ noFill_tuple_add seq_tuple_add PySem.F.slot_tuple_add PySem.F.entry_tuple_add (PySem.F.args_tuple_add_2 _ _)
      (tuple_addW2 t b vs.toArray ws.toArray n n2 dd dd2 sl sl2 (by simpa using hv) (by simpa using hw) (by rw [List.size_toArray, List.size_toArray]; exact hsz)) ⟨ho, ho2, ?_⟩
    rw [e]
    exact h2 hw

/-! ### t[a:b], not the whole -/
/-- a slice's bound as a place among n (d where it is left out) -/
def sIx (n d : Nat) : Option Int → Nat
  | none => d
  | some v => if v < 0 then (v + (n : Int)).toNat else min v.toNat n
theorem sIx_none (n d : Nat) : sIx n d none = d := rfl
theorem sIx_nat (n d k : Nat) : sIx n d (some (k : Int)) = min k n := by
  show (if (k : Int) < 0 then ((k : Int) + (n : Int)).toNat else min (k : Int).toNat n) = min k n
  rw [if_neg (by omega), Int.toNat_natCast]
theorem sIx_le (n d : Nat) (hd : d ≤ n) (o : Option Int) : sIx n d o ≤ n := by
  cases o with
  | none => exact hd
  | some v =>
    show (if v < 0 then (v + (n : Int)).toNat else min v.toNat n) ≤ n
    by_cases hv : v < 0
    · rw [if_pos hv]; omega
    · rw [if_neg hv]; exact Nat.min_le_right _ _
theorem clip_eq (v : Int) (n d : Nat) : (if v < 0 then max (v + (n : Int)) 0 else min v (n : Int)) = ((sIx n d (some v) : Nat) : Int) := by
  show (if v < 0 then max (v + (n : Int)) 0 else min v (n : Int)) = (((if v < 0 then (v + (n : Int)).toNat else min v.toNat n) : Nat) : Int)
  by_cases hv : v < 0
  · simp only [if_pos hv]; omega
  · simp only [if_neg hv]; omega
theorem adjust_gen (lo hi : Option Int) (n : Nat) : Builtin.Slice.sliceAdjust lo hi 1 (n : Int) = (((sIx n 0 lo : Nat) : Int), ((sIx n n hi : Nat) : Int)) := by
  have h1 : ¬ ((1 : Int) < 0) := by omega
  unfold Builtin.Slice.sliceAdjust
  simp only [h1, if_false]
  refine Prod.ext ?_ ?_
  · cases lo with
    | none => rfl
    | some v => exact clip_eq v n 0
  · cases hi with
    | none => rfl
    | some v => exact clip_eq v n n
theorem places_gen (i j : Nat) : Builtin.Slice.slicePlaces (i : Int) (j : Int) 1 = j - i := by
  unfold Builtin.Slice.slicePlaces
  have h1 : (1 : Int) > 0 := by omega
  simp only [h1, if_true, Int.ediv_one]
  split <;> omega
theorem slicePart_ {v : Value} {o : Option Int} {Q : Option Int → Shared → Prop} (p : IsPart v o) (h : Q o s) : wpAny (model prog w) A (Builtin.Slice.slicePartIndex v) Q E s := by
  cases p with
  | none => exact slicePart_none h
  | int i t => exact slicePart_int h
theorem sliceApplied_gen {sl : Addr} {vl vu : Value} {lo hi : Option Int} {n : Nat} {Q : Int × Int × Nat → Shared → Prop} (hs : s.heap.IsSliceOf sl vl vu .none) (pl : IsPart vl lo) (pu : IsPart vu hi)
    (h : Q (((sIx n 0 lo : Nat) : Int), 1, sIx n n hi - sIx n 0 lo) s) : wpAny (model prog w) A (Builtin.Slice.sliceApplied (.ref sl) (pure (n : Int))) Q E s := by
  obtain ⟨os, hos, hcs, hds⟩ := id hs
  unfold Builtin.Slice.sliceApplied Builtin.Slice.sliceFields
  refine wpAny_bind (wpAny_bind (wpAny_field hos hds (x := vl) rfl (wpAny_bind (wpAny_field hos hds (x := vu) rfl (wpAny_bind (wpAny_field hos hds (x := .none) rfl (wpAny_pure ?_)))))))
  refine wpAny_bind (slicePart_none ?_)
  show wpAny _ _ (if ((1 : Int) == 0) = true then _ else _) _ _ s
  rw [if_neg (by decide)]
  refine wpAny_bind (slicePart_ pl (wpAny_bind (slicePart_ pu (wpAny_bind (wpAny_pure ?_)))))
  show wpAny _ _ (match Builtin.Slice.sliceAdjust lo hi 1 (n : Int) with | (lo, hi) => pure (lo, (1 : Int), Builtin.Slice.slicePlaces lo hi 1)) _ _ s
  rw [adjust_gen lo hi n]
  show wpAny _ _ (pure (((sIx n 0 lo : Nat) : Int), (1 : Int), Builtin.Slice.slicePlaces ((sIx n 0 lo : Nat) : Int) ((sIx n n hi : Nat) : Int) 1)) _ _ s
  rw [places_gen]
  exact wpAny_pure h
theorem pick_gen (xs : Array Value) (i k : Nat) : ((List.range k).filterMap fun (m : Nat) => xs[((i : Int) + (m : Int) * 1).toNat]?).toArray = ((xs.toList.drop i).take k).toArray := by
  have e : (fun (m : Nat) => xs[((i : Int) + (m : Int) * 1).toNat]?) = fun m => xs[i + m]? := by
    funext m
    have : ((i : Int) + (m : Int) * 1).toNat = i + m := by omega
    rw [this]
  rw [e]
  have := pick_run xs i k
  rw [List.filterMap_map] at this
  have e2 : ((fun x => xs[x]?) ∘ fun x => i + x) = fun m => xs[i + m]? := rfl
  rw [e2] at this
  rw [this]

theorem getItem_tuple_cut {t sl : Addr} {items : Array Value} {vl vu : Value} {lo hi : Option Int} {Q : Value → Shared → Prop} (ht : IsTup s.heap t items) (hs : s.heap.IsSliceOf sl vl vu .none) (pl : IsPart vl lo) (pu : IsPart vu hi)
    (hw : ¬ (sIx items.size 0 lo = 0 ∧ sIx items.size items.size hi = items.size))
    (h : Q (.ref s.heap.objs.size) { s with heap := s.heap.push { cls := .type "tuple", data := .seq ((items.toList.drop (sIx items.size 0 lo)).take (sIx items.size items.size hi - sIx items.size 0 lo)).toArray } })
    (hsz : items.size ≤ sizeLine) : wpAny (model prog w) A (getItem (.ref t) (.ref sl)) Q E s := by
  have htake : sizeOk (.seq ((items.toList.drop (sIx items.size 0 lo)).take (sIx items.size items.size hi - sIx items.size 0 lo)).toArray) := by
    show ((items.toList.drop (sIx items.size 0 lo)).take (sIx items.size items.size hi - sIx items.size 0 lo)).toArray.size ≤ sizeLine
    rw [List.size_toArray, List.length_take, List.length_drop, Array.length_toList]
    omega
  have hj : sIx items.size items.size hi ≤ items.size := sIx_le _ _ (Nat.le_refl _) hi
  obtain ⟨os, hos, hcs, hds⟩ := id hs
  have hTs : s.TypeIs (.ref sl) "slice" := ⟨os, hos, hcs⟩
  unfold getItem
  try with_reducible refine wpAny_holding ?_
  first | refine wpAny_bind (wpAny_pure ?_) | skip
  refine wpAny_bind (wpAny_sequenceKey ht.typeIs (by decide) ?_)
  refine wpAny_bind (wpAny_callSpecial?_slot (name := Str.ofString "__getitem__") ht.typeIs PyProof.Rows.slot_tuple_getitem
    (wpAny_call_entry PyProof.Rows.slot_tuple_getitem ht.typeIs entry_tuple_getitem ?_ (args_tuple_getitem _ _)))
  show wpAny _ _ (Builtin.Tuple.tupleItemsOf (.ref t) >>= _) _ _ s
  refine wpAny_bind (tupleItemsOf_ ht ?_)
  refine wpAny_bind (wpAny_typeOf hTs ?_)
  rw [if_pos (by decide)]
  refine wpAny_bind (sliceApplied_gen hs pl pu ?_)
  have hno : ¬ ((((sIx items.size 0 lo : Nat) : Int) == 0 && (1 : Int) == 1 && (sIx items.size items.size hi - sIx items.size 0 lo) == items.size) = true) := by
    intro q
    rw [Bool.and_eq_true, Bool.and_eq_true] at q
    have q1 : ((sIx items.size 0 lo : Nat) : Int) = 0 := eq_of_beq q.1.1
    have q2 : sIx items.size items.size hi - sIx items.size 0 lo = items.size := eq_of_beq q.2
    exact hw ⟨by omega, by omega⟩
  show wpAny _ _ (if (((sIx items.size 0 lo : Nat) : Int) == 0 && (1 : Int) == 1 && (sIx items.size items.size hi - sIx items.size 0 lo) == items.size) = true then _ else _) _ _ s
  rw [if_neg hno, pick_gen]
  first
    | exact wpAny_bind (m := Builtin.Tuple.tupleExact _) (wpAny_newObj_type (wpAny_pure ⟨_, rfl, wpAny_pure h⟩) htake)
    | exact wpAny_bind (m := Builtin.Tuple.tupleExact _) (wpAny_newObj_type (wpAny_bind (wpAny_pure (wpAny_pure ⟨_, rfl, wpAny_pure h⟩))) htake)
    | exact wpAny_bind (wpAny_bind (m := Builtin.Tuple.tupleExact _) (wpAny_newObj_type (wpAny_pure (wpAny_pure ⟨_, rfl, wpAny_pure h⟩)) htake))
    | exact wpAny_bind (wpAny_bind (m := Builtin.Tuple.tupleExact _) (wpAny_newObj_type (wpAny_pure ⟨_, rfl, wpAny_pure h⟩) htake))
end
end HT

namespace L2
open PySem PySem.Spec PyProof.Rows

/-! ### the parts of a slice -/
abbrev TO := St → Hp → (Option Int → Hp → Prop) → Prop
/-- a slice's part (left out, or an int) -/
def PO (X : Cx) (e : Option Expr) (t : TO) : Prop :=
  ∀ (pins : List (Addr × Obj)) (s : Shared) (σ : St) (H : Hp) (Q : Option Int → Hp → Prop), Inv X pins σ H s → t σ H Q →
    wpAny (model X.prog X.w) X.A (evalPart e X.env) (fun u s' => ∃ o H', Inv X pins σ H' s' ∧ IsPart u o ∧ Q o H') X.xe s
def tNoPart : TO := fun _ H Q => Q none H
def tPart (t : TE) : TO := fun σ H Q => t σ H fun x H1 => ∃ i, x = .int i ∧ Q (some i) H1

theorem intsAre_of {ns : List Int} : ∀ {us : List Value}, Vals (ns.map V.int) us → IntsAre us ns := by
  induction ns with
  | nil => intro us r; rw [List.map_nil] at r; cases r; exact .nil
  | cons n ns ih =>
    intro us r
    rw [List.map_cons] at r
    cases r with
    | cons r1 r2 =>
      obtain ⟨t, e⟩ := r1
      subst e
      exact .cons n t (ih r2)

section
variable {X : Cx} {e : Expr} {te : TE} {lo hi : Option Expr} {tl th : TO} {pos p2 : Pos}

theorem po_none : PO X none tNoPart := by
  intro pins s σ H Q I h
  rw [evalPart_none]
  exact wpAny_pure ⟨none, H, I, .none, h⟩
theorem po_some (h : PE X e te) : PO X (some e) (tPart te) := by
  intro pins s σ H Q I hw
  rw [evalPart_some]
  refine thn (h pins s σ H _ I hw) fun u s1 ⟨x, H1, I1, r1, q1⟩ => ?_
  obtain ⟨i, rfl, q⟩ := q1
  obtain ⟨t, rfl⟩ := r1
  exact ⟨some i, H1, I1, .int i t, q⟩

/-- what a slice of a value is, by values: the slice object stands at sl -/
def SlR (X : Cx) (r : V → Option Int → Option Int → Hp → VK → Prop) : Prop :=
  ∀ (pins : List (Addr × Obj)) (s : Shared) (σ : St) (H : Hp) (x : V) (v vl vu : Value) (lo hi : Option Int) (sl : Addr) (Q : VK), Inv X pins σ H s → RelV x v → s.heap.IsSliceOf sl vl vu .none → IsPart vl lo → IsPart vu hi → r x lo hi H Q →
    ∃ T id, typeLookup (.type T) "__getitem__" = pure (some (.builtin id)) ∧ s.TypeIs v T ∧ wpAny (model X.prog X.w) X.A (getItem v (.ref sl)) (EP X pins σ Q) X.xe s
theorem SlR.or {r r' : V → Option Int → Option Int → Hp → VK → Prop} (h : SlR X r) (h' : SlR X r') : SlR X (fun x lo hi H Q => r x lo hi H Q ∨ r' x lo hi H Q) := by
  intro pins s σ H x v vl vu lo hi sl Q I rx hs pl pu q
  rcases q with q | q
  · exact h pins s σ H x v vl vu lo hi sl Q I rx hs pl pu q
  · exact h' pins s σ H x v vl vu lo hi sl Q I rx hs pl pu q
def tSl (r : V → Option Int → Option Int → Hp → VK → Prop) (te : TE) (tl th : TO) : TE := fun σ H Q => te σ H fun x H1 => tl σ H1 fun l H2 => th σ H2 fun u H3 => r x l u H3 Q
/-- a[lo:hi], any a -/
theorem pe_slice {r : V → Option Int → Option Int → Hp → VK → Prop} (hr : SlR X r) (he : PE X e te) (hl : PO X lo tl) (hu : PO X hi th) : PE X (.Subscript e (.Slice lo hi none p2) pos) (tSl r te tl th) := by
  intro pins s σ H Q I h
  refine Subscript_ (thn (he pins s σ H _ I h) fun v s1 ⟨x, H1, I1, r1, q1⟩ => ?_)
  refine wpAny_Slice (thn (hl pins s1 σ H1 _ I1 q1) fun vl s2 ⟨l, H2, I2, pl, q2⟩ => thn (hu pins s2 σ H2 _ I2 q2) fun vu s3 ⟨u, H3, I3, pu, q3⟩ => ?_)
  rw [evalPart_none]
  refine wpAny_pure ?_
  have I4 : Inv X pins σ H3 { s3 with heap := s3.heap.push { cls := .type "slice", data := .fields #[vl, vu, .none] } } := I3.kept (t' := s3.toks) fun b ob q => Heap.get?_push_of_some _ q
  obtain ⟨T, id, hT, ht, hg⟩ := hr pins { s3 with heap := s3.heap.push { cls := .type "slice", data := .fields #[vl, vu, .none] } } σ H3 x v vl vu l u s3.heap.objs.size Q I4 r1 (Heap.IsSliceOf.new ..) pl pu q3
  show wpAny (model X.prog X.w) X.A (subscriptTail e (.Slice lo hi none p2) v (.ref s3.heap.objs.size)) (EP X pins σ Q) X.xe { s3 with heap := s3.heap.push { cls := .type "slice", data := .fields #[vl, vu, .none] } }
  exact tail_any (ops := [.ref s3.heap.objs.size, v]) ht hT hg (by with_unfolding_all rfl)

/-- the items of xs[lo:hi] -/
def cutV (xs : List V) (lo hi : Option Int) : List V := (xs.drop (HT.sIx xs.length 0 lo)).take (HT.sIx xs.length xs.length hi - HT.sIx xs.length 0 lo)
theorem cutV_length (xs : List V) (lo hi : Option Int) : (cutV xs lo hi).length ≤ xs.length := by
  unfold cutV
  rw [List.length_take, List.length_drop]
  omega
/-- t[lo:hi], not the whole of it (the whole would be t itself) -/
def rSlT (K : PySem.W.Frag) : V → Option Int → Option Int → Hp → VK → Prop := fun x lo hi H Q => ∃ a xs, x = .ref a ∧ SqT K H a xs ∧
  ¬ (HT.sIx xs.length 0 lo = 0 ∧ HT.sIx xs.length xs.length hi = xs.length) ∧ ∀ p, H p = none → Q (.ref p) (upd H p (.tup (cutV xs lo hi)))
theorem sl_tup : SlR X (rSlT X.K) := by
  intro pins s σ H x v vl vu lo hi sl Q I rx hs pl pu h
  obtain ⟨a, xs, rfl, hx, hw, q⟩ := h
  cases rx
  obtain ⟨its, r, ht, hz⟩ := I.tuple hx
  have hlen : its.toArray.size = xs.length := by rw [List.size_toArray]; exact r.length.symm
  refine ⟨"tuple", _, PyProof.Rows.slot_tuple_getitem.lookup, ht.typeIs, ?_⟩
  refine HT.getItem_tuple_cut ht hs pl pu (by rw [hlen]; exact hw) ?_ (by rw [hlen]; exact hz)
  rw [hlen]
  refine ⟨.ref s.heap.objs.size, _, I.laid (t' := s.toks) (o := .tup (cutV xs lo hi)) (fun b ob q => Heap.get?_push_of_some _ q) (Nat.le_refl _) ?_, rfl, q _ (I.hok.fresh (Nat.le_refl _))⟩
  exact ⟨Nat.le_trans (cutV_length xs lo hi) hz, _, (r.drop (HT.sIx xs.length 0 lo)).take (HT.sIx xs.length xs.length hi - HT.sIx xs.length 0 lo), IsTup.new _ _⟩

/-! ### t < u, t + u -/
def rLtT (K : PySem.W.Frag) : R2 := fun x y H Q => ∃ a b ns ms, x = .ref a ∧ y = .ref b ∧ SqT K H a (ns.map V.int) ∧ SqT K H b (ms.map V.int) ∧ Q (.bl (HT.lexLt ns ms)) H
theorem op_ltT (hu : X.A.units < cLine) : OpR X (compareOp .Lt) (rLtT X.K) := by
  intro pins s σ H x y v u Q I rx ry h
  obtain ⟨a, b, ns, ms, rfl, rfl, ha, hb, q⟩ := h
  cases rx
  cases ry
  obtain ⟨its, r1, p1, _⟩ := I.tuple ha
  obtain ⟨its2, r2, p2, _⟩ := I.tuple hb
  have i1 : IntsAre its.toArray.toList ns := intsAre_of r1
  have i2 : IntsAre its2.toArray.toList ms := intsAre_of r2
  exact HT.lt_tupInts p1 p2 i1 i2 hu ⟨.bl (HT.lexLt ns ms), H, I, rfl, q⟩
/-- t + u, t not empty: u empty gives t itself -/
def rCatT (K : PySem.W.Frag) : R2 := fun x y H Q => ∃ a b xs ys, x = .ref a ∧ y = .ref b ∧ SqT K H a xs ∧ SqT K H b ys ∧ xs ≠ [] ∧ xs.length + ys.length ≤ sizeLine ∧
  (ys = [] → Q (.ref a) H) ∧ (ys ≠ [] → ∀ p, H p = none → Q (.ref p) (upd H p (.tup (xs ++ ys))))
theorem Vals.nil_iff {xs : List V} {us : List Value} (r : Vals xs us) : us = [] ↔ xs = [] := by
  cases r with
  | nil => simp
  | cons _ _ => simp
theorem op_catT : OpR X (binaryOp .Add) (rCatT X.K) := by
  intro pins s σ H x y v u Q I rx ry h
  obtain ⟨a, b, xs, ys, rfl, rfl, ha, hb, hx, hz, q1, q2⟩ := h
  cases rx
  cases ry
  obtain ⟨its, r1, p1, _⟩ := I.tuple ha
  obtain ⟨its2, r2, p2, _⟩ := I.tuple hb
  refine HT.cat_tup p1 p2 (fun z => hx (r1.nil_iff.mp z)) (fun z => ⟨.ref a, H, I, rfl, q1 (r2.nil_iff.mp z)⟩) (fun z => ?_) (by rw [← r1.length, ← r2.length]; exact hz)
  refine ⟨.ref s.heap.objs.size, _, I.laid (t' := s.toks) (o := .tup (xs ++ ys)) (fun b ob q => Heap.get?_push_of_some _ q) (Nat.le_refl _) ?_, rfl, q2 (fun w => z (r2.nil_iff.mpr w)) _ (I.hok.fresh (Nat.le_refl _))⟩
  exact ⟨by rw [List.length_append]; exact hz, _, r1.append r2, IsTup.new _ _⟩
/-- tuple(t) -/
theorem call_tupleT : CallR X (.type "tuple") (fun xs H Q => ∃ a ys, xs = [.ref a] ∧ SqT X.K H a ys ∧ Q (.ref a) H) := by
  intro pins s σ H xs us Q I r h
  obtain ⟨a, ys, rfl, ha, q⟩ := h
  obtain ⟨u, rfl, ru⟩ := vals1 r
  cases ru
  obtain ⟨its, _, p1, _⟩ := I.tuple ha
  exact call_tuple_same (items := its.toArray) p1 ⟨.ref a, H, I, rfl, q⟩
end
end L2

namespace L2
open PySem PySem.Spec PyProof.Rows

/-! ### places -/
/-- the place that an index of any sign means -/
def ixN (n : Nat) (i : Int) : Option Nat := if 0 ≤ i then (if i < n then some i.toNat else none) else if -(n : Int) ≤ i then some (i + n).toNat else none
def atI {α : Type} (xs : List α) (i : Int) : Option α := (ixN xs.length i).bind fun j => xs[j]?
theorem ixN_seq {n : Nat} {i : Int} {j : Nat} (h : ixN n i = some j) : seqIndex? i n = some j ∧ j < n ∧ -(n : Int) ≤ i ∧ i < n := by
  unfold ixN at h
  by_cases h0 : 0 ≤ i
  · rw [if_pos h0] at h
    by_cases h1 : i < n
    · rw [if_pos h1] at h
      have e : i.toNat = j := Option.some.inj h
      exact ⟨by rw [seqIndex_of h0 h1, e], by omega, by omega, h1⟩
    · rw [if_neg h1] at h; cases h
  · rw [if_neg h0] at h
    by_cases h1 : -(n : Int) ≤ i
    · rw [if_pos h1] at h
      have e : (i + n).toNat = j := Option.some.inj h
      exact ⟨by rw [seqIndex_neg (by omega) h1, e], by omega, h1, by omega⟩
    · rw [if_neg h1] at h; cases h
theorem atI_get {α : Type} {xs : List α} {i : Int} {v : α} (h : atI xs i = some v) : ∃ j, seqIndex? i xs.length = some j ∧ xs[j]? = some v ∧ j < xs.length ∧ -(xs.length : Int) ≤ i ∧ i < xs.length := by
  unfold atI at h
  cases e : ixN xs.length i with
  | none => rw [e] at h; cases h
  | some j =>
    rw [e] at h
    obtain ⟨h1, h2, h3, h4⟩ := ixN_seq e
    exact ⟨j, h1, h, h2, h3, h4⟩
theorem atI_nat {α : Type} {xs : List α} {j : Nat} {v : α} (h : xs[j]? = some v) : atI xs (j : Int) = some v := by
  have hj : j < xs.length := (List.getElem?_eq_some_iff.mp h).1
  have e : ixN xs.length (j : Int) = some j := by
    unfold ixN
    rw [if_pos (by omega), if_pos (by omega)]; simp
  unfold atI; rw [e]; exact h
theorem atI_last {α : Type} (xs : List α) (v : α) : atI (xs ++ [v]) (-1) = some v := by
  have hl : (xs ++ [v]).length = xs.length + 1 := by simp
  have e : ixN (xs ++ [v]).length (-1) = some xs.length := by
    unfold ixN
    rw [hl, if_neg (by decide), if_pos (by omega)]
    congr 1
    omega
  unfold atI
  rw [e]
  show (xs ++ [v])[xs.length]? = some v
  simp

/-! ### what may be subscripted -/
/-- what stands as an index of a plain subscript -/
def PlainIx (b : Expr) : Prop := ∀ o i, subscripted b false o i = operate [o, i] (getItem o i)
/-- a subscript by values -/
def IxR (X : Cx) (r : R2) : Prop :=
  ∀ (value slice : Expr) (pins : List (Addr × Obj)) (s : Shared) (σ : St) (H : Hp) (x y : V) (v u : Value) (Q : VK), Inv X pins σ H s → RelV x v → RelV y u → r x y H Q →
    subscripted slice false v u = operate [v, u] (getItem v u) → wpAny (model X.prog X.w) X.A (subscriptTail value slice v u) (EP X pins σ Q) X.xe s
/-- a call of a builtin's method by values: the receiver, the arguments -/
def MtR (X : Cx) (id : String) (r : V → List V → Hp → VK → Prop) : Prop :=
  ∀ (pins : List (Addr × Obj)) (s : Shared) (σ : St) (H : Hp) (x : V) (xs : List V) (v : Value) (us : List Value) (Q : VK), Inv X pins σ H s → RelV x v → Vals xs us → r x xs H Q →
    wpAny (model X.prog X.w) X.A (call (.builtin id) (v :: us)) (EP X pins σ Q) X.xe s
section
variable {X : Cx} {a b : Expr} {ta tb : TE} {pos : Pos}
theorem IxR.or {r r' : R2} (h : IxR X r) (h' : IxR X r') : IxR X (fun x y H Q => r x y H Q ∨ r' x y H Q) := by
  intro value slice pins s σ H x y v u Q I rx ry q hs
  rcases q with q | q
  · exact h value slice pins s σ H x y v u Q I rx ry q hs
  · exact h' value slice pins s σ H x y v u Q I rx ry q hs
theorem MtR.or {id : String} {r r' : V → List V → Hp → VK → Prop} (h : MtR X id r) (h' : MtR X id r') : MtR X id (fun x xs H Q => r x xs H Q ∨ r' x xs H Q) := by
  intro pins s σ H x xs v us Q I rx rs q
  rcases q with q | q
  · exact h pins s σ H x xs v us Q I rx rs q
  · exact h' pins s σ H x xs v us Q I rx rs q
/-- a[b] -/
theorem pe_ix {r : R2} (hr : IxR X r) (ha : PE X a ta) (hb : PE X b tb) (hs : PlainIx b) : PE X (.Subscript a b pos) (tOp r ta tb) := by
  intro pins s σ H Q I h
  exact Subscript_ (binT ha hb I h fun v u s2 x y H2 I2 rx ry q => hr a b pins s2 σ H2 x y v u Q I2 rx ry q (hs _ _))

def rIxL (K : PySem.W.Frag) : R2 := fun x y H Q => ∃ p xs i v, x = .ref p ∧ y = .int i ∧ SqL K H p xs ∧ atI xs i = some v ∧ Q v H
def rIxT (K : PySem.W.Frag) : R2 := fun x y H Q => ∃ p xs i v, x = .ref p ∧ y = .int i ∧ SqT K H p xs ∧ atI xs i = some v ∧ Q v H
def rIxS : R2 := fun x y H Q => ∃ z i c, x = .str z ∧ y = .int i ∧ z.length ≤ sizeLine ∧ atI z.cps.toList i = some c ∧ Q (.str ⟨#[c]⟩) H
theorem ix_list : IxR X (rIxL X.K) := by
  intro value slice pins s σ H x y v u Q I rx ry h hs
  obtain ⟨p, xs, i, z, rfl, rfl, hq, he, q⟩ := h
  cases rx
  obtain ⟨t, rfl⟩ := ry
  obtain ⟨its, r, pl, hz⟩ := I.list hq
  obtain ⟨j, h1, h2, h3, h4, h5⟩ := atI_get he
  obtain ⟨w, ew, rw'⟩ := r.get h2
  have hl := r.length
  have hn := line63
  have fin : EP X pins σ Q w s := ⟨z, H, I, rw', q⟩
  by_cases h0 : 0 ≤ i
  · have hj : i.toNat = j := by
      rw [seqIndex_of h0 h5] at h1
      exact Option.some.inj h1
    exact item_listR pl.isList h0 (by omega) (by rw [hj]; simpa using ew) fin hs
  · have hj : (i + (its.toArray.size : Int)).toNat = j := by
      rw [seqIndex_neg (by omega) h4] at h1
      rw [List.size_toArray, ← hl]
      exact Option.some.inj h1
    exact subscriptTail_builtinR (x := w) pl.isList.typeIs slot_list_getitem.lookup
      (wpAny_getItem_list_neg (Q := fun r s' => r = w ∧ EP X pins σ Q r s') pl.isList (by omega) (by rw [List.size_toArray] <;> omega) (by omega) (by rw [hj]; simpa using ew) ⟨rfl, fin⟩) hs
theorem ix_tup : IxR X (rIxT X.K) := by
  intro value slice pins s σ H x y v u Q I rx ry h hs
  obtain ⟨p, xs, i, z, rfl, rfl, hq, he, q⟩ := h
  cases rx
  obtain ⟨t, rfl⟩ := ry
  obtain ⟨its, r, pl, hz⟩ := I.tuple hq
  obtain ⟨j, h1, h2, h3, h4, h5⟩ := atI_get he
  obtain ⟨w, ew, rw'⟩ := r.get h2
  have hl := r.length
  have hn := line63
  have fin : EP X pins σ Q w s := ⟨z, H, I, rw', q⟩
  exact subscriptTail_builtinR (x := w) pl.typeIs slot_tuple_getitem.lookup
    (getItem_tuple (j := j) (Q := fun r s' => r = w ∧ EP X pins σ Q r s') pl (by omega) (by omega) (by rw [List.size_toArray, ← hl]; exact h1) (by simpa using ew) ⟨rfl, fin⟩) hs
theorem ix_str : IxR X rIxS := by
  intro value slice pins s σ H x y v u Q I rx ry h hs
  obtain ⟨z, i, c, rfl, rfl, hz, he, q⟩ := h
  obtain ⟨t, rfl⟩ := rx
  obtain ⟨t', rfl⟩ := ry
  obtain ⟨j, h1, h2, h3, h4, h5⟩ := atI_get he
  have hl : z.cps.toList.length = z.length := by simp [Str.length]
  rw [hl] at h1 h4 h5
  have hn := line63
  exact tail_any (typeIs_str s z t) slot_str_getitem.lookup (getItem_str (c := c) (by
    have e1 : decide (i < -(2 ^ 63 : Int)) = false := decide_eq_false (by omega)
    have e2 : decide (i ≥ 2 ^ 63) = false := decide_eq_false (by omega)
    rw [e1, e2, Bool.or_false]) (by rw [h1]; simpa using h2) ⟨.str ⟨#[c]⟩, H, I.tok _, ⟨_, rfl⟩, q⟩) hs
/-- list, tuple or str -/
def rIx (K : PySem.W.Frag) : R2 := fun x y H Q => rIxL K x y H Q ∨ rIxT K x y H Q ∨ rIxS x y H Q
theorem ix_seq : IxR X (rIx X.K) := ix_list.or (ix_tup.or ix_str)

/-! ### xs[i] = v, any sign -/
/-- the list's object behind a store -/
theorem mapSeq_set (its : List Value) (n j : Nat) (u : Value) : Obj.mapSeq (·.setIfInBounds j u) { cls := .type "list", data := .seq its.toArray n } = { cls := .type "list", data := .seq (its.set j u).toArray n } := by
  simp [Obj.mapSeq]
theorem Inv.lst {pins : List (Addr × Obj)} {σ : St} {H : Hp} {s : Shared} {p : Addr} {xs : List V} (I : Inv X pins σ H s) (h : H p = some (.lst xs)) :
    ∃ (its : List Value) (n : Nat), Vals xs its ∧ s.heap.get? p = some { cls := .type "list", data := .seq its.toArray n } ∧ xs.length ≤ sizeLine := by
  obtain ⟨z, its, n, r, e⟩ := I.hok p _ h
  exact ⟨its, n, r, e, z⟩
/-- the list at p is written by an update of its object -/
theorem Inv.lstUpd {pins : List (Addr × Obj)} {σ : St} {H : Hp} {s : Shared} {p : Addr} {xs ys : List V} {its its' : List Value} {n n' : Nat} {f : Obj → Obj} (I : Inv X pins σ H s) (h : H p = some (.lst xs))
    (ho : s.heap.get? p = some { cls := .type "list", data := .seq its.toArray n }) (hf : f { cls := .type "list", data := .seq its.toArray n } = { cls := .type "list", data := .seq its'.toArray n' }) (r : Vals ys its') (hz : ys.length ≤ sizeLine) (t : Nat) :
    Inv X pins σ (upd H p (.lst ys)) { s with heap := s.heap.update p f, toks := t } := by
  have e : (s.heap.update p f).get? p = some { cls := .type "list", data := .seq its'.toArray n' } := by
    rw [Heap.get?_update_self f ho (by rw [hf] <;> rfl), hf]
  refine I.write (x := p) (e := p) (by rw [h]; trivial) (.inl rfl) (fun b u hb q => (Heap.get?_update_other _ _ (Ne.symm hb)).trans q) ⟨_, e⟩ ?_
  exact ⟨hz, its', n', r, e⟩
def rSetL : V → V → V → Hp → (Hp → Prop) → Prop := fun o i v H Q => ∃ p xs k j, o = .ref p ∧ i = .int k ∧ H p = some (.lst xs) ∧ ixN xs.length k = some j ∧ Q (upd H p (.lst (xs.set j v)))
theorem set_list : PSet X rSetL := by
  intro pins s σ H o i v ov iv u Q I ro ri rv h
  obtain ⟨p, xs, k, j, rfl, rfl, hp, hj, q⟩ := h
  cases ro
  obtain ⟨t, rfl⟩ := ri
  obtain ⟨its, n, r, ho, hz⟩ := I.lst hp
  obtain ⟨h1, h2, h3, h4⟩ := ixN_seq hj
  have hl := r.length
  have hn := line63
  have I' : Inv X pins σ (upd H p (.lst (xs.set j v))) { s with heap := s.heap.update p (Obj.mapSeq (·.setIfInBounds j u)) } :=
    I.lstUpd hp ho (mapSeq_set its n j u) (r.set rv j) (by rw [List.length_set]; exact hz) s.toks
  by_cases h0 : 0 ≤ k
  · have hk : k.toNat = j := by
      rw [seqIndex_of h0 h4] at h1
      exact Option.some.inj h1
    exact PySem.W.ki_setAt ho h0 (by omega) (by rw [List.size_toArray, ← hl]; exact h4) (by rw [hk]; exact ⟨_, I', q⟩)
  · have hk : (k + (its.toArray.size : Int)).toNat = j := by
      rw [seqIndex_neg (by omega) h3] at h1
      rw [List.size_toArray, ← hl]
      exact Option.some.inj h1
    exact PySem.W.ki_setBack ho (by omega) (by rw [List.size_toArray, ← hl]; exact h3) (by omega) (by rw [hk]; exact ⟨_, I', q⟩)

/-! ### slices -/
theorem slice_bounds (lo hi : Option Int) (n : Nat) : (sliceBounds lo hi none n).1 = ((HT.sIx n 0 lo : Nat) : Int) ∧ (sliceBounds lo hi none n).2.1 = ((HT.sIx n n hi : Nat) : Int) ∧ (sliceBounds lo hi none n).2.2 = 1 := by
  refine ⟨?_, ?_, rfl⟩
  · cases lo with
    | none => simp [sliceBounds, HT.sIx]
    | some i =>
      simp only [sliceBounds, HT.sIx, Option.getD_none, show (1 : Int) > 0 by decide, if_true]
      by_cases h : i < 0
      · simp only [h, if_true] <;> omega
      · simp only [h, if_false] <;> omega
  · cases hi with
    | none => simp [sliceBounds, HT.sIx]
    | some i =>
      simp only [sliceBounds, HT.sIx, Option.getD_none, show (1 : Int) > 0 by decide, if_true]
      by_cases h : i < 0
      · simp only [h, if_true] <;> omega
      · simp only [h, if_false] <;> omega
theorem slicePick_cut (its : List Value) (lo hi : Option Int) : slicePick its.toArray lo hi none = ((its.drop (HT.sIx its.length 0 lo)).take (HT.sIx its.length its.length hi - HT.sIx its.length 0 lo)).toArray := by
  obtain ⟨h1, h2, h3⟩ := slice_bounds lo hi its.toArray.size
  unfold slicePick
  rw [h1, h2, h3]
  simp only [sliceRange_one, pick_run, List.size_toArray] <;> rfl
/-- xs[lo:hi] of a list: a new list -/
def rSlL (K : PySem.W.Frag) : V → Option Int → Option Int → Hp → VK → Prop := fun x lo hi H Q => ∃ a xs, x = .ref a ∧ SqL K H a xs ∧ ∀ p, H p = none → Q (.ref p) (upd H p (.lst (cutV xs lo hi)))
theorem sl_list : SlR X (rSlL X.K) := by
  intro pins s σ H x v vl vu lo hi sl Q I rx hs pl pu h
  obtain ⟨a, xs, rfl, hx, q⟩ := h
  cases rx
  obtain ⟨its, r, ht, hz⟩ := I.list hx
  have hlen := r.length
  refine ⟨"list", _, slot_list_getitem.lookup, ht.isList.typeIs, ?_⟩
  refine wpAny_getItem_list_slice ht.isList hs pl pu .none (by simp) ?_ (by rw [List.size_toArray] <;> omega)
  rw [slicePick_cut, ← hlen]
  refine ⟨.ref s.heap.objs.size, _, I.laid (t' := s.toks) (o := .lst (cutV xs lo hi)) (fun b ob q => Heap.get?_push_of_some _ q) (Nat.le_refl _) ?_, rfl, q _ (I.hok.fresh (Nat.le_refl _))⟩
  exact ⟨Nat.le_trans (cutV_length xs lo hi) hz, _, 0, (r.drop (HT.sIx xs.length 0 lo)).take (HT.sIx xs.length xs.length hi - HT.sIx xs.length 0 lo), Heap.get?_push_size _ rfl⟩

/-! ### in, not in: flat items -/
def flatV : V → Bool
  | .non => true
  | .bl _ => true
  | .int _ => true
  | .str _ => true
  | _ => false
/-- == of flat values -/
def eqV : V → V → Bool
  | .non, .non => true
  | .bl a, .bl b => a == b
  | .bl a, .int b => (if a then 1 else 0) == b
  | .int a, .bl b => a == (if b then 1 else 0)
  | .int a, .int b => a == b
  | .str a, .str b => a == b
  | _, _ => false
theorem eqAt_V {A : Around} {s : Shared} {y x : V} {u v : Value} (ry : RelV y u) (rx : RelV x v) (fy : flatV y = true) (fx : flatV x = true) : SeqAt.EqAt A s u v (eqV y x) := by
  cases y with
  | non =>
    cases ry
    cases x with
    | non => cases rx; exact SeqAt.EqAt.same _
    | bl b => cases rx; exact SeqAt.EqAt.none_bool b
    | int b => obtain ⟨t, rfl⟩ := rx; exact SeqAt.EqAt.none_int b t
    | str b => obtain ⟨t, rfl⟩ := rx; exact SeqAt.EqAt.none_str b t
    | _ => exact absurd (show false = true from fx) Bool.false_ne_true
  | bl a =>
    cases ry
    cases x with
    | non => cases rx; exact SeqAt.EqAt.bool_none a
    | bl b => cases rx; exact SeqAt.EqAt.bool_bool a b
    | int b => obtain ⟨t, rfl⟩ := rx; exact SeqAt.EqAt.bool_int a b t
    | str b => obtain ⟨t, rfl⟩ := rx; exact SeqAt.EqAt.bool_str a b t
    | _ => exact absurd (show false = true from fx) Bool.false_ne_true
  | int a =>
    obtain ⟨t', rfl⟩ := ry
    cases x with
    | non => cases rx; exact SeqAt.EqAt.int_none a t'
    | bl b => cases rx; exact SeqAt.EqAt.int_bool a t' b
    | int b => obtain ⟨t, rfl⟩ := rx; exact SeqAt.EqAt.int_int a t' b t
    | str b => obtain ⟨t, rfl⟩ := rx; exact SeqAt.EqAt.int_str a t' b t
    | _ => exact absurd (show false = true from fx) Bool.false_ne_true
  | str a =>
    obtain ⟨t', rfl⟩ := ry
    cases x with
    | non => cases rx; exact SeqAt.EqAt.str_none a t'
    | bl b => cases rx; exact SeqAt.EqAt.str_bool a t' b
    | int b => obtain ⟨t, rfl⟩ := rx; exact SeqAt.EqAt.str_int a t' b t
    | str b => obtain ⟨t, rfl⟩ := rx; exact SeqAt.EqAt.str_str a t' b t
    | _ => exact absurd (show false = true from fx) Bool.false_ne_true
  | _ => exact absurd (show false = true from fy) Bool.false_ne_true
/-- the items' answers, read off the values (a value's own answer does not lean on its token) -/
def eqU (x : V) (u : Value) : Bool := match u with
  | .none => eqV .non x
  | .bool b => eqV (.bl b) x
  | .int i _ => eqV (.int i) x
  | .str z _ => eqV (.str z) x
  | _ => false
theorem eqU_of {x y : V} {u : Value} (r : RelV y u) (f : flatV y = true) : eqU x u = eqV y x := by
  cases y with
  | non => cases r; rfl
  | bl b => cases r; rfl
  | int i => obtain ⟨t, rfl⟩ := r; rfl
  | str z => obtain ⟨t, rfl⟩ := r; rfl
  | _ => exact absurd (show false = true from f) Bool.false_ne_true
theorem any_eqU {x : V} : ∀ {xs : List V} {us : List Value}, Vals xs us → xs.all flatV = true → us.any (eqU x) = xs.any fun y => eqV y x
  | _, _, .nil, _ => rfl
  | y :: xs, u :: us, .cons r t, f => by
    rw [List.all_cons, Bool.and_eq_true] at f
    rw [List.any_cons, List.any_cons, eqU_of r f.1, any_eqU t f.2]
theorem mem_eqAt {A : Around} {s : Shared} {x : V} {v : Value} (rx : RelV x v) (fx : flatV x = true) : ∀ {xs : List V} {us : List Value}, Vals xs us → xs.all flatV = true → ∀ u ∈ us, SeqAt.EqAt A s u v (eqU x u)
  | _, _, .nil, _ => fun u hu => by cases hu
  | y :: xs, u :: us, .cons r t, f => fun u' hu => by
    rw [List.all_cons, Bool.and_eq_true] at f
    rcases List.mem_cons.mp hu with rfl | hu
    · rw [eqU_of r f.1]; exact eqAt_V r rx f.1 fx
    · exact mem_eqAt rx fx t f.2 u' hu
def inV (x : V) (xs : List V) : Bool := xs.any fun y => eqV y x
/-- x in a list or tuple of flat items -/
def rIn (K : PySem.W.Frag) (neg : Bool) : R2 := fun x y H Q => ∃ p xs, y = .ref p ∧ (SqL K H p xs ∨ SqT K H p xs) ∧ flatV x = true ∧ xs.all flatV = true ∧ Q (.bl (if neg then !inV x xs else inV x xs)) H
theorem op_in_seq : OpR X (compareOp .In) (rIn X.K false) := by
  intro pins s σ H x y v u Q I rx ry h
  obtain ⟨p, xs, rfl, hq, fx, fs, q⟩ := h
  cases ry
  rcases hq with hq | hq
  · obtain ⟨its, r, pl, hz⟩ := I.list hq
    refine SeqAt.in_listAt (eqU x) pl.isList (fun w hw => mem_eqAt rx fx r fs w (by simpa using hw)) ⟨.bl _, H, I, rfl, ?_⟩
    rw [show its.toArray.any (eqU x) = its.any (eqU x) by simp, any_eqU r fs]
    exact q
  · obtain ⟨its, r, pl, hz⟩ := I.tuple hq
    refine SeqAt.in_tupleAt (eqU x) pl (fun w hw => mem_eqAt rx fx r fs w (by simpa using hw)) ⟨.bl _, H, I, rfl, ?_⟩
    rw [show its.toArray.any (eqU x) = its.any (eqU x) by simp, any_eqU r fs]
    exact q
theorem op_notIn_seq : OpR X (compareOp .NotIn) (rIn X.K true) := by
  intro pins s σ H x y v u Q I rx ry h
  obtain ⟨p, xs, rfl, hq, fx, fs, q⟩ := h
  cases ry
  rcases hq with hq | hq
  · obtain ⟨its, r, pl, hz⟩ := I.list hq
    refine SeqAt.notIn_listAt (eqU x) pl.isList (fun w hw => mem_eqAt rx fx r fs w (by simpa using hw)) ⟨.bl _, H, I, rfl, ?_⟩
    rw [show its.toArray.any (eqU x) = its.any (eqU x) by simp, any_eqU r fs]
    exact q
  · obtain ⟨its, r, pl, hz⟩ := I.tuple hq
    refine SeqAt.notIn_tupleAt (eqU x) pl (fun w hw => mem_eqAt rx fx r fs w (by simpa using hw)) ⟨.bl _, H, I, rfl, ?_⟩
    rw [show its.toArray.any (eqU x) = its.any (eqU x) by simp, any_eqU r fs]
    exact q
theorem op_notIn_str : OpR X (compareOp .NotIn) (fun x y H Q => ∃ i j, x = .str i ∧ y = .str j ∧ Q (.bl (!(!(Builtin.Str.occurrences j i 0 j.length 1).isEmpty))) H) := by
  intro pins s σ H x y v u Q I rx ry h
  obtain ⟨i, j, rfl, rfl, q⟩ := h
  obtain ⟨t, rfl⟩ := rx
  obtain ⟨t', rfl⟩ := ry
  exact notIn_str ⟨.bl _, H, I, rfl, q⟩

/-! ### len, list(x), tuple(x) of any list or tuple that is read -/
theorem call_len_seq : CallR X (.builtin "len") (fun xs H Q => ∃ p ys, xs = [.ref p] ∧ (SqL X.K H p ys ∨ SqT X.K H p ys) ∧ Q (.int ys.length) H) := by
  intro pins s σ H xs us Q I r h
  obtain ⟨p, ys, rfl, hq, q⟩ := h
  obtain ⟨u, rfl, rx⟩ := vals1 r
  cases rx
  have hn := line63
  rcases hq with hq | hq
  · obtain ⟨its, r', pl, hz⟩ := I.list hq
    have hlen := r'.length
    exact Calls.call_len_list pl.isList (by simp only [List.size_toArray] <;> omega) ⟨.int ys.length, H, I.tok _, ⟨s.toks + 1, by rw [List.size_toArray, hlen]⟩, q⟩
  · obtain ⟨its, r', pl, hz⟩ := I.tuple hq
    have hlen := r'.length
    exact len_tuple pl (by simp only [List.size_toArray] <;> omega) ⟨.int ys.length, H, I.tok _, ⟨s.toks + 1, by rw [List.size_toArray, hlen]⟩, q⟩
theorem call_len_str : CallR X (.builtin "len") (fun xs H Q => ∃ z, xs = [.str z] ∧ z.length ≤ sizeLine ∧ Q (.int z.length) H) := by
  intro pins s σ H xs us Q I r h
  obtain ⟨z, rfl, hz, q⟩ := h
  obtain ⟨u, rfl, t, rfl⟩ := vals1 r
  have hn := line63
  exact len_str (by omega) ⟨.int z.length, H, I.tok _, ⟨_, rfl⟩, q⟩
theorem CallR.or {f : Value} {r r' : List V → Hp → VK → Prop} (h : CallR X f r) (h' : CallR X f r') : CallR X f (fun xs H Q => r xs H Q ∨ r' xs H Q) := by
  intro pins s σ H xs us Q I rs q
  rcases q with q | q
  · exact h pins s σ H xs us Q I rs q
  · exact h' pins s σ H xs us Q I rs q
theorem call_list_of : CallR X (.type "list") (fun xs H Q => ∃ p ys, xs = [.ref p] ∧ (SqL X.K H p ys ∨ SqT X.K H p ys) ∧ ∀ l, H l = none → Q (.ref l) (upd H l (.lst ys))) := by
  intro pins s σ H xs us Q I r h
  obtain ⟨p, ys, rfl, hq, q⟩ := h
  obtain ⟨u, rfl, rx⟩ := vals1 r
  cases rx
  have fin : ∀ (its : List Value), Vals ys its → ys.length ≤ sizeLine → ∀ (h' : Heap) (c' : Nat), (∀ b o', s.heap.get? b = some o' → h'.get? b = some o') →
      h'.get? s.heap.objs.size = some { cls := .type "list", dict := none, data := .seq its.toArray c', slots := #[] } → EP X pins σ Q (.ref s.heap.objs.size) { s with heap := h' } := fun its r' hz h' c' kp e =>
    ⟨.ref s.heap.objs.size, _, I.laid (t' := s.toks) kp (Nat.le_refl _) (show ObjOk X.prog X.w _ h' _ (.lst ys) from ⟨hz, its, c', r', e⟩), rfl, q _ (I.hok.fresh (Nat.le_refl _))⟩
  rcases hq with hq | hq
  · obtain ⟨its, r', pl, hz⟩ := I.list hq
    have hlen := r'.length
    obtain ⟨o, ho, hc, n, hd⟩ := pl.isList
    exact call_list_seq p (.inl rfl) ho hc hd (fun h' c' kp e => fin its r' hz h' c' kp e) (by simp only [List.size_toArray] <;> omega)
  · obtain ⟨its, r', pl, hz⟩ := I.tuple hq
    have hlen := r'.length
    obtain ⟨o, ho, hc, n, hd⟩ := pl
    exact call_list_seq p (.inr rfl) ho hc hd (fun h' c' kp e => fin its r' hz h' c' kp e) (by simp only [List.size_toArray] <;> omega)
theorem call_tuple_of : CallR X (.type "tuple") (fun xs H Q => ∃ p ys, xs = [.ref p] ∧ ((SqL X.K H p ys ∧ ∀ l, H l = none → Q (.ref l) (upd H l (.tup ys))) ∨ (SqT X.K H p ys ∧ Q (.ref p) H))) := by
  intro pins s σ H xs us Q I r h
  obtain ⟨p, ys, rfl, h⟩ := h
  obtain ⟨u, rfl, rx⟩ := vals1 r
  cases rx
  rcases h with ⟨hq, q⟩ | ⟨hq, q⟩
  · obtain ⟨its, r', pl, hz⟩ := I.list hq
    have hlen := r'.length
    refine call_tuple_list pl.isList (fun h' kp => ?_) (by simp only [List.size_toArray] <;> omega)
    have I1 : Inv X pins σ H { s with heap := h' } := I.kept (t' := s.toks) kp
    have I2 : Inv X pins σ (upd H h'.objs.size (.tup ys)) { s with heap := h'.push { cls := .type "tuple", data := .seq its.toArray } } :=
      I1.laid (t' := s.toks) (fun b o e => Heap.get?_push_of_some _ e) (Nat.le_refl _) (show ObjOk X.prog X.w _ _ _ (.tup ys) from ⟨hz, its, r', IsTup.new _ _⟩)
    exact ⟨.ref h'.objs.size, _, I2, rfl, q _ (I1.hok.fresh (Nat.le_refl _))⟩
  · obtain ⟨its, r', pl, hz⟩ := I.tuple hq
    exact call_tuple_same pl ⟨.ref p, H, I, rfl, q⟩

/-! ### the call of a builtin's method: o.m(..) -/
/-- the value is of that builtin type -/
def tyV (K : PySem.W.Frag) (T : String) (x : V) (H : Hp) : Prop := match x with
  | .str _ => T = "str"
  | .int _ => T = "int"
  | .ref p => (T = "list" ∧ ∃ xs, SqL K H p xs) ∨ (T = "tuple" ∧ ∃ o, K.lookup p = some o ∧ o.cls = .type "tuple" ∧ o.dict = none) ∨
      (T = "dict" ∧ ((∃ kvs, H p = some (.dK kvs)) ∨ ∃ kvs, H p = some (.dT kvs))) ∨ (T = "set" ∧ ∃ S n, H p = some (.set S n))
  | _ => False
theorem tyV_is {pins : List (Addr × Obj)} {σ : St} {H : Hp} {s : Shared} {T : String} {x : V} {v : Value} (I : Inv X pins σ H s) (r : RelV x v) (ty : tyV X.K T x H) :
    s.TypeIs v T ∧ ∀ a, v = .ref a → ∃ ob, s.heap.get? a = some ob ∧ ob.dict = none := by
  cases x with
  | str z =>
    obtain ⟨t, rfl⟩ := r
    cases (show T = "str" from ty)
    exact ⟨typeIs_str s z t, fun _ e => nomatch e⟩
  | int i =>
    obtain ⟨t, rfl⟩ := r
    cases (show T = "int" from ty)
    exact ⟨typeIs_int s i t, fun _ e => nomatch e⟩
  | ref p =>
    cases r
    rcases ty with ⟨rfl, xs, hq⟩ | ⟨rfl, o, hk, hc, hd⟩ | ⟨rfl, hk⟩ | ⟨rfl, S, n, hk⟩
    · obtain ⟨its, _, pl, _⟩ := I.list hq
      refine ⟨pl.isList.typeIs, fun a e => ?_⟩
      cases e
      obtain ⟨o, n, e, c, hd, _⟩ := pl
      exact ⟨o, e, hd⟩
    · refine ⟨⟨o, I.kIn p o hk, hc⟩, fun a e => ?_⟩
      cases e
      exact ⟨o, I.kIn _ o hk, hd⟩
    · have z : ∃ o, s.heap.get? p = some o ∧ o.ExactDict := by
        rcases hk with ⟨kvs, hk⟩ | ⟨kvs, hk⟩
        · obtain ⟨_, _, _, _, o, _, _, e, ex, _⟩ := I.hok p _ hk
          exact ⟨o, e, ex⟩
        · obtain ⟨_, _, _, _, o, _, _, e, ex, _⟩ := I.hok p _ hk
          exact ⟨o, e, ex⟩
      obtain ⟨o, e, ex⟩ := z
      refine ⟨⟨o, e, ex.1⟩, fun a e2 => ?_⟩
      cases e2
      exact ⟨o, e, ex.2.1⟩
    · obtain ⟨o, _, _, _, e, ex, _⟩ := I.hok p _ hk
      refine ⟨⟨o, e, ex.1⟩, fun a e2 => ?_⟩
      cases e2
      exact ⟨o, e, ex.2.1⟩
  | _ => exact False.elim ty
def tBM0 (K : PySem.W.Frag) (T : String) (r : V → List V → Hp → VK → Prop) (to : TE) : TE := fun σ H Q => to σ H fun x H1 => tyV K T x H1 ∧ r x [] H1 Q
def tBM (K : PySem.W.Frag) (T : String) (r : V → List V → Hp → VK → Prop) (to : TE) (t : TA) : TE := fun σ H Q => to σ H fun x H1 => tyV K T x H1 ∧ t σ H1 fun xs H2 => r x xs H2 Q
variable {o e : Expr} {es : List Expr} {to : TE} {t : TA} {name : Str} {apos cpos : Pos} {T id : String} {r : V → List V → Hp → VK → Prop}
theorem pe_bm0 (pa : PlainAttrs T) (slot : Slot T name id) (hty : typeOf (.builtin id) = pure (.type "method_descriptor")) (hm : MtR X id r) (ho : PE X o to)
    (hbase : attributeBase o name X.env (eval o X.env) = eval o X.env := by rfl) (hline : (apos.endLine == cpos.line) = true := by rfl) : PE X (.Call (.Attribute o name apos) [] [] cpos) (tBM0 X.K T r to) := by
  intro pins s σ H Q I h
  refine wpAny_Call_method0_late hbase hline (thn (ho pins s σ H _ I h) fun v s1 ⟨x, H1, I1, r1, ty, q1⟩ => ?_)
  obtain ⟨h1, h2⟩ := tyV_is I1 r1 ty
  exact ⟨T, id, pa, slot, hty, h1, h2, Calls.callWith_builtin rfl (PySem.evalArgs_none (hm pins s1 σ H1 x [] v [] Q I1 r1 .nil q1))⟩
theorem pe_bm (pa : PlainAttrs T) (slot : Slot T name id) (hty : typeOf (.builtin id) = pure (.type "method_descriptor")) (hm : MtR X id r) (ho : PE X o to) (ha : PA X (e :: es) t)
    (hbase : attributeBase o name X.env (eval o X.env) = eval o X.env := by rfl)
    (hfew : ((backTo cpos (starEach (e :: es) X.env)).all (fun x => !x.1) && (backToKw cpos (keywordEach [] X.env)).all (fun x => x.1.isSome)
      && decide ((e :: es).length + ([] : List Keyword).length + (if ([] : List Keyword).isEmpty then 0 else 1) < 30)) = true := by rfl)
    (hline : (apos.endLine == cpos.line) = true := by rfl) (hs : starEach (e :: es) X.env = (false, eval e X.env) :: starEach es X.env := by rfl) (hplain : (backTo cpos (starEach es X.env)).any (·.1) = false := by rfl) :
    PE X (.Call (.Attribute o name apos) (e :: es) [] cpos) (tBM X.K T r to t) := by
  intro pins s σ H Q I h
  refine wpAny_Call_method_late hbase hfew hline rfl (thn (ho pins s σ H _ I h) fun v s1 ⟨x, H1, I1, r1, ty, q1⟩ => ?_)
  obtain ⟨h1, h2⟩ := tyV_is I1 r1 ty
  refine ⟨T, id, pa, slot, hty, h1, h2, ?_⟩
  have hA := ha cpos pins s1 σ H1 _ I1 q1
  rw [hs] at hA ⊢
  refine Calls.callWith_builtin (by show (false || (backTo cpos (starEach es X.env)).any (·.1)) = false; rw [hplain] <;> rfl) (Calls.evalArgs_plain ?_)
  exact thn hA fun us s2 ⟨vs, H2, I2, r2, q2⟩ => hm pins s2 σ H2 x vs v us Q I2 r1 r2 q2
/- xs.append(e), list.index on a module's tuple .. are MtR facts of 06m -/
end
end L2

namespace L2
open PySem PySem.Spec PyProof.Rows

def MtM (X : Cx) (id : String) (r : V → List V → Hp → VK → Prop) : Prop :=
  ∀ (pins : List (Addr × Obj)) (s : Shared) (σ : St) (H : Hp) (x : V) (xs : List V) (v : Value) (us : List Value) (Q : VK), Inv X pins σ H s → RelV x v → Vals xs us → r x xs H Q →
    wpAny (model X.prog X.w) X.A (call (.builtin id) (v :: us)) (EP X pins σ Q) X.xe s

/-! ### lists of values -/
theorem Vals.one : ∀ {x : V} {us : List Value}, Vals [x] us → ∃ u, us = [u] ∧ RelV x u
  | _, _, .cons r .nil => ⟨_, rfl, r⟩
theorem Vals.two : ∀ {x y : V} {us : List Value}, Vals [x, y] us → ∃ u v, us = [u, v] ∧ RelV x u ∧ RelV y v
  | _, _, _, .cons r (.cons q .nil) => ⟨_, _, rfl, r, q⟩
theorem Vals.zero : ∀ {us : List Value}, Vals [] us → us = []
  | _, .nil => rfl
theorem Vals.dropLast {xs : List V} {us : List Value} (h : Vals xs us) : Vals xs.dropLast us.dropLast := by
  induction h with
  | nil => exact .nil
  | cons r t ih =>
    cases t with
    | nil => exact .nil
    | cons q t' => exact .cons r ih
theorem Vals.eraseIdx : ∀ {xs : List V} {us : List Value} (i : Nat), Vals xs us → Vals (xs.eraseIdx i) (us.eraseIdx i)
  | _, _, _, .nil => .nil
  | _, _, 0, .cons _ t => t
  | _, _, i + 1, .cons r t => .cons r (Vals.eraseIdx i t)
theorem Vals.reverse {xs : List V} {us : List Value} (h : Vals xs us) : Vals xs.reverse us.reverse := by
  induction h with
  | nil => exact .nil
  | cons r t ih => rw [List.reverse_cons, List.reverse_cons]; exact Vals.append ih (.cons r .nil)
theorem Vals.rep {xs : List V} {us : List Value} (h : Vals xs us) : ∀ k : Nat, Vals (List.replicate k xs).flatten (List.replicate k us).flatten
  | 0 => .nil
  | k + 1 => by
    rw [List.replicate_succ, List.replicate_succ, List.flatten_cons, List.flatten_cons]
    exact Vals.append h (Vals.rep h k)
theorem erase_last {α : Type} (l : List α) : l.eraseIdx (l.length - 1) = l.dropLast := by
  induction l with
  | nil => rfl
  | cons a r ih =>
    cases r with
    | nil => rfl
    | cons b r =>
      have e : (a :: b :: r).length - 1 = ((b :: r).length - 1) + 1 := by
        have h1 : (a :: b :: r).length = r.length + 2 := rfl
        have h2 : (b :: r).length = r.length + 1 := rfl
        omega
      rw [e, List.eraseIdx_cons_succ, ih]
      all_goals rfl
theorem len_erase {α : Type} : ∀ (l : List α) (i : Nat), (l.eraseIdx i).length ≤ l.length
  | [], _ => Nat.le_refl _
  | _ :: _, 0 => Nat.le_succ _
  | _ :: r, i + 1 => Nat.succ_le_succ (len_erase r i)
theorem foldl_rep (its : List Value) : ∀ (k : Nat) (acc : List Value),
    List.foldl (fun x1 x2 => x1 ++ x2) acc.toArray (List.replicate k its.toArray) = (acc ++ (List.replicate k its).flatten).toArray
  | 0, acc => by simp
  | k + 1, acc => by
    have e : acc.toArray ++ its.toArray = (acc ++ its).toArray := by simp
    have e2 : (acc ++ its) ++ (List.replicate k its).flatten = acc ++ (List.replicate (k + 1) its).flatten := by
      rw [List.replicate_succ, List.flatten_cons, List.append_assoc]
    rw [← e2, ← foldl_rep its k (acc ++ its), ← e, List.replicate_succ, List.foldl_cons]

section
variable {X : Cx} {pins : List (Addr × Obj)} {σ : St} {H : Hp} {s : Shared} {l b : Addr} {xs ys zs : List V}

/-! ### the two steps: a tracked list is rewritten, a new list is laid -/
theorem Inv.lset {its its' : List Value} {n : Nat} {f : Array Value → Array Value} {t' : Nat} (I : Inv X pins σ H s) (hH : H l = some (.lst xs))
    (e : s.heap.get? l = some { cls := .type "list", data := .seq its.toArray n }) (hf : f its.toArray = its'.toArray) (hv : Vals ys its') (hz : ys.length ≤ sizeLine) :
    Inv X pins σ (upd H l (.lst ys)) { s with heap := s.heap.update l (Obj.mapSeq f), toks := t' } := by
  have q := PySem.IsL.update e f
  rw [hf] at q
  refine I.write (x := l) (e := l) (by rw [hH]; exact trivial) (.inl rfl) (fun b' u hb hu => (Heap.get?_update_other s.heap (Obj.mapSeq f) (Ne.symm hb)).trans hu) ⟨_, q⟩ ?_
  exact ⟨hz, its', _, hv, q⟩
theorem Inv.lnew {its : List Value} {t' : Nat} (I : Inv X pins σ H s) (hv : Vals ys its) (hz : ys.length ≤ sizeLine) :
    Inv X pins σ (upd H s.heap.objs.size (.lst ys)) { s with heap := s.heap.push { cls := .type "list", data := .seq its.toArray }, toks := t' } :=
  I.laid (fun _ _ q => Heap.get?_push_of_some _ q) (Nat.le_refl _) ⟨hz, its, 0, hv, Heap.get?_push_size _ rfl⟩
theorem Inv.fresh (I : Inv X pins σ H s) : H s.heap.objs.size = none := I.hok.fresh (Nat.le_refl _)
theorem Inv.lstM (I : Inv X pins σ H s) (hH : H l = some (.lst xs)) : xs.length ≤ sizeLine ∧ ∃ (its : List Value) (n : Nat), Vals xs its ∧ xs.length = its.length ∧ s.heap.get? l = some { cls := .type "list", data := .seq its.toArray n } := by
  obtain ⟨z, its, n, r, e⟩ := I.hok l _ hH
  exact ⟨z, its, n, r, r.length, e⟩

theorem notLongL {n : Nat} (h : n ≤ sizeLine) : Builtin.List.listTooLong n = false := by
  unfold Builtin.List.listTooLong
  exact decide_eq_false (by omega)
end

section
variable {X : Cx}

/-! ### methods -/
def rAppend : V → List V → Hp → VK → Prop := fun x vs H Q => ∃ l xs y, x = .ref l ∧ vs = [y] ∧ H l = some (.lst xs) ∧ xs.length < sizeLine ∧ Q .non (upd H l (.lst (xs ++ [y])))
theorem mt_append : MtM X "list.append" rAppend := by
  intro pins s σ H x vs v us Q I rx rv h
  obtain ⟨l, xs, y, rfl, rfl, hH, hz, q⟩ := h
  cases rx
  obtain ⟨u, rfl, ru⟩ := rv.one
  obtain ⟨z, its, n, r, hl, e⟩ := I.lstM hH
  refine call_meets F.slot_list_append ⟨_, e, rfl⟩ F.entry_list_append (F.args_list_append_2 _ _) (PySem.list_append l its.toArray n u (by rw [List.size_toArray]; omega)) ⟨e, ?_⟩
  refine ⟨.non, _, I.lset (its' := its ++ [u]) hH e (by simp) (r.append (.cons ru .nil)) ?_, rfl, q⟩
  rw [List.length_append, List.length_singleton]
  omega

def rExtend : V → List V → Hp → VK → Prop := fun x vs H Q => ∃ l b xs zs, x = .ref l ∧ vs = [.ref b] ∧ H l = some (.lst xs) ∧ H b = some (.lst zs) ∧ xs.length + zs.length ≤ sizeLine ∧ Q .non (upd H l (.lst (xs ++ zs)))
theorem mt_extend : MtM X "list.extend" rExtend := by
  intro pins s σ H x vs v us Q I rx rv h
  obtain ⟨l, b, xs, zs, rfl, rfl, hH, hB, hz, q⟩ := h
  cases rx
  obtain ⟨u, rfl, ru⟩ := rv.one
  cases ru
  obtain ⟨z, its, n, r, hl, e⟩ := I.lstM hH
  obtain ⟨z2, its2, n2, r2, hl2, e2⟩ := I.lstM hB
  have hsz : its.toArray.size + its2.toArray.size ≤ sizeLine := by rw [List.size_toArray, List.size_toArray]; omega
  have hlong : ¬ (!its.toArray.isEmpty && Builtin.List.listTooLong (its.toArray.size + its2.toArray.size)) = true := by
    rw [notLongL hsz, Bool.and_false]
    exact Bool.false_ne_true
  refine call_meets F.slot_list_extend ⟨_, e, rfl⟩ F.entry_list_extend (F.args_list_extend_2 _ _)
    (AutoSeq1.list_extend_list_list_0 l its.toArray n b its2.toArray n2 hlong (by rw [List.size_toArray]; omega) (by omega)) ⟨e, e2, ?_⟩
  refine ⟨.non, _, I.lset (its' := its ++ its2) hH e (by simp) (r.append r2) ?_, rfl, q⟩
  rw [List.length_append]
  omega

def rPop : V → List V → Hp → VK → Prop := fun x vs H Q => ∃ l xs y, x = .ref l ∧ vs = [] ∧ H l = some (.lst xs) ∧ xs[xs.length - 1]? = some y ∧ Q y (upd H l (.lst xs.dropLast))
theorem mt_pop : MtM X "list.pop" rPop := by
  intro pins s σ H x vs v us Q I rx rv h
  obtain ⟨l, xs, y, rfl, rfl, hH, hy, q⟩ := h
  cases rx
  have hus := rv.zero
  subst hus
  obtain ⟨z, its, n, r, hl, e⟩ := I.lstM hH
  obtain ⟨u, hu, ru⟩ := r.get hy
  have hy' : its.toArray[its.toArray.size - 1]? = some u := by
    show its.toArray[its.length - 1]? = some u
    rw [← Array.getElem?_toList, ← hl]
    exact hu
  refine call_meets F.slot_list_pop ⟨_, e, rfl⟩ F.entry_list_pop (F.args_list_pop_1 _) (MeetsSeq.list_pop_last l its.toArray n u hy' (by rw [List.size_toArray]; omega)) ⟨e, ?_⟩
  refine ⟨y, _, I.lset (its' := its.dropLast) hH e ?_ r.dropLast ?_, ru, q⟩
  · show its.toArray.eraseIdxIfInBounds (its.toArray.size - 1) = its.dropLast.toArray
    rw [List.size_toArray, List.eraseIdxIfInBounds_toArray, erase_last]
  · rw [List.length_dropLast]
    omega

def rPopAt : V → List V → Hp → VK → Prop := fun x vs H Q => ∃ l xs i k y, x = .ref l ∧ vs = [.int i] ∧ H l = some (.lst xs) ∧ -(2 ^ 63) ≤ i ∧ i < 2 ^ 63 ∧ seqIndex? i xs.length = some k ∧ xs[k]? = some y ∧ Q y (upd H l (.lst (xs.eraseIdx k)))
theorem mt_popAt : MtM X "list.pop" rPopAt := by
  intro pins s σ H x vs v us Q I rx rv h
  obtain ⟨l, xs, i, k, y, rfl, rfl, hH, h1, h2, hk, hy, q⟩ := h
  cases rx
  obtain ⟨u, rfl, ru⟩ := rv.one
  obtain ⟨t, rfl⟩ := ru
  obtain ⟨z, its, n, r, hl, e⟩ := I.lstM hH
  obtain ⟨w, hw, rw'⟩ := r.get hy
  refine call_meets F.slot_list_pop ⟨_, e, rfl⟩ F.entry_list_pop (F.args_list_pop_2 _ _)
    (MeetsSeq.list_pop_at l its.toArray n i t k w (fitsIndex_both h1 h2) (by rw [List.size_toArray, ← hl]; exact hk) (by rw [← Array.getElem?_toList]; exact hw) (by rw [List.size_toArray]; omega)) ⟨e, ?_⟩
  refine ⟨y, _, I.lset (its' := its.eraseIdx k) hH e ?_ (r.eraseIdx k) ?_, rw', q⟩
  · show its.toArray.eraseIdxIfInBounds k = (its.eraseIdx k).toArray
    rw [List.eraseIdxIfInBounds_toArray]
  · have := len_erase xs k
    omega

def rReverse : V → List V → Hp → VK → Prop := fun x vs H Q => ∃ l xs, x = .ref l ∧ vs = [] ∧ H l = some (.lst xs) ∧ Q .non (upd H l (.lst xs.reverse))
theorem mt_reverse : MtM X "list.reverse" rReverse := by
  intro pins s σ H x vs v us Q I rx rv h
  obtain ⟨l, xs, rfl, rfl, hH, q⟩ := h
  cases rx
  have hus := rv.zero
  subst hus
  obtain ⟨z, its, n, r, hl, e⟩ := I.lstM hH
  refine call_meets F.slot_list_reverse ⟨_, e, rfl⟩ F.entry_list_reverse (F.args_list_reverse_1 _) (AutoSeq1.list_reverse_list_0 l its.toArray n (by rw [List.size_toArray]; omega)) ⟨e, ?_⟩
  refine ⟨.non, _, I.lset (its' := its.reverse) hH e (by simp) r.reverse ?_, rfl, q⟩
  rw [List.length_reverse]
  omega

def rClear : V → List V → Hp → VK → Prop := fun x vs H Q => ∃ l xs, x = .ref l ∧ vs = [] ∧ H l = some (.lst xs) ∧ Q .non (upd H l (.lst []))
theorem mt_clear : MtM X "list.clear" rClear := by
  intro pins s σ H x vs v us Q I rx rv h
  obtain ⟨l, xs, rfl, rfl, hH, q⟩ := h
  cases rx
  have hus := rv.zero
  subst hus
  obtain ⟨z, its, n, r, hl, e⟩ := I.lstM hH
  refine call_meets F.slot_list_clear ⟨_, e, rfl⟩ F.entry_list_clear (F.args_list_clear_1 _) (AutoSeq1.list_clear_list_0 l its.toArray n (by rw [List.size_toArray]; omega)) ⟨e, ?_⟩
  exact ⟨.non, _, I.lset (its' := []) (ys := []) hH e rfl .nil (Nat.zero_le _), rfl, q⟩

/-! ### list + list, list += list, list * int -/
def rCat : R2 := fun x y H Q => ∃ l b xs zs, x = .ref l ∧ y = .ref b ∧ H l = some (.lst xs) ∧ H b = some (.lst zs) ∧ xs.length + zs.length ≤ sizeLine ∧ ∀ p, H p = none → Q (.ref p) (upd H p (.lst (xs ++ zs)))
theorem op_cat : OpR X (binaryOp .Add) rCat := by
  intro pins s σ H x y v u Q I rx ry h
  obtain ⟨l, b, xs, zs, rfl, rfl, hH, hB, hz, q⟩ := h
  cases rx
  cases ry
  obtain ⟨z, its, n, r, hl, e⟩ := I.lstM hH
  obtain ⟨z2, its2, n2, r2, hl2, e2⟩ := I.lstM hB
  refine PySem.P.add_list e e2 ?_ (by rw [List.size_toArray, List.size_toArray]; omega)
  have ea : its.toArray ++ its2.toArray = (its ++ its2).toArray := by simp
  rw [ea]
  exact ⟨.ref _, _, I.lnew (t' := s.toks) (r.append r2) (by rw [List.length_append]; omega), rfl, q _ I.fresh⟩
/-- a list times an int (a negative one is nothing) -/
def rRep : R2 := fun x y H Q => ∃ l k xs, x = .ref l ∧ y = .int k ∧ H l = some (.lst xs) ∧ -(2 ^ 63) ≤ k ∧ k < 2 ^ 63 ∧ xs.length * k.toNat ≤ sizeLine ∧
  ∀ p, H p = none → Q (.ref p) (upd H p (.lst (List.replicate k.toNat xs).flatten))
theorem len_rep {α : Type} (xs : List α) (k : Nat) : (List.replicate k xs).flatten.length = k * xs.length := by
  induction k with
  | zero => simp
  | succ k ih => rw [List.replicate_succ, List.flatten_cons, List.length_append, ih, Nat.succ_mul, Nat.add_comm]
theorem op_rep : OpR X (binaryOp .Mult) rRep := by
  intro pins s σ H x y v u Q I rx ry h
  obtain ⟨l, k, xs, rfl, rfl, hH, h1, h2, hz, q⟩ := h
  cases rx
  obtain ⟨t, rfl⟩ := ry
  obtain ⟨z, its, n, r, hl, e⟩ := I.lstM hH
  have hlen : its.toArray.size * k.toNat ≤ sizeLine := by rw [List.size_toArray, ← hl]; exact hz
  have hcap : ¬ its.toArray.size * k.toNat > (2 ^ 63 - 1) / 8 := by
    have : (sizeLine : Nat) ≤ (2 ^ 63 - 1) / 8 := by decide
    omega
  have hfit : ¬ (!Builtin.List.listFitsIndex k) = true := by
    rw [fitsIndex_both h1 h2]
    exact Bool.false_ne_true
  have hlong : ¬ Builtin.List.listTooLong (its.toArray.size * k.toNat) = true := by
    rw [notLongL hlen]
    exact Bool.false_ne_true
  have hnew : List.foldl (fun x1 x2 => x1 ++ x2) #[] (List.replicate (if its.toArray.isEmpty = true then 0 else k.toNat) its.toArray) = (List.replicate k.toNat its).flatten.toArray := by
    have f0 : ∀ m : Nat, List.foldl (fun x1 x2 => x1 ++ x2) #[] (List.replicate m its.toArray) = (List.replicate m its).flatten.toArray := fun m => by
      have := foldl_rep its m []
      rw [List.nil_append] at this
      exact this
    rw [f0]
    cases its with
    | nil => simp
    | cons a r' => rw [if_neg (by simp)]
  refine wpAny_binaryOp_repeat_ref (T := "list") (U := "int") (by decide) ⟨_, e, rfl⟩ (fun s' => typeIs_int s' k t) noFill_list_mul F.fills_int_mul F.slot_int_rmul repeat_list F.slot_int_index.lookup
    (call_meets F.slot_int_rmul (typeIs_int s k t) F.entry_int_rmul (F.args_int_rmul_2 _ _) (int___rmul___int_list k t l its.toArray n)
      ⟨e, rfl, ⟨_, e, rfl⟩, call_meets F.slot_list_mul ⟨_, e, rfl⟩ F.entry_list_mul (F.args_list_mul_2 _ _) (AutoListH.list___mul___list_int_3 l its.toArray n k t hfit hcap hlong) ⟨e, ?_⟩⟩)
  rw [hnew]
  exact ⟨.ref _, _, I.lnew (t' := s.toks) (r.rep k.toNat) (by rw [len_rep, Nat.mul_comm]; exact hz), rfl, q _ I.fresh⟩

/-! ### del xs[i] -/
theorem del_list {pins : List (Addr × Obj)} {s : Shared} {σ : St} {H : Hp} {l : Addr} {xs : List V} {i : Int} {t : Tok} {k : Nat} {Q : Unit → Shared → Prop} (I : Inv X pins σ H s) (hH : H l = some (.lst xs))
    (h1 : -(2 ^ 63) ≤ i) (h2 : i < 2 ^ 63) (hk : seqIndex? i xs.length = some k) (h : ∀ s', Inv X pins σ (upd H l (.lst (xs.eraseIdx k))) s' → Q () s') :
    wpAny (model X.prog X.w) X.A (delItem (.ref l) (.int i t)) Q X.xe s := by
  obtain ⟨z, its, n, r, hl, e⟩ := I.lstM hH
  refine PySem.P.delItem_list (k := k) e (fitsIndex_both h1 h2) (by rw [List.size_toArray, ← hl]; exact hk) (h _ ?_) (by rw [List.size_toArray]; omega)
  refine I.lset (its' := its.eraseIdx k) (t' := s.toks) hH e ?_ (r.eraseIdx k) ?_
  · show its.toArray.eraseIdxIfInBounds k = (its.eraseIdx k).toArray
    rw [List.eraseIdxIfInBounds_toArray]
  · have := len_erase xs k
    omega
end

/-! ### xs[a:b] = ys -/
section
variable {prog : Program} {w : World} {A : Around} {E : Value → Shared → Prop} {s : Shared}
theorem splice_eq (its its2 : List Value) (a c : Nat) : its.toArray.extract 0 a ++ its2.toArray ++ its.toArray.extract c its.toArray.size = (its.take a ++ its2 ++ its.drop c).toArray := by
  apply Array.toList_inj.mp
  first
    | (simp
       exact List.take_of_length_le (by simp))
    | simp [List.take_of_length_le]
    | simp
theorem bounds_run {a c n : Nat} (hac : a ≤ c) (hc : c ≤ n) : sliceBounds (some (a : Int)) (some (c : Int)) none n = ((a : Int), (c : Int), 1) := by
  simp only [sliceBounds, Option.getD_none]
  have h1 : ¬ ((a : Int) < 0) := by omega
  have h2 : ¬ ((c : Int) < 0) := by omega
  simp only [h1, h2, if_false, show (1 : Int) > 0 by decide, if_true]
  congr 1
  · omega
  · congr 1; omega
set_option maxRecDepth 100000 in
/-- list.__setitem__ with a slice of step one and another list -/
theorem setItem_slice {l b sl : Addr} {items new : Array Value} {n n2 : Nat} {vl vu : Value} {a c : Nat} {Q : Unit → Shared → Prop}
    (e : s.heap.get? l = some { cls := .type "list", data := .seq items n }) (e2 : s.heap.get? b = some { cls := .type "list", data := .seq new n2 }) (hne : l ≠ b)
    (hs : s.heap.IsSliceOf sl vl vu .none) (pl : IsPart vl (some (a : Int))) (pu : IsPart vu (some (c : Int))) (hac : a ≤ c) (hc : c ≤ items.size)
    (hsz : items.size + new.size ≤ sizeLine) (h : Q () { s with heap := s.heap.update l (Obj.mapSeq fun xs => xs.extract 0 a ++ new ++ xs.extract c xs.size) }) :
    wpAny (model prog w) A (setItem (.ref l) (.ref sl) (.ref b)) Q E s := by
  have hl : s.heap.IsList l items := PySem.IsL.isList e
  have hb : s.heap.IsList b new := PySem.IsL.isList e2
  obtain ⟨os, hos, hcs, hds⟩ := id hs
  have hTs : s.TypeIs (.ref sl) "slice" := ⟨os, hos, hcs⟩
  have hstep : ¬ ((rawPart none == rawInt 0) = true) := Bool.false_ne_true
  have hsame : Builtin.List.listSameRef (.ref l) (.ref b) = false := by
    unfold Builtin.List.listSameRef
    exact beq_eq_false_iff_ne.mpr hne
  have hmax : (max (a : Int) (c : Int)).toNat = c := by omega
  have hz' : ((fun xs : Array Value => xs.extract 0 a ++ new ++ xs.extract c xs.size) items).size ≤ sizeLine + 1 := by
    simp only [Array.size_append, Array.size_extract]
    omega
  unfold setItem
  try with_reducible refine wpAny_holding ?_
  first | refine wpAny_bind (wpAny_pure ?_) | skip
  refine wpAny_bind (wpAny_sequenceKey hl.typeIs (by decide) ?_)
  refine wpAny_bind (wpAny_callSpecial?_slot (name := Str.ofString "__setitem__") hl.typeIs slot_list_setitem
    (wpAny_call_entry slot_list_setitem hl.typeIs entry_list_setitem ?_ (args_list_setitem _ _ _)))
  show wpAny _ _ (Builtin.List.listSubscript? (.ref sl) >>= _) _ _ s
  refine wpAny_bind ?_
  unfold Builtin.List.listSubscript?
  refine wpAny_bind (wpAny_specialOf hTs slice_no_index ?_)
  simp only [Option.isNone_none, if_true]
  refine wpAny_pure ?_
  show wpAny _ _ (typeOf (.ref sl) >>= _) _ _ s
  refine wpAny_bind (wpAny_typeOf hTs ?_)
  first
    | rw [if_neg (by decide)]
    | refine PySem.W.KFB.if_not (by decide) ?_
  rw [listSliceParts_eq]
  refine wpAny_bind (wpAny_bind (wpAny_field hos hds (x := .none) rfl (wpAny_bind (wpAny_listPart .none ?_))))
  rw [if_neg hstep]
  refine wpAny_bind (wpAny_field hos hds (x := vl) rfl (wpAny_bind (wpAny_listPart pl ?_)))
  refine wpAny_bind (wpAny_field hos hds (x := vu) rfl (wpAny_bind (wpAny_listPart pu (wpAny_pure ?_))))
  first
    | simp only [hsame, Bool.false_eq_true, if_false]
    | refine PySem.W.KFB.if_not hsame ?_
    | (dsimp only
       rw [if_neg (by rw [hsame]; exact Bool.false_ne_true)])
  refine wpAny_bind (m := Builtin.List.listAllItems (.ref b) "must assign iterable to extended slice") ?_
  unfold Builtin.List.listAllItems
  refine wpAny_bind (wpAny_typeOf hb.typeIs ?_)
  first
    | refine PySem.W.KFB.if_so (by decide) ?_
    | rw [if_pos (by decide)]
    | simp only [beq_self_eq_true, Bool.true_or, if_true]
  unfold Builtin.List.listItems
  refine wpAny_bind (wpAny_seqItems e2 rfl (wpAny_pure ?_))
  refine wpAny_bind (wpAny_bind (wpAny_seqItems e rfl (wpAny_pure ?_)))
  refine wpAny_bind (wpAny_of_eq ((sliceIndices_raw (some (a : Int)) (some (c : Int)) none items.size (by simp)).trans (congrArg (pure : Int × Int × Int → Sem (Int × Int × Int)) (bounds_run hac hc))) ?_)
  show wpAny _ _ (if ((1 : Int) == 1) = true then _ else _) _ _ s
  rw [if_pos (by decide)]
  refine wpAny_bind (wpAny_rule ?_)
  first
    | simp only [notLongL hsz, Bool.false_eq_true, if_false]
    | refine PySem.W.KFB.if_not (notLongL hsz) ?_
  first | refine wpAny_bind (wpAny_pure ?_) | skip
  show wpAny _ _ (updateSeq l (fun xs => xs.extract 0 ((a : Int)).toNat ++ new ++ xs.extract (max (a : Int) (c : Int)).toNat xs.size) >>= _) _ _ s
  rw [hmax, Int.toNat_natCast]
  refine wpAny_bind (wpAny_updateSeq (hz := Nat.le_trans (Nat.le_add_right _ _) hsz) (_hz' := hz') e rfl ?_)
  refine wpAny_bind (wpAny_letGo ?_)
  first
    | exact wpAny_bind (wpAny_pure (wpAny_pure ⟨.none, rfl, wpAny_pure h⟩))
    | exact wpAny_pure ⟨.none, rfl, wpAny_pure h⟩
end

section
variable {X : Cx}
/-- xs[a:c] = ys of another list, at the value level: sl is the slice object that was just made -/
theorem set_slice {pins : List (Addr × Obj)} {s : Shared} {σ : St} {H : Hp} {l b sl : Addr} {xs ys : List V} {a c : Int} {vl vu : Value} {Q : Unit → Shared → Prop} (I : Inv X pins σ H s)
    (hH : H l = some (.lst xs)) (hB : H b = some (.lst ys)) (hne : l ≠ b) (hs : s.heap.IsSliceOf sl vl vu .none) (ra : RelV (.int a) vl) (rc : RelV (.int c) vu) (h0 : 0 ≤ a) (hac : a ≤ c) (hc : c ≤ xs.length)
    (hz : xs.length + ys.length ≤ sizeLine) (h : ∀ s', Inv X pins σ (upd H l (.lst (xs.take a.toNat ++ ys ++ xs.drop c.toNat))) s' → Q () s') :
    wpAny (model X.prog X.w) X.A (setItem (.ref l) (.ref sl) (.ref b)) Q X.xe s := by
  obtain ⟨ta, rfl⟩ := ra
  obtain ⟨tc, rfl⟩ := rc
  obtain ⟨z, its, n, r, hl, e⟩ := I.lstM hH
  obtain ⟨z2, its2, n2, r2, hl2, e2⟩ := I.lstM hB
  obtain ⟨a', rfl⟩ := Int.eq_ofNat_of_zero_le h0
  obtain ⟨c', rfl⟩ := Int.eq_ofNat_of_zero_le (Int.le_trans h0 hac)
  simp only [Int.toNat_natCast] at h
  refine setItem_slice (a := a') (c := c') e e2 hne hs (.int _ _) (.int _ _) (by omega) (by rw [List.size_toArray]; omega) (by rw [List.size_toArray, List.size_toArray]; omega) (h _ ?_)
  refine I.lset (its' := its.take a' ++ its2 ++ its.drop c') (t' := s.toks) hH e ?_ (Vals.append (Vals.append (r.take _) r2) (r.drop _)) ?_
  · exact splice_eq its its2 a' c'
  · rw [List.length_append, List.length_append, List.length_take, List.length_drop]
    omega
end
end L2

namespace Att
open PySem PySem.W PySem.Calls PyProof.Rows

/-! ### the script -/
theorem ints_of_wellAll {P : Params} {h : Heap} : ∀ (ns : List Int) (vs : List Value), WellAll P h vs (ns.map WData.int) → IntsAre vs ns := by
  intro ns
  induction ns with
  | nil =>
    intro vs w
    rw [List.map_nil] at w
    cases w
    exact .nil
  | cons n ns ih =>
    intro vs w
    rw [List.map_cons] at w
    cases w with
    | cons a b =>
      cases a
      exact .cons _ _ (ih _ b)

theorem script_of {l : OpenLaw} {n : Nat} (hn : l.most = some n) {P : Params} {h : Heap} {args : List WData} {vals : List Value}
    (hpre : l.row.toRowW.claim.pre args = true) (hwl : WellAll P h vals args) :
    ∃ a vs ns, vals = [Value.ref a] ∧ args = [WData.list (ns.map WData.int)] ∧ h.get? a = some { cls := .type "list", data := .seq vs.toArray } ∧ IntsAre vs ns ∧ ns.length ≤ n := by
  have hsh : WShape.hasAll [] args [.list .int] = true := (pre_splitW hpre).1
  have hc : l.pre.holds [] { args := args } = true := (pre_splitW hpre).2
  obtain ⟨d, r, rfl, h1, h2⟩ := hasAllW_cons hsh
  obtain rfl := hasAllW_nil h2
  obtain ⟨xs, rfl, h3⟩ := hasW_list h1
  obtain ⟨ns, rfl⟩ := items_int h3
  have hlen : ns.length ≤ n := by
    unfold OpenLaw.pre at hc
    have h4 : (WTm.not (.lt (.lit (.int (n : Int))) (.len (.arg 0)))).holds [] { args := [.list (ns.map .int)] } = true := by
      have h4 := (holds_andW hc).1
      rw [hn] at h4
      exact h4
    have h5 := condW_of h4 (w_not (w_lt w_lit (w_len_list (w_arg rfl))))
    rw [List.length_map] at h5
    refine Nat.le_of_not_lt fun q => ?_
    have q' : (n : Int) < ((ns.length : Nat) : Int) := by omega
    first
      | (rw [decide_eq_true q'] at h5; exact absurd h5 (by decide))
      | (simp at h5; omega)
  cases hwl with
  | cons w1 w2 =>
    cases w2
    cases w1 with
    | list ho hall => exact ⟨_, _, ns, rfl, rfl, ho, ints_of_wellAll ns _ hall, hlen⟩

theorem post_true (l : OpenLaw) (args : List WData) : l.row.toRowW.claim.post args (.bool true) args = true :=
  postW_of (r := l.row.toRowW) (X := (true == true))
    (show WShape.has [] (.bool true) .bool = true by first | rfl | decide | simp [WShape.has, WShape.arms, WShape.armsAll])
    (show (WTm.eq .res (.lit (.bool true))).value [] { args := args, res := some (.bool true), after := args } = some (.bool (true == true)) from w_eq_bool (w_res rfl) w_lit) rfl

/-! ### the attachment: holds_open's last premise (the goal 'hc' behind k_head) from a wpAny of the law's body -/
theorem attach {l : OpenLaw} {n : Nat} {q : Program} {loose : List Str} {XP : (Str → Option Value) → Heap → Prop} {YP : World → Heap → Prop} {d : DefRec} {x : Str}
    (hn : l.most = some n) (hdf : d.params.defaults = [])
    (hbind : ∀ pm cd doc v : Value, bindArgs (docDef d.name d.params d.body d.scope pm cd doc) ⟨[v], []⟩ = pure [(x, v)])
    (hx : d.scope.names.lookup x = some .local ∨ d.scope.names.lookup x = some .cell)
    (hk : d.scope.kind = .function) (hco : d.scope.isCoroutine = false) (hgen : d.scope.isGenerator = false)
    (body : ∀ (w : World) (s₀ s₁ s : Shared) (mg mb : Str → Option Value) (fa : Addr) (o : Obj) (pm cd doc : Value) (a : Addr) (vs : List Value) (ns : List Int),
      Ground q loose [] XP w s₀ mg mb s₁.heap → YP w s₁.heap →
      s₁.heap.get? fa = some o → o.data = .func (docDef d.name d.params d.body d.scope pm cd doc) → s₁.heap.CodeRec cd d.name → mg d.name = some (.ref fa) →
      s₁.heap.get? a = some { cls := .type "list", data := .seq vs.toArray } → IntsAre vs ns → ns.length ≤ n →
      s.gens = #[] → s.os = s₁.os →
      Fr s₁.heap s₁.heap.objs.size s.heap (bindL (envOfC d.name d.scope s₁.heap.objs.size fa cd).kindOf [(x, .ref a)] fun _ => none) →
      Cl s₁.heap.objs.size (cellsFrom (s₁.heap.objs.size + 1) d.scope.names []) s.heap (bindC (envOfC d.name d.scope s₁.heap.objs.size fa cd).kindOf [(x, .ref a)] fun _ => none) →
      wpAny (model l.prog w) (callerA.deeper (envOfC d.name d.scope s₁.heap.objs.size fa cd)) (execs d.body (envOfC d.name d.scope s₁.heap.objs.size fa cd))
        (fun f s' => f = .ret (.bool true) ∧ OldK s₁.heap s'.heap ∧ s'.os = s₁.os ∧ AllBare s'.gens) (fun _ _ => False) s) :
    WalkO q loose XP YP l.row.toRowW d [] (fun f vs => PySem.call f vs) := by
  intro w s₀ s₁ mg mb G Y fa o pm cd doc dV kV ho hd hcd hD hmg hg args vals as hpre hlay hrd hwl hlo
  obtain rfl : dV = .none := Dflts.none hD hdf
  obtain rfl : kV = .none := Dflts.noKw hD
  obtain ⟨a, vs, ns, rfl, rfl, hobj, hints, hlen⟩ := script_of hn hpre hwl
  refine enter_call ?_
  refine call_cells_ret (o := o) (by rw [depth_caller]; decide) ho (fd_plain hd) G.T.nolimit hcd (hbind pm cd doc (.ref a)) (fun y hy => ?_) (fun h₁ tk F X => ?_) hco hgen hk
  · obtain rfl : y = (x, Value.ref a) := List.mem_singleton.mp hy
    rcases hx with e | e
    · exact .inl e
    · exact .inr ⟨e, cellsFrom_some _ _ _ (.inl e)⟩
  · refine wpAny_mono (body w s₀ s₁ { s₁ with heap := h₁, toks := tk } mg mb fa o pm cd doc a vs ns G Y ho (fd_plain hd) hcd hmg hobj hints hlen hg rfl F X) (fun f s' hq => ?_) (fun _ _ hq => hq)
    obtain ⟨rfl, h2, h3, h4⟩ := hq
    exact ⟨.inl ⟨.bool true, .bool true, [], rfl, fun _ => rfl, .bool true, post_true l _, fun _ => ⟨List.Pairwise.nil, fun _ hm => (nomatch hm)⟩⟩, h2, h3, h4⟩

/-- the same from a codeAny of the CALL (for a layer whose function contracts speak of calls) -/
theorem attach_call {l : OpenLaw} {n : Nat} {q : Program} {loose : List Str} {XP : (Str → Option Value) → Heap → Prop} {YP : World → Heap → Prop} {d : DefRec}
    (hn : l.most = some n) (hdf : d.params.defaults = [])
    (call : ∀ (w : World) (s₀ s₁ : Shared) (mg mb : Str → Option Value) (fa : Addr) (o : Obj) (pm cd doc : Value) (a : Addr) (vs : List Value) (ns : List Int),
      Ground q loose [] XP w s₀ mg mb s₁.heap → YP w s₁.heap →
      s₁.heap.get? fa = some o → o.data = .func (docDef d.name d.params d.body d.scope pm cd doc) → s₁.heap.CodeRec cd d.name → mg d.name = some (.ref fa) →
      s₁.heap.get? a = some { cls := .type "list", data := .seq vs.toArray } → IntsAre vs ns → ns.length ≤ n → s₁.gens = #[] →
      codeAny (model l.prog w) callerA (.call (.ref fa) ⟨[.ref a], []⟩) (fun r s' => r = .ok (.ret (.bool true)) ∧ OldK s₁.heap s'.heap ∧ s'.os = s₁.os ∧ AllBare s'.gens) s₁) :
    WalkO q loose XP YP l.row.toRowW d [] (fun f vs => PySem.call f vs) := by
  intro w s₀ s₁ mg mb G Y fa o pm cd doc dV kV ho hd hcd hD hmg hg args vals as hpre hlay hrd hwl hlo
  obtain rfl : dV = .none := Dflts.none hD hdf
  obtain rfl : kV = .none := Dflts.noKw hD
  obtain ⟨a, vs, ns, rfl, rfl, hobj, hints, hlen⟩ := script_of hn hpre hwl
  refine enter_call (codeAny_mono (call w s₀ s₁ mg mb fa o pm cd doc a vs ns G Y ho (fd_plain hd) hcd hmg hobj hints hlen hg) fun r s' hq => ?_)
  obtain ⟨rfl, h2, h3, h4⟩ := hq
  exact ⟨.inl ⟨.bool true, .bool true, [], rfl, fun _ => rfl, .bool true, post_true l _, fun _ => ⟨List.Pairwise.nil, fun _ hm => (nomatch hm)⟩⟩, h2, h3, h4⟩

/-- the same where the top left finished generators (o_head chose holds_openN): nothing may have changed at all and no generator may be left -/
theorem attachN {l : OpenLaw} {n : Nat} {q : Program} {loose : List Str} {XP : (Str → Option Value) → Heap → Prop} {YP : World → Heap → Prop} {d : DefRec} {x : Str}
    (hn : l.most = some n) (hdf : d.params.defaults = [])
    (hbind : ∀ pm cd doc v : Value, bindArgs (docDef d.name d.params d.body d.scope pm cd doc) ⟨[v], []⟩ = pure [(x, v)])
    (hx : d.scope.names.lookup x = some .local ∨ d.scope.names.lookup x = some .cell)
    (hk : d.scope.kind = .function) (hco : d.scope.isCoroutine = false) (hgen : d.scope.isGenerator = false)
    (body : ∀ (w : World) (s₀ s₁ s : Shared) (mg mb : Str → Option Value) (fa : Addr) (o : Obj) (pm cd doc : Value) (a : Addr) (vs : List Value) (ns : List Int),
      Ground q loose [] XP w s₀ mg mb s₁.heap → YP w s₁.heap →
      s₁.heap.get? fa = some o → o.data = .func (docDef d.name d.params d.body d.scope pm cd doc) → s₁.heap.CodeRec cd d.name → mg d.name = some (.ref fa) →
      s₁.heap.get? a = some { cls := .type "list", data := .seq vs.toArray } → IntsAre vs ns → ns.length ≤ n →
      s.gens = #[] → s.os = s₁.os →
      Fr s₁.heap s₁.heap.objs.size s.heap (bindL (envOfC d.name d.scope s₁.heap.objs.size fa cd).kindOf [(x, .ref a)] fun _ => none) →
      Cl s₁.heap.objs.size (cellsFrom (s₁.heap.objs.size + 1) d.scope.names []) s.heap (bindC (envOfC d.name d.scope s₁.heap.objs.size fa cd).kindOf [(x, .ref a)] fun _ => none) →
      wpAny (model l.prog w) (callerA.deeper (envOfC d.name d.scope s₁.heap.objs.size fa cd)) (execs d.body (envOfC d.name d.scope s₁.heap.objs.size fa cd))
        (fun f s' => f = .ret (.bool true) ∧ (∀ b o, s₁.heap.get? b = some o → s'.heap.get? b = some o) ∧ s'.os = s₁.os ∧ s'.gens = #[]) (fun _ _ => False) s) :
    WalkN q loose XP YP l.row.toRowW d [] (fun f vs => PySem.call f vs) := by
  intro w s₀ s₁ mg mb G Y fa o pm cd doc dV kV ho hd hcd hD hmg hg args vals as hpre hlay hrd hwl hlo
  obtain rfl : dV = .none := Dflts.none hD hdf
  obtain rfl : kV = .none := Dflts.noKw hD
  obtain ⟨a, vs, ns, rfl, rfl, hobj, hints, hlen⟩ := script_of hn hpre hwl
  refine enter_callW ?_
  refine call_cells_ret (o := o) (by rw [depth_caller]; decide) ho (fd_plain hd) G.T.nolimit hcd (hbind pm cd doc (.ref a)) (fun y hy => ?_) (fun h₁ tk F X => ?_) hco hgen hk
  · obtain rfl : y = (x, Value.ref a) := List.mem_singleton.mp hy
    rcases hx with e | e
    · exact .inl e
    · exact .inr ⟨e, cellsFrom_some _ _ _ (.inl e)⟩
  · refine wpAny_mono (body w s₀ s₁ { s₁ with heap := h₁, toks := tk } mg mb fa o pm cd doc a vs ns G Y ho (fd_plain hd) hcd hmg hobj hints hlen hg rfl F X) (fun f s' hq => ?_) (fun _ _ hq => hq)
    obtain ⟨rfl, h2, h3, h4⟩ := hq
    exact ⟨.inl ⟨.bool true, .bool true, [], rfl, fun _ => rfl, .bool true, post_true l _, fun _ => ⟨List.Pairwise.nil, fun _ hm => (nomatch hm)⟩⟩, h2, h3, h4⟩

/-! ### rules over ANY heap (no ledger) from facts about the written part K: the library's own take a ledger (News) for what they write -/
section
variable {prog : Program} {w : World} {A : Around} {E : Value → Shared → Prop} {s : Shared} {K : Frag}

/-- a def of the module, or a method (qual 'C.m'), entered: the frame is the next address; cells behind it -/
theorem call_fn {R : Result → Shared → Prop} {name qual : Str} {params : Arguments} {body : List Stmt} {scope : Scope} {dV kV doc pm cdv ct oc : Value} {an od : Option Addr} {osl : Array (Option Value)} {f : Addr} {args : Args} {binds : List (Str × Value)}
    (X : K.In s.heap) (hlim : s.heap.NoLimit) (ho : K.lookup f = some ⟨oc, od, .func (fnOf name qual params body scope dV kV doc pm an cdv ct), osl⟩) (hcd : codeIn K cdv qual = true) (hroom : A.depth < recursionLimit)
    (hbind : BindsTo s (fnOf name qual params body scope dV kV doc pm an cdv ct) args binds)
    (hkind : (binds.all fun y => scope.names.lookup y.1 == some .local || scope.names.lookup y.1 == some .cell) = true)
    (h : ∀ s₁, InCallC s s.heap.objs.size (bindL (envOfC qual scope s.heap.objs.size f cdv).kindOf binds fun _ => none) (cellsFrom (s.heap.objs.size + 1) scope.names [])
        (bindC (envOfC qual scope s.heap.objs.size f cdv).kindOf binds fun _ => none) s₁ →
      wpAny (model prog w) (A.deeper (envOfC qual scope s.heap.objs.size f cdv)) (execs body (envOfC qual scope s.heap.objs.size f cdv))
        (fun fl s' => R (.ok (.ret (match fl with | .ret v => v | _ => .none))) s')
        (fun e s' => wpAny (model prog w) (A.deeper (envOfC qual scope s.heap.objs.size f cdv)) (leaving (envOfC qual scope s.heap.objs.size f cdv) e) (fun _ s'' => R (.error e) s'') (fun e' s'' => R (.error e') s'') s') s₁)
    (hco : scope.isCoroutine = false) (hgen : scope.isGenerator = false) (hk : scope.kind = .function) : codeAny (model prog w) A (.call (.ref f) args) R s := by
  refine codeAny_call_function hroom (X _ _ ho) rfl hco hgen rfl (codeRec_of X hcd) (hbind _ _ _ _ ?_)
  refine wpAny_newFunctionEnv_cells hk (kindsX hkind _) fun env he s₁ x => ?_
  subst he
  exact ⟨hlim.keeps x.toInCall.keep, codeAny_func (h s₁ x)⟩

/-- C(..): dict at size, instance at size + 1, then __init__ -/
theorem make_obj {R : Result → Shared → Prop} {C fI : Addr} {rest : List Value} {kw : List (Str × Value)}
    (X : K.In s.heap) (hm : makesIn K C = true) (hi : findIn K (.ref C) "__init__" = some (some (.ref fI))) (hf : isFn K (.ref fI) = true)
    (h : codeAny (model prog w) (A.under (.builtin "type.__call__" ⟨.ref C :: rest, kw⟩)) (.call (.ref fI) ⟨.ref (s.heap.objs.size + 1) :: rest, kw⟩) (InitBack (s.heap.objs.size + 1) R)
      { s with heap := (s.heap.push emptyDict).push (instObj C s.heap.objs.size) }) : codeAny (model prog w) A (.call (.ref C) ⟨rest, kw⟩) R s := by
  obtain ⟨hh, g, d, t, os⟩ := s
  exact make_core (makes_of X hm) (looks_findIn X hi) (fun self => bind_fn X self (beq_iff_eq.mp hf)) (.inl rfl) h

/-- x.name where the instance's dict holds the name and the class does not -/
theorem get_field {x C : Addr} {ox : Obj} {es : List DictEntry} {n : Nat} {name : Str} {expr : Bool} {v : Value} {Q : Value → Shared → Prop}
    (X : K.In s.heap) (I : PySem.W.InstAt s.heap x ox C (some (dictOf es n))) (hg : plainGet K C name = true) (hh : hasDictIn K C = true) (ha : findIn K (.ref C) name = some none)
    (hl : getL name es = some (some v)) (hv : handedIn v = true) (h : Q v { s with toks := s.toks + 1 }) : wpAny (model prog w) A (getAttr (.ref x) name expr) Q E s :=
  get_value X I (plainGet_of hg).1 (findObj_own hh ha rfl hl) hv h

/-- x.m(..): the method found in the class -/
theorem get_method {x C f : Addr} {ox : Obj} {es : List DictEntry} {n : Nat} {name : Str} {pl : Sem Bool} {Q : Value × List Value → Shared → Prop}
    (X : K.In s.heap) (I : PySem.W.InstAt s.heap x ox C (some (dictOf es n))) (hg : plainGet K C name = true) (hf : findIn K (.ref C) name = some (some (.ref f))) (ht : isFn K (.ref f) = true)
    (hl : getL name es = some none) (h : Q (.ref f, [.ref x]) s) : wpAny (model prog w) A (getMethod (.ref x) name pl) Q E s :=
  method_fn X I (plainGet_of hg).1 (plainGet_of hg).2 hf (beq_iff_eq.mp ht) (by show (lookIn name (dictOf es n)).map _ = _; rw [lookIn_dict, hl]; rfl) h

/-! the whole heap as the ledger: makes every rule that writes through a ledger a rule over any heap -/
def noObjs (h : Heap) : Heap := { h with objs := #[] }
theorem noObjs_get (h : Heap) (b : Addr) : (noObjs h).get? b = none := by
  cases e : (noObjs h).get? b with
  | none => rfl
  | some o => exact absurd (Heap.lt_size e) (Nat.not_lt_zero _)
def ledger (h : Heap) (L d : Addr) : List (Addr × Obj) := (List.range h.objs.size).filterMap fun a => if a = L ∨ a = d then none else (h.get? a).map fun o => (a, o)
theorem mem_ledger {h : Heap} {L d a : Addr} {o : Obj} : (a, o) ∈ ledger h L d ↔ a ≠ L ∧ a ≠ d ∧ h.get? a = some o := by
  unfold ledger
  rw [List.mem_filterMap]
  constructor
  · rintro ⟨b, _, e⟩
    split at e
    · cases e
    · rename_i hb
      obtain ⟨o', ho, e'⟩ := Option.map_eq_some_iff.mp e
      cases e'
      exact ⟨fun q => hb (.inl q), fun q => hb (.inr q), ho⟩
  · rintro ⟨n1, n2, ho⟩
    refine ⟨a, List.mem_range.mpr (Heap.lt_size ho), ?_⟩
    rw [if_neg (show ¬ (a = L ∨ a = d) from fun q => q.elim n1 n2), ho] <;> rfl
theorem news_ledger {h : Heap} {L d : Addr} {od : Obj} (hne : d ≠ L) (ho : h.get? d = some od) : News (noObjs h) L h ([] ++ (d, od) :: ledger h L d) := by
  rintro ⟨a, o⟩ hp
  rcases List.mem_cons.mp hp with e | hp
  · cases e
    exact ⟨ho, hne, noObjs_get _ _⟩
  · obtain ⟨n1, n2, e⟩ := mem_ledger.mp hp
    exact ⟨e, n1, noObjs_get _ _⟩
theorem fr_all {h : Heap} {L : Addr} {m : Str → Option Value} (n : h.Ns L m) : Fr (noObjs h) L h m :=
  ⟨n, fun b o e => (by rw [noObjs_get] at e; cases e), Nat.zero_le _⟩
/-- Upd of the head entry (for append_K, setItem_K ..) -/
theorem upd_ledger {h : Heap} {L d : Addr} {o o' : Obj} : Upd d o o' ((d, o) :: ledger h L d) ((d, o') :: ledger h L d) :=
  .head fun ⟨_, _⟩ hp => (mem_ledger.mp hp).2.1

/-- x.name = v over any heap: L is any namespace of the heap (the frame's, say): its map stays, its object is not told; all else but the dict stays -/
theorem set_field {x C dx L : Addr} {ox : Obj} {m : Str → Option Value} {es es' : List DictEntry} {n n' : Nat} {name : Str} {v : Value} {Q : Unit → Shared → Prop}
    (X : K.In s.heap) (I : PySem.W.InstAt s.heap x ox C (some (dictOf es n))) (hd : ox.dict = some dx) (hL : s.heap.Ns L m) (hne : dx ≠ L)
    (hs : findIn K (.ref C) "__setattr__" = some (some (.builtin "object.__setattr__"))) (hp : plainOver K C = true) (ht : takerIn K C name = some none) (hh : hasDictIn K C = true) (hl : (getL name es).isSome = true)
    (e : (putL name (PyData.keyHash w.params name) (.str name (s.toks + 1)) v es, putN name es n) = (es', n')) (hz : es'.length ≤ 1000)
    (h : ∀ h' : Heap, h'.Ns L m → h'.get? dx = some (dictOf es' n') → (∀ b o, b ≠ dx → b ≠ L → s.heap.get? b = some o → h'.get? b = some o) → Q () { s with heap := h', toks := s.toks + 2 }) :
    wpAny (model prog w) A (setAttr (.ref x) name v) Q E s := by
  obtain ⟨e1, e2⟩ := Prod.mk.inj e
  have hdx : s.heap.get? dx = some (dictOf es n) := by
    have := I.dict
    rw [hd] at this
    exact this
  refine set_plain X I hs (osa_dict (s := { s with toks := s.toks + 1 }) (h₀ := noObjs s.heap) (L := L) (m := m) (od := dictOf es n) (od' := dictOf es' n') (es := es') (n := n') (pre := []) (post := ledger s.heap L dx)
    (fr_all hL) (news_ledger hne hdx) X I hd hp ht hh hl (fun _ q => nomatch q) (fun ⟨_, _⟩ q => (mem_ledger.mp q).2.1) (by rw [putName_dict, e1, e2]) rfl hz fun h' F' N' => ?_)
  exact h h' F'.ns (N'.get (List.Mem.head _)) fun b o n1 n2 ho => N'.get (List.Mem.tail _ (mem_ledger.mpr ⟨n2, n1, ho⟩))
end
end Att

namespace L2
open PySem PySem.Spec PyProof.Rows

theorem vals_ints : ∀ {vs : List Value} {ns : List Int}, IntsAre vs ns → Vals (ns.map V.int) vs
  | _, _, .nil => .nil
  | _, _, .cons n t h => .cons ⟨t, rfl⟩ (vals_ints h)

/-- nothing is tracked but the script, known to the object (or it is an object of the module) -/
def Only (H : Hp) : Prop := ∀ b, H b = none ∨ ∃ o xs, H b = some (.frz o (.lst xs))

/-- THE HEAD: the law's promise, at the heap behind the top. F, the promise of the law's def, may use that base is part of the heap (so K.In base, base.Ns mainGlobals mg stand in Mod) -/
theorem law_call {P : Program} {w : World} {K : PySem.W.Frag} {mg mb : Str → Option Value} {CX : CXT} {k : Nat} {fa a : Addr} {fd : FuncData} {x : Str} {sp : Sp} {s₁ : Shared} {vs : List Value} {ns : List Int}
    (KX : K.In s₁.heap) (hns : s₁.heap.Ns mainGlobals mg) (hb : s₁.heap.Ns builtinsNs mb) (hbb : ∀ x : Str, x ≠ "__name__" → mb x = bootBuiltins x) (hlim : s₁.heap.NoLimit) (hg : s₁.gens = #[])
    (ha : s₁.heap.get? a = some { cls := .type "list", data := .seq vs.toArray }) (hi : IntsAre vs ns) (hl : ns.length ≤ sizeLine) (hr : Room k callerA)
    (F : ∀ base : Heap, K.In base → base.Ns mainGlobals mg → FnOk P w K mg base CX k fa fd [x] sp) (hbind : ∀ (s : Shared) (u : Value), BindsTo s fd ⟨[u], []⟩ [(x, u)])
    (hsp : ∀ H : Hp, Only H → SqL K H a (ns.map V.int) → sp [.ref a] H (fun v _ => v = .bl true) fun _ _ _ => False)
    (hCX : ∀ H e s', CX [] H s₁ (fun _ _ _ => False) e s' → False) :
    codeAny (model P w) callerA (.call (.ref fa) ⟨[.ref a], []⟩) (fun r s' => r = .ok (.ret (.bool true)) ∧ OldK s₁.heap s'.heap ∧ s'.os = s₁.os ∧ AllBare s'.gens) s₁ := by
  have rv := vals_ints hi
  have lenV := hi.length
  -- from an abstract heap in which nothing but the script may be tracked
  have core : ∀ H : Hp, Only H → SqL K H a (ns.map V.int) → HOk P w H s₁.heap → (∀ b, H b ≠ none → b = a) → (H a ≠ none → K.lookup a = none) →
      codeAny (model P w) callerA (.call (.ref fa) ⟨[.ref a], []⟩) (fun r s' => r = .ok (.ret (.bool true)) ∧ OldK s₁.heap s'.heap ∧ s'.os = s₁.os ∧ AllBare s'.gens) s₁ := by
    intro H hO hS hok hA hK
    have base_of : ∀ {b : Addr} {o : Obj}, s₁.heap.get? b = some o → H b = none → (hidT s₁.heap H).get? b = some o := fun e n => hidT_get e n
    have noA : ∀ {b : Addr} {o : Obj} {es : Array DictEntry} {ep : Nat}, s₁.heap.get? b = some o → o.data = .dict es ep → H b = none := fun {b o es ep} e d => by
      cases q : H b with
      | none => rfl
      | some u =>
        have e' : b = a := hA b (by rw [q]; simp)
        subst e'
        rw [ha] at e; cases e
        have d' : Data.seq vs.toArray _ = Data.dict es ep := d
        cases d'
    have nsK : ∀ {b : Addr} {m : Str → Option Value}, s₁.heap.Ns b m → (hidT s₁.heap H).Ns b m := fun {b m} ⟨o, es, ep, e, d, r⟩ => ⟨o, es, ep, base_of e (noA e d), d, r⟩
    have hKb : K.In (hidT s₁.heap H) := fun b o e => base_of (KX b o e) (by
      cases q : H b with
      | none => rfl
      | some u =>
        have e' : b = a := hA b (by rw [q]; simp)
        subst e'
        rw [hK (by rw [q]; simp)] at e; cases e)
    have hM : Mod K mg (hidT s₁.heap H) := ⟨hKb, nsK hns, ⟨mb, nsK hb, hbb⟩, let ⟨mc, h1, h2⟩ := hlim; ⟨mc, nsK h1, h2⟩⟩
    have e0 : Env0 P w K mg (hidT s₁.heap H) callerA [] s₁ H := ⟨rfl, hM, fun b o e => of_hidT e, Nat.le_of_eq (hidT_size _ _), trivial, fun b hb => absurd (show b ∈ ([] : List Addr) from hb) (by simp), hok, .of_eq hg⟩
    refine codeAny_mono ((F _ hKb (nsK hns)).run callerA [] s₁ H ⟨[.ref a], []⟩ [.ref a] [.ref a] _ _ hr e0 (hbind s₁ (.ref a)) (.cons rfl .nil) (hsp H hO hS)) fun r s' h => ?_
    cases r with
    | error e => exact (hCX H e s' h).elim
    | ok fl =>
      cases fl with
      | next => exact False.elim h
      | brk => exact False.elim h
      | cont => exact False.elim h
      | ret u =>
        obtain ⟨v, H', os, bare, un, hok', r', q⟩ := h
        have q' : v = .bl true := q
        subst q'
        obtain rfl : u = Value.bool true := r'
        refine ⟨rfl, OldK.of_keep fun b o e => ?_, os, bare⟩
        cases q : H b with
        | none => exact un.keep b o e q (by intro z; exact absurd (show b ∈ ([] : List Addr) from z) (by simp)) (by simp)
        | some u =>
          rcases hO b with z | ⟨ob, xs, z⟩
          · rw [q] at z; cases z
          · have z2 := un.frzs b ob _ z
            obtain ⟨e1, _⟩ := hok b _ z
            obtain ⟨e2, _⟩ := hok' b _ z2
            rw [e] at e1; cases e1
            exact e2
  cases hk : K.lookup a with
  | some o =>
    -- the script is one of the module's own objects
    have e := KX a o hk
    rw [ha] at e
    cases e
    refine core (fun _ => none) (fun _ => .inl rfl) (.inr ⟨_, vs.toArray, _, hk, rfl, rfl, rfl, by rw [List.size_toArray, lenV]; exact hl, by simpa using rv⟩) (fun b u z => by have z' : (none : Option HO) = some u := z; cases z') (fun b z => absurd rfl z) fun z => absurd rfl z
  | none =>
    refine core (fun b => if b = a then some (.frz { cls := .type "list", data := .seq vs.toArray } (.lst (ns.map V.int))) else none) (fun b => ?_) (.inl (.inr ⟨{ cls := .type "list", data := .seq vs.toArray }, if_pos rfl⟩)) (fun b u z => ?_) (fun b z => ?_) fun _ => hk
    · by_cases hb : b = a
      · exact .inr ⟨_, _, if_pos hb⟩
      · exact .inl (if_neg hb)
    · by_cases hb : b = a
      · have z' := (if_pos hb).symm.trans z
        cases z'
        subst hb
        exact ⟨ha, by rw [List.length_map]; exact hl, vs, _, rv, ha⟩
      · have z' := (if_neg hb).symm.trans z
        cases z'
    · by_cases hb : b = a
      · exact hb
      · exact absurd (if_neg hb) z
end L2

namespace L2
open PySem PySem.Spec PyProof.Rows

abbrev KOf {K : PySem.W.Frag} {h : Heap} (_ : K.In h) : PySem.W.Frag := K

/-- the goal that k_head leaves (case hc), from the law's promise. F gives the function object fd (K's own) once, then the promise over every base -/
theorem walk_of {l : PySem.W.OpenLaw} {n k : Nat} {q : Program} {loose : List Str} {XP : (Str → Option Value) → Heap → Prop} {YP : World → Heap → Prop} {d : DefRec} {K : Params → PySem.W.Frag} {CX : World → CXT} {sp : World → Sp} {x : Str}
    (hn : l.most = some n) (hn2 : n ≤ sizeLine) (hdf : d.params.defaults = []) (hr : Room k callerA)
    (hY : ∀ (w : World) (h : Heap), YP w h → (K w.params).In h)
    (F : ∀ (w : World) (mg : Str → Option Value) (fa : Addr) (h : Heap), (K w.params).In h → h.Ns mainGlobals mg → mg d.name = some (.ref fa) →
      ∃ fd : FuncData, (∀ (s : Shared) (u : Value), BindsTo s fd ⟨[u], []⟩ [(x, u)]) ∧
        ∀ base : Heap, (K w.params).In base → base.Ns mainGlobals mg → FnOk l.prog w (K w.params) mg base (CX w) k fa fd [x] (sp w))
    (hsp : ∀ (w : World) (H : Hp) (a : Addr) (ns : List Int), ns.length ≤ n → Only H → SqL (K w.params) H a (ns.map V.int) → sp w [.ref a] H (fun v _ => v = .bl true) fun _ _ _ => False)
    (hCX : ∀ (w : World) (H : Hp) (s : Shared) (e : Value) (s' : Shared), CX w [] H s (fun _ _ _ => False) e s' → False) :
    PySem.W.WalkO q loose XP YP l.row.toRowW d [] (fun f vs => PySem.call f vs) := by
  refine Att.attach_call hn hdf fun w s₀ s₁ mg mb fa o pm cd doc a vs ns G Y ho hd hcd hmg hobj hints hlen hg => ?_
  have KX := hY w _ Y
  obtain ⟨fd, hb, hF⟩ := F w mg fa _ KX G.T.g hmg
  exact law_call KX G.T.g G.T.b G.T.builtins G.T.nolimit hg hobj hints (Nat.le_trans hlen hn2) hr hF hb (fun H hO hS => hsp w H a ns hlen hO hS) fun H e s' => hCX w H s₁ e s'
/-- the same where the promise hangs on the written part alone: (sp := My.sp_law), no hole under a binder -/
theorem walk_ofK {l : PySem.W.OpenLaw} {n k : Nat} {q : Program} {loose : List Str} {XP : (Str → Option Value) → Heap → Prop} {YP : World → Heap → Prop} {d : DefRec} {K : Params → PySem.W.Frag} {CX : CXT} {sp : PySem.W.Frag → Sp} {x : Str}
    (hn : l.most = some n) (hn2 : n ≤ sizeLine) (hdf : d.params.defaults = []) (hr : Room k callerA)
    (hY : ∀ (w : World) (h : Heap), YP w h → (K w.params).In h)
    (F : ∀ (w : World) (mg : Str → Option Value) (fa : Addr) (h : Heap), (K w.params).In h → h.Ns mainGlobals mg → mg d.name = some (.ref fa) →
      ∃ fd : FuncData, (∀ (s : Shared) (u : Value), BindsTo s fd ⟨[u], []⟩ [(x, u)]) ∧
        ∀ base : Heap, (K w.params).In base → base.Ns mainGlobals mg → FnOk l.prog w (K w.params) mg base CX k fa fd [x] (sp (K w.params)))
    (hsp : ∀ (K : PySem.W.Frag) (H : Hp) (a : Addr) (ns : List Int), ns.length ≤ n → Only H → SqL K H a (ns.map V.int) → sp K [.ref a] H (fun v _ => v = .bl true) fun _ _ _ => False)
    (hCX : ∀ (H : Hp) (s : Shared) (e : Value) (s' : Shared), CX [] H s (fun _ _ _ => False) e s' → False) :
    PySem.W.WalkO q loose XP YP l.row.toRowW d [] (fun f vs => PySem.call f vs) :=
  walk_of (K := K) (CX := fun _ => CX) (sp := fun w => sp (K w.params)) hn hn2 hdf hr hY F (fun w H a ns h1 h2 h3 => hsp (K w.params) H a ns h1 h2 h3) fun _ H s e s' => hCX H s e s'
end L2

/- THE LAST THEOREM (shape; LID, My.* are yours):
   My.Adr: a structure of the addresses that your layer names (classes, functions); My.Txt K t: a structure (Prop) of the equations over K;
   My.txt_mk : {K} {implicit addresses ..} (e1 : nsIn K mainGlobals "law" = some (some (.ref f))) (e2 : K.lookup f = some ⟨oc, od, .func (fnOf "law" "law" params body scope dV kV doc pm an cdv ct), sl⟩) (e3 : codeIn K cdv "law" = true) .. : ∃ t, My.Txt K t

set_option maxRecDepth 100000 in
set_option maxHeartbeats 0 in
theorem PySem.Challenge.cw_LID_holds : PySem.Challenge.rw_LID.Holds := by
  w_on; o_law; k_head; (case hw => w_witness2)
  k_fill
  refine L2.walk_of (l := PySem.Challenge.rw_LID) (n := 63) (k := 40) (x := "script") (CX := fun w => ..) (sp := fun _ => My.sp_law) rfl (by decide) rfl ⟨rfl, by decide, by decide⟩ (fun w h Y => PySem.W.kIn_of Y) ?F ?S ?C
  case F =>
    intro w mg fa h KX G hmg
    have T : ∃ t, My.Txt (L2.KOf KX) t := by
      dsimp only [L2.KOf]                          -- K must stand as «<heap const> w.params» for k_is
      refine' My.txt_mk ?e1 ?e2 ?e3 ..
      (case e1 => PySem.W.k_is)                    -- in the order: a name -> its address -> its object -> its parts
      (case e2 => PySem.W.k_is)
      ..
    obtain ⟨t, T⟩ := T
    have e0 := hmg.symm.trans (PySem.W.mg_of KX G T.law)
    cases e0                                       -- fa is the law's own address
    exact ⟨_, fun s u => .of_eq rfl, fun base kb nb => My.law_fn T kb nb⟩     -- if «.of_eq rfl» comes too early: refine' ⟨_, ?b, fun base kb nb => My.law_fn T kb nb⟩; exact fun s u => .of_eq rfl
  case S => exact fun w H a ns hl hO hS => ..
  case C => exact ..
(the tactic k_is has no namespace: write k_is) -/

/-! SHORT WORDS over the layer: a def of the text, its body, what a loop and a test want. -/
namespace L2
open PySem PySem.Spec PyProof.Rows

/-! ### the text by places -/
/-- the j-th statement of a class's body -/
def inClass (s : Stmt) (j : Nat) : Stmt := match s with
  | .ClassDef _ _ _ body _ _ _ _ _ _ _ => body.getD j (.Pass ⟨0, 0, 0, 0⟩)
  | _ => .Pass ⟨0, 0, 0, 0⟩
def defArgs (s : Stmt) : Arguments := match s with
  | .FunctionDef _ a _ _ _ _ _ _ _ _ => a
  | _ => { posonlyargs := [], args := [], vararg := none, kwonlyargs := [], kw_defaults := [], kwarg := none, defaults := [] }
def defBody (s : Stmt) : List Stmt := match s with
  | .FunctionDef _ _ b _ _ _ _ _ _ _ => b
  | _ => []
def defScope (s : Stmt) : Scope := match s with
  | .FunctionDef _ _ _ _ _ _ sc _ _ _ => sc
  | _ => { kind := .function, names := [], isGenerator := false, isCoroutine := false }

/-! ### no exception leaves a def -/
abbrev CX0 : CXT := fun _ _ _ _ _ _ => False
abbrev E0 : XK := fun _ _ _ => False
theorem pass0 {X : Cx} : Passes CX0 X E0 := fun _ _ _ _ _ _ _ h => h.elim

/-! ### a def (or method) of the text as it stands behind the top -/
structure Fun (K : PySem.W.Frag) (x qual : Str) (st : Stmt) (f : Addr) (fd : FuncData) : Prop where
  ex : ∃ (oc : Value) (od : Option Addr) (kV doc pm : Value) (an : Option Addr) (cdv ct : Value) (osl : Array (Option Value)),
    fd = PySem.W.fnOf x qual (defArgs st) (defBody st) (defScope st) .none kV doc pm an cdv ct ∧ K.lookup f = some ⟨oc, od, .func fd, osl⟩ ∧ PySem.W.codeIn K cdv qual = true
  kp : PySem.W.keepIn K (.ref f) = true
section
variable {P : Program} {w : World} {K : PySem.W.Frag} {mg : Str → Option Value} {base : Heap}
/-- THE RULE for a def: its body as a term of rules, and the reading of that term -/
theorem Fun.ok {x qual : Str} {st : Stmt} {f : Addr} {fd : FuncData} {N ps : List Str} {k : Nat} {sp : Sp} (F : Fun K x qual st f fd) (S : FnScope N ps (defScope st)) (len : ∀ vs H Q E, sp vs H Q E → vs.length = ps.length)
    (hbody : ∀ (cdv : Value) (A : Around) (outer : List Env) (s : Shared) (H : Hp) (vs : List V) (Q : VK) (E : XK), Room k (A.deeper (envOfC qual (defScope st) s.heap.objs.size f cdv)) → sp vs H Q E →
      ∃ t, PSs (cxOf CX0 P w K mg base N qual (defScope st) f cdv A outer s H E).nox (defBody st) t ∧ t { nx := fun _ H' => Q .non H', rt := Q } (start N vs) H) : FnOk P w K mg base CX0 (k + 1) f fd ps sp := by
  obtain ⟨oc, od, kV, doc, pm, an, cdv, ct, osl, rfl, lk, hcd⟩ := F.ex
  refine fn_of lk hcd S len fun A outer s H vs Q E hr hsp => ?_
  obtain ⟨t, h, q⟩ := hbody cdv A outer s H vs Q E hr hsp
  exact ⟨t, h.nox, q⟩
/-- how its arguments bind (no defaults): h is «fun _ _ _ _ _ _ us hl => match us, hl with | [_, _], _ => rfl», one _ a parameter -/
theorem Fun.binds {x qual : Str} {st : Stmt} {f : Addr} {fd : FuncData} {ps : List Str} (F : Fun K x qual st f fd)
    (h : ∀ (kV doc pm : Value) (an : Option Addr) (cdv ct : Value) (us : List Value), us.length = ps.length → bindArgs (PySem.W.fnOf x qual (defArgs st) (defBody st) (defScope st) .none kV doc pm an cdv ct) ⟨us, []⟩ = pure (ps.zip us)) : Binds K fd ps [] := by
  obtain ⟨oc, od, kV, doc, pm, an, cdv, ct, osl, rfl, lk, hcd⟩ := F.ex
  exact .all (h kV doc pm an cdv ct)
theorem fun_mk {x qual : Str} {st : Stmt} {f : Addr} {oc : Value} {od an : Option Addr} {osl : Array (Option Value)} {kV doc pm cdv ct : Value} (l : K.lookup f = some ⟨oc, od, .func (PySem.W.fnOf x qual (defArgs st) (defBody st) (defScope st) .none kV doc pm an cdv ct), osl⟩)
    (c : PySem.W.codeIn K cdv qual = true) (k : PySem.W.keepIn K (.ref f) = true) : Fun K x qual st f (PySem.W.fnOf x qual (defArgs st) (defBody st) (defScope st) .none kV doc pm an cdv ct) := ⟨⟨oc, od, kV, doc, pm, an, cdv, ct, osl, rfl, l, c⟩, k⟩
end
theorem hu_of {A : Around} {k : Nat} (hr : Room k A) : A.units + 1 < cLine := Nat.lt_of_le_of_lt (Nat.add_le_add_left (by decide : 1 ≤ 64) _) hr.units
theorem small1000 {n : Nat} (h : n ≤ 1000) : n < sizeLine := Nat.lt_of_le_of_lt h (by decide)

/-! ### expressions in short: the name that stands in the i-th slot -/
section
variable {X : Cx}
theorem pv (i : Nat) {x : Str} {pos : Pos} (hN : X.N[i]? = some x := by rfl) (hv : Vis X.env.scope x := by first | exact Or.inl rfl | exact Or.inr (Or.inl rfl) | exact Or.inr (Or.inr rfl)) (hd : (x == ("__debug__" : Str)) = false := by decide)
    (hcd : (x == ("__classdict__" : Str)) = false := by decide) : PE X (.Name x pos) (tVar i) := pe_var hN hv hd hcd
end

/-! ### tests -/
theorem iteF {A B : Prop} (h : B) : if false = true then A else B := by
  rw [if_neg Bool.false_ne_true]
  exact h
theorem iteT {A B : Prop} (h : A) : if true = true then A else B := by
  rw [if_pos rfl]
  exact h
theorem ite2 {c A B : Prop} [Decidable c] (h1 : c → A) (h2 : ¬ c → B) : if c then A else B := by
  by_cases h : c
  · rw [if_pos h]
    exact h1 h
  · rw [if_neg h]
    exact h2 h
theorem iteNS {c A B : Prop} [Decidable c] (hc : c) (h : B) : if (!decide c) = true then A else B := by
  rw [decide_eq_true hc]
  exact iteF h

/-! ### heaps -/
/-- all that was tracked is as it was -/
def Same (H H' : Hp) : Prop := ∀ b o, H b = some o → H' b = some o
theorem Same.refl (H : Hp) : Same H H := fun _ _ h => h
theorem Same.trans {H H1 H2 : Hp} (a : Same H H1) (b : Same H1 H2) : Same H H2 := fun c o h => b c o (a c o h)
theorem Same.free {H H' : Hp} (e : Same H H') {l : Addr} (h : H' l = Option.none) : H l = Option.none := by
  cases q : H l with
  | none => rfl
  | some o =>
    rw [e l o q] at h
    cases h
theorem Same.seq {K : PySem.W.Frag} {H H' : Hp} {a : Addr} {xs : List V} (e : Same H H') (h : SqL K H a xs) : SqL K H' a xs := by
  rcases h with (h | ⟨o, h⟩) | h
  · exact .inl (.inl (e _ _ h))
  · exact .inl (.inr ⟨o, e _ _ h⟩)
  · exact .inr h

end L2

end
section
set_option Elab.async false
set_option linter.all false
set_option maxRecDepth 100000
/-! The mirror: plain data, a store of lists and dicts, and what a text does to them as a plain function. -/
namespace Mi
open PySem PySem.Spec PyProof.Rows L2

/-- plain data; a list or a dict is named by its place in the store -/
inductive D where
  | non | bl (b : Bool) | int (i : Int) | str (x : Str) | tup (xs : List D) | rol (xs : List D) | ref (n : Nat)
/-- what stands in the store -/
inductive Ob where
  | lst (xs : List D) | dct (kvs : List (Key × D))
abbrev Sto := List Ob
abbrev Ev := List (Option D)
abbrev FE := Ev → Sto → Option (D × Sto)
abbrev FT := Ev → Sto → Option (Bool × Sto)
abbrev FA := Ev → Sto → Option (List D × Sto)
abbrev FN := List D → Sto → Option (D × Sto)
inductive Fl where
  | nx | rt (d : D) | bk | ct
abbrev FS := Ev → Sto → Option (Fl × Ev × Sto)

/-- a list that is read, never written -/
def RoL (K : PySem.W.Frag) (H : Hp) (a : Addr) (xs : List V) : Prop := (∃ o, H a = some (.frz o (.lst xs))) ∨
  ∃ (o : Obj) (its : Array Value) (n : Nat), K.lookup a = some o ∧ o.cls = .type "list" ∧ o.dict = none ∧ o.data = .seq its n ∧ its.size ≤ sizeLine ∧ Vals xs its.toList
theorem RoL.sq {K : PySem.W.Frag} {H : Hp} {a : Addr} {xs : List V} (h : RoL K H a xs) : SqL K H a xs := h.elim (fun ⟨o, q⟩ => .inl (.inr ⟨o, q⟩)) .inr
mutual
inductive Rep (K : PySem.W.Frag) (H : Hp) (mu : List Addr) : D → V → Prop
  | non : Rep K H mu .non .non
  | bl (b : Bool) : Rep K H mu (.bl b) (.bl b)
  | int (i : Int) : Rep K H mu (.int i) (.int i)
  | str (x : Str) : Rep K H mu (.str x) (.str x)
  | tup {ds : List D} {vs : List V} {a : Addr} (h : SqT K H a vs) (r : Reps K H mu ds vs) : Rep K H mu (.tup ds) (.ref a)
  | rol {ds : List D} {vs : List V} {a : Addr} (h : RoL K H a vs) (r : Reps K H mu ds vs) : Rep K H mu (.rol ds) (.ref a)
  | ref {n : Nat} {a : Addr} (h : mu[n]? = some a) : Rep K H mu (.ref n) (.ref a)
inductive Reps (K : PySem.W.Frag) (H : Hp) (mu : List Addr) : List D → List V → Prop
  | nil : Reps K H mu [] []
  | cons {d : D} {v : V} {ds : List D} {vs : List V} (r : Rep K H mu d v) (t : Reps K H mu ds vs) : Reps K H mu (d :: ds) (v :: vs)
end

structure Ext (mu mu' : List Addr) (H H' : Hp) : Prop where
  pre : mu <+: mu'
  old : ∀ a o, H a = some o → a ∉ mu → H' a = some o
  tup : ∀ a xs, Rd H a (.tup xs) → Rd H' a (.tup xs)
  frz : ∀ a o u, H a = some (.frz o u) → H' a = some (.frz o u)
  new : ∀ a ∈ mu', a ∈ mu ∨ H a = none

theorem Ext.refl (mu : List Addr) (H : Hp) : Ext mu mu H H := ⟨List.prefix_rfl, fun _ _ h _ => h, fun _ _ h => h, fun _ _ _ h => h, fun _ h => .inl h⟩
theorem Ext.trans {mu m1 m2 : List Addr} {H H1 H2 : Hp} (a : Ext mu m1 H H1) (b : Ext m1 m2 H1 H2) : Ext mu m2 H H2 where
  pre := a.pre.trans b.pre
  old := fun c o h n => b.old c o (a.old c o h n) fun z => by
    rcases a.new c z with q | q
    · exact n q
    · rw [h] at q; cases q
  tup := fun c xs h => b.tup c xs (a.tup c xs h)
  frz := fun c o u h => b.frz c o u (a.frz c o u h)
  new := fun c h => by
    rcases b.new c h with q | q
    · exact a.new c q
    · by_cases z : c ∈ mu
      · exact .inl z
      · right
        cases e : H c with
        | none => rfl
        | some o => rw [a.old c o e z] at q; cases q
theorem Ext.at {mu mu' : List Addr} {H H' : Hp} (e : Ext mu mu' H H') {n : Nat} {a : Addr} (h : mu[n]? = some a) : mu'[n]? = some a := by
  obtain ⟨t, rfl⟩ := e.pre
  have hl : n < mu.length := (List.getElem?_eq_some_iff.mp h).1
  rw [List.getElem?_append_left hl]; exact h
/-- back to the elder names -/
theorem Ext.back {mu mu' : List Addr} {H H' : Hp} (e : Ext mu mu' H H') : Ext mu mu H H' := ⟨List.prefix_rfl, e.old, e.tup, e.frz, fun _ h => .inl h⟩

/-- the weaker look: names stay, what cannot change stays -/
structure Exw (mu mu' : List Addr) (H H' : Hp) : Prop where
  pre : mu <+: mu'
  tup : ∀ a xs, Rd H a (.tup xs) → Rd H' a (.tup xs)
  frz : ∀ a o u, H a = some (.frz o u) → H' a = some (.frz o u)
theorem Ext.w {mu mu' : List Addr} {H H' : Hp} (e : Ext mu mu' H H') : Exw mu mu' H H' := ⟨e.pre, e.tup, e.frz⟩
theorem Exw.trans {mu m1 m2 : List Addr} {H H1 H2 : Hp} (a : Exw mu m1 H H1) (b : Exw m1 m2 H1 H2) : Exw mu m2 H H2 := ⟨a.pre.trans b.pre, fun c xs h => b.tup c xs (a.tup c xs h), fun c o u h => b.frz c o u (a.frz c o u h)⟩
theorem Exw.at {mu mu' : List Addr} {H H' : Hp} (e : Exw mu mu' H H') {n : Nat} {a : Addr} (h : mu[n]? = some a) : mu'[n]? = some a := by
  obtain ⟨t, rfl⟩ := e.pre
  have hl : n < mu.length := (List.getElem?_eq_some_iff.mp h).1
  rw [List.getElem?_append_left hl]; exact h
theorem SqT.exw {K : PySem.W.Frag} {mu mu' : List Addr} {H H' : Hp} {a : Addr} {vs : List V} (e : Exw mu mu' H H') (h : SqT K H a vs) : SqT K H' a vs := by
  rcases h with h | h
  · exact .inl (e.tup a vs h)
  · exact .inr h
theorem RoL.exw {K : PySem.W.Frag} {mu mu' : List Addr} {H H' : Hp} {a : Addr} {vs : List V} (e : Exw mu mu' H H') (h : RoL K H a vs) : RoL K H' a vs := by
  rcases h with ⟨o, h⟩ | h
  · exact .inl ⟨o, e.frz a o _ h⟩
  · exact .inr h
mutual
theorem Rep.exw {K : PySem.W.Frag} {mu mu' : List Addr} {H H' : Hp} (e : Exw mu mu' H H') : ∀ {d : D} {v : V}, Rep K H mu d v → Rep K H' mu' d v
  | _, _, .non => .non
  | _, _, .bl b => .bl b
  | _, _, .int i => .int i
  | _, _, .str x => .str x
  | _, _, .tup h r => .tup (SqT.exw e h) (Reps.exw e r)
  | _, _, .rol h r => .rol (RoL.exw e h) (Reps.exw e r)
  | _, _, .ref h => .ref (e.at h)
theorem Reps.exw {K : PySem.W.Frag} {mu mu' : List Addr} {H H' : Hp} (e : Exw mu mu' H H') : ∀ {ds : List D} {vs : List V}, Reps K H mu ds vs → Reps K H' mu' ds vs
  | _, _, .nil => .nil
  | _, _, .cons r t => .cons (Rep.exw e r) (Reps.exw e t)
end
theorem SqT.ext {K : PySem.W.Frag} {mu mu' : List Addr} {H H' : Hp} {a : Addr} {vs : List V} (e : Ext mu mu' H H') (h : SqT K H a vs) : SqT K H' a vs := by
  rcases h with h | h
  · exact .inl (e.tup a vs h)
  · exact .inr h

theorem RoL.ext {K : PySem.W.Frag} {mu mu' : List Addr} {H H' : Hp} {a : Addr} {vs : List V} (e : Ext mu mu' H H') (h : RoL K H a vs) : RoL K H' a vs := by
  rcases h with ⟨o, h⟩ | h
  · exact .inl ⟨o, e.frz a o _ h⟩
  · exact .inr h
mutual
theorem Rep.ext {K : PySem.W.Frag} {mu mu' : List Addr} {H H' : Hp} (e : Ext mu mu' H H') : ∀ {d : D} {v : V}, Rep K H mu d v → Rep K H' mu' d v
  | _, _, .non => .non
  | _, _, .bl b => .bl b
  | _, _, .int i => .int i
  | _, _, .str x => .str x
  | _, _, .tup h r => .tup (SqT.ext e h) (Reps.ext e r)
  | _, _, .rol h r => .rol (RoL.ext e h) (Reps.ext e r)
  | _, _, .ref h => .ref (e.at h)
theorem Reps.ext {K : PySem.W.Frag} {mu mu' : List Addr} {H H' : Hp} (e : Ext mu mu' H H') : ∀ {ds : List D} {vs : List V}, Reps K H mu ds vs → Reps K H' mu' ds vs
  | _, _, .nil => .nil
  | _, _, .cons r t => .cons (Rep.ext e r) (Reps.ext e t)
end
section
variable {K : PySem.W.Frag} {H : Hp} {mu : List Addr}
theorem Reps.length : ∀ {ds : List D} {vs : List V}, Reps K H mu ds vs → ds.length = vs.length
  | _, _, .nil => rfl
  | _, _, .cons _ t => congrArg (· + 1) (Reps.length t)
theorem Reps.get : ∀ {ds : List D} {vs : List V} {i : Nat} {d : D}, Reps K H mu ds vs → ds[i]? = some d → ∃ v, vs[i]? = some v ∧ Rep K H mu d v
  | _, _, _, _, .nil, e => by simp at e
  | _, _, 0, _, .cons r _, e => by simp at e; subst e; exact ⟨_, rfl, r⟩
  | _, _, i + 1, d, .cons _ t, e => by
    obtain ⟨u, h1, h2⟩ := Reps.get (i := i) (d := d) t (by simpa using e)
    exact ⟨u, by simpa using h1, h2⟩
theorem Reps.getV : ∀ {ds : List D} {vs : List V} {i : Nat} {v : V}, Reps K H mu ds vs → vs[i]? = some v → ∃ d, ds[i]? = some d ∧ Rep K H mu d v
  | _, _, _, _, .nil, e => by simp at e
  | _, _, 0, _, .cons r _, e => by simp at e; subst e; exact ⟨_, rfl, r⟩
  | _, _, i + 1, d, .cons _ t, e => by
    obtain ⟨u, h1, h2⟩ := Reps.getV (i := i) (v := d) t (by simpa using e)
    exact ⟨u, by simpa using h1, h2⟩
theorem Reps.append : ∀ {ds es : List D} {vs ws : List V}, Reps K H mu ds vs → Reps K H mu es ws → Reps K H mu (ds ++ es) (vs ++ ws)
  | _, _, _, _, .nil, s => s
  | _, _, _, _, .cons r t, s => .cons r (Reps.append t s)
theorem Reps.take : ∀ {ds : List D} {vs : List V} (n : Nat), Reps K H mu ds vs → Reps K H mu (ds.take n) (vs.take n)
  | _, _, 0, _ => .nil
  | _, _, _ + 1, .nil => .nil
  | _, _, n + 1, .cons r t => .cons r (Reps.take n t)
theorem Reps.drop : ∀ {ds : List D} {vs : List V} (n : Nat), Reps K H mu ds vs → Reps K H mu (ds.drop n) (vs.drop n)
  | _, _, 0, r => r
  | _, _, _ + 1, .nil => .nil
  | _, _, n + 1, .cons _ t => Reps.drop n t
theorem Reps.set {d : D} {v : V} (r : Rep K H mu d v) : ∀ {ds : List D} {vs : List V} (i : Nat), Reps K H mu ds vs → Reps K H mu (ds.set i d) (vs.set i v)
  | _, _, _, .nil => .nil
  | _, _, 0, .cons _ t => .cons r t
  | _, _, i + 1, .cons q t => .cons q (Reps.set r i t)
theorem Reps.eraseIdx : ∀ {ds : List D} {vs : List V} (i : Nat), Reps K H mu ds vs → Reps K H mu (ds.eraseIdx i) (vs.eraseIdx i)
  | _, _, _, .nil => .nil
  | _, _, 0, .cons _ t => t
  | _, _, i + 1, .cons r t => .cons r (Reps.eraseIdx i t)
theorem Reps.reverse : ∀ {ds : List D} {vs : List V}, Reps K H mu ds vs → Reps K H mu ds.reverse vs.reverse
  | _, _, .nil => .nil
  | _, _, .cons r t => by
    rw [List.reverse_cons, List.reverse_cons]
    exact Reps.append (Reps.reverse t) (.cons r .nil)
end

/-! ### the store -/
def KR (K : PySem.W.Frag) (H : Hp) (mu : List Addr) : List (Key × D) → List (Key × V) → Prop := Paired fun p q => p.1 = q.1 ∧ Rep K H mu p.2 q.2
def ObR (K : PySem.W.Frag) (H : Hp) (mu : List Addr) (a : Addr) : Ob → Prop
  | .lst ds => ∃ vs, H a = some (.lst vs) ∧ Reps K H mu ds vs
  | .dct kvs => ∃ ws, H a = some (.dK ws) ∧ KR K H mu kvs ws
structure Sim (K : PySem.W.Frag) (H : Hp) (mu : List Addr) (S : Sto) : Prop where
  len : mu.length = S.length
  nd : mu.Nodup
  ob : ∀ (n : Nat) (o : Ob) (a : Addr), S[n]? = some o → mu[n]? = some a → ObR K H mu a o
structure EnvR (K : PySem.W.Frag) (H : Hp) (mu : List Addr) (r : Ev) (σ : L2.St) : Prop where
  len : r.length = σ.length
  val : ∀ (i : Nat) (d : D), r[i]? = some (some d) → ∃ v, σ[i]? = some (some v) ∧ Rep K H mu d v

theorem EnvR.ext {K : PySem.W.Frag} {mu mu' : List Addr} {H H' : Hp} {r : Ev} {σ : L2.St} (e : Ext mu mu' H H') (h : EnvR K H mu r σ) : EnvR K H' mu' r σ := ⟨h.len, fun i d q => by
  obtain ⟨v, e1, r1⟩ := h.val i d q
  exact ⟨v, e1, r1.ext e⟩⟩
theorem KR.ext {K : PySem.W.Frag} {mu mu' : List Addr} {H H' : Hp} {ks : List (Key × D)} {ws : List (Key × V)} (e : Ext mu mu' H H') (h : KR K H mu ks ws) : KR K H' mu' ks ws :=
  Paired.mapP h fun _ _ z => ⟨z.1, z.2.ext e⟩
theorem Sim.nil {K : PySem.W.Frag} {H : Hp} : Sim K H [] [] := ⟨rfl, List.nodup_nil, fun n o a h => by simp at h⟩
theorem Sim.here {K : PySem.W.Frag} {H : Hp} {mu : List Addr} {S : Sto} (s : Sim K H mu S) {a : Addr} (h : a ∈ mu) : ∃ o, H a = some o ∧ Mut (some o) := by
  obtain ⟨n, hn⟩ := List.getElem?_of_mem h
  have hl : n < S.length := by rw [← s.len]; exact (List.getElem?_eq_some_iff.mp hn).1
  have q := s.ob n _ a (List.getElem?_eq_getElem hl) hn
  cases e : S[n] with
  | lst ds => rw [e] at q; obtain ⟨vs, z, _⟩ := q; exact ⟨_, z, trivial⟩
  | dct ks => rw [e] at q; obtain ⟨vs, z, _⟩ := q; exact ⟨_, z, trivial⟩
theorem Sim.addr {K : PySem.W.Frag} {H : Hp} {mu : List Addr} {S : Sto} (s : Sim K H mu S) {n : Nat} {o : Ob} (h : S[n]? = some o) : ∃ a, mu[n]? = some a := by
  have hl : n < mu.length := by rw [s.len]; exact (List.getElem?_eq_some_iff.mp h).1
  exact ⟨_, List.getElem?_eq_getElem hl⟩

/-! ### readings -/
/-- what is wanted behind: the value d, the store S' -/
def Cont (K : PySem.W.Frag) (mu : List Addr) (H : Hp) (d : D) (S' : Sto) (Q : VK) : Prop := ∀ v H' mu', Ext mu mu' H H' → Rep K H' mu' d v → Sim K H' mu' S' → Q v H'
def tM (K : PySem.W.Frag) (m : FE) : TE := fun σ H Q => ∃ r mu S d S', EnvR K H mu r σ ∧ Sim K H mu S ∧ m r S = some (d, S') ∧ Cont K mu H d S' Q
def tMT (K : PySem.W.Frag) (m : FT) : TT := fun σ H Q => ∃ r mu S b S', EnvR K H mu r σ ∧ Sim K H mu S ∧ m r S = some (b, S') ∧ ∀ H' mu', Ext mu mu' H H' → Sim K H' mu' S' → Q b H'
def tMA (K : PySem.W.Frag) (m : FA) : TA := fun σ H Q => ∃ r mu S ds S', EnvR K H mu r σ ∧ Sim K H mu S ∧ m r S = some (ds, S') ∧ ∀ vs H' mu', Ext mu mu' H H' → Reps K H' mu' ds vs → Sim K H' mu' S' → Q vs H'
def tMS (K : PySem.W.Frag) (m : FS) : TS := fun E σ H => ∃ r mu S f r' S', EnvR K H mu r σ ∧ Sim K H mu S ∧ m r S = some (f, r', S') ∧ match f with
  | .nx => ∀ σ' H' mu', Ext mu mu' H H' → EnvR K H' mu' r' σ' → Sim K H' mu' S' → E.nx σ' H'
  | .bk => ∀ σ' H' mu', Ext mu mu' H H' → EnvR K H' mu' r' σ' → Sim K H' mu' S' → E.bk σ' H'
  | .ct => ∀ σ' H' mu', Ext mu mu' H H' → EnvR K H' mu' r' σ' → Sim K H' mu' S' → E.ct σ' H'
  | .rt d => Cont K mu H d S' E.rt
/-- a function of values -/
def rN (K : PySem.W.Frag) (f : FN) : List V → Hp → VK → Prop := fun vs H Q => ∃ mu S ds d S', Reps K H mu ds vs ∧ Sim K H mu S ∧ f ds S = some (d, S') ∧ Cont K mu H d S' Q

abbrev ME (X : Cx) (e : Expr) (m : FE) : Prop := PE X e (tM X.K m)
abbrev MT (X : Cx) (e : Expr) (m : FT) : Prop := PT X e (tMT X.K m)
abbrev MW (X : Cx) (e : Expr) (m : FT) : Prop := PW X e (tMT X.K m)
abbrev MA (X : Cx) (es : List Expr) (m : FA) : Prop := PA X es (tMA X.K m)
abbrev MS (X : Cx) (st : Stmt) (m : FS) : Prop := PS X st (tMS X.K m)
abbrev MSs (X : Cx) (st : List Stmt) (m : FS) : Prop := PSs X st (tMS X.K m)

section
variable {X : Cx} {e : Expr} {es : List Expr} {st : Stmt} {sts : List Stmt}
theorem pe_imp {t t' : TE} (h : PE X e t) (i : ∀ σ H Q, t' σ H Q → t σ H Q) : PE X e t' := fun pins s σ H Q I q => h pins s σ H Q I (i σ H Q q)
theorem pt_imp {t t' : TT} (h : PT X e t) (i : ∀ σ H Q, t' σ H Q → t σ H Q) : PT X e t' := fun pins s σ H Q I q => h pins s σ H Q I (i σ H Q q)
theorem pw_imp {t t' : TT} (h : PW X e t) (i : ∀ σ H Q, t' σ H Q → t σ H Q) : PW X e t' := fun wh pins s σ H Q I q => h wh pins s σ H Q I (i σ H Q q)
theorem pa_imp {t t' : TA} (h : PA X es t) (i : ∀ σ H Q, t' σ H Q → t σ H Q) : PA X es t' := fun pos pins s σ H Q I q => h pos pins s σ H Q I (i σ H Q q)
theorem ps_imp {t t' : TS} (h : PS X st t) (i : ∀ E σ H, t' E σ H → t E σ H) : PS X st t' := fun pins s σ H E I q => h pins s σ H E I (i E σ H q)
theorem pss_imp {t t' : TS} (h : PSs X sts t) (i : ∀ E σ H, t' E σ H → t E σ H) : PSs X sts t' := fun pins s σ H E I q => h pins s σ H E I (i E σ H q)
end

/-! ### names, constants -/
def mV (i : Nat) : FE := fun r S => match r[i]? with
  | some (some d) => some (d, S)
  | _ => none
def mC (d : D) : FE := fun _ S => some (d, S)
section
variable {X : Cx} {pos : Pos}
theorem me_var (i : Nat) {x : Str} (hN : X.N[i]? = some x) (hv : Vis X.env.scope x) (hd : (x == ("__debug__" : Str)) = false := by decide) (hcd : (x == ("__classdict__" : Str)) = false := by decide) : ME X (.Name x pos) (mV i) :=
  pe_imp (pe_var hN hv hd hcd) fun σ H Q ⟨r, mu, S, d, S', he, hs, hm, hc⟩ => by
    unfold mV at hm
    split at hm
    · rename_i d' e
      cases hm
      obtain ⟨v, e1, r1⟩ := he.val i _ e
      exact ⟨v, e1, hc v H mu (.refl _ _) r1 hs⟩
    · cases hm
theorem me_c {e : Expr} {v : V} (d : D) (h : PE X e (tC v)) (hr : ∀ H mu, Rep X.K H mu d v) : ME X e (mC d) :=
  pe_imp h fun σ H Q ⟨r, mu, S, d', S', he, hs, hm, hc⟩ => by
    cases hm
    exact hc v H mu (.refl _ _) (hr H mu) hs
theorem me_int {i : Int} {j} : ME X (.Constant (.int i) j pos) (mC (.int i)) := me_c _ pe_int fun _ _ => .int i
theorem me_bl {b : Bool} {j} : ME X (.Constant (.bool b) j pos) (mC (.bl b)) := me_c _ pe_bl fun _ _ => .bl b
theorem me_non {j} : ME X (.Constant .none j pos) (mC .non) := me_c _ pe_non fun _ _ => .non
theorem me_str {x : Str} {j} : ME X (.Constant (.str x) j pos) (mC (.str x)) := me_c _ pe_str fun _ _ => .str x
end

/-! ### argument lists, displays -/
def mNil : FA := fun _ S => some ([], S)
def mCons (m : FE) (n : FA) : FA := fun r S => (m r S).bind fun p => (n r p.2).bind fun q => some (p.1 :: q.1, q.2)
section
variable {X : Cx} {pos : Pos} {e : Expr} {es : List Expr} {m : FE} {n : FA}
theorem ma_nil : MA X [] mNil := pa_imp pa_nil fun σ H Q ⟨r, mu, S, ds, S', he, hs, hm, hc⟩ => by
  cases hm
  exact hc [] H mu (.refl _ _) .nil hs
theorem ma_cons (h : ME X e m) (ht : MA X es n) (hs : starEach (e :: es) X.env = (false, eval e X.env) :: starEach es X.env := by rfl) : MA X (e :: es) (mCons m n) :=
  pa_imp (pa_cons h ht hs) fun σ H Q ⟨r, mu, S, ds, S', he, hs, hm, hc⟩ => by
    unfold mCons at hm
    obtain ⟨⟨d, S1⟩, e1, hm⟩ := Option.bind_eq_some_iff.mp hm
    obtain ⟨⟨ds1, S2⟩, e2, hm⟩ := Option.bind_eq_some_iff.mp hm
    cases hm
    refine ⟨r, mu, S, d, S1, he, hs, e1, fun v H1 mu1 x1 r1 s1 => ?_⟩
    refine ⟨r, mu1, S1, ds1, _, he.ext x1, s1, e2, fun vs H2 mu2 x2 r2 s2 => ?_⟩
    exact hc _ H2 mu2 (x1.trans x2) (.cons (r1.ext x2) r2) s2
end

/-! ### values taken together -/
def m2 (f : FN) (a b : FE) : FE := fun r S => (a r S).bind fun p => (b r p.2).bind fun q => f [p.1, q.1] q.2
def m1 (f : FN) (a : FE) : FE := fun r S => (a r S).bind fun p => f [p.1] p.2
def mN (f : FN) (a : FA) : FE := fun r S => (a r S).bind fun p => f p.1 p.2
abbrev r2 (K : PySem.W.Frag) (f : FN) : R2 := fun x y H Q => rN K f [x, y] H Q
section
variable {X : Cx} {K : PySem.W.Frag} {f : FN} {a b : FE} {σ : L2.St} {H : Hp} {Q : VK}
theorem m2_ok (h : tM K (m2 f a b) σ H Q) : tOp (r2 K f) (tM K a) (tM K b) σ H Q := by
  obtain ⟨r, mu, S, d, S', he, hs, hm, hc⟩ := h
  obtain ⟨⟨d1, S1⟩, e1, hm⟩ := Option.bind_eq_some_iff.mp hm
  obtain ⟨⟨d2, S2⟩, e2, hm⟩ := Option.bind_eq_some_iff.mp hm
  refine ⟨r, mu, S, d1, S1, he, hs, e1, fun v H1 mu1 x1 r1 s1 => ?_⟩
  refine ⟨r, mu1, S1, d2, S2, he.ext x1, s1, e2, fun u H2 mu2 x2 r2 s2 => ?_⟩
  exact ⟨mu2, S2, [d1, d2], d, S', .cons (r1.ext x2) (.cons r2 .nil), s2, hm, fun v H3 mu3 x3 r3 s3 => hc v H3 mu3 ((x1.trans x2).trans x3) r3 s3⟩
theorem m1_ok (h : tM K (m1 f a) σ H Q) : tUn (fun x H Q => rN K f [x] H Q) (tM K a) σ H Q := by
  obtain ⟨r, mu, S, d, S', he, hs, hm, hc⟩ := h
  obtain ⟨⟨d1, S1⟩, e1, hm⟩ := Option.bind_eq_some_iff.mp hm
  refine ⟨r, mu, S, d1, S1, he, hs, e1, fun v H1 mu1 x1 r1 s1 => ?_⟩
  exact ⟨mu1, S1, [d1], d, S', .cons r1 .nil, s1, hm, fun v H3 mu3 x3 r3 s3 => hc v H3 mu3 (x1.trans x3) r3 s3⟩
theorem mN_ok {a : FA} (h : tM K (mN f a) σ H Q) : tMA K a σ H fun vs H1 => rN K f vs H1 Q := by
  obtain ⟨r, mu, S, d, S', he, hs, hm, hc⟩ := h
  obtain ⟨⟨d1, S1⟩, e1, hm⟩ := Option.bind_eq_some_iff.mp hm
  refine ⟨r, mu, S, d1, S1, he, hs, e1, fun v H1 mu1 x1 r1 s1 => ?_⟩
  exact ⟨mu1, S1, d1, d, S', r1, s1, hm, fun v H3 mu3 x3 r3 s3 => hc v H3 mu3 (x1.trans x3) r3 s3⟩
theorem me_op {op : Operator} {x y : Expr} {pos : Pos} (ho : OpR X (binaryOp op) (r2 X.K f)) (hx : ME X x a) (hy : ME X y b) : ME X (.BinOp x op y pos) (m2 f a b) := pe_imp (pe_op ho hx hy) fun _ _ _ => m2_ok
theorem me_un {op : UnaryOp} {x : Expr} {pos : Pos} (ho : UnR X (unaryOp op) (fun x H Q => rN X.K f [x] H Q)) (hx : ME X x a) : ME X (.UnaryOp op x pos) (m1 f a) := pe_imp (pe_un ho hx) fun _ _ _ => m1_ok
theorem me_cmp {op : CmpOp} {x y : Expr} {pos : Pos} (ho : OpR X (compareOp op) (r2 X.K f)) (hx : ME X x a) (hy : ME X y b) (hm : behindInMarks op y = false) : ME X (.Compare x [op] [y] pos) (m2 f a b) := pe_imp (pe_cmpR ho hx hy hm) fun _ _ _ => m2_ok
theorem me_ix {x y : Expr} {pos : Pos} (ho : IxR X (r2 X.K f)) (hx : ME X x a) (hy : ME X y b) (hs : PlainIx y) : ME X (.Subscript x y pos) (m2 f a b) := pe_imp (pe_ix ho hx hy hs) fun _ _ _ => m2_ok
theorem me_callB {x : Str} {p pos : Pos} {e : Expr} {es : List Expr} {id : String} {a : FA} (hc : CallR X (.builtin id) (rN X.K f)) (hg : Gl X x) (hm : X.mg x = none) (hv : bootBuiltins x = some (.builtin id)) (ha : MA X (e :: es) a) (hn : x ≠ "__name__" := by decide) (hdb : (x == ("__debug__" : Str)) = false := by decide)
    (he : starEach (e :: es) X.env = (false, eval e X.env) :: starEach es X.env := by rfl) (hpl : (backTo pos (starEach es X.env)).any (·.1) = false := by rfl) : ME X (.Call (.Name x p) (e :: es) [] pos) (mN f a) :=
  pe_imp (pe_callB hc hg hm hv ha hn hdb he hpl) fun _ _ _ => mN_ok
theorem me_callTy {x : Str} {p pos : Pos} {e : Expr} {es : List Expr} {T : String} {a : FA} (hc : CallR X (.type T) (rN X.K f)) (hg : Gl X x) (hm : X.mg x = none) (hv : bootBuiltins x = some (.type T)) (ha : MA X (e :: es) a) (hn : x ≠ "__name__" := by decide) (hdb : (x == ("__debug__" : Str)) = false := by decide)
    (he : starEach (e :: es) X.env = (false, eval e X.env) :: starEach es X.env := by rfl) (hpl : (backTo pos (starEach es X.env)).any (·.1) = false := by rfl) : ME X (.Call (.Name x p) (e :: es) [] pos) (mN f a) :=
  pe_imp (pe_callTy hc hg hm hv ha hn hdb he hpl) fun _ _ _ => mN_ok
end

/-! ### tests -/
/-- a value that is a bool, as a test -/
def mB (m : FE) : FT := fun r S => (m r S).bind fun p => match p.1 with
  | .bl b => some (b, p.2)
  | _ => none
theorem mB_ok {K : PySem.W.Frag} {m : FE} {σ : L2.St} {H : Hp} {Q : Bool → Hp → Prop} (h : tMT K (mB m) σ H Q) : tB (tM K m) σ H Q := by
  obtain ⟨r, mu, S, b, S', he, hs, hm, hc⟩ := h
  obtain ⟨⟨d1, S1⟩, e1, hm⟩ := Option.bind_eq_some_iff.mp hm
  cases d1 with
  | bl k =>
    cases hm
    refine ⟨r, mu, S, _, _, he, hs, e1, fun v H1 mu1 x1 r1 s1 => ?_⟩
    cases r1
    exact ⟨_, rfl, hc H1 mu1 x1 s1⟩
  | _ => cases hm
def mAnd (a b : FT) : FT := fun r S => (a r S).bind fun p => if p.1 = true then b r p.2 else some (false, p.2)
def mOr (a b : FT) : FT := fun r S => (a r S).bind fun p => if p.1 = true then some (true, p.2) else b r p.2
def mNot (a : FT) : FT := fun r S => (a r S).bind fun p => some (!p.1, p.2)
def mAndV (a b : FE) : FE := fun r S => (a r S).bind fun p => match p.1 with
  | .bl c => if c = true then b r p.2 else some (.bl false, p.2)
  | _ => none
def mOrV (a b : FE) : FE := fun r S => (a r S).bind fun p => match p.1 with
  | .bl c => if c = true then some (.bl true, p.2) else b r p.2
  | _ => none
def mNotV (a : FE) : FE := fun r S => (a r S).bind fun p => match p.1 with
  | .bl c => some (.bl (!c), p.2)
  | _ => none
def mIf (c : FT) (a b : FE) : FE := fun r S => (c r S).bind fun p => if p.1 = true then a r p.2 else b r p.2
section
variable {X : Cx} {x y c : Expr} {rest : List Expr} {pos : Pos} {a b : FT} {f g : FE}
theorem mt_cmp {op : CmpOp} {f : FN} {a b : FE} (ho : OpR X (compareOp op) (r2 X.K f)) (hx : ME X x a) (hy : ME X y b) (hm : behindInMarks op y = false) : MT X (.Compare x [op] [y] pos) (mB (m2 f a b)) :=
  pt_imp (pt_cmpR ho hx hy hm) fun σ H Q h => by
    obtain ⟨r, mu, S, d, S', he, hs, hm, hc⟩ := mB_ok h
    exact m2_ok ⟨r, mu, S, d, S', he, hs, hm, fun v H' mu' x1 r1 s1 => hc v H' mu' x1 r1 s1⟩
theorem mt_val (h : ME X x f) (he : ∀ whole, isTrue x X.env whole = (do let v ← whole; standAt x.pos; holding [v] (truthy v)) := by intro _; rfl) : MT X x (mB f) := pt_imp (pt_val h he) fun _ _ _ => mB_ok
theorem mw_and1 (ha : MT X x a) : MW X (.BoolOp .And [x] pos) a := pw_and1 ha
theorem mw_or1 (ha : MT X x a) : MW X (.BoolOp .Or [x] pos) a := pw_or1 ha
theorem mw_and (ha : MT X x a) (hb : MW X (.BoolOp .And (y :: rest) pos) b) : MW X (.BoolOp .And (x :: y :: rest) pos) (mAnd a b) :=
  pw_imp (pw_and ha hb) fun σ H Q ⟨r, mu, S, k, S', he, hs, hm, hc⟩ => by
    obtain ⟨⟨b1, S1⟩, e1, hm⟩ := Option.bind_eq_some_iff.mp hm
    refine ⟨r, mu, S, b1, S1, he, hs, e1, fun H1 mu1 x1 s1 => ?_⟩
    cases b1 with
    | true => exact ⟨r, mu1, S1, k, S', he.ext x1, s1, hm, fun H2 mu2 x2 s2 => hc H2 mu2 (x1.trans x2) s2⟩
    | false => cases hm; exact hc H1 mu1 x1 s1
theorem mw_or (ha : MT X x a) (hb : MW X (.BoolOp .Or (y :: rest) pos) b) : MW X (.BoolOp .Or (x :: y :: rest) pos) (mOr a b) :=
  pw_imp (pw_or ha hb) fun σ H Q ⟨r, mu, S, k, S', he, hs, hm, hc⟩ => by
    obtain ⟨⟨b1, S1⟩, e1, hm⟩ := Option.bind_eq_some_iff.mp hm
    refine ⟨r, mu, S, b1, S1, he, hs, e1, fun H1 mu1 x1 s1 => ?_⟩
    cases b1 with
    | false => exact ⟨r, mu1, S1, k, S', he.ext x1, s1, hm, fun H2 mu2 x2 s2 => hc H2 mu2 (x1.trans x2) s2⟩
    | true => cases hm; exact hc H1 mu1 x1 s1
theorem mt_w (h : MW X x a) : MT X x a := PW.pt h
theorem mt_not (ha : MT X x a) : MT X (.UnaryOp .Not x pos) (mNot a) :=
  pt_imp (pt_not ha) fun σ H Q ⟨r, mu, S, k, S', he, hs, hm, hc⟩ => by
    obtain ⟨⟨b1, S1⟩, e1, hm⟩ := Option.bind_eq_some_iff.mp hm
    cases hm
    exact ⟨r, mu, S, b1, S1, he, hs, e1, fun H1 mu1 x1 s1 => hc H1 mu1 x1 s1⟩
theorem me_one {op} (h : ME X x f) : ME X (.BoolOp op [x] pos) f := pe_one h
theorem me_and (ha : ME X x f) (hb : ME X (.BoolOp .And (y :: rest) pos) g) : ME X (.BoolOp .And (x :: y :: rest) pos) (mAndV f g) :=
  pe_imp (pe_and ha hb) fun σ H Q ⟨r, mu, S, k, S', he, hs, hm, hc⟩ => by
    obtain ⟨⟨d1, S1⟩, e1, hm⟩ := Option.bind_eq_some_iff.mp hm
    refine ⟨r, mu, S, d1, S1, he, hs, e1, fun v H1 mu1 x1 r1 s1 => ?_⟩
    cases d1 with
    | bl b1 =>
      cases r1
      refine ⟨b1, rfl, ?_⟩
      cases b1 with
      | true => exact ⟨r, mu1, S1, k, S', he.ext x1, s1, hm, fun v2 H2 mu2 x2 r2 s2 => hc v2 H2 mu2 (x1.trans x2) r2 s2⟩
      | false => cases hm; exact hc _ H1 mu1 x1 (.bl false) s1
    | _ => cases hm
theorem me_or (ha : ME X x f) (hb : ME X (.BoolOp .Or (y :: rest) pos) g) : ME X (.BoolOp .Or (x :: y :: rest) pos) (mOrV f g) :=
  pe_imp (pe_or ha hb) fun σ H Q ⟨r, mu, S, k, S', he, hs, hm, hc⟩ => by
    obtain ⟨⟨d1, S1⟩, e1, hm⟩ := Option.bind_eq_some_iff.mp hm
    refine ⟨r, mu, S, d1, S1, he, hs, e1, fun v H1 mu1 x1 r1 s1 => ?_⟩
    cases d1 with
    | bl b1 =>
      cases r1
      refine ⟨b1, rfl, ?_⟩
      cases b1 with
      | false => exact ⟨r, mu1, S1, k, S', he.ext x1, s1, hm, fun v2 H2 mu2 x2 r2 s2 => hc v2 H2 mu2 (x1.trans x2) r2 s2⟩
      | true => cases hm; exact hc _ H1 mu1 x1 (.bl true) s1
    | _ => cases hm
theorem me_not (ha : ME X x f) : ME X (.UnaryOp .Not x pos) (mNotV f) :=
  pe_imp (pe_not ha) fun σ H Q ⟨r, mu, S, k, S', he, hs, hm, hc⟩ => by
    obtain ⟨⟨d1, S1⟩, e1, hm⟩ := Option.bind_eq_some_iff.mp hm
    refine ⟨r, mu, S, d1, S1, he, hs, e1, fun v H1 mu1 x1 r1 s1 => ?_⟩
    cases d1 with
    | bl b1 =>
      cases r1
      cases hm
      exact ⟨b1, rfl, hc _ H1 mu1 x1 (.bl _) s1⟩
    | _ => cases hm
theorem me_if (hc : MT X c a) (hx : ME X x f) (hy : ME X y g) : ME X (.IfExp c x y pos) (mIf a f g) :=
  pe_imp (pe_ifExp hc hx hy) fun σ H Q ⟨r, mu, S, k, S', he, hs, hm, hc⟩ => by
    obtain ⟨⟨b1, S1⟩, e1, hm⟩ := Option.bind_eq_some_iff.mp hm
    refine ⟨r, mu, S, b1, S1, he, hs, e1, fun H1 mu1 x1 s1 => ?_⟩
    cases b1 with
    | true => exact ⟨r, mu1, S1, k, S', he.ext x1, s1, hm, fun v2 H2 mu2 x2 r2 s2 => hc v2 H2 mu2 (x1.trans x2) r2 s2⟩
    | false => exact ⟨r, mu1, S1, k, S', he.ext x1, s1, hm, fun v2 H2 mu2 x2 r2 s2 => hc v2 H2 mu2 (x1.trans x2) r2 s2⟩
end
/-! ### chains a < b < c -/
def mCh (f g : FN) (a b c : FE) : FE := fun r S => (a r S).bind fun p => (b r p.2).bind fun q => (f [p.1, q.1] q.2).bind fun t => match t.1 with
  | .bl k => if k = true then (c r t.2).bind fun z => g [q.1, z.1] z.2 else some (.bl false, t.2)
  | _ => none
section
variable {X : Cx} {x y z : Expr} {pos : Pos} {f g : FN} {a b c : FE} {op op' : CmpOp}
theorem mCh_ok {K : PySem.W.Frag} {σ : L2.St} {H : Hp} {Q : VK} (h : tM K (mCh f g a b c) σ H Q) : tChain (r2 K f) (r2 K g) (tM K a) (tM K b) (tM K c) σ H Q := by
  obtain ⟨r, mu, S, d, S', he, hs, hm, hc⟩ := h
  obtain ⟨⟨d1, S1⟩, e1, hm⟩ := Option.bind_eq_some_iff.mp hm
  obtain ⟨⟨d2, S2⟩, e2, hm⟩ := Option.bind_eq_some_iff.mp hm
  obtain ⟨⟨d3, S3⟩, e3, hm⟩ := Option.bind_eq_some_iff.mp hm
  refine ⟨r, mu, S, d1, S1, he, hs, e1, fun v1 H1 mu1 x1 r1 s1 => ?_⟩
  refine ⟨r, mu1, S1, d2, S2, he.ext x1, s1, e2, fun v2 H2 mu2 x2 r2 s2 => ?_⟩
  refine ⟨mu2, S2, [d1, d2], d3, S3, .cons (r1.ext x2) (.cons r2 .nil), s2, e3, fun v3 H3 mu3 x3 r3 s3 => ?_⟩
  cases d3 with
  | bl k =>
    cases r3
    refine ⟨k, rfl, ?_⟩
    cases k with
    | false => cases hm; exact hc _ H3 mu3 ((x1.trans x2).trans x3) (.bl false) s3
    | true =>
      obtain ⟨⟨d4, S4⟩, e4, hm⟩ := Option.bind_eq_some_iff.mp hm
      refine ⟨r, mu3, S3, d4, S4, he.ext ((x1.trans x2).trans x3), s3, e4, fun v4 H4 mu4 x4 r4 s4 => ?_⟩
      exact ⟨mu4, S4, [d2, d4], d, S', .cons ((r2.ext x3).ext x4) (.cons r4 .nil), s4, hm, fun v5 H5 mu5 x5 r5 s5 => hc v5 H5 mu5 ((((x1.trans x2).trans x3).trans x4).trans x5) r5 s5⟩
  | _ => cases hm
theorem me_chain (ho : OpR X (compareOp op) (r2 X.K f)) (ho' : OpR X (compareOp op') (r2 X.K g)) (hx : ME X x a) (hy : ME X y b) (hz : ME X z c) (hm : lastMarks [op, op'] [y, z] = false := by with_unfolding_all rfl) :
    ME X (.Compare x [op, op'] [y, z] pos) (mCh f g a b c) := pe_imp (pe_chain ho ho' hx hy hz hm) fun _ _ _ => mCh_ok
theorem mt_chain (ho : OpR X (compareOp op) (r2 X.K f)) (ho' : OpR X (compareOp op') (r2 X.K g)) (hx : ME X x a) (hy : ME X y b) (hz : ME X z c) (hm : lastMarks [op, op'] [y, z] = false := by with_unfolding_all rfl) :
    MT X (.Compare x [op, op'] [y, z] pos) (mB (mCh f g a b c)) :=
  pt_imp (pt_chain ho ho' hx hy hz hm) fun σ H Q h => by
    obtain ⟨r, mu, S, d, S', he, hs, hm, hc⟩ := mB_ok h
    exact mCh_ok ⟨r, mu, S, d, S', he, hs, hm, fun v H' mu' x1 r1 s1 => hc v H' mu' x1 r1 s1⟩
end
end Mi

end
section
set_option Elab.async false
set_option linter.all false
set_option maxRecDepth 100000
namespace Mi
open PySem PySem.Spec PyProof.Rows L2

/-! ### data: references below a bound, equality -/
mutual
def D.und (n : Nat) : D → Bool
  | .tup xs => D.unds n xs
  | .rol xs => D.unds n xs
  | .ref k => decide (k < n)
  | .non => true
  | .bl _ => true
  | .int _ => true
  | .str _ => true
def D.unds (n : Nat) : List D → Bool
  | [] => true
  | d :: ds => D.und n d && D.unds n ds
end
mutual
def D.same : D → D → Bool
  | .non, .non => true
  | .bl a, .bl b => a == b
  | .int a, .int b => decide (a = b)
  | .str a, .str b => decide (a = b)
  | .tup xs, .tup ys => D.sames xs ys
  | .rol xs, .rol ys => D.sames xs ys
  | .ref a, .ref b => decide (a = b)
  | _, _ => false
def D.sames : List D → List D → Bool
  | [], [] => true
  | x :: xs, y :: ys => D.same x y && D.sames xs ys
  | _, _ => false
end
mutual
theorem D.same_eq : ∀ {a b : D}, D.same a b = true → a = b
  | .non, .non, _ => rfl
  | .non, .bl _, h => by simp [D.same] at h
  | .non, .int _, h => by simp [D.same] at h
  | .non, .str _, h => by simp [D.same] at h
  | .non, .tup _, h => by simp [D.same] at h
  | .non, .rol _, h => by simp [D.same] at h
  | .non, .ref _, h => by simp [D.same] at h
  | .bl _, .non, h => by simp [D.same] at h
  | .bl x, .bl y, h => by simp [D.same] at h; rw [h]
  | .bl _, .int _, h => by simp [D.same] at h
  | .bl _, .str _, h => by simp [D.same] at h
  | .bl _, .tup _, h => by simp [D.same] at h
  | .bl _, .rol _, h => by simp [D.same] at h
  | .bl _, .ref _, h => by simp [D.same] at h
  | .int _, .non, h => by simp [D.same] at h
  | .int _, .bl _, h => by simp [D.same] at h
  | .int x, .int y, h => by simp [D.same] at h; rw [h]
  | .int _, .str _, h => by simp [D.same] at h
  | .int _, .tup _, h => by simp [D.same] at h
  | .int _, .rol _, h => by simp [D.same] at h
  | .int _, .ref _, h => by simp [D.same] at h
  | .str _, .non, h => by simp [D.same] at h
  | .str _, .bl _, h => by simp [D.same] at h
  | .str _, .int _, h => by simp [D.same] at h
  | .str x, .str y, h => by simp [D.same] at h; rw [h]
  | .str _, .tup _, h => by simp [D.same] at h
  | .str _, .rol _, h => by simp [D.same] at h
  | .str _, .ref _, h => by simp [D.same] at h
  | .tup _, .non, h => by simp [D.same] at h
  | .tup _, .bl _, h => by simp [D.same] at h
  | .tup _, .int _, h => by simp [D.same] at h
  | .tup _, .str _, h => by simp [D.same] at h
  | .tup x, .tup y, h => by rw [D.same] at h; rw [D.sames_eq h]
  | .tup _, .rol _, h => by simp [D.same] at h
  | .tup _, .ref _, h => by simp [D.same] at h
  | .rol _, .non, h => by simp [D.same] at h
  | .rol _, .bl _, h => by simp [D.same] at h
  | .rol _, .int _, h => by simp [D.same] at h
  | .rol _, .str _, h => by simp [D.same] at h
  | .rol _, .tup _, h => by simp [D.same] at h
  | .rol x, .rol y, h => by rw [D.same] at h; rw [D.sames_eq h]
  | .rol _, .ref _, h => by simp [D.same] at h
  | .ref _, .non, h => by simp [D.same] at h
  | .ref _, .bl _, h => by simp [D.same] at h
  | .ref _, .int _, h => by simp [D.same] at h
  | .ref _, .str _, h => by simp [D.same] at h
  | .ref _, .tup _, h => by simp [D.same] at h
  | .ref _, .rol _, h => by simp [D.same] at h
  | .ref x, .ref y, h => by simp [D.same] at h; rw [h]
theorem D.sames_eq : ∀ {a b : List D}, D.sames a b = true → a = b
  | [], [], _ => rfl
  | x :: xs, y :: ys, h => by
    rw [D.sames, Bool.and_eq_true] at h
    rw [D.same_eq h.1, D.sames_eq h.2]
  | [], _ :: _, h => by simp [D.sames] at h
  | _ :: _, [], h => by simp [D.sames] at h
end
mutual
theorem D.same_refl : ∀ a : D, D.same a a = true
  | .non => rfl
  | .bl a => by simp [D.same]
  | .int a => by simp [D.same]
  | .str a => by simp [D.same]
  | .tup xs => by rw [D.same]; exact D.sames_refl xs
  | .rol xs => by rw [D.same]; exact D.sames_refl xs
  | .ref a => by simp [D.same]
theorem D.sames_refl : ∀ a : List D, D.sames a a = true
  | [] => rfl
  | x :: xs => by rw [D.sames, D.same_refl x, D.sames_refl xs]; rfl
end
section
variable {K : PySem.W.Frag} {H : Hp} {mu mu' : List Addr}
mutual
theorem Rep.cut {n : Nat} (h : ∀ k, k < n → mu[k]? = mu'[k]?) : ∀ {d : D} {v : V}, Rep K H mu d v → d.und n = true → Rep K H mu' d v
  | _, _, .non, _ => .non
  | _, _, .bl b, _ => .bl b
  | _, _, .int i, _ => .int i
  | _, _, .str x, _ => .str x
  | _, _, .tup q r, e => .tup q (Reps.cut h r (by rw [D.und] at e; exact e))
  | _, _, .rol q r, e => .rol q (Reps.cut h r (by rw [D.und] at e; exact e))
  | _, _, .ref q, e => .ref (by rw [D.und] at e; rw [← h _ (of_decide_eq_true e)]; exact q)
theorem Reps.cut {n : Nat} (h : ∀ k, k < n → mu[k]? = mu'[k]?) : ∀ {ds : List D} {vs : List V}, Reps K H mu ds vs → D.unds n ds = true → Reps K H mu' ds vs
  | _, _, .nil, _ => .nil
  | _, _, .cons r t, e => by
    rw [D.unds, Bool.and_eq_true] at e
    exact .cons (Rep.cut h r e.1) (Reps.cut h t e.2)
end
end
def Ob.und (n : Nat) : Ob → Bool
  | .lst xs => D.unds n xs
  | .dct kvs => D.unds n (kvs.map (·.2))
theorem KR.cut {K : PySem.W.Frag} {H : Hp} {mu mu' : List Addr} {n : Nat} (h : ∀ k, k < n → mu[k]? = mu'[k]?) : ∀ {ks : List (Key × D)} {ws : List (Key × V)}, KR K H mu ks ws → D.unds n (ks.map (·.2)) = true → KR K H mu' ks ws
  | _, _, .nil, _ => .nil
  | _, _, .cons r t, e => by
    rw [List.map_cons, D.unds, Bool.and_eq_true] at e
    exact .cons ⟨r.1, r.2.cut h e.1⟩ (KR.cut h t e.2)
theorem ObR.cut {K : PySem.W.Frag} {H : Hp} {mu mu' : List Addr} {n : Nat} {a : Addr} (h : ∀ k, k < n → mu[k]? = mu'[k]?) : ∀ {o : Ob}, ObR K H mu a o → o.und n = true → ObR K H mu' a o
  | .lst _, ⟨vs, e, r⟩, b => ⟨vs, e, r.cut h b⟩
  | .dct _, ⟨ws, e, r⟩, b => ⟨ws, e, KR.cut h r b⟩

/-! ### a call: with plain data alone it runs in an empty store; else what it made and nothing holds is dropped -/
def gc (n : Nat) (p : D × Sto) : D × Sto := if p.1.und n && (p.2.take n).all (Ob.und n) then (p.1, p.2.take n) else p
mutual
def D.sh (n : Nat) : D → D
  | .tup xs => .tup (D.shs n xs)
  | .rol xs => .rol (D.shs n xs)
  | .ref k => .ref (n + k)
  | .non => .non
  | .bl b => .bl b
  | .int i => .int i
  | .str x => .str x
def D.shs (n : Nat) : List D → List D
  | [] => []
  | d :: ds => D.sh n d :: D.shs n ds
end
def Ob.sh (n : Nat) : Ob → Ob
  | .lst xs => .lst (D.shs n xs)
  | .dct kvs => .dct (kvs.map fun p => (p.1, p.2.sh n))
mutual
theorem Rep.sh {K : PySem.W.Frag} {H : Hp} {mu mu' : List Addr} : ∀ {d : D} {v : V}, Rep K H mu' d v → Rep K H (mu ++ mu') (d.sh mu.length) v
  | _, _, .non => .non
  | _, _, .bl b => .bl b
  | _, _, .int i => .int i
  | _, _, .str x => .str x
  | _, _, .tup h r => .tup h (Reps.sh r)
  | _, _, .rol h r => .rol h (Reps.sh r)
  | _, _, .ref h => .ref (by rw [List.getElem?_append_right (Nat.le_add_right _ _), Nat.add_sub_cancel_left]; exact h)
theorem Reps.sh {K : PySem.W.Frag} {H : Hp} {mu mu' : List Addr} : ∀ {ds : List D} {vs : List V}, Reps K H mu' ds vs → Reps K H (mu ++ mu') (D.shs mu.length ds) vs
  | _, _, .nil => .nil
  | _, _, .cons r t => .cons (Rep.sh r) (Reps.sh t)
end
theorem KR.sh {K : PySem.W.Frag} {H : Hp} {mu mu' : List Addr} : ∀ {ks : List (Key × D)} {ws : List (Key × V)}, KR K H mu' ks ws → KR K H (mu ++ mu') (ks.map fun p => (p.1, p.2.sh mu.length)) ws
  | _, _, .nil => .nil
  | _, _, .cons r t => .cons ⟨r.1, r.2.sh⟩ (KR.sh t)
theorem ObR.sh {K : PySem.W.Frag} {H : Hp} {mu mu' : List Addr} {a : Addr} : ∀ {o : Ob}, ObR K H mu' a o → ObR K H (mu ++ mu') a (o.sh mu.length)
  | .lst _, ⟨vs, e, r⟩ => ⟨vs, e, r.sh⟩
  | .dct _, ⟨ws, e, r⟩ => ⟨ws, e, KR.sh r⟩
mutual
theorem Rep.mor {K : PySem.W.Frag} {H : Hp} {mu : List Addr} (mu' : List Addr) : ∀ {d : D} {v : V}, Rep K H mu d v → Rep K H (mu ++ mu') d v
  | _, _, .non => .non
  | _, _, .bl b => .bl b
  | _, _, .int i => .int i
  | _, _, .str x => .str x
  | _, _, .tup h r => .tup h (Reps.mor mu' r)
  | _, _, .rol h r => .rol h (Reps.mor mu' r)
  | _, _, .ref h => .ref (by rw [List.getElem?_append_left ((List.getElem?_eq_some_iff.mp h).1)]; exact h)
theorem Reps.mor {K : PySem.W.Frag} {H : Hp} {mu : List Addr} (mu' : List Addr) : ∀ {ds : List D} {vs : List V}, Reps K H mu ds vs → Reps K H (mu ++ mu') ds vs
  | _, _, .nil => .nil
  | _, _, .cons r t => .cons (Rep.mor mu' r) (Reps.mor mu' t)
end
theorem KR.mor {K : PySem.W.Frag} {H : Hp} {mu : List Addr} (mu' : List Addr) {ks : List (Key × D)} {ws : List (Key × V)} (h : KR K H mu ks ws) : KR K H (mu ++ mu') ks ws := Paired.mapP h fun _ _ z => ⟨z.1, z.2.mor mu'⟩
theorem ObR.mor {K : PySem.W.Frag} {H : Hp} {mu : List Addr} {a : Addr} (mu' : List Addr) : ∀ {o : Ob}, ObR K H mu a o → ObR K H (mu ++ mu') a o
  | .lst _, ⟨vs, e, r⟩ => ⟨vs, e, r.mor mu'⟩
  | .dct _, ⟨ws, e, r⟩ => ⟨ws, e, KR.mor mu' r⟩
def callG (f : FN) : FN := fun ds S => if D.unds 0 ds = true then (f ds []).map fun p => if p.1.und 0 = true then (p.1, S) else (p.1.sh S.length, S ++ p.2.map (Ob.sh S.length)) else (f ds S).map (gc S.length)
theorem ObR.keep {K : PySem.W.Frag} {H H' : Hp} {mu : List Addr} {a : Addr} (e : Ext mu mu H H') (h : ∀ o, H a = some o → H' a = some o) : ∀ {o : Ob}, ObR K H mu a o → ObR K H' mu a o
  | .lst _, ⟨vs, q, r⟩ => ⟨vs, h _ q, r.ext e⟩
  | .dct _, ⟨ws, q, r⟩ => ⟨ws, h _ q, KR.ext e r⟩
theorem callG_ok {K : PySem.W.Frag} {f : FN} {vs : List V} {H : Hp} {Q : VK} (h : rN K (callG f) vs H Q) : rN K f vs H Q := by
  obtain ⟨mu, S, ds, d, S', hr, hs, hm, hc⟩ := h
  unfold callG at hm
  split at hm
  · rename_i hb
    obtain ⟨⟨d1, S1⟩, e1, hm⟩ := Option.map_eq_some_iff.mp hm
    refine ⟨[], [], ds, d1, S1, hr.cut (n := 0) (fun k hk => absurd hk (Nat.not_lt_zero _)) hb, .nil, e1, fun v H' mu' x r s => ?_⟩
    have x' : Ext mu mu H H' := ⟨List.prefix_rfl, fun a o e _ => x.old a o e (by simp), x.tup, x.frz, fun _ z => .inl z⟩
    dsimp only at hm
    split at hm
    · rename_i hd
      cases hm
      refine hc v H' mu x' (r.cut (n := 0) (fun k hk => absurd hk (Nat.not_lt_zero _)) hd) ⟨hs.len, hs.nd, fun n o a h1 h2 => ?_⟩
      exact (hs.ob n o a h1 h2).keep x' fun o e => x.old a o e (by simp)
    · cases hm
      have fr : ∀ a ∈ mu', H a = none := fun a ha => (x.new a ha).resolve_left (by simp)
      have x2 : Ext mu (mu ++ mu') H H' := ⟨List.prefix_append _ _, fun a o e _ => x.old a o e (by simp), x.tup, x.frz, fun a z => by
        rcases List.mem_append.mp z with z | z
        · exact .inl z
        · exact .inr (fr a z)⟩
      refine hc v H' (mu ++ mu') x2 (by rw [← hs.len]; exact r.sh) ⟨by rw [List.length_append, List.length_append, List.length_map, hs.len, s.len], ?_, fun n o a h1 h2 => ?_⟩
      · refine List.nodup_append.mpr ⟨hs.nd, s.nd, fun a ha b hb z => ?_⟩
        subst z
        obtain ⟨o, e, _⟩ := hs.here ha
        rw [fr a hb] at e; cases e
      · by_cases hn : n < S.length
        · rw [List.getElem?_append_left hn] at h1
          rw [List.getElem?_append_left (by rw [hs.len]; exact hn)] at h2
          exact ((hs.ob n o a h1 h2).keep x' fun o e => x.old a o e (by simp)).mor mu'
        · have hn' := Nat.le_of_not_lt hn
          rw [List.getElem?_append_right hn'] at h1
          rw [List.getElem?_append_right (by rw [hs.len]; exact hn')] at h2
          rw [List.getElem?_map] at h1
          obtain ⟨o1, g1, g2⟩ := Option.map_eq_some_iff.mp h1
          subst g2
          have q := s.ob (n - S.length) o1 a g1 (by rw [hs.len] at h2; exact h2)
          rw [← hs.len]
          exact q.sh
  · obtain ⟨⟨d1, S1⟩, e1, hm⟩ := Option.map_eq_some_iff.mp hm
    refine ⟨mu, S, ds, d1, S1, hr, hs, e1, fun v H' mu' x r s => ?_⟩
    unfold gc at hm
    split at hm
    · rename_i hb
      cases hm
      rw [Bool.and_eq_true] at hb
      have hk : ∀ k, k < S.length → mu'[k]? = mu[k]? := fun k hk => by
        obtain ⟨t, rfl⟩ := x.pre
        rw [List.getElem?_append_left (by rw [hs.len]; exact hk)]
      refine hc v H' mu x.back (r.cut hk hb.1) ⟨?_, hs.nd, fun n o a h1 h2 => ?_⟩
      · have := s.len
        have h3 := x.pre.length_le
        rw [List.length_take, ← s.len]
        rw [hs.len] at h3 ⊢
        exact (Nat.min_eq_left h3).symm
      · have hn : n < S.length := by rw [← hs.len]; exact (List.getElem?_eq_some_iff.mp h2).1
        have h1' : S1[n]? = some o := by rw [List.getElem?_take_of_lt hn] at h1; exact h1
        refine (s.ob n o a h1' ((hk n hn).trans h2)).cut hk ?_
        exact List.all_eq_true.mp hb.2 o (List.mem_of_getElem? h1)
    · cases hm
      exact hc v H' mu' x r s

def spM (K : PySem.W.Frag) (n : Nat) (f : FN) : Sp := fun vs H Q _ => vs.length = n ∧ rN K f vs H Q
section
variable {X : Cx} {k n : Nat} {f : Addr} {fd : FuncData} {ps : List Str} {x : Str} {p pos : Pos} {e : Expr} {es : List Expr} {m : FN} {a : FA}
def mCall (n : Nat) (f : FN) : FN := fun ds S => if ds.length = n then callG f ds S else none
theorem me_call (F : FnOk X.prog X.w X.K X.mg X.base CX0 k f fd ps (spM X.K n m)) (hr : Room k X.A) (hg : Gl X x) (hm : X.mg x = some (.ref f)) (hk : PySem.W.keepIn X.K (.ref f) = true) (hb : Binds X.K fd ps [])
    (ha : MA X (e :: es) a) (hdb : (x == ("__debug__" : Str)) = false := by decide) (he : starEach (e :: es) X.env = (false, eval e X.env) :: starEach es X.env := by rfl) (hpl : (backTo pos (starEach es X.env)).any (·.1) = false := by rfl) :
    ME X (.Call (.Name x p) (e :: es) [] pos) (mN (mCall n m) a) :=
  pe_imp (pe_call (E := E0) F hr hg hm hk hb .nil pass0 ha hdb he hpl) fun σ H Q h => by
    obtain ⟨r, mu, S, ds, S', he, hs, hm, hc⟩ := mN_ok h
    refine ⟨r, mu, S, ds, S', he, hs, hm, fun vs H' mu' x1 r1 s1 => ?_⟩
    have q := hc vs H' mu' x1 r1 s1
    show spM X.K n m (vs ++ []) H' Q E0
    rw [List.append_nil]
    obtain ⟨mu2, S2, ds2, d2, S3, h1, h2, h3, h4⟩ := q
    unfold mCall at h3
    split at h3
    · rename_i hl
      exact ⟨by rw [← h1.length]; exact hl, callG_ok ⟨mu2, S2, ds2, d2, S3, h1, h2, h3, h4⟩⟩
    · cases h3
end

/-! ### statements -/
def mNx : FS := fun r S => some (.nx, r, S)
def mBk : FS := fun r S => some (.bk, r, S)
def mCt : FS := fun r S => some (.ct, r, S)
def mSeq (a b : FS) : FS := fun r S => (a r S).bind fun p => match p.1 with
  | .nx => b p.2.1 p.2.2
  | f => some (f, p.2.1, p.2.2)
def mRet (m : FE) : FS := fun r S => (m r S).bind fun p => some (.rt p.1, r, p.2)
def mRetN : FS := fun r S => some (.rt .non, r, S)
def mDrop (m : FE) : FS := fun r S => (m r S).bind fun p => some (.nx, r, p.2)
def mIfS (c : FT) (a b : FS) : FS := fun r S => (c r S).bind fun p => if p.1 = true then a r p.2 else b r p.2
section
variable {X : Cx} {pos : Pos} {e c : Expr} {st : Stmt} {rest as bs : List Stmt} {a b : FS} {m : FE} {t : FT}
theorem mss_nil : MSs X [] mNx := pss_imp pss_nil fun E σ H ⟨r, mu, S, f, r', S', he, hs, hm, hc⟩ => by
  cases hm; exact hc σ H mu (.refl _ _) he hs
theorem mss_cons (h1 : MS X st a) (h2 : MSs X rest b) : MSs X (st :: rest) (mSeq a b) := pss_imp (pss_cons h1 h2) fun E σ H ⟨r, mu, S, f, r', S', he, hs, hm, hc⟩ => by
  obtain ⟨⟨f1, r1, S1⟩, e1, hm⟩ := Option.bind_eq_some_iff.mp hm
  refine ⟨r, mu, S, f1, r1, S1, he, hs, e1, ?_⟩
  cases f1 with
  | nx =>
    intro σ1 H1 mu1 x1 he1 hs1
    refine ⟨r1, mu1, S1, f, r', S', he1, hs1, hm, ?_⟩
    cases f with
    | nx => exact fun σ2 H2 mu2 x2 => hc σ2 H2 mu2 (x1.trans x2)
    | bk => exact fun σ2 H2 mu2 x2 => hc σ2 H2 mu2 (x1.trans x2)
    | ct => exact fun σ2 H2 mu2 x2 => hc σ2 H2 mu2 (x1.trans x2)
    | rt d => exact fun v H2 mu2 x2 => hc v H2 mu2 (x1.trans x2)
  | bk => cases hm; exact hc
  | ct => cases hm; exact hc
  | rt d => cases hm; exact hc
theorem mss_one (h1 : MS X st a) : MSs X [st] a := pss_one h1
theorem ms_pass : MS X (.Pass pos) mNx := ps_imp ps_pass fun E σ H ⟨r, mu, S, f, r', S', he, hs, hm, hc⟩ => by cases hm; exact hc σ H mu (.refl _ _) he hs
theorem ms_break : MS X (.Break pos) mBk := ps_imp ps_break fun E σ H ⟨r, mu, S, f, r', S', he, hs, hm, hc⟩ => by cases hm; exact hc σ H mu (.refl _ _) he hs
theorem ms_continue : MS X (.Continue pos) mCt := ps_imp ps_continue fun E σ H ⟨r, mu, S, f, r', S', he, hs, hm, hc⟩ => by cases hm; exact hc σ H mu (.refl _ _) he hs
theorem ms_expr (h : ME X e m) (hs : swapsWith e none pos.line X.env = pure false := by rfl) : MS X (.Expr e pos) (mDrop m) := ps_imp (ps_expr h hs) fun E σ H ⟨r, mu, S, f, r', S', he, hs, hm, hc⟩ => by
  obtain ⟨⟨d, S1⟩, e1, hm⟩ := Option.bind_eq_some_iff.mp hm
  cases hm
  exact ⟨r, mu, S, d, _, he, hs, e1, fun v H' mu' x r1 s1 => hc σ H' mu' x (he.ext x) s1⟩
theorem ms_ret (h : ME X e m) : MS X (.Return (some e) pos) (mRet m) := ps_imp (ps_ret h) fun E σ H ⟨r, mu, S, f, r', S', he, hs, hm, hc⟩ => by
  obtain ⟨⟨d, S1⟩, e1, hm⟩ := Option.bind_eq_some_iff.mp hm
  cases hm
  exact ⟨r, mu, S, d, _, he, hs, e1, hc⟩
theorem ms_retN : MS X (.Return none pos) mRetN := ps_imp ps_retN fun E σ H ⟨r, mu, S, f, r', S', he, hs, hm, hc⟩ => by
  cases hm
  exact hc .non H mu (.refl _ _) .non hs
theorem ms_if (hc : MT X c t) (ha : MSs X as a) (hb : MSs X bs b) : MS X (.If c as bs pos) (mIfS t a b) := ps_imp (ps_if hc ha hb) fun E σ H ⟨r, mu, S, f, r', S', he, hs, hm, hc⟩ => by
  obtain ⟨⟨k, S1⟩, e1, hm⟩ := Option.bind_eq_some_iff.mp hm
  refine ⟨r, mu, S, k, S1, he, hs, e1, fun H1 mu1 x1 s1 => ?_⟩
  have go : ∀ c : FS, c r S1 = some (f, r', S') → tMS X.K c E σ H1 := fun c hm => by
    refine ⟨r, mu1, S1, f, r', S', he.ext x1, s1, hm, ?_⟩
    cases f with
    | nx => exact fun σ2 H2 mu2 x2 => hc σ2 H2 mu2 (x1.trans x2)
    | bk => exact fun σ2 H2 mu2 x2 => hc σ2 H2 mu2 (x1.trans x2)
    | ct => exact fun σ2 H2 mu2 x2 => hc σ2 H2 mu2 (x1.trans x2)
    | rt d => exact fun v H2 mu2 x2 => hc v H2 mu2 (x1.trans x2)
  cases k with
  | true => exact go a hm
  | false => exact go b hm
end

/-! ### targets -/
abbrev FG := D → Ev → Sto → Option (Ev × Sto)
abbrev FGs := List D → Ev → Sto → Option (Ev × Sto)
def tMG (K : PySem.W.Frag) (g : FG) : TG := fun v σ H Q => ∃ r mu S d r' S', EnvR K H mu r σ ∧ Sim K H mu S ∧ Rep K H mu d v ∧ g d r S = some (r', S') ∧ ∀ σ' H' mu', Ext mu mu' H H' → EnvR K H' mu' r' σ' → Sim K H' mu' S' → Q σ' H'
def tMGs (K : PySem.W.Frag) (g : FGs) : TGs := fun vs σ H Q => ∃ r mu S ds r' S', EnvR K H mu r σ ∧ Sim K H mu S ∧ Reps K H mu ds vs ∧ g ds r S = some (r', S') ∧ ∀ σ' H' mu', Ext mu mu' H H' → EnvR K H' mu' r' σ' → Sim K H' mu' S' → Q σ' H'
abbrev MG (X : Cx) (e : Expr) (g : FG) : Prop := PG X e (tMG X.K g)
abbrev MGs (X : Cx) (es : List Expr) (g : FGs) : Prop := PGs X es (tMGs X.K g)
def gN (i : Nat) : FG := fun d r S => some (r.set i (some d), S)
def gNl : FGs := fun ds r S => match ds with
  | [] => some (r, S)
  | _ => none
def gCs (g : FG) (gs : FGs) : FGs := fun ds r S => match ds with
  | d :: ds => (g d r S).bind fun p => gs ds p.1 p.2
  | [] => none
def gT (n : Nat) (gs : FGs) : FG := fun d r S => match d with
  | .tup ds => if ds.length = n then gs ds r S else none
  | _ => none
theorem EnvR.set {K : PySem.W.Frag} {H : Hp} {mu : List Addr} {r : Ev} {σ : L2.St} {i : Nat} {d : D} {v : V} (h : EnvR K H mu r σ) (q : Rep K H mu d v) : EnvR K H mu (r.set i (some d)) (σ.set i (some v)) := by
  refine ⟨by rw [List.length_set, List.length_set]; exact h.len, fun j d' e => ?_⟩
  by_cases hj : i = j
  · subst hj
    have hl : i < r.length := by
      have := (List.getElem?_eq_some_iff.mp e).1
      rwa [List.length_set] at this
    rw [List.getElem?_set_self hl] at e
    cases e
    exact ⟨v, List.getElem?_set_self (by rw [← h.len]; exact hl), q⟩
  · rw [List.getElem?_set_ne hj] at e
    obtain ⟨v', e1, r1⟩ := h.val j d' e
    exact ⟨v', by rw [List.getElem?_set_ne hj]; exact e1, r1⟩
section
variable {X : Cx} {pos : Pos}
theorem pg_imp {e : Expr} {t t' : TG} (h : PG X e t) (i : ∀ v σ H Q, t' v σ H Q → t v σ H Q) : PG X e t' := fun pins s σ H v u Q I r q => h pins s σ H v u Q I r (i v σ H Q q)
theorem pgs_imp {e : List Expr} {t t' : TGs} (h : PGs X e t) (i : ∀ v σ H Q, t' v σ H Q → t v σ H Q) : PGs X e t' := fun pins s σ H v u Q I r q => h pins s σ H v u Q I r (i v σ H Q q)
theorem mg_name (i : Nat) {x : Str} (hN : X.N.Nodup) (hi : X.N[i]? = some x) (hx : Loc X.env.scope x) (hf : X.fn x = true ∨ X.env.scope.names.lookup x = some .local := by first | exact .inl rfl | exact .inr rfl | assumption) : MG X (.Name x pos) (gN i) :=
  pg_imp (pg_name hN hi hx hf) fun v σ H Q ⟨r, mu, S, d, r', S', he, hs, hr, hm, hc⟩ => by
    cases hm
    exact hc _ H mu (.refl _ _) (he.set hr) hs
theorem mgs_nil : MGs X [] gNl := pgs_imp pgs_nil fun vs σ H Q ⟨r, mu, S, ds, r', S', he, hs, hr, hm, hc⟩ => by
  unfold gNl at hm
  split at hm
  · cases hm; cases hr
    exact ⟨rfl, hc σ H mu (.refl _ _) he hs⟩
  · cases hm
theorem mgs_cons {e : Expr} {es : List Expr} {g : FG} {gs : FGs} (h1 : MG X e g) (h2 : MGs X es gs) (hs : (assignEach (e :: es) X.env).map (·.2) = assign e X.env :: (assignEach es X.env).map (·.2) := by rfl) : MGs X (e :: es) (gCs g gs) :=
  pgs_imp (pgs_cons h1 h2 hs) fun vs σ H Q ⟨r, mu, S, ds, r', S', he, hs, hr, hm, hc⟩ => by
    unfold gCs at hm
    split at hm
    · obtain ⟨⟨r1, S1⟩, e1, hm⟩ := Option.bind_eq_some_iff.mp hm
      cases hr with
      | cons q t =>
        exact ⟨_, _, rfl, r, mu, S, _, r1, S1, he, hs, q, e1, fun σ1 H1 mu1 x1 he1 s1 => ⟨r1, mu1, S1, _, r', S', he1, s1, t.ext x1, hm, fun σ2 H2 mu2 x2 => hc σ2 H2 mu2 (x1.trans x2)⟩⟩
    · cases hm
theorem mg_tup {es : List Expr} {k : Nat} {gs : FGs} {n : Nat} (hc : X.calm = true) (h : MGs X es gs) (hn : (assignEach es X.env).length = n := by rfl) (hst : (assignEach es X.env).findIdx? (·.1) = none := by rfl) : MG X (.Tuple es k pos) (gT n gs) :=
  pg_imp (pg_tup hc h hn hst) fun v σ H Q ⟨r, mu, S, d, r', S', he, hs, hr, hm, hc⟩ => by
    cases d with
    | tup ds =>
      rw [gT] at hm
      split at hm
      · rename_i hl
        cases hr with
        | tup q t => exact ⟨_, _, rfl, q, by rw [← t.length]; exact hl, r, mu, S, ds, r', S', he, hs, t, hm, hc⟩
      · cases hm
    | _ => cases hm
/-- o[i] = v -/
def rU (K : PySem.W.Frag) (f : FN) : TSet := fun o i v H Q => ∃ mu S ds d S', Reps K H mu ds [o, i, v] ∧ Sim K H mu S ∧ f ds S = some (d, S') ∧ ∀ H' mu', Ext mu mu' H H' → Sim K H' mu' S' → Q H'
def gS (f : FN) (a b : FE) : FG := fun d r S => (a r S).bind fun p => (b r p.2).bind fun q => (f [p.1, q.1, d] q.2).bind fun t => some (r, t.2)
theorem mg_sub {o i : Expr} {a b : FE} {f : FN} (ho : ME X o a) (hi : ME X i b) (hs : PSet X (rU X.K f))
    (ha : ∀ v, assign (.Subscript o i pos) X.env v = (do
      let ov ← holding [v] (eval o X.env)
      let iv ← holding [v, ov] (eval i X.env)
      standAt pos
      holding [v, ov, iv] (setItem ov iv v)
      release [v, ov, iv] []) := by intro _; rfl) : MG X (.Subscript o i pos) (gS f a b) :=
  pg_imp (pg_sub ho hi hs ha) fun v σ H Q ⟨r, mu, S, d, r', S', he, hs, hr, hm, hc⟩ => by
    obtain ⟨⟨d1, S1⟩, e1, hm⟩ := Option.bind_eq_some_iff.mp hm
    obtain ⟨⟨d2, S2⟩, e2, hm⟩ := Option.bind_eq_some_iff.mp hm
    obtain ⟨⟨d3, S3⟩, e3, hm⟩ := Option.bind_eq_some_iff.mp hm
    cases hm
    refine ⟨r, mu, S, d1, S1, he, hs, e1, fun v1 H1 mu1 x1 r1 s1 => ?_⟩
    refine ⟨r, mu1, S1, d2, S2, he.ext x1, s1, e2, fun v2 H2 mu2 x2 r2 s2 => ?_⟩
    exact ⟨mu2, S2, [d1, d2, d], d3, _, .cons (r1.ext x2) (.cons r2 (.cons ((hr.ext x1).ext x2) .nil)), s2, e3, fun H3 mu3 x3 s3 => hc σ H3 mu3 ((x1.trans x2).trans x3) (((he.ext x1).ext x2).ext x3) s3⟩
def mAsg (m : FE) (g : FG) : FS := fun r S => (m r S).bind fun p => (g p.1 r p.2).bind fun q => some (.nx, q.1, q.2)
theorem mAsg_ok {K : PySem.W.Frag} {m : FE} {g : FG} {E : Ends} {σ : L2.St} {H : Hp} (h : tMS K (mAsg m g) E σ H) : tAsg (tM K m) (tMG K g) E σ H := by
  obtain ⟨r, mu, S, f, r', S', he, hs, hm, hc⟩ := h
  obtain ⟨⟨d1, S1⟩, e1, hm⟩ := Option.bind_eq_some_iff.mp hm
  obtain ⟨⟨r2, S2⟩, e2, hm⟩ := Option.bind_eq_some_iff.mp hm
  cases hm
  refine ⟨r, mu, S, d1, S1, he, hs, e1, fun v1 H1 mu1 x1 r1 s1 => ?_⟩
  exact ⟨r, mu1, S1, d1, _, _, he.ext x1, s1, r1, e2, fun σ2 H2 mu2 x2 => hc σ2 H2 mu2 (x1.trans x2)⟩
theorem ms_asg {tg e : Expr} {m : FE} {g : FG} (he : ME X e m) (hg : MG X tg g) (hs : swapsWithSole [tg] e pos.line X.env = pure false := by rfl) (hw : swappedStores [tg] e X.env = pure none := by rfl)
    (h1 : (assignEach [tg] X.env).map (·.2) = [assign tg X.env] := by rfl) : MS X (.Assign [tg] e pos) (mAsg m g) := ps_imp (ps_asg he hg hs hw h1) fun _ _ _ => mAsg_ok
theorem ms_set (i : Nat) {x : Str} {e : Expr} {m : FE} {pos' : Pos} (hN : X.N.Nodup) (hi : X.N[i]? = some x) (hx : Loc X.env.scope x) (he : ME X e m) (hs : swapsWith e (some (.Name x pos')) pos.line X.env = pure false := by rfl) (hf : X.fn x = true ∨ X.env.scope.names.lookup x = some .local := by first | exact .inl rfl | exact .inr rfl | assumption) :
    MS X (.Assign [.Name x pos'] e pos) (mAsg m (gN i)) := ps_imp (ps_set hN hi hx he hs hf) fun E σ H h => by
  obtain ⟨r, mu, S, d, S', h1, h2, h3, h4⟩ := mAsg_ok h
  refine ⟨r, mu, S, d, S', h1, h2, h3, fun v H' mu' x1 r1 s1 => ?_⟩
  obtain ⟨r2, mu2, S2, d2, r3, S3, q1, q2, q3, q4, q5⟩ := h4 v H' mu' x1 r1 s1
  cases q4
  exact q5 _ H' mu2 (.refl _ _) (q1.set q3) q2
/-- name op= e -/
def mAug (i : Nat) (f : FN) (m : FE) : FS := fun r S => match r[i]? with
  | some (some d) => (m r S).bind fun p => (f [d, p.1] p.2).bind fun q => some (.nx, r.set i (some q.1), q.2)
  | _ => none
theorem ms_aug (i : Nat) {x : Str} {e : Expr} {m : FE} {op : Operator} {f : FN} {pos' : Pos} (hN : X.N.Nodup) (hi : X.N[i]? = some x) (hx : Loc X.env.scope x) (he : ME X e m) (ho : PIp X op (r2 X.K f)) (hf : X.fn x = true ∨ X.env.scope.names.lookup x = some .local := by first | exact .inl rfl | exact .inr rfl | assumption) :
    MS X (.AugAssign (.Name x pos') op e pos) (mAug i f m) := ps_imp (ps_aug hN hi hx he ho hf) fun E σ H ⟨r, mu, S, fl, r', S', he, hs, hm, hc⟩ => by
  unfold mAug at hm
  split at hm
  · rename_i d e
    obtain ⟨⟨d1, S1⟩, e1, hm⟩ := Option.bind_eq_some_iff.mp hm
    obtain ⟨⟨d2, S2⟩, e2, hm⟩ := Option.bind_eq_some_iff.mp hm
    cases hm
    obtain ⟨v, ev, rv⟩ := he.val i d e
    refine ⟨v, ev, r, mu, S, d1, S1, he, hs, e1, fun v1 H1 mu1 x1 r1 s1 => ?_⟩
    exact ⟨mu1, S1, [d, d1], d2, _, .cons (rv.ext x1) (.cons r1 .nil), s1, e2, fun v3 H3 mu3 x3 r3 s3 => hc _ H3 mu3 (x1.trans x3) (((he.ext x1).ext x3).set r3) s3⟩
  · cases hm
end

/-! ### while -/
def whl (c : FT) (b : FS) : Nat → FS
  | 0 => fun _ _ => none
  | n + 1 => fun r S => (c r S).bind fun p => if p.1 = true then (b r p.2).bind fun q => match q.1 with
      | .nx => whl c b n q.2.1 q.2.2
      | .ct => whl c b n q.2.1 q.2.2
      | .bk => some (.nx, q.2.1, q.2.2)
      | .rt d => some (.rt d, q.2.1, q.2.2)
    else some (.nx, r, p.2)
theorem whl_ok {K : PySem.W.Frag} {c : FT} {b : FS} {n : Nat} {E : Ends} {σ : L2.St} {H : Hp} (h : tMS K (whl c b n) E σ H) : tWhile (tMT K c) (tMS K b) E σ H := by
  refine ⟨fun m σ' H' => tMS K (whl c b m) E σ' H', ⟨n, h⟩, fun m σ1 H1 q => ?_⟩
  obtain ⟨r, mu, S, f, r', S', he, hs, hm, hc⟩ := q
  cases m with
  | zero => cases hm
  | succ m =>
    obtain ⟨⟨k, S1⟩, e1, hm⟩ := Option.bind_eq_some_iff.mp hm
    refine ⟨r, mu, S, k, S1, he, hs, e1, fun H2 mu2 x2 s2 => ?_⟩
    cases k with
    | false =>
      cases hm
      exact hc σ1 H2 mu2 x2 (he.ext x2) s2
    | true =>
      obtain ⟨⟨f3, r3, S3⟩, e3, hm⟩ := Option.bind_eq_some_iff.mp hm
      have go : ∀ {σ' H' mu'}, Ext mu2 mu' H2 H' → EnvR K H' mu' r3 σ' → Sim K H' mu' S3 → whl c b m r3 S3 = some (f, r', S') → tMS K (whl c b m) E σ' H' := fun {σ' H' mu'} x he3 s3 hm => by
        refine ⟨r3, mu', S3, f, r', S', he3, s3, hm, ?_⟩
        cases f with
        | nx => exact fun σ2 H2 mu2 y => hc σ2 H2 mu2 ((x2.trans x).trans y)
        | bk => exact fun σ2 H2 mu2 y => hc σ2 H2 mu2 ((x2.trans x).trans y)
        | ct => exact fun σ2 H2 mu2 y => hc σ2 H2 mu2 ((x2.trans x).trans y)
        | rt d => exact fun v H2 mu2 y => hc v H2 mu2 ((x2.trans x).trans y)
      refine ⟨fun σ' H' => tMS K (whl c b m) E σ' H', fun σ' H' q => ⟨m, Nat.lt_succ_self _, q⟩, r, mu2, S1, f3, r3, S3, he.ext x2, s2, e3, ?_⟩
      cases f3 with
      | nx => exact fun σ' H' mu' x he3 s3 => go x he3 s3 hm
      | ct => exact fun σ' H' mu' x he3 s3 => go x he3 s3 hm
      | bk => cases hm; exact fun σ' H' mu' x he3 s3 => hc σ' H' mu' (x2.trans x) he3 s3
      | rt d => cases hm; exact fun v H' mu' x r3 s3 => hc v H' mu' (x2.trans x) r3 s3
theorem ms_while {X : Cx} {pos : Pos} (n : Nat) {c : Expr} {body : List Stmt} {t : FT} {b : FS} (hp : PassesOwn (model X.prog X.w) X.A X.env X.xe) (hc : MT X c t) (hb : MSs X body b) : MS X (.While c body [] pos) (whl t b n) :=
  ps_imp (ps_while hp hc hb) fun _ _ _ => whl_ok

/-! ### for -/
structure Itm where
  items : List D
  chk : List (Nat × List D)
def okC (S : Sto) : List (Nat × List D) → Bool
  | [] => true
  | (n, xs) :: c => (match S[n]? with
      | some (.lst ys) => D.sames ys xs
      | _ => false) && okC S c
def ItR (K : PySem.W.Frag) (j : It) (J : Itm) (mu : List Addr) (H : Hp) : Prop := ∀ i H1 mu1 S1, Exw mu mu1 H H1 → Sim K H1 mu1 S1 → okC S1 J.chk = true →
  (∀ d, J.items[i]? = some d → j.go i H1 ∧ ∀ x H2, j.yld i H1 x H2 → Ext mu1 mu1 H1 H2 ∧ Sim K H2 mu1 S1 ∧ Rep K H2 mu1 d x) ∧ (J.items.length ≤ i → j.stop i H1)
abbrev FI := Ev → Sto → Option (Itm × Sto)
def tMI (K : PySem.W.Frag) (m : FI) : TI := fun σ H R => ∃ r mu S J S', EnvR K H mu r σ ∧ Sim K H mu S ∧ m r S = some (J, S') ∧ ∀ j H' mu', Ext mu mu' H H' → ItR K j J mu' H' → Sim K H' mu' S' → R j H'
abbrev MI (X : Cx) (tg iter : Expr) (m : FI) : Prop := PI X tg iter (tMI X.K m)
theorem pi_imp {X : Cx} {tg e : Expr} {t t' : TI} (h : PI X tg e t) (i : ∀ σ H R, t' σ H R → t σ H R) : PI X tg e t' := fun pins s σ H R I q => h pins s σ H R I (i σ H R q)
theorem pi_or {X : Cx} {tg e : Expr} {t t' : TI} (h : PI X tg e t) (h' : PI X tg e t') : PI X tg e (fun σ H R => t σ H R ∨ t' σ H R) := fun pins s σ H R I q => q.elim (h pins s σ H R I) (h' pins s σ H R I)
def loopM (c : List (Nat × List D)) (g : FG) (b : FS) : List D → FS
  | [] => fun r S => if okC S c = true then some (.nx, r, S) else none
  | d :: ds => fun r S => if okC S c = true then (g d r S).bind fun p => (b p.1 p.2).bind fun q => match q.1 with
      | .nx => loopM c g b ds q.2.1 q.2.2
      | .ct => loopM c g b ds q.2.1 q.2.2
      | .bk => some (.nx, q.2.1, q.2.2)
      | .rt v => some (.rt v, q.2.1, q.2.2)
    else none
def mFor (m : FI) (g : FG) (b : FS) : FS := fun r S => (m r S).bind fun p => loopM p.1.chk g b p.1.items r p.2
theorem drop_of_get {α : Type} {l : List α} {i : Nat} {d : α} {ds : List α} (h : l.drop i = d :: ds) : l[i]? = some d ∧ l.drop (i + 1) = ds := by
  have h1 : l[i]? = some d := by
    have := congrArg (·[0]?) h
    simpa using this
  refine ⟨h1, ?_⟩
  rw [← List.drop_drop, h]
  rfl
theorem mFor_ok {K : PySem.W.Frag} {m : FI} {g : FG} {b : FS} {E : Ends} {σ : L2.St} {H : Hp} (h : tMS K (mFor m g b) E σ H) : tFor (tMI K m) (tMG K g) (tMS K b) E σ H := by
  obtain ⟨r, mu, S, f, r', S', he, hs, hm, hc⟩ := h
  obtain ⟨⟨J, S1⟩, e1, hm⟩ := Option.bind_eq_some_iff.mp hm
  refine ⟨r, mu, S, J, S1, he, hs, e1, fun j H1 mu1 x1 J1 s1 => ?_⟩
  refine ⟨fun i k σ' H' => ∃ r2 mu2 S2, Ext mu1 mu2 H1 H' ∧ EnvR K H' mu2 r2 σ' ∧ Sim K H' mu2 S2 ∧ k = (J.items.drop i).length ∧ loopM J.chk g b (J.items.drop i) r2 S2 = some (f, r', S'), ⟨_, r, mu1, S1, .refl _ _, he.ext x1, s1, rfl, hm⟩, ?_⟩
  rintro i k σ2 H2 ⟨r2, mu2, S2, x2, he2, s2, rfl, hm2⟩
  cases hl : J.items.drop i with
  | nil =>
    left
    rw [hl] at hm2
    rw [loopM] at hm2
    dsimp only at hm2
    split at hm2
    · rename_i ok
      cases hm2
      refine ⟨(J1 i H2 mu2 _ x2.w s2 ok).2 (List.drop_eq_nil_iff.mp hl), ?_⟩
      exact hc σ2 H2 mu2 (x1.trans x2) he2 s2
    · cases hm2
  | cons d ds =>
    right
    rw [hl] at hm2
    obtain ⟨hi, hd⟩ := drop_of_get hl
    rw [loopM] at hm2
    dsimp only at hm2
    split at hm2
    · rename_i ok
      obtain ⟨⟨r3, S3⟩, e3, hm2⟩ := Option.bind_eq_some_iff.mp hm2
      obtain ⟨⟨f4, r4, S4⟩, e4, hm2⟩ := Option.bind_eq_some_iff.mp hm2
      obtain ⟨go, yl⟩ := (J1 i H2 mu2 _ x2.w s2 ok).1 d hi
      refine ⟨go, fun σ' H' => ∃ r2 mu2 S2, Ext mu1 mu2 H1 H' ∧ EnvR K H' mu2 r2 σ' ∧ Sim K H' mu2 S2 ∧ loopM J.chk g b ds r2 S2 = some (f, r', S'), ?_, fun x H3 y => ?_⟩
      · rintro σ' H' ⟨r5, mu5, S5, x5, he5, s5, hm5⟩
        refine ⟨ds.length, Nat.lt_succ_self _, r5, mu5, S5, x5, he5, s5, ?_, ?_⟩
        · rw [hd]
        · rw [hd]; exact hm5
      · obtain ⟨x3, s3, q3⟩ := yl x H3 y
        refine ⟨r2, mu2, S2, d, r3, S3, he2.ext x3, s3, q3, e3, fun σ4 H4 mu4 x4 he4 s4 => ?_⟩
        refine ⟨r3, mu4, S3, f4, r4, S4, he4, s4, e4, ?_⟩
        cases f4 with
        | nx => exact fun σ5 H5 mu5 x5 he5 s5 => ⟨r4, mu5, S4, (x2.trans x3).trans (x4.trans x5), he5, s5, hm2⟩
        | ct => exact fun σ5 H5 mu5 x5 he5 s5 => ⟨r4, mu5, S4, (x2.trans x3).trans (x4.trans x5), he5, s5, hm2⟩
        | bk => cases hm2; exact fun σ5 H5 mu5 x5 he5 s5 => hc σ5 H5 mu5 ((x1.trans x2).trans (x3.trans (x4.trans x5))) he5 s5
        | rt v => cases hm2; exact fun v5 H5 mu5 x5 r5 s5 => hc v5 H5 mu5 ((x1.trans x2).trans (x3.trans (x4.trans x5))) r5 s5
    · cases hm2
theorem ms_for {X : Cx} {pos : Pos} {tg iter : Expr} {body : List Stmt} {m : FI} {g : FG} {b : FS} (hp : PassesOwn (model X.prog X.w) X.A X.env X.xe) (hc : X.calm = true) (hi : MI X tg iter m) (hg : MG X tg g) (hb : MSs X body b)
    (hs : ∀ x, foldedSetIterable iter X.env x = pure x := by intro _; rfl) : MS X (.For tg iter body [] pos) (mFor m g b) := ps_imp (ps_for hp hc hi hg hb hs) fun _ _ _ => mFor_ok

/-! ### a def -/
def startD (n : Nat) (ds : List D) : Ev := ds.map some ++ List.replicate (n - ds.length) none
def fnB (n : Nat) (b : FS) : FN := fun ds S => (b (startD n ds) S).bind fun p => match p.1 with
  | .rt d => some (d, p.2.2)
  | .nx => some (.non, p.2.2)
  | _ => none
theorem start_env {K : PySem.W.Frag} {H : Hp} {mu : List Addr} {ds : List D} {vs : List V} (N : List Str) (h : Reps K H mu ds vs) : EnvR K H mu (startD N.length ds) (L2.start N vs) := by
  refine ⟨?_, fun i d e => ?_⟩
  · unfold startD L2.start
    rw [List.length_append, List.length_append, List.length_map, List.length_map, List.length_replicate, List.length_replicate, h.length]
  · unfold startD at e
    unfold L2.start
    by_cases hi : i < ds.length
    · rw [List.getElem?_append_left (by rw [List.length_map]; exact hi), List.getElem?_map] at e
      obtain ⟨d', e1, e2⟩ := Option.map_eq_some_iff.mp e
      cases e2
      obtain ⟨v, e3, r⟩ := h.get e1
      refine ⟨v, ?_, r⟩
      rw [List.getElem?_append_left (by rw [List.length_map, ← h.length]; exact hi), List.getElem?_map, e3]
      rfl
    · rw [List.getElem?_append_right (by rw [List.length_map]; omega)] at e
      have := List.mem_of_getElem? e
      rw [List.mem_replicate] at this
      cases this.2
theorem fn_m {P : Program} {w : World} {K : PySem.W.Frag} {mg : Str → Option Value} {base : Heap} {x qual : Str} {st : Stmt} {f : Addr} {fd : FuncData} {N ps : List Str} {k : Nat} {b : FS} (F : Fun K x qual st f fd) (S : FnScope N ps (defScope st))
    (hbody : ∀ (cdv : Value) (A : Around) (outer : List Env) (s : Shared) (H : Hp) (E : XK), Room k (A.deeper (envOfC qual (defScope st) s.heap.objs.size f cdv)) →
      MSs (cxOf CX0 P w K mg base N qual (defScope st) f cdv A outer s H E).nox (defBody st) b) : FnOk P w K mg base CX0 (k + 1) f fd ps (spM K ps.length (fnB N.length b)) := by
  refine Fun.ok F S (fun vs H Q E h => h.1) fun cdv A outer s H vs Q E hr hsp => ⟨_, hbody cdv A outer s H E hr, ?_⟩
  obtain ⟨_, mu, St, ds, d, S', h1, h2, h3, h4⟩ := hsp
  unfold fnB at h3
  obtain ⟨⟨fl, r', S1⟩, e1, h3⟩ := Option.bind_eq_some_iff.mp h3
  refine ⟨_, mu, St, fl, r', S1, start_env N h1, h2, e1, ?_⟩
  cases fl with
  | nx => cases h3; exact fun σ' H' mu' x he s => h4 .non H' mu' x .non s
  | rt d => cases h3; exact h4
  | bk => cases h3
  | ct => cases h3
end Mi

end
section
set_option Elab.async false
set_option linter.all false
set_option maxRecDepth 100000
namespace Mi
open PySem PySem.Spec PyProof.Rows L2

/-! ### the closure of a comprehension -/
def cloF (cells : List (Str × Addr)) : List (Str × NameKind) → List (Str × Addr) → Option (List (Str × Addr))
  | [], acc => some acc
  | (n, k) :: r, acc => if k == .free then (cells.lookup n).bind fun c => cloF cells r ((n, c) :: acc) else cloF cells r acc
theorem clo_go {env : Env} (f : Str × NameKind → List (Str × Addr) → Sem (ForInStep (List (Str × Addr))))
    (hf : ∀ n k cs, f (n, k) cs = if k == .free then (do let c ← cellOf env n; pure (.yield ((n, c) :: cs))) else pure (.yield cs)) :
    ∀ (names : List (Str × NameKind)) (acc cl : List (Str × Addr)), cloF env.cells names acc = some cl → forIn names acc f = (pure cl : Sem (List (Str × Addr)))
  | [], acc, cl, h => by cases h; rfl
  | (n, k) :: r, acc, cl, h => by
    rw [List.forIn_cons, hf]
    unfold cloF at h
    split at h
    · rename_i hk
      rw [if_pos hk]
      obtain ⟨c, e, h⟩ := Option.bind_eq_some_iff.mp h
      have : cellOf env n = pure c := by unfold cellOf; rw [e]
      rw [this, pure_bind, pure_bind]
      exact clo_go f hf r _ cl h
    · rename_i hk
      rw [if_neg hk, pure_bind]
      exact clo_go f hf r _ cl h
theorem clo_eq {scope : Scope} {env : Env} {cl : List (Str × Addr)} (h : cloF env.cells scope.names [] = some cl) : closureFor scope env = pure cl := by
  simp only [closureFor]
  rw [clo_go (env := env) _ (fun n k cs => by cases hk : k == NameKind.free <;> simp [hk]) scope.names [] cl h]
  rfl
theorem clo_of {cells : List (Str × Addr)} : ∀ {names : List (Str × NameKind)} {acc cl : List (Str × Addr)}, cloF cells names acc = some cl → (∀ x c, acc.lookup x = some c → cells.lookup x = some c) → ∀ x c, cl.lookup x = some c → cells.lookup x = some c
  | [], acc, cl, h, ha => by cases h; exact ha
  | (n, k) :: r, acc, cl, h, ha => by
    unfold cloF at h
    split at h
    · obtain ⟨c, e, h⟩ := Option.bind_eq_some_iff.mp h
      refine clo_of h fun x c' q => ?_
      rw [List.lookup_cons] at q
      split at q
      · rename_i hx
        cases q
        rw [beq_iff_eq.mp hx]; exact e
      · exact ha x c' q
    · exact clo_of h ha
theorem clo_has {cells : List (Str × Addr)} {x : Str} : ∀ {names : List (Str × NameKind)} {acc cl : List (Str × Addr)}, cloF cells names acc = some cl → (names.lookup x = some .free ∨ (acc.lookup x).isSome = true) → (cl.lookup x).isSome = true
  | [], acc, cl, h, ha => by
    cases h
    rcases ha with q | q
    · cases q
    · exact q
  | (n, k) :: r, acc, cl, h, ha => by
    unfold cloF at h
    split at h
    · obtain ⟨c, e, h⟩ := Option.bind_eq_some_iff.mp h
      refine clo_has h ?_
      rcases ha with q | q
      · rw [List.lookup_cons] at q
        split at q
        · rename_i hx
          right; rw [List.lookup_cons, hx]; rfl
        · exact .inl q
      · right
        rw [List.lookup_cons]
        split
        · rfl
        · exact q
    · rename_i hk
      refine clo_has h ?_
      rcases ha with q | q
      · rw [List.lookup_cons] at q
        split at q
        · cases q
          exact absurd rfl hk
        · exact .inl q
      · exact .inr q

/-! ### the cells of the block: its own, ahead of the closure's -/
theorem cellsFrom_old {x : Str} {c : Addr} : ∀ {names : List (Str × NameKind)} {n : Nat} {acc : List (Str × Addr)}, (cellsFrom n names acc).lookup x = some c → (n ≤ c ∧ (x, c) ∈ cellsFrom n names []) ∨ acc.lookup x = some c
  | [], _, _, h => .inr h
  | (y, k) :: r, n, acc, h => by
    unfold cellsFrom at h ⊢
    split at h
    · rename_i hk
      rw [if_pos hk]
      have app : ∀ (names : List (Str × NameKind)) (m : Nat) (acc : List (Str × Addr)), cellsFrom m names acc = cellsFrom m names [] ++ acc := by
        intro names
        induction names with
        | nil => intro m acc; rfl
        | cons p r ih =>
          obtain ⟨z, q⟩ := p
          intro m acc
          unfold cellsFrom
          split
          · rw [ih _ ((z, m) :: acc), ih _ [(z, m)], List.append_assoc]; rfl
          · exact ih m acc
      rcases cellsFrom_old h with ⟨h1, h2⟩ | h1
      · refine .inl ⟨by omega, ?_⟩
        rw [app]; exact List.mem_append_left _ h2
      · rw [List.lookup_cons] at h1
        split at h1
        · rename_i hx
          cases h1
          refine .inl ⟨Nat.le_refl _, ?_⟩
          rw [app, beq_iff_eq.mp hx]
          exact List.mem_append_right _ List.mem_cons_self
        · exact .inr h1
    · rename_i hk
      rw [if_neg hk]
      exact cellsFrom_old h
theorem cellsFrom_own {x : Str} {c : Addr} {n : Nat} {acc : List (Str × Addr)} {names : List (Str × NameKind)} (hx : names.lookup x = some .cell) (h : (cellsFrom n names acc).lookup x = some c) : n ≤ c := by
  have app : ∀ (names : List (Str × NameKind)) (m : Nat) (acc : List (Str × Addr)), cellsFrom m names acc = cellsFrom m names [] ++ acc := by
    intro names
    induction names with
    | nil => intro m acc; rfl
    | cons p r ih =>
      obtain ⟨z, q⟩ := p
      intro m acc
      unfold cellsFrom
      split
      · rw [ih _ ((z, m) :: acc), ih _ [(z, m)], List.append_assoc]; rfl
      · exact ih m acc
  rw [app, List.lookup_append] at h
  have q := PySem.W.cellsFrom_some names n [] (.inl hx)
  obtain ⟨c', e⟩ := Option.isSome_iff_exists.mp q
  rw [e] at h
  cases h
  rcases cellsFrom_old e with ⟨h1, _⟩ | h1
  · exact h1
  · cases h1

theorem newEnv_around {M : Model} {A : Around} {E : Value → Shared → Prop} {s : Shared} {scope : Scope} {globals : Addr} {cl : List (Str × Addr)} {qual : Str} {func : Option Addr} {code : Value} {env : Env} {b : Addr} {Q : Env → Shared → Prop}
    (hQ : Q { scope, locals := s.heap.objs.size, globals, cells := cellsFrom (s.heap.objs.size + 1) scope.names cl, qual, func, code := env.code, frame := env.frame, builtins := env.builtins }
      { s with heap := pushCells (s.heap.push { cls := .type "dict", data := .dict #[] }) scope.names }) :
    wpAny M A (newFunctionEnv scope globals cl [] qual func code (some env) b) Q E s := by
  simp only [newFunctionEnv, Option.isSome_some, if_true]
  refine wpAny_bind (wpAny_alloc ?_)
  refine wpAny_bind (wpAny_layCells _ (fun name kind cells => by cases hkc : kind == NameKind.cell <;> simp [hkc]) _ _ _ _ ?_)
  rw [show ({ s with heap := s.heap.push { cls := .type "dict", data := .dict #[] } } : Shared).heap.objs.size = s.heap.objs.size + 1 from Heap.size_push ..]
  refine wpAny_bind ?_
  rw [List.forIn_nil]
  exact wpAny_pure (wpAny_pure hQ)

/-! ### the block's context -/
def cxC (X : Cx) (scope : Scope) (cl : List (Str × Addr)) (T : List Str) (keep : List Nat) (s : Shared) (H : Hp) (fp : List Addr) : Cx where
  prog := X.prog
  w := X.w
  K := X.K
  mg := X.mg
  base := X.base
  A := X.A
  N := T ++ keep.map fun i => X.N.getD i (Str.ofString "")
  s₀ := s
  H₀ := H
  env := compEnvC scope (cellsFrom (s.heap.objs.size + 1) scope.names cl) s.heap.objs.size X.env
  outer := X.stack
  stack := X.stack
  ex := fp
  fn := fun x => scope.names.lookup x == some .cell
  calm := X.calm
  pn := []
  xe := fun _ _ => False
/-- the names' values at the block's entry -/
def inSt (k : Nat) (keep : List Nat) (σ : L2.St) : L2.St := List.replicate k none ++ keep.map fun i => (σ[i]?).join

theorem lookup_relabel {env : Env} {x : Str} : ∀ {names : List (Str × NameKind)}, 
    (names.map fun (n, k) => if (k == NameKind.free && env.scope.kind == .function && env.kindOf n == some .cell) then (n, NameKind.cell) else (n, k)).lookup x =
      (names.lookup x).map fun k => if (k == NameKind.free && env.scope.kind == .function && env.kindOf x == some .cell) then NameKind.cell else k
  | [] => rfl
  | (n, k) :: r => by
    show List.lookup x ((if (k == NameKind.free && env.scope.kind == .function && env.kindOf n == some .cell) = true then (n, NameKind.cell) else (n, k)) :: _) = _
    cases hx : x == n with
    | true =>
      have e := beq_iff_eq.mp hx
      subst e
      by_cases hc : (k == NameKind.free && env.scope.kind == .function && env.kindOf x == some .cell) = true
      · rw [if_pos hc, List.lookup_cons, hx, List.lookup_cons, hx]; simp only [Option.map_some, if_pos hc]
      · rw [if_neg hc, List.lookup_cons, hx, List.lookup_cons, hx]; simp only [Option.map_some, if_neg hc]
    | false =>
      have ih := @lookup_relabel env x r
      by_cases hc : (k == NameKind.free && env.scope.kind == .function && env.kindOf n == some .cell) = true
      · rw [if_pos hc, List.lookup_cons, hx, List.lookup_cons, hx]; exact ih
      · rw [if_neg hc, List.lookup_cons, hx, List.lookup_cons, hx]; exact ih

structure CSc (X : Cx) (scope : Scope) (T : List Str) (keep : List Nat) : Prop where
  kind : scope.kind = .function
  names : ∀ x ∈ scope.names, x.2 = .local → scope.names.lookup x.1 = some .local
  free : ∀ i ∈ keep, ∃ x, X.N[i]? = some x ∧ scope.names.lookup x = some .free ∧ (X.env.kindOf x = some .cell ∨ X.env.kindOf x = some .free) ∧ (x, NameKind.cell) ∉ scope.names

theorem inv_comp {X : Cx} {pins : List (Addr × Obj)} {σ : L2.St} {H : Hp} {s : Shared} {scope : Scope} {cl : List (Str × Addr)} {T : List Str} {keep : List Nat} {fp : List Addr} (I : Inv X pins σ H s)
    (C : CSc X scope T keep) (hcl : cloF X.env.cells scope.names [] = some cl) (hf : ∀ b ∈ fp, FpOk X pins H b) (hfo : ∀ b ∈ fp, ∃ o, s.heap.get? b = some o) :
    Inv (cxC X scope cl T keep s H fp) [] (inSt T.length keep σ) H { s with heap := pushCells (s.heap.push { cls := .type "dict", data := .dict #[] }) scope.names } := by
  have kept : ∀ b o, s.heap.get? b = some o → (pushCells (s.heap.push { cls := .type "dict", data := .dict #[] }) scope.names).get? b = some o := fun b o e => pushCells_keeps _ _ b o (Heap.get?_push_of_some _ e)
  have cok := cellsFrom_ok scope.names (s.heap.push { cls := .type "dict", data := .dict #[] }) (s.heap.objs.size + 1) [] ⟨fun _ _ hm => (nomatch hm), List.Pairwise.nil⟩ (by rw [Heap.size_push]; exact Nat.le_refl _)
  rw [Heap.size_push] at cok
  have clE := clo_of hcl (fun x c q => by cases q)
  -- a cell of the block: its own or an elder one
  have cells : ∀ x c, (cellsFrom (s.heap.objs.size + 1) scope.names cl).lookup x = some c → (s.heap.objs.size + 1 ≤ c ∧ (x, c) ∈ cellsFrom (s.heap.objs.size + 1) scope.names []) ∨ X.env.cells.lookup x = some c := fun x c h => by
    rcases cellsFrom_old h with h1 | h1
    · exact .inl h1
    · exact .inr (clE x c h1)
  have oldLt : ∀ x c, X.env.cells.lookup x = some c → c < s.heap.objs.size := fun x c e => by
    obtain ⟨v, z⟩ := I.cell x c e
    exact z.lt
  have fpLt : ∀ b ∈ fp, b < s.heap.objs.size := fun b hb => by
    obtain ⟨o, e⟩ := hfo b hb
    exact Heap.lt_size e
  have fst : ∀ b ∈ fp, b ∉ frs X.stack := fun b hb z => by
    rcases List.mem_cons.mp (I.stkSub b z) with q | q
    · exact (hf b hb).2.1 q
    · exact (hf b hb).2.2.1 q
  have kindOf : ∀ x, (cxC X scope cl T keep s H fp).env.kindOf x = (scope.names.lookup x).map fun k => if (k == NameKind.free && X.env.scope.kind == .function && X.env.kindOf x == some .cell) then NameKind.cell else k := fun x => lookup_relabel
  refine ⟨⟨I.ok.mod, C.kind, I.ok.glob, I.ok.blt, Nat.le_refl _, fun x y c h1 h2 => ?_, fun x hx => ?_, fun x c h1 h2 => ?_, I.ok.hd, I.ok.frames, .inl rfl, fun b hb => ⟨Nat.ne_of_lt (fpLt b hb), fun x c h z => ?_⟩, fun b o e => I.bs b o e, Nat.le_trans I.ok.bsz I.sz, fun b o e hb => ?_, fst, I.stack, I.stkFree⟩,
    rfl, I.bare, Un.kept kept, ⟨fun _ => none, (Heap.Ns.new s.heap (.type "dict")).keeps (pushCells_keeps _ _), fun i x v h1 h2 h3 => ?_⟩, fun x c h => ?_, I.hok.fresh (Nat.le_refl _), fun x c h => ?_, fun p hp => absurd (show p ∈ ([] : List (Addr × Obj)) from hp) (by simp), I.hok.kept kept, ?_⟩
  · rcases cells x c h1 with ⟨a1, a2⟩ | a1 <;> rcases cells y c h2 with ⟨b1, b2⟩ | b1
    · exact name_of_addr cok.apart a2 b2
    · exact absurd (Nat.lt_of_le_of_lt (Nat.le_of_succ_le a1) (oldLt y c b1)) (Nat.lt_irrefl _)
    · exact absurd (Nat.lt_of_le_of_lt (Nat.le_of_succ_le b1) (oldLt x c a1)) (Nat.lt_irrefl _)
    · exact I.ok.inj x y c a1 b1
  · have hx' : scope.names.lookup x = some .cell ∨ scope.names.lookup x = some .free := by
      rw [kindOf x] at hx
      cases e : scope.names.lookup x with
      | none => rw [e] at hx; rcases hx with z | z <;> cases z
      | some k =>
        rw [e] at hx
        simp only [Option.map_some] at hx
        cases k <;> simp_all
    have : ((cellsFrom (s.heap.objs.size + 1) scope.names cl).lookup x).isSome = true := by
      rcases hx' with z | z
      · exact PySem.W.cellsFrom_some _ _ _ (.inl z)
      · exact PySem.W.cellsFrom_some _ _ _ (.inr (clo_has hcl (.inl z)))
    exact Option.isSome_iff_exists.mp this
  · have h1' : scope.names.lookup x = some .cell := by simpa [cxC] using h1
    have := cellsFrom_own h1' h2
    exact Nat.le_trans (Nat.le_succ _) this
  · subst z
    rcases cells x c h with ⟨a1, _⟩ | a1
    · exact absurd (Nat.lt_of_le_of_lt (Nat.le_of_succ_le a1) (fpLt c hb)) (Nat.lt_irrefl _)
    · exact (hf c hb).2.2.2.2.1 x c a1 rfl
  · rcases (hf b hb).2.2.2.1 with z | z
    · exact I.ok.noex b o e z
    · exact absurd (Nat.lt_of_lt_of_le (Heap.lt_size e) (Nat.le_trans I.ok.bsz z)) (Nat.lt_irrefl _)
  · -- a name of the block that has a value: one of the outer text's
    have hi : T.length ≤ i := by
      refine Nat.le_of_not_lt fun hi => ?_
      unfold inSt at h2
      rw [List.getElem?_append_left (by rw [List.length_replicate]; exact hi), List.getElem?_replicate] at h2
      split at h2 <;> cases h2
    unfold inSt at h2
    rw [List.getElem?_append_right (by rw [List.length_replicate]; exact hi), List.length_replicate, List.getElem?_map] at h2
    obtain ⟨j, ej, h2⟩ := Option.map_eq_some_iff.mp h2
    have h1' : X.N.getD j (Str.ofString "") = x := by
      have h1' : (T ++ keep.map fun i => X.N.getD i (Str.ofString ""))[i]? = some x := h1
      rw [List.getElem?_append_right hi, List.getElem?_map, ej] at h1'
      exact Option.some.inj h1'
    obtain ⟨y, ey, fy, ky, ny⟩ := C.free j (List.mem_of_getElem? ej)
    have exy : y = x := by rw [← h1', List.getD_eq_getElem?_getD, ey]; rfl
    subst exy
    have h2' : σ[j]? = some (some v) := by
      cases e : σ[j]? with
      | none => rw [e] at h2; cases h2
      | some o => rw [e] at h2; cases h2; rfl
    obtain ⟨m, hn, hl⟩ := I.loc
    obtain ⟨u, ru, lu⟩ := hl j y v ey h2' (by
      rcases ky with z | z
      · exact .inr (.inl z)
      · exact .inr (.inr z))
    refine ⟨u, ru, ?_⟩
    rcases lu with ⟨z, _⟩ | ⟨_, c, ec, zc⟩
    · rcases ky with q | q <;> (rw [z] at q; cases q)
    · right
      refine ⟨?_, c, ?_, zc.keeps kept⟩
      · rw [kindOf, fy]
        simp only [Option.map_some]
        split
        · exact .inl rfl
        · exact .inr rfl
      · obtain ⟨c', e'⟩ := Option.isSome_iff_exists.mp (PySem.W.cellsFrom_some scope.names (s.heap.objs.size + 1) cl (.inr (clo_has hcl (.inl fy))) : ((cellsFrom (s.heap.objs.size + 1) scope.names cl).lookup y).isSome = true)
        have e2 : (cellsFrom (s.heap.objs.size + 1) scope.names cl).lookup y = some c' := e'
        rcases cells y c' e2 with ⟨a1, a2⟩ | a1
        · -- an own cell of that name: its kind would be cell
          exfalso
          have : ∀ (names : List (Str × NameKind)) (n : Nat), (y, c') ∈ cellsFrom n names [] → (y, NameKind.cell) ∈ names := by
            have app : ∀ (names : List (Str × NameKind)) (m : Nat) (acc : List (Str × Addr)), cellsFrom m names acc = cellsFrom m names [] ++ acc := by
              intro names
              induction names with
              | nil => intro m acc; rfl
              | cons p r ih =>
                obtain ⟨z, q⟩ := p
                intro m acc
                unfold cellsFrom
                split
                · rw [ih _ ((z, m) :: acc), ih _ [(z, m)], List.append_assoc]; rfl
                · exact ih m acc
            intro names
            induction names with
            | nil => intro n h; cases h
            | cons p r ih =>
              obtain ⟨z, q⟩ := p
              intro n h
              unfold cellsFrom at h
              split at h
              · rename_i hq
                rw [app] at h
                rcases List.mem_append.mp h with h | h
                · exact List.mem_cons_of_mem _ (ih _ h)
                · have : (y, c') = (z, n) := by simpa using h
                  cases this
                  have hq' : q = NameKind.cell := by simpa using hq
                  subst hq'
                  exact List.mem_cons_self
              · exact List.mem_cons_of_mem _ (ih _ h)
          exact ny (this _ _ a2)
        · rw [ec] at a1; cases a1
          exact e2
  · rcases cells x c h with ⟨a1, a2⟩ | a1
    · exact ⟨_, (cok.empty x c a2).1⟩
    · obtain ⟨v, z⟩ := I.cell x c a1
      exact ⟨v, z.keeps kept⟩
  · rcases cells x c h with ⟨a1, a2⟩ | a1
    · exact I.hok.fresh (Nat.le_of_succ_le a1)
    · exact I.freeC x c a1
  · show (inSt T.length keep σ).length = (T ++ keep.map fun i => X.N.getD i (Str.ofString "")).length
    unfold inSt
    rw [List.length_append, List.length_append, List.length_replicate, List.length_map, List.length_map]

/-! ### one turn -/
def turnT (p : Pos) (tg : Expr) (ifs : List Expr) (it : Value) (env : Env) (emit : Sem Unit) (c : Code) : Sem PySem.Fin := do
  standAt p
  match ← pyNext it with
  | none => pure (.done .next)
  | some v =>
    letOwnedTupleGo tg it v
    assign tg env v
    let mut ok := true
    for c in ifs do
      if ok then ok ← isTrue c env (eval c env)
    if ok then emit
    again c
def emitE (elt : Expr) (acc : Value) (env : Env) : Sem Unit := do let _ ← call (.builtin "list.append") [acc, ← eval elt env]
def emitN (e : Expr) (iter : Expr) (acc : Value) (env : Env) : Sem Unit := do
  let x ← eval iter env
  standAt iter.pos
  let x ← foldedSetIterable iter env x
  let _ ← runOwn (.compStart e 1 (← holding [x] (pyIter x)) acc env) env
theorem turn_A (elt tg iter : Expr) (ifs : List Expr) (scope : Scope) (pos : Pos) (it acc : Value) (env : Env) :
    compTurn (.ListComp elt [⟨tg, iter, ifs, 0⟩] scope pos) 0 it acc env = turnT iter.pos tg ifs it env (emitE elt acc env) (.compLoop (.ListComp elt [⟨tg, iter, ifs, 0⟩] scope pos) 0 it acc env) := by rfl
def turnN (p : Pos) (tg : Expr) (ifs : List Expr) (it : Value) (env : Env) (e iter : Expr) (acc : Value) (c : Code) : Sem PySem.Fin := do
  standAt p
  match ← pyNext it with
  | none => pure (.done .next)
  | some v =>
    letOwnedTupleGo tg it v
    assign tg env v
    let mut ok := true
    for c in ifs do
      if ok then ok ← isTrue c env (eval c env)
    if ok then
      let x ← eval iter env
      standAt iter.pos
      let x ← foldedSetIterable iter env x
      let _ ← runOwn (.compStart e 1 (← holding [x] (pyIter x)) acc env) env
    again c
theorem turnN_T (p : Pos) (tg : Expr) (ifs : List Expr) (it : Value) (env : Env) (e iter : Expr) (acc : Value) (c : Code) : turnN p tg ifs it env e iter acc c = turnT p tg ifs it env (emitN e iter acc env) c := by
  unfold turnN turnT emitN
  simp only [bind_assoc, pure_bind]
theorem turn_B (elt tg iter tg2 iter2 : Expr) (ifs ifs2 : List Expr) (scope : Scope) (pos : Pos) (it acc : Value) (env : Env) :
    compTurn (.ListComp elt [⟨tg, iter, ifs, 0⟩, ⟨tg2, iter2, ifs2, 0⟩] scope pos) 0 it acc env =
      turnT iter.pos tg ifs it env (emitN (.ListComp elt [⟨tg, iter, ifs, 0⟩, ⟨tg2, iter2, ifs2, 0⟩] scope pos) iter2 acc env) (.compLoop (.ListComp elt [⟨tg, iter, ifs, 0⟩, ⟨tg2, iter2, ifs2, 0⟩] scope pos) 0 it acc env) := by
  rw [← turnN_T]; rfl
theorem turn_C (elt tg iter tg2 iter2 : Expr) (ifs ifs2 : List Expr) (scope : Scope) (pos : Pos) (it acc : Value) (env : Env) :
    compTurn (.ListComp elt [⟨tg, iter, ifs, 0⟩, ⟨tg2, iter2, ifs2, 0⟩] scope pos) 1 it acc env =
      turnT iter2.pos tg2 ifs2 it env (emitE elt acc env) (.compLoop (.ListComp elt [⟨tg, iter, ifs, 0⟩, ⟨tg2, iter2, ifs2, 0⟩] scope pos) 1 it acc env) := by rfl

/-- what stands behind the target's store -/
def PIfs (X : Cx) (ifs : List Expr) (t : TT) : Prop :=
  ∀ (pins : List (Addr × Obj)) (s : Shared) (σ : L2.St) (H : Hp) (Q : Bool → Hp → Prop), Inv X pins σ H s → t σ H Q →
    wpAny (model X.prog X.w) X.A (forIn ifs true fun c r => if r = true then do let ok ← isTrue c X.env (eval c X.env); pure (ForInStep.yield ok) else pure (ForInStep.yield r)) (TP X pins σ Q) X.xe s
theorem pifs_nil {X : Cx} : PIfs X [] (fun σ H Q => Q true H) := fun pins s σ H Q I h => wpAny_tests_nil ⟨H, I, h⟩
theorem pifs_one {X : Cx} {c : Expr} {t : TT} (h : PT X c t) : PIfs X [c] t := fun pins s σ H Q I q => wpAny_tests_one (h pins s σ H Q I q)
def PU (X : Cx) (m : Sem Unit) (t : TS) : Prop :=
  ∀ (pins : List (Addr × Obj)) (s : Shared) (σ : L2.St) (H : Hp) (E : Ends), Inv X pins σ H s → t E σ H → wpAny (model X.prog X.w) X.A m (fun _ s' => ∃ σ' H', Inv X pins σ' H' s' ∧ E.nx σ' H') X.xe s

/-- the loop of a clause -/
theorem comp_loop {X : Cx} (hx : X.xe = fun _ _ => False) (hc : X.calm = true) {elt : Expr} {gens : List Comprehension} {scope : Scope} {pos p : Pos} {d : Nat} {tg : Expr} {ifs : List Expr} {acc : Value} {emit : Sem Unit} {J : It} {fp : List Addr} {it : Addr} {tn : Nat → Heap → Prop} {g : TG} {ti : TT} {tb : TS}
    (eq : compTurn (.ListComp elt gens scope pos) d (.ref it) acc X.env = turnT p tg ifs (.ref it) X.env emit (.compLoop (.ListComp elt gens scope pos) d (.ref it) acc X.env))
    (T : Turn X.prog X.w X.K tg J fp it tn) (hg : PG X tg g) (hi : PIfs X ifs ti) (he : PU X emit tb)
    {pins : List (Addr × Obj)} {s : Shared} {σ : L2.St} {H : Hp} {D : Ends} (I : Inv X pins σ H s) (st : tn 0 s.heap) (f2 : ∀ b ∈ fp, FpOk X pins H b)
    (h : ∃ W : Nat → Nat → L2.St → Hp → Prop, (∃ m, W 0 m σ H) ∧ ∀ i m σ H, W i m σ H →
      (J.stop i H ∧ D.nx σ H) ∨ (J.go i H ∧ ∃ N : L2.St → Hp → Prop, (∀ σ' H', N σ' H' → ∃ m', m' < m ∧ W (i + 1) m' σ' H') ∧ ∀ x H', J.yld i H x H' → g x σ H' fun σ2 H2 => ti σ2 H2 fun b H3 => if b = true then tb { D with nx := N } σ2 H3 else N σ2 H3)) :
    codeAny (model X.prog X.w) X.A (.compLoop (.ListComp elt gens scope pos) d (.ref it) acc X.env) (fun r s' => match r with | .ok _ => ∃ σ' H', Inv X pins σ' H' s' ∧ D.nx σ' H' | .error _ => False) s := by
  obtain ⟨W, ⟨m0, w0⟩, turn⟩ := h
  have stat : ∀ {H' : Hp}, (∀ b ∈ fp, H' b = none) → ∀ b ∈ fp, FpOk X pins H' b := fun hn b hb => ⟨hn b hb, (f2 b hb).2⟩
  refine codeAny_loop rfl (fun n s' => ∃ i σ' H', Inv X pins σ' H' s' ∧ tn i s'.heap ∧ (∀ b ∈ fp, H' b = none) ∧ W i n σ' H') ?_ m0 ⟨0, σ, H, I, st, fun b hb => (f2 b hb).1, w0⟩
  rintro n s3 ⟨i, σ3, H3, I3, st3, fr3, w3⟩
  show wpAny _ _ ((compTurn (.ListComp elt gens scope pos) d (.ref it) acc X.env).onRaise (fun x => do noteFrame x X.env; theTreesLotGoes x)) _ _ s3
  refine wpAny_noted ?_
  rw [eq]
  have no : ∀ {α : Type} {m : Sem α} {Q : α → Shared → Prop} {s : Shared} {E : Value → Shared → Prop}, wpAny (model X.prog X.w) X.A m Q X.xe s → wpAny (model X.prog X.w) X.A m Q E s := fun h => by
    rw [hx] at h
    exact wpAny_mono h (fun _ _ q => q) fun _ _ q => q.elim
  unfold turnT
  refine wpAny_bind (wpAny_standAt (wpAny_bind ?_))
  rcases turn i n σ3 H3 w3 with ⟨stop, qn⟩ | ⟨go, N, hN, step⟩
  · refine no (thn (T.done X rfl rfl rfl hc i pins s3 σ3 H3 X.xe I3 (stat fr3) st3 stop) fun r s4 ⟨hr, I4⟩ => ?_)
    subst hr
    exact wpAny_pure ⟨σ3, H3, I4, qn⟩
  · refine no (thn (T.item X rfl rfl rfl hc i pins s3 σ3 H3 X.xe I3 (stat fr3) st3 go) fun r s4 ⟨u, hr, h4⟩ => ?_)
    subst hr
    refine wpAny_bind (no (thn h4 fun _ s5 ⟨x, H5, I5, r5, y5, st5, fr5⟩ => ?_))
    have I5' := I5.pinned (stat fr5) (T.obj _ _ st5)
    refine wpAny_bind (no (thn (hg _ s5 σ3 H5 x u _ I5' r5 (step x H5 y5)) fun _ s6 ⟨σ6, H6, I6, q6⟩ => ?_))
    refine wpAny_bind (no (thn (hi _ s6 σ6 H6 _ I6 q6) fun ok s7 ⟨H7, I7, q7⟩ => ?_))
    have again' : ∀ {σ7 : L2.St} {H7 : Hp} {s7 : Shared}, Inv X (pins ++ pinsAt fp s5.heap) σ7 H7 s7 → N σ7 H7 → ∃ m, m < n ∧ ∃ i σ' H', Inv X pins σ' H' s7 ∧ tn i s7.heap ∧ (∀ b ∈ fp, H' b = none) ∧ W i m σ' H' := fun {σ7 H7 s7} I7 n7 => by
      obtain ⟨m', hm, w7⟩ := hN σ7 H7 n7
      refine ⟨m', hm, i + 1, σ7, H7, I7.unpinned, T.keep _ _ _ st5 fun b hb o e => (I7.pin (b, o) (List.mem_append_right _ (List.mem_append_right _ (mem_pinsAt hb e)))).1, fun b hb => ?_, w7⟩
      obtain ⟨o, e, d⟩ := T.obj _ _ st5 b hb
      exact (I7.pin (b, o) (List.mem_append_right _ (List.mem_append_right _ (mem_pinsAt hb e)))).2.1
    cases ok with
    | false => exact wpAny_pure ⟨rfl, again' I7 q7⟩
    | true => exact wpAny_bind (no (thn (he _ s7 σ6 H7 _ I7 q7) fun _ s8 ⟨σ8, H8, I8, q8⟩ => wpAny_pure ⟨rfl, again' I8 q8⟩))

/-! ### what a turn hands on -/
def tEmit (p : Addr) (te : TE) : TS := fun D σ H => te σ H fun x H1 => ∃ xs, H1 p = some (.lst xs) ∧ xs.length < sizeLine ∧ D.nx σ (upd H1 p (.lst (xs ++ [x])))
theorem pu_emit {X : Cx} {elt : Expr} {te : TE} (h : PE X elt te) (p : Addr) : PU X (emitE elt (.ref p) X.env) (tEmit p te) := by
  intro pins s σ H E I q
  unfold emitE
  refine wpAny_bind (thn (h pins s σ H _ I q) fun u s1 ⟨x, H1, I1, r1, xs, e1, hl, q1⟩ => ?_)
  refine wpAny_bind (thn (mt_append pins s1 σ H1 (.ref p) [x] (.ref p) [u] (fun _ H' => E.nx σ H') I1 rfl (.cons r1 .nil) ⟨p, xs, x, rfl, rfl, e1, hl, q1⟩) fun _ s2 ⟨_, H2, I2, _, q2⟩ => ?_)
  exact wpAny_pure ⟨σ, H2, I2, q2⟩
def tLoop (J : It) (g : TG) (ti : TT) (tb : TS) : TS := fun D σ H => ∃ W : Nat → Nat → L2.St → Hp → Prop, (∃ m, W 0 m σ H) ∧ ∀ i m σ H, W i m σ H →
  (J.stop i H ∧ D.nx σ H) ∨ (J.go i H ∧ ∃ N : L2.St → Hp → Prop, (∀ σ' H', N σ' H' → ∃ m', m' < m ∧ W (i + 1) m' σ' H') ∧ ∀ x H', J.yld i H x H' → g x σ H' fun σ2 H2 => ti σ2 H2 fun b H3 => if b = true then tb { D with nx := N } σ2 H3 else N σ2 H3)
def tNest (wi : TI) (g : TG) (ti : TT) (tb : TS) : TS := fun D σ H => wi σ H fun J H1 => tLoop J g ti tb D σ H1
theorem compStart_1 {prog : Program} {w : World} {A : Around} {R : Result → Shared → Prop} {s : Shared} {elt tg iter tg2 iter2 : Expr} {ifs ifs2 : List Expr} {scope : Scope} {pos : Pos} {it acc : Value} {env : Env}
    (h0 : codeAny (model prog w) A (.compLoop (.ListComp elt [⟨tg, iter, ifs, 0⟩, ⟨tg2, iter2, ifs2, 0⟩] scope pos) 1 it acc env) R s)
    (h : wpAny (model prog w) A (pyIter it) (fun it' s' => codeAny (model prog w) A (.compLoop (.ListComp elt [⟨tg, iter, ifs, 0⟩, ⟨tg2, iter2, ifs2, 0⟩] scope pos) 1 it' acc env) R s')
      (notedBy (model prog w) A env fun x s' => R (.error x) s') s) :
    codeAny (model prog w) A (.compStart (.ListComp elt [⟨tg, iter, ifs, 0⟩, ⟨tg2, iter2, ifs2, 0⟩] scope pos) 1 it acc env) R s := by
  refine codeAny_of_tree ?_
  show wpAny _ _ ((compStart (.ListComp elt [⟨tg, iter, ifs, 0⟩, ⟨tg2, iter2, ifs2, 0⟩] scope pos) 1 it acc env).onRaise (fun x => do noteFrame x env; standAt theWindowsPlace)) _ _ s
  refine wpAny_notedAt ?_
  unfold compStart
  show wpAny _ _ (ask >>= _) _ _ s
  refine wpAny_bind (wpAny_askSetting (wpAny_ite ?_))
  split
  · first
      | exact wpAny_bind (wpAny_pure (wpAny_pure (And.intro rfl h0)))
      | exact wpAny_pure (And.intro rfl h0)
  · first
      | exact wpAny_bind (wpAny_rule (wpAny_bind (wpAny_standAt (wpAny_bind (wpAny_mono h (fun it' s' h' => wpAny_pure (And.intro rfl h')) fun _ _ x => x)))))
      | (refine wpAny_bind (wpAny_rule ?_); show wpAny _ _ (standAt iter2.pos >>= _) _ _ s; exact wpAny_bind (wpAny_standAt (wpAny_bind (wpAny_mono h (fun it' s' h' => wpAny_pure (And.intro rfl h')) fun _ _ x => x))))
theorem pu_nest {X : Cx} (hx : X.xe = fun _ _ => False) (hc : X.calm = true) {elt tg iter tg2 iter2 : Expr} {ifs ifs2 : List Expr} {scope : Scope} {pos : Pos} {acc : Value} {wi : TI} {g : TG} {ti : TT} {tb : TS}
    (hi : PI X tg2 iter2 wi) (hg : PG X tg2 g) (hf : PIfs X ifs2 ti) (he : PU X (emitE elt acc X.env) tb) (hs : ∀ x, foldedSetIterable iter2 X.env x = pure x := by intro _; rfl) :
    PU X (emitN (.ListComp elt [⟨tg, iter, ifs, 0⟩, ⟨tg2, iter2, ifs2, 0⟩] scope pos) iter2 acc X.env) (tNest wi g ti tb) := by
  intro pins s σ H E I q
  unfold emitN
  refine wpAny_bind (thn (hi pins s σ H _ I q) fun v s1 h1 => ?_)
  refine wpAny_bind (wpAny_standAt (wpAny_bind (wpAny_of_eq (hs v) (wpAny_bind (wpAny_holding (thn h1 fun itv s2 h2 => ?_))))))
  obtain ⟨it, fp, tn, J, H2, rfl, I2, T, st2, f2, q2⟩ := h2
  have loop := comp_loop hx hc (turn_C elt tg iter tg2 iter2 ifs ifs2 scope pos (.ref it) acc X.env) T hg hf he I2 st2 f2 q2
  refine wpAny_bind (wpAny_runOwn (h := none) ?_)
  refine codeAny_mono (compStart_1 loop (T.self X.A 0 s2 _ _ st2 loop)) fun r s' hr => ?_
  cases r with
  | error e => exact hr.elim
  | ok f =>
    obtain ⟨σ', H', I', q'⟩ := hr
    exact wpAny_pure ⟨σ', H', I', q'⟩

/-! ### the whole -/
theorem Un.sameBut {fs ex : List Addr} {H H' : Hp} {h h1 h2 : Heap} {c : Addr} (u : Un fs ex H H' h h1) (hs : Heap.SameBut c h1 h2) (hc : h.get? c = none) : Un fs ex H H' h h2 := by
  have ne : ∀ {b o}, h.get? b = some o → b ≠ c := fun e z => by rw [z, hc] at e; cases e
  refine ⟨fun b o e n hb hx => (hs.2 b (ne e)).trans (u.keep b o e n hb hx), fun b o e n hb hx => ?_, u.free, fun b o e hx => ?_, u.tups, u.frzs, u.tbls⟩
  · obtain ⟨sl, q⟩ := u.slot b o e n hb hx
    exact ⟨sl, (hs.2 b (ne e)).trans q⟩
  · obtain ⟨o', q⟩ := u.there b o e hx
    exact ⟨o', (hs.2 b (ne e)).trans q⟩
def tComp (k : Nat) (keep : List Nat) (wi : TI) (g : TG) (ti : TT) (tb : Addr → TS) : TE := fun σ H Q => wi σ H fun J H1 => ∀ p, H1 p = none →
  tLoop J g ti (tb p) { nx := fun _ H' => Q (.ref p) H', rt := fun _ _ => False } (inSt k keep σ) (upd H1 p (.lst []))
theorem pe_comp {X : Cx} (hc : X.calm = true) {elt tg iter : Expr} {ifs : List Expr} {rest : List Comprehension} {scope : Scope} {pos : Pos} {T : List Str} {keep : List Nat} {cl : List (Str × Addr)} {wi : TI} {g : TG} {ti : TT} {tb : Addr → TS} {emit : Value → Env → Sem Unit}
    (eq : ∀ it acc env, compTurn (.ListComp elt (⟨tg, iter, ifs, 0⟩ :: rest) scope pos) 0 it acc env = turnT iter.pos tg ifs it env (emit acc env) (.compLoop (.ListComp elt (⟨tg, iter, ifs, 0⟩ :: rest) scope pos) 0 it acc env))
    (C : CSc X scope T keep) (hcl : cloF X.env.cells scope.names [] = some cl) (hi : PI X tg iter wi)
    (hb : ∀ s H fp p, PG (cxC X scope cl T keep s H fp) tg g ∧ PIfs (cxC X scope cl T keep s H fp) ifs ti ∧ PU (cxC X scope cl T keep s H fp) (emit (.ref p) (cxC X scope cl T keep s H fp).env) (tb p))
    (hs : ∀ x, foldedSetIterable iter X.env x = pure x := by intro _; rfl) :
    PE X (.ListComp elt (⟨tg, iter, ifs, 0⟩ :: rest) scope pos) (tComp T.length keep wi g ti tb) := by
  intro pins s σ H Q I h
  rw [eval_ListComp]
  refine wpAny_comprehension_free (use := none) rfl hs (clo_eq hcl) C.kind C.names ?_
  refine thn (hi pins s σ H _ I h) fun v s1 h1 => thn h1 fun itv s2 h2 => ?_
  obtain ⟨it, fp, tn, J, H2, rfl, I2, TT, st2, f2, q2⟩ := h2
  refine wpAny_newObj_type ?_
  have I3 : Inv X pins σ (upd H2 s2.heap.objs.size (.lst [])) { s2 with heap := s2.heap.push { cls := .type "list", data := .seq ([] : List Value).toArray } } := I2.lnew (t' := s2.toks) .nil (Nat.zero_le _)
  have old : ∀ b ∈ fp, ∃ o, s2.heap.get? b = some o := fun b hb => by
    obtain ⟨o, e, _⟩ := TT.obj 0 s2.heap st2 b hb
    exact ⟨o, e⟩
  have fne : ∀ b ∈ fp, b ≠ s2.heap.objs.size := fun b hb z => by
    obtain ⟨o, e⟩ := old b hb
    have := Heap.lt_size e
    rw [z] at this
    exact Nat.lt_irrefl _ this
  have f3 : ∀ b ∈ fp, FpOk X pins (upd H2 s2.heap.objs.size (.lst [])) b := fun b hb => ⟨by rw [upd_ne (fne b hb)]; exact (f2 b hb).1, (f2 b hb).2⟩
  have o3 : ∀ b ∈ fp, ∃ o, ({ s2 with heap := s2.heap.push { cls := .type "list", data := .seq ([] : List Value).toArray } } : Shared).heap.get? b = some o := fun b hb => by
    obtain ⟨o, e⟩ := old b hb
    exact ⟨o, Heap.get?_push_of_some _ e⟩
  have I4 := inv_comp I3 C hcl f3 o3
  obtain ⟨hg, hf, he⟩ := hb { s2 with heap := s2.heap.push { cls := .type "list", data := .seq ([] : List Value).toArray } } (upd H2 s2.heap.objs.size (.lst [])) fp s2.heap.objs.size
  refine newEnv_around ?_
  have f4 : ∀ b ∈ fp, FpOk (cxC X scope cl T keep { s2 with heap := s2.heap.push { cls := .type "list", data := .seq ([] : List Value).toArray } } (upd H2 s2.heap.objs.size (.lst [])) fp) [] (upd H2 s2.heap.objs.size (.lst [])) b := fun b hb =>
    ⟨(f3 b hb).1, (I4.ok.exf b hb).1, I4.ok.exfs b hb, .inl hb, (I4.ok.exf b hb).2, fun p hp => absurd (show p ∈ ([] : List (Addr × Obj)) from hp) (by simp)⟩
  have st4 : tn 0 (pushCells ((s2.heap.push { cls := .type "list", data := .seq ([] : List Value).toArray }).push { cls := .type "dict", data := .dict #[] }) scope.names) :=
    TT.keep 0 s2.heap _ st2 fun b hb o e => pushCells_keeps scope.names _ b o (Heap.get?_push_of_some _ (Heap.get?_push_of_some _ e))
  have loop := comp_loop (X := cxC X scope cl T keep { s2 with heap := s2.heap.push { cls := .type "list", data := .seq ([] : List Value).toArray } } (upd H2 s2.heap.objs.size (.lst [])) fp) rfl hc (eq (.ref it) (.ref s2.heap.objs.size) _) TT hg hf he I4 st4 f4
    (q2 s2.heap.objs.size (I2.hok.fresh (Nat.le_refl _)))
  refine codeAny_mono (codeAny_compStart_list loop (TT.self X.A 0 _ _ _ st4 loop)) fun r s' hr => ?_
  cases r with
  | error e => exact hr.elim
  | ok f =>
    obtain ⟨σ', H', I', q'⟩ := hr
    obtain ⟨m, hn, _⟩ := id I'.loc
    refine ⟨m, hn, fun h' hs' => ⟨.ref s2.heap.objs.size, H', ?_, rfl, q'⟩⟩
    refine I3.call' (s' := { s' with heap := h' }) (ch := fp) I'.os (Un.sameBut I'.base hs' (Heap.get?_none_of_le (Nat.le_refl _))) (fun b ob e => ?_) I'.bare fun b hb => (f3 b hb).2.2.2 |> fun z => ⟨z.1, (f3 b hb).2.1, z.2.1, z.2.2⟩
    refine (I'.hok b ob e).stay (fun c w' hc q => (hs'.2 c ?_).trans q) (fun _ q => q) fun _ _ q => q
    rintro rfl
    have fr := I'.free
    rcases hc with rfl | hc
    · exact nomatch fr.symm.trans e
    · exact nomatch fr.symm.trans hc
end Mi

end
section
set_option Elab.async false
set_option linter.all false
set_option maxRecDepth 100000
namespace Mi
open PySem PySem.Spec PyProof.Rows L2

/-! ### the store grows, an object of it changes -/
section
variable {K : PySem.W.Frag} {H : Hp} {mu : List Addr} {S : Sto} {p : Addr} {u : HO} {o : Ob} {n : Nat}
theorem Rd.ne {a : Addr} {x : HO} (h : H p = none) (q : Rd H a x) : a ≠ p := by
  rintro rfl
  rcases q with q | ⟨_, q⟩ <;> (rw [h] at q; cases q)
theorem Ext.fresh (hp : H p = none) : Ext mu mu H (upd H p u) where
  pre := List.prefix_rfl
  old := fun a o h _ => by rw [upd_ne (ne_of_none h hp)]; exact h
  tup := fun a xs h => by
    have ne := Rd.ne hp h
    rcases h with h | ⟨ob, h⟩
    · exact .inl (by rw [upd_ne ne]; exact h)
    · exact .inr ⟨ob, by rw [upd_ne ne]; exact h⟩
  frz := fun a o x h => by rw [upd_ne (ne_of_none h hp)]; exact h
  new := fun _ h => .inl h
theorem Ext.new_ (hp : H p = none) : Ext mu (mu ++ [p]) H (upd H p u) where
  pre := List.prefix_append _ _
  old := (Ext.fresh (mu := mu) hp).old
  tup := (Ext.fresh (mu := mu) hp).tup
  frz := (Ext.fresh (mu := mu) hp).frz
  new := fun a h => by
    rcases List.mem_append.mp h with h | h
    · exact .inl h
    · have : a = p := by simpa using h
      subst this
      exact .inr hp
theorem Sim.fresh (s : Sim K H mu S) (hp : H p = none) : Sim K (upd H p u) mu S :=
  ⟨s.len, s.nd, fun k o a h1 h2 => (s.ob k o a h1 h2).keep (Ext.fresh hp) fun ob e => by rw [upd_ne (ne_of_none e hp)]; exact e⟩
theorem Sim.notin (s : Sim K H mu S) (hp : H p = none) : p ∉ mu := fun h => by
  obtain ⟨o, e, _⟩ := s.here h
  rw [hp] at e; cases e
theorem ObR.more {a : Addr} {mu' : List Addr} {H' : Hp} (e : Ext mu mu' H H') (h : ∀ o, H a = some o → H' a = some o) : ∀ {o : Ob}, ObR K H mu a o → ObR K H' mu' a o
  | .lst _, ⟨vs, q, r⟩ => ⟨vs, h _ q, r.ext e⟩
  | .dct _, ⟨ws, q, r⟩ => ⟨ws, h _ q, KR.ext e r⟩
theorem Sim.new (s : Sim K H mu S) (hp : H p = none) (ho : ObR K (upd H p u) (mu ++ [p]) p o) : Sim K (upd H p u) (mu ++ [p]) (S ++ [o]) := by
  refine ⟨by rw [List.length_append, List.length_append, s.len]; rfl, ?_, fun k o' a h1 h2 => ?_⟩
  · rw [List.nodup_append]
    refine ⟨s.nd, by simp, fun a ha b hb e => ?_⟩
    have : b = p := by simpa using hb
    subst this; subst e
    exact s.notin hp ha
  · by_cases hk : k < S.length
    · rw [List.getElem?_append_left hk] at h1
      rw [List.getElem?_append_left (by rw [s.len]; exact hk)] at h2
      exact (s.ob k o' a h1 h2).more (Ext.new_ hp) fun ob e => by rw [upd_ne (ne_of_none e hp)]; exact e
    · have hk' : k = S.length := by
        have := (List.getElem?_eq_some_iff.mp h1).1
        rw [List.length_append] at this
        simp at this
        omega
      subst hk'
      rw [List.getElem?_append_right (Nat.le_refl _)] at h1
      rw [← s.len, List.getElem?_append_right (Nat.le_refl _)] at h2
      simp at h1 h2
      subst h1; subst h2
      exact ho
theorem Ext.put {x : HO} (hp : H p = some x) (hm : Mut (some x)) (hin : p ∈ mu) : Ext mu mu H (upd H p u) where
  pre := List.prefix_rfl
  old := fun a o h n => by rw [upd_ne (fun e => n (by rw [e]; exact hin))]; exact h
  tup := fun a xs h => by
    have ne : a ≠ p := by
      rintro rfl
      rcases h with h | ⟨_, h⟩ <;> (rw [hp] at h; cases h; exact hm)
    rcases h with h | ⟨ob, h⟩
    · exact .inl (by rw [upd_ne ne]; exact h)
    · exact .inr ⟨ob, by rw [upd_ne ne]; exact h⟩
  frz := fun a o y h => by
    rw [upd_ne (fun e => ?_)]
    · exact h
    · subst e; rw [hp] at h; cases h; exact hm
  new := fun _ h => .inl h
theorem Sim.put (s : Sim K H mu S) {x : HO} (hn : mu[n]? = some p) (hp : H p = some x) (hm : Mut (some x)) (ho : ObR K (upd H p u) mu p o) : Sim K (upd H p u) mu (S.set n o) := by
  refine ⟨by rw [List.length_set]; exact s.len, s.nd, fun k o' a h1 h2 => ?_⟩
  by_cases hk : n = k
  · subst hk
    have hl : n < S.length := by
      have := (List.getElem?_eq_some_iff.mp h1).1
      rwa [List.length_set] at this
    rw [List.getElem?_set_self hl] at h1
    cases h1
    rw [hn] at h2; cases h2
    exact ho
  · rw [List.getElem?_set_ne hk] at h1
    have ne : a ≠ p := fun e => by
      subst e
      obtain ⟨l1, e1⟩ := List.getElem?_eq_some_iff.mp hn
      obtain ⟨l2, e2⟩ := List.getElem?_eq_some_iff.mp h2
      exact hk ((List.getElem_inj s.nd).mp (e1.trans e2.symm))
    exact (s.ob k o' a h1 h2).keep (Ext.put hp hm (List.mem_of_getElem? hn)) fun ob e => by rw [upd_ne ne]; exact e
/-- a list of the store -/
theorem Sim.lst (s : Sim K H mu S) {ds : List D} {a : Addr} (h : S[n]? = some (.lst ds)) (hn : mu[n]? = some a) : ∃ vs, H a = some (.lst vs) ∧ Reps K H mu ds vs := s.ob n _ a h hn
theorem Sim.dct (s : Sim K H mu S) {ks : List (Key × D)} {a : Addr} (h : S[n]? = some (.dct ks)) (hn : mu[n]? = some a) : ∃ ws, H a = some (.dK ws) ∧ KR K H mu ks ws := s.ob n _ a h hn
/-- a new list -/
theorem Sim.newL (s : Sim K H mu S) {ds : List D} {vs : List V} (r : Reps K H mu ds vs) (hp : H p = none) : Sim K (upd H p (.lst vs)) (mu ++ [p]) (S ++ [.lst ds]) := s.new hp ⟨vs, upd_same, r.ext (Ext.new_ hp)⟩
theorem Sim.putL (s : Sim K H mu S) {ds : List D} {vs ws : List V} (r : Reps K H mu ds vs) (hn : mu[n]? = some p) (hp : H p = some (.lst ws)) : Sim K (upd H p (.lst vs)) mu (S.set n (.lst ds)) :=
  s.put hn hp trivial ⟨vs, upd_same, r.ext (Ext.put hp trivial (List.mem_of_getElem? hn))⟩
end
theorem new_at {mu : List Addr} {S : Sto} (h : mu.length = S.length) (p : Addr) : (mu ++ [p])[S.length]? = some p := by
  rw [← h, List.getElem?_append_right (Nat.le_refl _)]; simp

/-! ### displays -/
def mTup (a : FA) : FE := fun r S => (a r S).bind fun p => if p.1.length ≤ sizeLine then some (.tup p.1, p.2) else none
def mLst (a : FA) : FE := fun r S => (a r S).bind fun p => if p.1.length ≤ sizeLine then some (.ref p.2.length, p.2 ++ [.lst p.1]) else none
section
variable {X : Cx} {es : List Expr} {pos : Pos} {a : FA}
theorem me_tup {x1} (h : MA X es a) : ME X (.Tuple es x1 pos) (mTup a) := pe_imp (pe_tup h) fun σ H Q ⟨r, mu, S, d, S', he, hs, hm, hc⟩ => by
  obtain ⟨⟨ds, S1⟩, e1, hm⟩ := Option.bind_eq_some_iff.mp hm
  dsimp only at hm
  split at hm
  · rename_i hl
    cases hm
    refine ⟨r, mu, S, ds, _, he, hs, e1, fun vs H1 mu1 x1 r1 s1 => ⟨by rw [← r1.length]; exact hl, fun p hp => ?_⟩⟩
    exact hc _ _ mu1 (x1.trans (Ext.fresh hp)) (.tup (SqT.of upd_same) (r1.ext (Ext.fresh hp))) (s1.fresh hp)
  · cases hm
theorem me_lst (h : MA X es a) : ME X (.List es pos) (mLst a) := pe_imp (pe_lst h) fun σ H Q ⟨r, mu, S, d, S', he, hs, hm, hc⟩ => by
  obtain ⟨⟨ds, S1⟩, e1, hm⟩ := Option.bind_eq_some_iff.mp hm
  dsimp only at hm
  split at hm
  · rename_i hl
    cases hm
    refine ⟨r, mu, S, ds, _, he, hs, e1, fun vs H1 mu1 x1 r1 s1 => ⟨by rw [← r1.length]; exact hl, fun p hp => ?_⟩⟩
    exact hc _ _ (mu1 ++ [p]) (x1.trans (Ext.new_ hp)) (.ref (new_at s1.len p)) (s1.newL r1 hp)
  · cases hm
end

/-! ### comprehensions -/
abbrev FU := Ev → Sto → Option (Ev × Sto)
def loopC (c : List (Nat × List D)) (g : FG) (t : FT) (b : FU) : List D → FU
  | [] => fun r S => if okC S c = true then some (r, S) else none
  | d :: ds => fun r S => if okC S c = true then (g d r S).bind fun p => (t p.1 p.2).bind fun k => if k.1 = true then (b p.1 k.2).bind fun q => loopC c g t b ds q.1 q.2 else loopC c g t b ds p.1 k.2 else none
def mNest (m : FI) (g : FG) (t : FT) (b : FU) : FU := fun r S => (m r S).bind fun p => loopC p.1.chk g t b p.1.items r p.2
def mEmit (n : Nat) (m : FE) : FU := fun r S => (m r S).bind fun q => match q.2[n]? with
  | some (.lst xs) => if xs.length < sizeLine then some (r, q.2.set n (.lst (xs ++ [q.1]))) else none
  | _ => none
def inEv (k : Nat) (keep : List Nat) (r : Ev) : Ev := List.replicate k none ++ keep.map fun i => (r[i]?).join
def mComp (k : Nat) (keep : List Nat) (m : FI) (g : FG) (t : FT) (b : Nat → FU) : FE := fun r S => (m r S).bind fun p =>
  (loopC p.1.chk g t (b p.2.length) p.1.items (inEv k keep r) (p.2 ++ [.lst []])).bind fun q => some (.ref p.2.length, q.2)
def mTrue : FT := fun _ S => some (true, S)
def tMU (K : PySem.W.Frag) (n : Nat) (a : Addr) (m : FU) : TS := fun E σ H => ∃ r mu S r' S', mu[n]? = some a ∧ EnvR K H mu r σ ∧ Sim K H mu S ∧ m r S = some (r', S') ∧ ∀ σ' H' mu', Ext mu mu' H H' → EnvR K H' mu' r' σ' → Sim K H' mu' S' → E.nx σ' H'
theorem inEnv {K : PySem.W.Frag} {H : Hp} {mu : List Addr} {r : Ev} {σ : L2.St} (k : Nat) (keep : List Nat) (h : EnvR K H mu r σ) : EnvR K H mu (inEv k keep r) (inSt k keep σ) := by
  refine ⟨by unfold inEv inSt; rw [List.length_append, List.length_append, List.length_map, List.length_map, List.length_replicate, List.length_replicate], fun i d e => ?_⟩
  unfold inEv at e
  unfold inSt
  by_cases hi : i < k
  · rw [List.getElem?_append_left (by rw [List.length_replicate]; exact hi), List.getElem?_replicate] at e
    split at e <;> cases e
  · rw [List.getElem?_append_right (by rw [List.length_replicate]; omega), List.length_replicate, List.getElem?_map] at e
    rw [List.getElem?_append_right (by rw [List.length_replicate]; omega), List.length_replicate, List.getElem?_map]
    obtain ⟨j, ej, e⟩ := Option.map_eq_some_iff.mp e
    rw [ej]
    have e' : r[j]? = some (some d) := by
      cases q : r[j]? with
      | none => rw [q] at e; cases e
      | some o => rw [q] at e; cases e; rfl
    obtain ⟨v, ev, rv⟩ := h.val j d e'
    exact ⟨v, by rw [Option.map_some, ev]; rfl, rv⟩
theorem emit_ok {K : PySem.W.Frag} {n : Nat} {a : Addr} {m : FE} {E : Ends} {σ : L2.St} {H : Hp} (h : tMU K n a (mEmit n m) E σ H) : tEmit a (tM K m) E σ H := by
  obtain ⟨r, mu, S, r', S', hn, he, hs, hm, hc⟩ := h
  obtain ⟨⟨d, S1⟩, e1, hm⟩ := Option.bind_eq_some_iff.mp hm
  refine ⟨r, mu, S, d, S1, he, hs, e1, fun v H1 mu1 x1 r1 s1 => ?_⟩
  dsimp only at hm
  split at hm
  · rename_i xs es
    split at hm
    · rename_i hl
      cases hm
      have hn1 := x1.at hn
      obtain ⟨vs, ev, rv⟩ := s1.lst es hn1
      have hin := List.mem_of_getElem? hn1
      refine ⟨vs, ev, by rw [← rv.length]; exact hl, ?_⟩
      exact hc σ _ mu1 (x1.trans (Ext.put ev trivial hin)) ((he.ext x1).ext (Ext.put ev trivial hin)) (s1.putL (rv.append (.cons r1 .nil)) hn1 ev)
    · cases hm
  · cases hm
theorem loopC_ok {K : PySem.W.Frag} {n : Nat} {a : Addr} {j : It} {J : Itm} {g : FG} {t : FT} {b : FU} {tb : TS} {D : Ends} (hb : ∀ E σ H, tMU K n a b E σ H → tb E σ H)
    {mu1 mu2 : List Addr} {H1 H : Hp} {r r' : Ev} {S S' : Sto} {σ : L2.St} (hJ : ItR K j J mu1 H1) (hn : mu2[n]? = some a) (x : Ext mu1 mu2 H1 H) (he : EnvR K H mu2 r σ) (hs : Sim K H mu2 S)
    (hm : loopC J.chk g t b J.items r S = some (r', S')) (hc : ∀ σ' H' mu', Ext mu2 mu' H H' → EnvR K H' mu' r' σ' → Sim K H' mu' S' → D.nx σ' H') : tLoop j (tMG K g) (tMT K t) tb D σ H := by
  refine ⟨fun i k σ' H' => ∃ r3 mu3 S3, Ext mu2 mu3 H H' ∧ EnvR K H' mu3 r3 σ' ∧ Sim K H' mu3 S3 ∧ k = (J.items.drop i).length ∧ loopC J.chk g t b (J.items.drop i) r3 S3 = some (r', S'), ⟨_, r, mu2, S, .refl _ _, he, hs, rfl, hm⟩, ?_⟩
  rintro i k σ3 H3 ⟨r3, mu3, S3, x3, he3, s3, rfl, hm3⟩
  cases hl : J.items.drop i with
  | nil =>
    left
    rw [hl, loopC] at hm3
    dsimp only at hm3
    split at hm3
    · rename_i ok
      cases hm3
      exact ⟨(hJ i H3 mu3 _ (x.trans x3).w s3 ok).2 (List.drop_eq_nil_iff.mp hl), hc σ3 H3 mu3 x3 he3 s3⟩
    · cases hm3
  | cons d ds =>
    right
    rw [hl] at hm3
    obtain ⟨hi, hd⟩ := drop_of_get hl
    rw [loopC] at hm3
    dsimp only at hm3
    split at hm3
    · rename_i ok
      obtain ⟨⟨r4, S4⟩, e4, hm3⟩ := Option.bind_eq_some_iff.mp hm3
      obtain ⟨⟨k5, S5⟩, e5, hm3⟩ := Option.bind_eq_some_iff.mp hm3
      obtain ⟨go, yl⟩ := (hJ i H3 mu3 _ (x.trans x3).w s3 ok).1 d hi
      refine ⟨go, fun σ' H' => ∃ r3 mu3 S3, Ext mu2 mu3 H H' ∧ EnvR K H' mu3 r3 σ' ∧ Sim K H' mu3 S3 ∧ loopC J.chk g t b ds r3 S3 = some (r', S'), ?_, fun y H4 yy => ?_⟩
      · rintro σ' H' ⟨r6, mu6, S6, x6, he6, s6, hm6⟩
        exact ⟨ds.length, Nat.lt_succ_self _, r6, mu6, S6, x6, he6, s6, by rw [hd], by rw [hd]; exact hm6⟩
      · obtain ⟨x4, s4, q4⟩ := yl y H4 yy
        refine ⟨r3, mu3, S3, d, r4, S4, he3.ext x4, s4, q4, e4, fun σ5 H5 mu5 x5 he5 s5 => ?_⟩
        refine ⟨r4, mu5, S4, k5, S5, he5, s5, e5, fun H6 mu6 x6 s6 => ?_⟩
        have xx := ((x3.trans x4).trans x5).trans x6
        cases k5 with
        | true =>
          obtain ⟨⟨r7, S7⟩, e7, hm3⟩ := Option.bind_eq_some_iff.mp hm3
          exact hb _ _ _ ⟨r4, mu6, S5, r7, S7, xx.at hn, he5.ext x6, s6, e7, fun σ8 H8 mu8 x8 he8 s8 => ⟨r7, mu8, S7, xx.trans x8, he8, s8, hm3⟩⟩
        | false => exact ⟨r4, mu6, S5, xx, he5.ext x6, s6, hm3⟩
    · cases hm3
theorem nest_ok {K : PySem.W.Frag} {n : Nat} {a : Addr} {m : FI} {g : FG} {t : FT} {b : FU} {tb : TS} (hb : ∀ E σ H, tMU K n a b E σ H → tb E σ H) {E : Ends} {σ : L2.St} {H : Hp} (h : tMU K n a (mNest m g t b) E σ H) : tNest (tMI K m) (tMG K g) (tMT K t) tb E σ H := by
  obtain ⟨r, mu, S, r', S', hn, he, hs, hm, hc⟩ := h
  obtain ⟨⟨J, S1⟩, e1, hm⟩ := Option.bind_eq_some_iff.mp hm
  refine ⟨r, mu, S, J, S1, he, hs, e1, fun j H1 mu1 x1 J1 s1 => ?_⟩
  exact loopC_ok hb J1 (x1.at hn) (.refl _ _) (he.ext x1) s1 hm fun σ' H' mu' x' => hc σ' H' mu' (x1.trans x')
theorem comp_ok {K : PySem.W.Frag} {k : Nat} {keep : List Nat} {m : FI} {g : FG} {t : FT} {b : Nat → FU} {tb : Addr → TS} (hb : ∀ n a E σ H, tMU K n a (b n) E σ H → tb a E σ H) {σ : L2.St} {H : Hp} {Q : VK} (h : tM K (mComp k keep m g t b) σ H Q) :
    tComp k keep (tMI K m) (tMG K g) (tMT K t) tb σ H Q := by
  obtain ⟨r, mu, S, d, S', he, hs, hm, hc⟩ := h
  obtain ⟨⟨J, S1⟩, e1, hm⟩ := Option.bind_eq_some_iff.mp hm
  obtain ⟨⟨r2, S2⟩, e2, hm⟩ := Option.bind_eq_some_iff.mp hm
  cases hm
  refine ⟨r, mu, S, J, S1, he, hs, e1, fun j H1 mu1 x1 J1 s1 p hp => ?_⟩
  refine loopC_ok (hb S1.length p) J1 (new_at s1.len p) (Ext.new_ hp) ((inEnv k keep (he.ext x1)).ext (Ext.new_ hp)) (s1.newL .nil hp) e2 fun σ' H' mu' x' he' s' => ?_
  exact hc _ H' mu' ((x1.trans (Ext.new_ hp)).trans x') (.ref (x'.at (new_at s1.len p))) s'
section
variable {X : Cx}
theorem pifs_imp {ifs : List Expr} {t t' : L2.TT} (h : PIfs X ifs t) (i : ∀ σ H Q, t' σ H Q → t σ H Q) : PIfs X ifs t' := fun pins s σ H Q I q => h pins s σ H Q I (i σ H Q q)
theorem mif_nil : PIfs X [] (tMT X.K mTrue) := pifs_imp pifs_nil fun σ H Q ⟨r, mu, S, b, S', he, hs, hm, hc⟩ => by cases hm; exact hc H mu (.refl _ _) hs
theorem mif_one {c : Expr} {t : FT} (h : MT X c t) : PIfs X [c] (tMT X.K t) := pifs_one h
/-- [elt for tg in iter if ..] -/
theorem me_comp1 {elt tg iter : Expr} {ifs : List Expr} {scope : Scope} {pos : Pos} {T : List Str} {keep : List Nat} {cl : List (Str × Addr)} {m : FI} {g : FG} {t : FT} {e : FE} (hc : X.calm = true)
    (C : CSc X scope T keep) (hcl : cloF X.env.cells scope.names [] = some cl) (hi : MI X tg iter m)
    (hb : ∀ s H fp, MG (cxC X scope cl T keep s H fp) tg g ∧ PIfs (cxC X scope cl T keep s H fp) ifs (tMT X.K t) ∧ ME (cxC X scope cl T keep s H fp) elt e)
    (hs : ∀ x, foldedSetIterable iter X.env x = pure x := by intro _; rfl) : ME X (.ListComp elt [⟨tg, iter, ifs, 0⟩] scope pos) (mComp T.length keep m g t fun n => mEmit n e) :=
  pe_imp (pe_comp (emit := emitE elt) (tb := fun p => tEmit p (tM X.K e)) hc (fun it acc env => turn_A elt tg iter ifs scope pos it acc env) C hcl hi (fun s H fp p => ⟨(hb s H fp).1, (hb s H fp).2.1, pu_emit (hb s H fp).2.2 p⟩) hs)
    fun σ H Q h => comp_ok (fun n a E σ H q => emit_ok q) h
/-- [elt for tg in iter if .. for tg2 in iter2 if ..] -/
theorem me_comp2 {elt tg iter tg2 iter2 : Expr} {ifs ifs2 : List Expr} {scope : Scope} {pos : Pos} {T : List Str} {keep : List Nat} {cl : List (Str × Addr)} {m m2 : FI} {g g2 : FG} {t t2 : FT} {e : FE} (hc : X.calm = true)
    (C : CSc X scope T keep) (hcl : cloF X.env.cells scope.names [] = some cl) (hi : MI X tg iter m)
    (hb : ∀ s H fp, MG (cxC X scope cl T keep s H fp) tg g ∧ PIfs (cxC X scope cl T keep s H fp) ifs (tMT X.K t) ∧ MI (cxC X scope cl T keep s H fp) tg2 iter2 m2 ∧ MG (cxC X scope cl T keep s H fp) tg2 g2 ∧ PIfs (cxC X scope cl T keep s H fp) ifs2 (tMT X.K t2) ∧ ME (cxC X scope cl T keep s H fp) elt e)
    (hs : ∀ x, foldedSetIterable iter X.env x = pure x := by intro _; rfl) (hs2 : ∀ env x, foldedSetIterable iter2 env x = pure x := by intro _ _; rfl) : ME X (.ListComp elt [⟨tg, iter, ifs, 0⟩, ⟨tg2, iter2, ifs2, 0⟩] scope pos) (mComp T.length keep m g t fun n => mNest m2 g2 t2 (mEmit n e)) :=
  pe_imp (pe_comp (emit := emitN (.ListComp elt [⟨tg, iter, ifs, 0⟩, ⟨tg2, iter2, ifs2, 0⟩] scope pos) iter2) (tb := fun p => tNest (tMI X.K m2) (tMG X.K g2) (tMT X.K t2) (tEmit p (tM X.K e))) hc (fun it acc env => turn_B elt tg iter tg2 iter2 ifs ifs2 scope pos it acc env) C hcl hi
      (fun s H fp p => ⟨(hb s H fp).1, (hb s H fp).2.1, pu_nest (X := cxC X scope cl T keep s H fp) rfl hc (hb s H fp).2.2.1 (hb s H fp).2.2.2.1 (hb s H fp).2.2.2.2.1 (pu_emit (hb s H fp).2.2.2.2.2 p) (hs2 _)⟩) hs)
    fun σ H Q h => comp_ok (fun n a E σ H q => nest_ok (fun _ _ _ z => emit_ok z) q) h
end
end Mi

end
section
set_option Elab.async false
set_option linter.all false
set_option maxRecDepth 100000
namespace Mi
open PySem PySem.Spec PyProof.Rows L2
open PySem.AutoSeq1 (wpAny_loadPart')

/-! ### walking a list (true) or a tuple (false) -/
def SIt (b : Bool) (h : Heap) (it a : Addr) (i : Nat) : Prop := match b with
  | true => h.IsListIter it a i
  | false => h.IsTupleIter it a i
def SCo (b : Bool) (h : Heap) (a : Addr) (xs : Array Value) : Prop := match b with
  | true => h.IsList a xs
  | false => h.IsTuple a xs
theorem SIt.to {b : Bool} {h h' : Heap} {it a : Addr} {i : Nat} (x : SIt b h it a i) (k : ∀ o, h.get? it = some o → h'.get? it = some o) : SIt b h' it a i := by
  cases b <;> (obtain ⟨o, e, r⟩ := x; exact ⟨o, k o e, r⟩)
theorem SIt.rec_ {b : Bool} {h : Heap} {it a : Addr} {i : Nat} (x : SIt b h it a i) : ∃ o, h.get? it = some o ∧ ∀ v, o.data ≠ .cell v := by
  cases b <;> (obtain ⟨o, e, c, d⟩ := x; exact ⟨o, e, fun v z => by rw [d] at z; cases z⟩)
theorem SCo.to {b : Bool} {h h' : Heap} {a : Addr} {xs : Array Value} (x : SCo b h a xs) (k : ∀ o, h.get? a = some o → h'.get? a = some o) : SCo b h' a xs := by
  cases b <;> (obtain ⟨o, e, r⟩ := x; exact ⟨o, k o e, r⟩)
def itObj (b : Bool) (a : Addr) : Obj := match b with
  | true => { cls := .type "list_iterator", data := .fields #[.ref a, .int 0 0] }
  | false => { cls := .type "tuple_iterator", data := .fields #[.ref a, .int 0 0] }
section
variable {prog : Program} {w : World} {A : Around} {E : Value → Shared → Prop} {s : Shared}
theorem sit_new {b : Bool} {h : Heap} {it a : Addr} (e : h.get? it = some (itObj b a)) : SIt b h it a 0 := by
  cases b <;> exact ⟨_, e, rfl, rfl⟩
theorem sit_iter {b : Bool} {a : Addr} {xs : Array Value} {Q : Value → Shared → Prop} (x : SCo b s.heap a xs) (h : Q (.ref s.heap.objs.size) { s with heap := s.heap.push (itObj b a) }) : wpAny (model prog w) A (pyIter (.ref a)) Q E s := by
  cases b
  · exact wpAny_pyIter_tuple x h
  · exact wpAny_pyIter_list x h
theorem next_tup {it l : Addr} {i : Nat} {xs : Array Value} {x : Value} {Q : Value → Shared → Prop} (ti : s.heap.IsTupleIter it l i) (tl : s.heap.IsTuple l xs) (hx : xs[i]? = some x)
    (hQ : ∀ h', h'.IsTupleIter it l (i + 1) → Heap.SameBut it s.heap h' → Q x { s with heap := h' }) : wpAny (model prog w) A (Builtin.SmallTypes.nextOf (.ref it)) Q E s := by
  obtain ⟨o, ho, hc, hd⟩ := id ti; obtain ⟨ob, hob, _, nb, hdb⟩ := tl; unfold Builtin.SmallTypes.nextOf
  refine wpAny_bind (wpAny_callSpecial?_slot (name := Str.ofString "__next__") ti.typeIs F.slot_tuple_iterator_next (wpAny_call_entry F.slot_tuple_iterator_next ti.typeIs F.entry_tuple_iterator_next ?_ (F.args_tuple_iterator_next_1 _)))
  show wpAny _ _ (field (.ref it) 0 >>= _) _ _ s; refine wpAny_bind (wpAny_field ho hd (x := .ref l) rfl ?_)
  show wpAny _ _ (if (Value.ref l == Value.none) = true then _ else _) _ _ s; rw [if_neg (show ¬ ((Value.ref l == Value.none) = true) from Bool.false_ne_true)]
  show wpAny _ _ (field (.ref it) 1 >>= _) _ _ s; refine wpAny_bind (wpAny_field ho hd (x := .int i 0) rfl ?_)
  show wpAny _ _ (seqItems? (.ref l) >>= _) _ _ s; refine wpAny_bind (wpAny_seqItems hob hdb ?_)
  simp only [Int.toNat_natCast, hx]
  refine wpAny_bind (wpAny_setField ho hd (by simp) (wpAny_pure ⟨x, rfl, wpAny_pure (hQ _ ⟨_, Heap.get?_update_self _ ho (Obj.isFreed_of_fields (Obj.data_mapFields hd _)), (Obj.cls_mapFields ..).trans hc, by rw [Obj.data_mapFields hd]; simp [rawInt]⟩ (Heap.SameBut.update ..))⟩))
theorem next_tup_end {it l : Addr} {i : Nat} {xs : Array Value} {Q : Value → Shared → Prop} (hh : A.handled = none) (ti : s.heap.IsTupleIter it l i) (tl : s.heap.IsTuple l xs) (hx : xs[i]? = none)
    (hE : ∀ h' e, Heap.ExtBut it s.heap h' → (∃ o, h'.get? e = some o ∧ o.cls = .type "StopIteration") → E (.ref e) { s with heap := h' }) : wpAny (model prog w) A (Builtin.SmallTypes.nextOf (.ref it)) Q E s := by
  obtain ⟨o, ho, hc, hd⟩ := id ti; obtain ⟨ob, hob, _, nb, hdb⟩ := tl; unfold Builtin.SmallTypes.nextOf
  refine wpAny_bind (wpAny_callSpecial?_slot (name := Str.ofString "__next__") ti.typeIs F.slot_tuple_iterator_next (wpAny_call_entry F.slot_tuple_iterator_next ti.typeIs F.entry_tuple_iterator_next ?_ (F.args_tuple_iterator_next_1 _)))
  show wpAny _ _ (field (.ref it) 0 >>= _) _ _ s; refine wpAny_bind (wpAny_field ho hd (x := .ref l) rfl ?_)
  show wpAny _ _ (if (Value.ref l == Value.none) = true then _ else _) _ _ s; rw [if_neg (show ¬ ((Value.ref l == Value.none) = true) from Bool.false_ne_true)]
  show wpAny _ _ (field (.ref it) 1 >>= _) _ _ s; refine wpAny_bind (wpAny_field ho hd (x := .int i 0) rfl ?_)
  show wpAny _ _ (seqItems? (.ref l) >>= _) _ _ s; refine wpAny_bind (wpAny_seqItems hob hdb ?_)
  simp only [Int.toNat_natCast, hx]; refine wpAny_bind (wpAny_rule (wpAny_bind (wpAny_setField ho hd (by simp) ?_)))
  show wpAny _ _ (newExc (.type "StopIteration") [] >>= _) _ _ _; refine wpAny_bind ?_
  simp only [newExc, newTuple]; refine wpAny_bind (wpAny_newObj_type ?_ (by size_fits))
  refine wpAny_bind (m := firstArgMember _ _) (wpAny_of_eq (a := Value.none) (by first | rfl | (simp only [firstArgMember]; rfl)) ?_); refine wpAny_newObj_type ?_ (by size_fits)
  simp only [raiseNew]; refine wpAny_bind (wpAny_handled ?_)
  first | rw [show A.in1.handled = none from hh] | rw [hh]
  refine wpAny_bind (wpAny_pure (wpAny_throw ?_)); exact hE _ _ (((Heap.SameBut.update ..).extBut.push _).push _) ⟨_, Heap.get?_push_size _ rfl, rfl⟩
theorem next_seq {b : Bool} {it l : Addr} {i : Nat} {xs : Array Value} {x : Value} {Q : Value → Shared → Prop} (ti : SIt b s.heap it l i) (tl : SCo b s.heap l xs) (hx : xs[i]? = some x)
    (hQ : ∀ h', SIt b h' it l (i + 1) → Heap.SameBut it s.heap h' → Q x { s with heap := h' }) : wpAny (model prog w) A (Builtin.SmallTypes.nextOf (.ref it)) Q E s := by
  cases b
  · exact next_tup ti tl hx hQ
  · exact wpAny_nextOf_list_item ti tl hx hQ
theorem next_seq_end {b : Bool} {it l : Addr} {i : Nat} {xs : Array Value} {Q : Value → Shared → Prop} (hh : A.handled = none) (ti : SIt b s.heap it l i) (tl : SCo b s.heap l xs) (hx : xs[i]? = none)
    (hE : ∀ h' e, Heap.ExtBut it s.heap h' → (∃ o, h'.get? e = some o ∧ o.cls = .type "StopIteration") → E (.ref e) { s with heap := h' }) : wpAny (model prog w) A (Builtin.SmallTypes.nextOf (.ref it)) Q E s := by
  cases b
  · exact next_tup_end hh ti tl hx hE
  · exact wpAny_nextOf_list_end hh ti tl hx hE

/-! ### enumerate -/
theorem enum_new {b : Bool} (l : Addr) (xs : Array Value) :
    Meets (Builtin.«enumerate.__new__» ⟨[.type "enumerate", .ref l], []⟩) (fun _ R s => SCo b s.heap l xs ∧
      R (.ok (.ret (.ref (s.heap.push (itObj b l)).objs.size))) { s with heap := (s.heap.push (itObj b l)).push { cls := .type "enumerate", data := .fields #[.none, .bool false, .ref s.heap.objs.size, rawInt 0, .none, .none] } }) :=
  .of_wp fun prog w A R s h => by
    obtain ⟨hp, g, d, tk, os⟩ := s; obtain ⟨hl, h⟩ := h; have hsub := sub_enumerate
    have hL : SCo b (Shared.heap ⟨hp, g, d, tk, os⟩) l xs := hl
    obtain ⟨ol, el⟩ : ∃ o, hp.get? l = some o := by cases b <;> (obtain ⟨o, e, _⟩ := hl; exact ⟨o, e⟩)
    wp_walk using wpAny_loadPart' el
    refine wpAny_stack_any fun st => wpAny_pure ?_
    split
    · rename_i c _ _ _ _ _
      cases (c == Value.type "enumerate") <;> (wp_walk using wpAny_loadPart' el, sit_iter hL; exact ⟨_, rfl, h⟩)
    · wp_walk using wpAny_loadPart' el, sit_iter hL
      exact ⟨_, rfl, h⟩
theorem enum_call {b : Bool} {l : Addr} {xs : Array Value} {Q : Value → Shared → Prop} (hL : SCo b s.heap l xs)
    (h : ∀ h', IsEnum h' (s.heap.objs.size + 1) s.heap.objs.size 0 .none → SIt b h' s.heap.objs.size l 0 → h'.objs.size = s.heap.objs.size + 2 → (∀ b o, s.heap.get? b = some o → h'.get? b = some o) → Q (.ref (s.heap.objs.size + 1)) { s with heap := h' }) :
    wpAny (model prog w) A (call (.type "enumerate") [.ref l]) Q E s := by
  refine callType_new F.called_enumerate (by decide) (F.typeCall_enumerate_1 _) (F.newCall_enumerate_1 _) (fun obj => F.args_object_init_2 obj _) F.entry_enumerate_new (enum_new (b := b) l xs) ⟨hL, ?_⟩
  have hz : (s.heap.push (itObj b l)).objs.size = s.heap.objs.size + 1 := Heap.size_push ..
  show _ ∧ _
  rw [hz]
  have he : IsEnum ((s.heap.push (itObj b l)).push { cls := .type "enumerate", data := .fields #[.none, .bool false, .ref s.heap.objs.size, rawInt 0, .none, .none] }) (s.heap.objs.size + 1) s.heap.objs.size 0 .none := by
    have q := Heap.get?_push_size (s.heap.push (itObj b l)) (o := { cls := .type "enumerate", data := .fields #[.none, .bool false, .ref s.heap.objs.size, rawInt 0, .none, .none] }) rfl
    rw [hz] at q; exact q
  have hi : (s.heap.push (itObj b l)).get? s.heap.objs.size = some (itObj b l) := Heap.get?_push_size _ (by cases b <;> rfl)
  refine ⟨⟨_, he, rfl⟩, h _ he (sit_new (Heap.get?_push_of_some _ hi)) (by rw [Heap.size_push, hz]) fun c o x => Heap.get?_push_of_some _ (Heap.get?_push_of_some _ x)⟩
theorem enum_next {b : Bool} {e it l : Addr} {i : Nat} {xs : Array Value} {x old : Value} {Q : Option Value → Shared → Prop} (he : IsEnum s.heap e it i old) (ti : SIt b s.heap it l i) (tl : SCo b s.heap l xs) (hx : xs[i]? = some x) (hne : e ≠ it)
    (hQ : ∀ h', IsEnumOut h' e it ((i : Int) + 1) x s.heap.objs.size → SIt b h' it l (i + 1) → h'.get? s.heap.objs.size = some { cls := .type "tuple", data := .seq #[.int i s.toks, x] } → h'.objs.size = s.heap.objs.size + 1 →
      (∀ b o, b ≠ e → b ≠ it → s.heap.get? b = some o → h'.get? b = some o) → Q (some (.ref s.heap.objs.size)) { s with heap := h', toks := s.toks + 1 }) : wpAny (model prog w) A (pyNext (.ref e)) Q E s := by
  have hT : s.TypeIs (.ref e) "enumerate" := ⟨_, he, rfl⟩
  unfold pyNext
  refine wpAny_bind (wpAny_attempt (wpAny_callSpecial?_slot (name := Str.ofString "__next__") hT F.slot_enumerate_next (wpAny_call_entry F.slot_enumerate_next hT F.entry_enumerate_next ?_ (F.args_enumerate_next_1 _))))
  obtain ⟨hp, g, d, tk, os⟩ := s
  show wpAny _ _ (field (.ref e) 2 >>= _) _ _ _; refine wpAny_bind (wpAny_field he rfl (x := .ref it) rfl ?_)
  refine wpAny_bind (next_seq ti tl hx fun h1 ti1 s1 => ?_)
  replace s1 : Heap.SameBut it hp h1 := s1
  have he1 : IsEnum h1 e it i old := (s1.2 e hne).trans he
  show wpAny _ _ (field (.ref e) 3 >>= _) _ _ ⟨h1, g, d, tk, os⟩; refine wpAny_bind (wpAny_field he1 rfl (x := rawInt i) rfl ?_)
  show wpAny _ _ (field (.ref e) 4 >>= _) _ _ ⟨h1, g, d, tk, os⟩; refine wpAny_bind (wpAny_field he1 rfl (x := .none) rfl ?_)
  show wpAny _ _ (mkInt i >>= _) _ _ ⟨h1, g, d, tk, os⟩; refine wpAny_bind (wpAny_mkInt ?_)
  show wpAny _ _ (setField (.ref e) 3 (rawInt ((i : Int) + 1)) >>= _) _ _ ⟨h1, g, d, tk + 1, os⟩; refine wpAny_bind (wpAny_setField_rec he1 (by simp) fun h2 he2 s2 => ?_)
  replace s2 : Heap.SameBut e h1 h2 := s2
  replace he2 : IsEnum h2 e it ((i : Int) + 1) old := he2
  show wpAny _ _ (setField (.ref e) 4 .none >>= _) _ _ ⟨h2, g, d, tk + 1, os⟩; refine wpAny_bind (wpAny_setField_rec he2 (by simp) fun h3 he3 s3 => ?_)
  replace s3 : Heap.SameBut e h2 h3 := s3
  replace he3 : IsEnum h3 e it ((i : Int) + 1) old := he3
  show wpAny _ _ (newTuple [.int i tk, x] >>= _) _ _ ⟨h3, g, d, tk + 1, os⟩; refine wpAny_bind (wpAny_newTuple ?_)
  have he4 : IsEnum (h3.push { cls := .type "tuple", data := .seq #[.int i tk, x] }) e it ((i : Int) + 1) old := Heap.get?_push_of_some _ he3
  generalize hh4 : h3.push { cls := .type "tuple", data := .seq #[.int i tk, x] } = h4 at he4
  have hsz : h3.objs.size = hp.objs.size := by rw [s3.1, s2.1, s1.1]
  have hel : e < hp.objs.size := Heap.lt_size he
  have ht4 : h4.get? hp.objs.size = some { cls := .type "tuple", data := .seq #[.int i tk, x] } := by rw [← hh4, ← hsz]; exact Heap.get?_push_size _ rfl
  have hz4 : h4.objs.size = hp.objs.size + 1 := by rw [← hh4, Heap.size_push, hsz]
  have hk4 : ∀ b o, b ≠ e → b ≠ it → hp.get? b = some o → h4.get? b = some o := fun b o hbe hbi hb => by
    rw [← hh4]; exact Heap.get?_push_of_some _ (s3.extBut b o hbe (s2.extBut b o hbe (s1.extBut b o hbi hb)))
  have ti4 : SIt b h4 it l (i + 1) := ti1.to fun o q => by rw [← hh4]; exact Heap.get?_push_of_some _ (s3.extBut _ _ (Ne.symm hne) (s2.extBut _ _ (Ne.symm hne) q))
  show wpAny _ _ (Builtin.SmallTypes.ownedTupleIsFree (.ref e) >>= _) _ _ ⟨h4, g, d, tk + 1, os⟩
  rw [hsz]; clear hh4 he3 s3 he2 s2 he1 s1 ti1 hsz h3 h2 h1
  refine wpAny_bind ?_; unfold Builtin.SmallTypes.ownedTupleIsFree
  refine wpAny_bind (wpAny_field he4 rfl (x := .none) rfl (wpAny_pure ?_)); simp only [if_true]
  refine wpAny_bind (wpAny_rule ?_); refine wpAny_bind (wpAny_field he4 rfl (x := old) rfl ?_)
  refine wpAny_bind (wpAny_setField_rec he4 (by simp) fun h5 he5 s5 => ?_)
  replace s5 : Heap.SameBut e h4 h5 := s5
  replace he5 : IsEnum h5 e it ((i : Int) + 1) x := he5
  show wpAny _ _ (Builtin.SmallTypes.ownedTupleHandOut (.ref e) (.ref hp.objs.size) >>= _) _ _ ⟨h5, g, d, tk + 1, os⟩
  refine wpAny_bind ?_; unfold Builtin.SmallTypes.ownedTupleHandOut
  refine wpAny_bind (wpAny_setField_rec he5 (by simp) fun h6 he6 s6 => ?_)
  replace s6 : Heap.SameBut e h5 h6 := s6
  replace he6 : IsEnumOut h6 e it ((i : Int) + 1) x hp.objs.size := he6
  refine wpAny_setField_rec he6 (by simp) fun h7 he7 s7 => ?_
  replace s7 : Heap.SameBut e h6 h7 := s7
  replace he7 : IsEnumOut h7 e it ((i : Int) + 1) x hp.objs.size := he7
  have up : ∀ c o, c ≠ e → h4.get? c = some o → h7.get? c = some o := fun c o z q => s7.extBut _ _ z (s6.extBut _ _ z (s5.extBut _ _ z q))
  refine wpAny_bind (wpAny_letGo (wpAny_pure ⟨_, rfl, wpAny_pure (hQ h7 he7 (ti4.to fun o q => up _ o (Ne.symm hne) q) (up _ _ (Nat.ne_of_gt hel) ht4) (by rw [s7.1, s6.1, s5.1, hz4]) fun c o hbe hbi hb => up c o hbe (hk4 c o hbe hbi hb))⟩))
theorem enum_end {b : Bool} {e it l : Addr} {i : Nat} {xs : Array Value} {old : Value} {Q : Option Value → Shared → Prop} (hh : A.handled = none) (he : IsEnum s.heap e it i old) (ti : SIt b s.heap it l i) (tl : SCo b s.heap l xs) (hx : xs[i]? = none)
    (hQ : ∀ h', Heap.ExtBut it s.heap h' → Q none { s with heap := h' }) : wpAny (model prog w) A (pyNext (.ref e)) Q E s := by
  have hT : s.TypeIs (.ref e) "enumerate" := ⟨_, he, rfl⟩
  unfold pyNext
  refine wpAny_bind (wpAny_attempt (wpAny_callSpecial?_slot (name := Str.ofString "__next__") hT F.slot_enumerate_next (wpAny_call_entry F.slot_enumerate_next hT F.entry_enumerate_next ?_ (F.args_enumerate_next_1 _))))
  show wpAny _ _ (field (.ref e) 2 >>= _) _ _ _; refine wpAny_bind (wpAny_field he rfl (x := .ref it) rfl ?_)
  refine wpAny_bind (next_seq_end hh ti tl hx fun h' x he' hx' => ?_); obtain ⟨o, ho, hc⟩ := hx'
  refine wpAny_bind (wpAny_isInstance (T := "StopIteration") (b := true) ⟨o, ho, hc⟩ isSubtype_stop ?_); exact wpAny_pure (hQ _ he')
theorem enum_self {e it : Addr} {i : Int} {old : Value} {Q : Value → Shared → Prop} (he : IsEnum s.heap e it i old) (h : Q (.ref e) s) : wpAny (model prog w) A (pyIter (.ref e)) Q E s := by
  have hT : s.TypeIs (.ref e) "enumerate" := ⟨_, he, rfl⟩
  refine wpAny_pyIter_slot hT F.slot_enumerate_iter (wpAny_call_entry F.slot_enumerate_iter hT F.entry_enumerate_iter ?_ (F.args_enumerate_iter_1 _))
  show wpAny _ _ (ret (.ref e)) _ _ s
  exact wpAny_pure ⟨_, rfl, "enumerate", _, hT, F.slot_enumerate_next.lookup, h⟩
end
end Mi

end
section
set_option Elab.async false
set_option linter.all false
set_option maxRecDepth 100000
namespace Mi
open PySem PySem.Spec PyProof.Rows L2
open PySem.AutoSeq1 (wpAny_loadPart')

/-! ### zip of two -/
structure Zap (z ti to i1 i2 : Addr) : Prop where
  a1 : ti ≠ z
  a2 : to ≠ z
  a3 : i1 ≠ z
  a4 : i2 ≠ z
  a5 : ti ≠ to
  a6 : ti ≠ i1
  a7 : ti ≠ i2
  a8 : to ≠ i1
  a9 : to ≠ i2
  a10 : i1 ≠ i2
section
variable {prog : Program} {w : World} {A : Around} {E : Value → Shared → Prop} {s : Shared} {b1 b2 : Bool}
theorem SCo.ne {b : Bool} {h : Heap} {a c : Addr} {xs : Array Value} {o : Obj} (x : SCo b h a xs) (e : h.get? c = some o) (n : ∀ ys k, o.data ≠ .seq ys k) : a ≠ c := by
  rintro rfl
  cases b <;> (obtain ⟨o', e', c', k, d⟩ := x; rw [e] at e'; cases e'; exact n _ _ d)
theorem SCo.ne_it {b b' : Bool} {h : Heap} {a it l : Addr} {xs : Array Value} {i : Nat} (x : SCo b h a xs) (y : SIt b' h it l i) : a ≠ it := by
  cases b' <;> (obtain ⟨o, e, c, d⟩ := y; exact x.ne e fun ys k z => by rw [d] at z; cases z)
theorem zip_step {z ti to i1 i2 l1 l2 : Addr} {k1 k2 : Nat} {xs ys : Array Value} {x y a b : Value} {Q : Option Value → Shared → Prop} (D : Zap z ti to i1 i2) (hz : IsZip s.heap z ti to .none) (hti : IsPair s.heap ti (.ref i1) (.ref i2)) (hto : IsPair s.heap to a b)
    (n1 : l1 ≠ to) (n2 : l2 ≠ to) (h1 : SIt b1 s.heap i1 l1 k1) (h2 : SIt b2 s.heap i2 l2 k2) (c1 : SCo b1 s.heap l1 xs) (c2 : SCo b2 s.heap l2 ys) (hx : xs[k1]? = some x) (hy : ys[k2]? = some y)
    (hQ : ∀ h', IsZip h' z ti to (rawInt s.heap.objs.size) → IsPair h' to x y → SIt b1 h' i1 l1 (k1 + 1) → SIt b2 h' i2 l2 (k2 + 1) → IsPair h' s.heap.objs.size x y → h'.objs.size = s.heap.objs.size + 1 →
      (∀ c o, c ≠ z → c ≠ to → c ≠ i1 → c ≠ i2 → s.heap.get? c = some o → h'.get? c = some o) → Q (some (.ref s.heap.objs.size)) { s with heap := h' }) : wpAny (model prog w) A (pyNext (.ref z)) Q E s := by
  have hT : s.TypeIs (.ref z) "zip" := ⟨_, hz, rfl⟩
  have l1z : l1 ≠ z := c1.ne hz fun _ _ q => by cases q
  have l2z : l2 ≠ z := c2.ne hz fun _ _ q => by cases q
  have l2i1 : l2 ≠ i1 := c2.ne_it h1
  unfold pyNext
  refine wpAny_bind (wpAny_attempt (wpAny_callSpecial?_slot (name := Str.ofString "__next__") hT F.slot_zip_next (wpAny_call_entry F.slot_zip_next hT F.entry_zip_next ?_ (F.args_zip_next_1 _))))
  show wpAny _ _ (field (.ref z) 2 >>= _) _ _ _; refine wpAny_bind (wpAny_field hz rfl (x := .bool false) rfl ?_)
  show wpAny _ _ (field (.ref z) 3 >>= _) _ _ _; refine wpAny_bind (wpAny_field hz rfl (x := .ref ti) rfl ?_)
  refine wpAny_bind (wpAny_seqItems hti rfl ?_)
  show wpAny _ _ (Builtin.SmallTypes.ownedTupleIsFree (.ref z) >>= _) _ _ _; refine wpAny_bind ?_; unfold Builtin.SmallTypes.ownedTupleIsFree
  refine wpAny_bind (wpAny_field hz rfl (x := .none) rfl (wpAny_pure ?_)); simp only [if_true]; refine wpAny_bind (wpAny_rule ?_)
  refine wpAny_bind (wpAny_field hz rfl (x := .ref to) rfl ?_); refine wpAny_bind (wpAny_setField_rec hz (by simp) fun g1 hz1 s1 => ?_)
  replace hz1 : IsZip g1 z ti to .ellipsis := hz1
  refine wpAny_bind ?_; simp only [List.zipIdx_cons, List.zipIdx_nil, List.forIn_cons, List.forIn_nil]
  refine wpAny_bind (wpAny_bind (wpAny_onRaise ?_)); show wpAny _ _ (Builtin.SmallTypes.nextOf (.ref i1) >>= _) _ _ _
  refine wpAny_bind (next_seq (h1.to fun o q => s1.extBut _ _ D.a3 q) (c1.to fun o q => s1.extBut _ _ l1z q) hx fun g2 h12 s2 => wpAny_pure ?_)
  have hto2 : IsPair g2 to a b := s2.extBut _ _ D.a8 (s1.extBut _ _ D.a2 hto)
  refine wpAny_bind (wpAny_seqItems hto2 rfl ?_); refine wpAny_bind (wpAny_updateSeq_pair hto2 fun g3 hto3 s3 => ?_)
  replace hto3 : IsPair g3 to x b := hto3
  refine wpAny_bind (wpAny_letGo (wpAny_pure ?_)); refine wpAny_bind (wpAny_bind (wpAny_onRaise ?_)); show wpAny _ _ (Builtin.SmallTypes.nextOf (.ref i2) >>= _) _ _ _
  refine wpAny_bind (next_seq (h2.to fun o q => s3.extBut _ _ D.a9.symm (s2.extBut _ _ D.a10.symm (s1.extBut _ _ D.a4 q))) (c2.to fun o q => s3.extBut _ _ n2 (s2.extBut _ _ l2i1 (s1.extBut _ _ l2z q))) hy fun g4 h24 s4 => wpAny_pure ?_)
  have hto4 : IsPair g4 to x b := s4.extBut _ _ D.a9 hto3
  refine wpAny_bind (wpAny_seqItems hto4 rfl ?_); refine wpAny_bind (wpAny_updateSeq_pair hto4 fun g5 hto5 s5 => ?_)
  replace hto5 : IsPair g5 to x y := hto5
  refine wpAny_bind (wpAny_letGo (wpAny_pure (wpAny_pure ?_))); refine wpAny_bind (wpAny_seqItems hto5 rfl ?_); refine wpAny_bind (wpAny_newTuple ?_)
  have hsz : g5.objs.size = s.heap.objs.size := by rw [s5.1, s4.1, s3.1, s2.1, s1.1]
  have hz5 : IsZip g5 z ti to .ellipsis := s5.extBut _ _ D.a2.symm (s4.extBut _ _ D.a4.symm (s3.extBut _ _ D.a2.symm (s2.extBut _ _ D.a3.symm hz1)))
  have hk5 : ∀ c o, c ≠ z → c ≠ to → c ≠ i1 → c ≠ i2 → s.heap.get? c = some o → g5.get? c = some o := fun c o q1 q2 q3 q4 q => s5.extBut _ _ q2 (s4.extBut _ _ q4 (s3.extBut _ _ q2 (s2.extBut _ _ q3 (s1.extBut _ _ q1 q))))
  have h15 : SIt b1 g5 i1 l1 (k1 + 1) := h12.to fun o q => s5.extBut _ _ D.a8.symm (s4.extBut _ _ D.a10 (s3.extBut _ _ D.a8.symm q))
  have h25 : SIt b2 g5 i2 l2 (k2 + 1) := h24.to fun o q => s5.extBut _ _ D.a9.symm q
  have hzlt : z < g5.objs.size := Heap.lt_size hz5
  show wpAny _ _ (Builtin.SmallTypes.ownedTupleHandOut (.ref z) (.ref g5.objs.size) >>= _) _ _ _; refine wpAny_bind ?_; unfold Builtin.SmallTypes.ownedTupleHandOut
  have hz6 : IsZip (g5.push { cls := .type "tuple", data := .seq #[x, y] }) z ti to .ellipsis := Heap.get?_push_of_some _ hz5
  refine wpAny_bind (wpAny_setField_rec hz6 (by simp) fun g7 hz7 s7 => ?_)
  replace hz7 : IsZip g7 z ti to (rawInt g5.objs.size) := hz7
  refine wpAny_setField_rec hz7 (by simp) fun g8 hz8 s8 => ?_
  replace hz8 : IsZip g8 z ti to (rawInt g5.objs.size) := hz8
  have up : ∀ c o, c ≠ z → g5.get? c = some o → g8.get? c = some o := fun c o q1 q => s8.extBut _ _ q1 (s7.extBut _ _ q1 (Heap.get?_push_of_some _ q))
  have hT8 : IsPair g8 g5.objs.size x y := s8.extBut _ _ (Nat.ne_of_gt hzlt) (s7.extBut _ _ (Nat.ne_of_gt hzlt) (Heap.get?_push_size _ rfl))
  have hz9 : g8.objs.size = g5.objs.size + 1 := by rw [s8.1, s7.1, Heap.size_push]
  rw [hsz] at hz8 hT8 hz9; refine wpAny_pure ⟨_, rfl, wpAny_pure ?_⟩; show Q (some (.ref g5.objs.size)) _; rw [hsz]
  exact hQ g8 hz8 (up _ _ D.a2 hto5) (h15.to fun o q => up _ o D.a3 q) (h25.to fun o q => up _ o D.a4 q) hT8 hz9 fun c o q1 q2 q3 q4 q => up c o q1 (hk5 c o q1 q2 q3 q4 q)
theorem zip_end {z ti to i1 i2 l1 l2 : Addr} {k1 k2 : Nat} {xs ys : Array Value} {a b : Value} {Q : Option Value → Shared → Prop} (hh : A.handled = none) (D : Zap z ti to i1 i2) (hz : IsZip s.heap z ti to .none) (hti : IsPair s.heap ti (.ref i1) (.ref i2)) (hto : IsPair s.heap to a b)
    (n1 : l1 ≠ to) (n2 : l2 ≠ to) (h1 : SIt b1 s.heap i1 l1 k1) (h2 : SIt b2 s.heap i2 l2 k2) (c1 : SCo b1 s.heap l1 xs) (c2 : SCo b2 s.heap l2 ys) (hend : xs[k1]? = none ∨ ys[k2]? = none)
    (hQ : ∀ h', (∀ c o, c ≠ z → c ≠ to → c ≠ i1 → c ≠ i2 → s.heap.get? c = some o → h'.get? c = some o) → Q none { s with heap := h' }) : wpAny (model prog w) A (pyNext (.ref z)) Q E s := by
  have hT : s.TypeIs (.ref z) "zip" := ⟨_, hz, rfl⟩
  have l1z : l1 ≠ z := c1.ne hz fun _ _ q => by cases q
  have l2z : l2 ≠ z := c2.ne hz fun _ _ q => by cases q
  have l2i1 : l2 ≠ i1 := c2.ne_it h1
  unfold pyNext
  refine wpAny_bind (wpAny_attempt (wpAny_callSpecial?_slot (name := Str.ofString "__next__") hT F.slot_zip_next (wpAny_call_entry F.slot_zip_next hT F.entry_zip_next ?_ (F.args_zip_next_1 _))))
  show wpAny _ _ (field (.ref z) 2 >>= _) _ _ _; refine wpAny_bind (wpAny_field hz rfl (x := .bool false) rfl ?_)
  show wpAny _ _ (field (.ref z) 3 >>= _) _ _ _; refine wpAny_bind (wpAny_field hz rfl (x := .ref ti) rfl ?_)
  refine wpAny_bind (wpAny_seqItems hti rfl ?_)
  show wpAny _ _ (Builtin.SmallTypes.ownedTupleIsFree (.ref z) >>= _) _ _ _; refine wpAny_bind ?_; unfold Builtin.SmallTypes.ownedTupleIsFree
  refine wpAny_bind (wpAny_field hz rfl (x := .none) rfl (wpAny_pure ?_)); simp only [if_true]; refine wpAny_bind (wpAny_rule ?_)
  refine wpAny_bind (wpAny_field hz rfl (x := .ref to) rfl ?_); refine wpAny_bind (wpAny_setField_rec hz (by simp) fun g1 hz1 s1 => ?_)
  replace hz1 : IsZip g1 z ti to .ellipsis := hz1
  refine wpAny_bind ?_; simp only [List.zipIdx_cons, List.zipIdx_nil, List.forIn_cons, List.forIn_nil]
  refine wpAny_bind (wpAny_bind (wpAny_onRaise ?_)); show wpAny _ _ (Builtin.SmallTypes.nextOf (.ref i1) >>= _) _ _ _
  cases hx : xs[k1]? with
  | none =>
    refine wpAny_bind (next_seq_end hh (h1.to fun o q => s1.extBut _ _ D.a3 q) (c1.to fun o q => s1.extBut _ _ l1z q) hx fun g2 e s2 he => ?_); obtain ⟨oe, hoe, hce⟩ := he
    have hz2 : IsZip g2 z ti to .ellipsis := s2 _ _ D.a3.symm hz1
    have hez : e ≠ z := fun q => by subst q; rw [hz2] at hoe; cases hoe; simp at hce
    refine wpAny_setField_rec hz2 (by simp) fun g3 _ s3 => ?_
    refine wpAny_bind (wpAny_isInstance (T := "StopIteration") (b := true) ⟨oe, s3.extBut _ _ hez hoe, hce⟩ isSubtype_stop ?_)
    exact wpAny_pure (hQ g3 fun c o q1 _ q3 _ q => s3.extBut _ _ q1 (s2 _ _ q3 (s1.extBut _ _ q1 q)))
  | some x =>
    have hy : ys[k2]? = none := by rcases hend with h | h; rw [hx] at h; cases h; exact h
    refine wpAny_bind (next_seq (h1.to fun o q => s1.extBut _ _ D.a3 q) (c1.to fun o q => s1.extBut _ _ l1z q) hx fun g2 h12 s2 => wpAny_pure ?_)
    have hto2 : IsPair g2 to a b := s2.extBut _ _ D.a8 (s1.extBut _ _ D.a2 hto)
    refine wpAny_bind (wpAny_seqItems hto2 rfl ?_); refine wpAny_bind (wpAny_updateSeq_pair hto2 fun g3 hto3 s3 => ?_)
    refine wpAny_bind (wpAny_letGo (wpAny_pure ?_)); refine wpAny_bind (wpAny_bind (wpAny_onRaise ?_)); show wpAny _ _ (Builtin.SmallTypes.nextOf (.ref i2) >>= _) _ _ _
    refine wpAny_bind (next_seq_end hh (h2.to fun o q => s3.extBut _ _ D.a9.symm (s2.extBut _ _ D.a10.symm (s1.extBut _ _ D.a4 q))) (c2.to fun o q => s3.extBut _ _ n2 (s2.extBut _ _ l2i1 (s1.extBut _ _ l2z q))) hy fun g4 e s4 he => ?_)
    obtain ⟨oe, hoe, hce⟩ := he
    have hz4 : IsZip g4 z ti to .ellipsis := s4 _ _ D.a4.symm (s3.extBut _ _ D.a2.symm (s2.extBut _ _ D.a3.symm hz1))
    have hez : e ≠ z := fun q => by subst q; rw [hz4] at hoe; cases hoe; simp at hce
    refine wpAny_setField_rec hz4 (by simp) fun g5 _ s5 => ?_
    refine wpAny_bind (wpAny_isInstance (T := "StopIteration") (b := true) ⟨oe, s5.extBut _ _ hez hoe, hce⟩ isSubtype_stop ?_)
    exact wpAny_pure (hQ g5 fun c o q1 q2 q3 q4 q => s5.extBut _ _ q1 (s4 _ _ q4 (s3.extBut _ _ q2 (s2.extBut _ _ q3 (s1.extBut _ _ q1 q)))))
def zH (b1 b2 : Bool) (h : Heap) (l1 l2 : Addr) : Heap := ((((h.push (itObj b1 l1)).push (itObj b2 l2)).push { cls := .type "tuple", data := .seq #[.ref h.objs.size, .ref (h.objs.size + 1)] }).push { cls := .type "tuple", data := .seq #[.none, .none] }).push
  { cls := .type "zip", data := .fields #[.none, .bool false, .bool false, .ref (h.objs.size + 2), .ref (h.objs.size + 3)] }
theorem zip_new (l1 l2 : Addr) (xs ys : Array Value) : Meets (Builtin.«zip.__new__» ⟨[.type "zip", .ref l1, .ref l2], []⟩) (fun _ R s => SCo b1 s.heap l1 xs ∧ SCo b2 s.heap l2 ys ∧ R (.ok (.ret (.ref (s.heap.objs.size + 4)))) { s with heap := zH b1 b2 s.heap l1 l2 }) :=
  .of_wp fun prog w A R s h => by
    obtain ⟨hp, g, d, tk, os⟩ := s; obtain ⟨c1, c2, h⟩ := h; have hsub := sub_zip
    have L1 : SCo b1 (Shared.heap ⟨hp, g, d, tk, os⟩) l1 xs := c1
    have L2 : SCo b2 (Shared.heap ⟨hp.push (itObj b1 l1), g, d, tk, os⟩) l2 ys := c2.to fun o q => Heap.get?_push_of_some _ q
    wp_walk using sit_iter L1, sit_iter L2
    refine ⟨_, rfl, ?_⟩
    have z1 : (hp.push (itObj b1 l1)).objs.size = hp.objs.size + 1 := Heap.size_push ..
    simp only [Heap.size_push, zH] at h ⊢
    exact h
theorem zip_call {l1 l2 : Addr} {xs ys : Array Value} {Q : Value → Shared → Prop} (c1 : SCo b1 s.heap l1 xs) (c2 : SCo b2 s.heap l2 ys)
    (h : ∀ h', IsZip h' (s.heap.objs.size + 4) (s.heap.objs.size + 2) (s.heap.objs.size + 3) .none → IsPair h' (s.heap.objs.size + 2) (.ref s.heap.objs.size) (.ref (s.heap.objs.size + 1)) → IsPair h' (s.heap.objs.size + 3) .none .none →
      SIt b1 h' s.heap.objs.size l1 0 → SIt b2 h' (s.heap.objs.size + 1) l2 0 → h'.objs.size = s.heap.objs.size + 5 → (∀ c o, s.heap.get? c = some o → h'.get? c = some o) → Q (.ref (s.heap.objs.size + 4)) { s with heap := h' }) :
    wpAny (model prog w) A (call (.type "zip") [.ref l1, .ref l2]) Q E s := by
  refine callType_new F.called_zip (by decide) (F.typeCall_zip_2 _ _) (F.newCall_zip_2 _ _) (fun obj => F.args_object_init_3 obj _ _) F.entry_zip_new (zip_new (b1 := b1) (b2 := b2) l1 l2 xs ys) ⟨c1, c2, ?_⟩
  have up : ∀ {h : Heap} {o : Obj} {c : Addr} {u : Obj}, h.get? c = some u → (h.push o).get? c = some u := fun q => Heap.get?_push_of_some _ q
  have at_ : ∀ {h : Heap} {o : Obj} {n : Nat}, h.objs.size = n → o.isFreed = false → (h.push o).get? n = some o := fun e f => by rw [← e]; exact Heap.get?_push_size _ f
  have f1 : (itObj b1 l1).isFreed = false := by cases b1 <;> rfl
  have f2 : (itObj b2 l2).isFreed = false := by cases b2 <;> rfl
  have g1 : (zH b1 b2 s.heap l1 l2).get? s.heap.objs.size = some (itObj b1 l1) := up (up (up (up (at_ rfl f1))))
  have g2 : (zH b1 b2 s.heap l1 l2).get? (s.heap.objs.size + 1) = some (itObj b2 l2) := up (up (up (at_ (by simp only [Heap.size_push]) f2)))
  have g3 : IsPair (zH b1 b2 s.heap l1 l2) (s.heap.objs.size + 2) (.ref s.heap.objs.size) (.ref (s.heap.objs.size + 1)) := up (up (at_ (by simp only [Heap.size_push]) rfl))
  have g4 : IsPair (zH b1 b2 s.heap l1 l2) (s.heap.objs.size + 3) .none .none := up (at_ (by simp only [Heap.size_push]) rfl)
  have g5 : IsZip (zH b1 b2 s.heap l1 l2) (s.heap.objs.size + 4) (s.heap.objs.size + 2) (s.heap.objs.size + 3) .none := at_ (by simp only [Heap.size_push]) rfl
  exact ⟨⟨_, g5, rfl⟩, h _ g5 g3 g4 (sit_new g1) (sit_new g2) (by simp only [zH, Heap.size_push]) fun c o q => up (up (up (up (up q))))⟩
end
end Mi

end
section
set_option Elab.async false
set_option linter.all false
set_option maxRecDepth 100000
namespace Mi
open PySem PySem.Spec PyProof.Rows L2

/-! ### a list (true) or a tuple (false) that is read -/
def SqB (K : PySem.W.Frag) (b : Bool) (H : Hp) (a : Addr) (xs : List V) : Prop := match b with
  | true => SqL K H a xs
  | false => SqT K H a xs
section
variable {X : Cx} {pins : List (Addr × Obj)} {σ : L2.St} {H : Hp} {s : Shared}
theorem sqb_at {b : Bool} {a : Addr} {xs : List V} (I : Inv X pins σ H s) (h : SqB X.K b H a xs) : ∃ its : List Value, Vals xs its ∧ SCo b s.heap a its.toArray ∧ xs.length ≤ sizeLine := by
  cases b
  · obtain ⟨its, r, p, z⟩ := I.tuple h
    exact ⟨its, r, p, z⟩
  · obtain ⟨its, r, p, z⟩ := I.list h
    exact ⟨its, r, p.isList, z⟩
theorem sqb_inj {b : Bool} {a : Addr} {xs ys : List V} (I : Inv X pins σ H s) (h : SqB X.K b H a xs) (h' : SqB X.K b H a ys) : xs = ys := by
  cases b
  · exact I.tuple_inj h h'
  · exact I.list_inj h h'
theorem sqb_ne {b : Bool} {a c : Addr} {xs : List V} (I : Inv X pins σ H s) (h : SqB X.K b H a xs) (f : FpOk X pins H c) : a ≠ c := by
  rintro rfl
  have ink : ∀ {o}, X.K.lookup a = some o → False := fun {o} e => by
    have e1 := I.ok.mod.kin _ _ e
    rcases f.2.2.2.1 with z | z
    · exact I.ok.noex _ _ e1 z
    · exact absurd (Nat.lt_of_lt_of_le (Heap.lt_size e1) (Nat.le_trans I.ok.bsz z)) (Nat.lt_irrefl _)
  cases b
  · rcases h with (h | ⟨_, h⟩) | ⟨_, _, _, h, _⟩
    · rw [f.1] at h; cases h
    · rw [f.1] at h; cases h
    · exact ink h
  · rcases h with (h | ⟨_, h⟩) | ⟨_, _, _, h, _⟩
    · rw [f.1] at h; cases h
    · rw [f.1] at h; cases h
    · exact ink h
/-- records of ours have turned, a new tuple stands -/
theorem inv_pair (I : Inv X pins σ H s) {fp : List Addr} (hf : ∀ b ∈ fp, FpOk X pins H b) {h' : Heap} {p : Addr} {xs : List V} {its : List Value} {t' : Nat} (hp : s.heap.objs.size ≤ p) (kk : ∀ b o, b ∉ fp → s.heap.get? b = some o → h'.get? b = some o)
    (tp : IsTup h' p its.toArray) (rv : Vals xs its) (hz : xs.length ≤ sizeLine) : Inv X pins σ (upd H p (.tup xs)) { s with heap := h', toks := t' } := by
  have hn : H p = none := I.hok.fresh hp
  have neP : ∀ {b o}, s.heap.get? b = some o → b ≠ p := fun e => Nat.ne_of_lt (Nat.lt_of_lt_of_le (Heap.lt_size e) hp)
  have nf : ∀ {b u}, H b = some u → b ∉ fp := fun e z => by rw [(hf _ z).1] at e; cases e
  refine I.step (g' := s.gens) (d' := s.drawn) (ch := fp) (fun b hb => ⟨(hf b hb).2.2.2.1, (hf b hb).2.1, (hf b hb).2.2.2.2.1, (hf b hb).2.2.2.2.2⟩) (fun b o _ _ hc e _ => kk b o hc e) (fun b o _ _ hc e _ => ⟨o.slots, kk b o hc e⟩) (fun b o _ e n => ?_)
    (fun b o hc e => ⟨o, kk b o hc e⟩) (fun b ys e => ?_) (fun b o u e => ?_) (fun b ps e => ⟨#[], ?_⟩) (fun m hm => ?_) (fun b u e => ?_) I.bare
  · rw [upd_ne (neP e)]; exact n
  · rw [upd_ne (ne_of_none e hn)]; exact e
  · rw [upd_ne (ne_of_none e hn)]; exact e
  · rw [upd_ne (ne_of_none e hn), e]; simp
  · obtain ⟨o, es, ep, ho, r⟩ := hm
    exact ⟨o, es, ep, kk _ o (fun z => (hf _ z).2.1 rfl) ho, r⟩
  · by_cases hb : b = p
    · subst hb; rw [upd_same] at e; cases e
      exact ⟨hz, its, rv, tp⟩
    · rw [upd_ne hb] at e
      refine (I.hok b u e).stay (fun c v hc q => kk c v ?_ q) (fun c q => by rw [upd_ne (ne_of_none q hn)]; exact q) fun c ys q => by rw [upd_ne (ne_of_none q hn)]; exact q
      rcases hc with z | z
      · rw [z]; exact nf e
      · exact nf z
theorem inv_turned (I : Inv X pins σ H s) {fp : List Addr} (hf : ∀ b ∈ fp, FpOk X pins H b) {h' : Heap} {t' : Nat} (kk : ∀ b o, b ∉ fp → s.heap.get? b = some o → h'.get? b = some o) : Inv X pins σ H { s with heap := h', toks := t' } := by
  have nf : ∀ {b u}, H b = some u → b ∉ fp := fun e z => by rw [(hf _ z).1] at e; cases e
  refine I.step (g' := s.gens) (d' := s.drawn) (ch := fp) (fun b hb => ⟨(hf b hb).2.2.2.1, (hf b hb).2.1, (hf b hb).2.2.2.2.1, (hf b hb).2.2.2.2.2⟩) (fun b o _ _ hc e _ => kk b o hc e) (fun b o _ _ hc e _ => ⟨o.slots, kk b o hc e⟩) (fun b o _ e n => n)
    (fun b o hc e => ⟨o, kk b o hc e⟩) (fun b ys e => e) (fun b o u e => e) (fun b ps e => ⟨#[], by rw [e]; simp⟩) (fun m hm => ?_) (fun b u e => ?_) I.bare
  · obtain ⟨o, es, ep, ho, r⟩ := hm
    exact ⟨o, es, ep, kk _ o (fun z => (hf _ z).2.1 rfl) ho, r⟩
  · refine (I.hok b u e).stay (fun c v hc q => kk c v ?_ q) (fun c q => q) fun c ys q => q
    rcases hc with z | z
    · rw [z]; exact nf e
    · exact nf z
end
theorem two_fits : (2 : Nat) ≤ sizeLine := by decide

/-! ### the iterators -/
def Ite (K : PySem.W.Frag) (b : Bool) (a : Addr) : It :=
  ⟨fun i H => ∃ xs x, SqB K b H a xs ∧ xs[i]? = some x, fun i H x H' => ∃ p v, H p = none ∧ x = .ref p ∧ H' = upd H p (.tup [.int i, v]) ∧ ∀ xs, SqB K b H a xs → xs[i]? = some v, fun i H => ∃ xs, SqB K b H a xs ∧ xs.length ≤ i⟩
theorem turn_enum {P : Program} {w : World} {K : PySem.W.Frag} {elts : List Expr} {k : Nat} {pos : Pos} (b : Bool) (a e it : Addr) (ne : e ≠ it) : Turn P w K (.Tuple elts k pos) (Ite K b a) [e, it] e (fun i h => (∃ old, IsEnum h e it (i : Nat) old) ∧ SIt b h it a i) where
  mem := by simp
  obj := fun i h ⟨⟨old, st⟩, si⟩ c hc => by
    rcases List.mem_cons.mp hc with z | z
    · subst z; exact ⟨_, st, fun v q => by cases q⟩
    · have z' : c = it := by simpa using z
      subst z'; exact si.rec_
  keep := fun i h h' ⟨⟨old, st⟩, si⟩ kk => ⟨⟨old, kk e (by simp) _ st⟩, si.to fun o q => kk it (by simp) o q⟩
  item := by
    intro X hP hw hK hc i pins s σ H E I hf st hg
    subst hP hw hK
    obtain ⟨⟨old, he⟩, ti⟩ := st
    obtain ⟨xs, x, hq, hx⟩ := hg
    obtain ⟨its, rv, co, hz⟩ := sqb_at I hq
    obtain ⟨u, hu, ru⟩ := rv.get hx
    refine enum_next he ti co (x := u) (by simpa using hu) ne fun h1 heo ti1 ht1 hz1 hk1 => ?_
    refine ⟨.ref s.heap.objs.size, rfl, ?_⟩
    refine wpAny_letOwnedTupleGo_enum heo fun h2 he2 hs2 => ?_
    have pe : s.heap.objs.size ≠ e := Nat.ne_of_gt (Heap.lt_size he)
    have hk2 : ∀ c o, c ∉ [e, it] → s.heap.get? c = some o → h2.get? c = some o := fun c o hc q => by
      have c1 : c ≠ e := fun z => hc (by simp [z])
      have c2 : c ≠ it := fun z => hc (by simp [z])
      exact hs2.extBut _ _ c1 (hk1 c o c1 c2 q)
    have tp : IsTup h2 s.heap.objs.size [.int (i : Nat) s.toks, u].toArray := ⟨_, hs2.extBut _ _ pe ht1, rfl, _, rfl⟩
    have I2 := inv_pair I hf (t' := s.toks + 1) (Nat.le_refl _) hk2 tp (xs := [.int i, x]) (.cons ⟨_, rfl⟩ (.cons ru .nil)) two_fits
    have hn : H s.heap.objs.size = none := I.hok.fresh (Nat.le_refl _)
    refine ⟨.ref s.heap.objs.size, _, I2, rfl, ⟨_, x, hn, rfl, rfl, fun ys hy => by rw [sqb_inj I hy hq]; exact hx⟩, ⟨⟨u, ?_⟩, ti1.to fun o q => hs2.extBut _ _ (Ne.symm ne) q⟩, fun c hc => ?_⟩
    · have : ((i + 1 : Nat) : Int) = (i : Int) + 1 := by push_cast; rfl
      rw [this]; exact he2
    · have c1 : c ≠ s.heap.objs.size := fun z => by
        rcases List.mem_cons.mp hc with q | q
        · exact pe (z.symm.trans q)
        · have q' : c = it := by simpa using q
          obtain ⟨o, eo, _⟩ := ti.rec_
          rw [← q', z] at eo
          exact Nat.lt_irrefl _ (Heap.lt_size eo)
      rw [upd_ne c1]; exact (hf c hc).1
  done := by
    intro X hP hw hK hc i pins s σ H E I hf st hg
    subst hP hw hK
    obtain ⟨⟨old, he⟩, ti⟩ := st
    obtain ⟨xs, hq, hx⟩ := hg
    obtain ⟨its, rv, co, hz⟩ := sqb_at I hq
    have hl := rv.length
    refine enum_end (I.ok.hd hc) he ti co (by simp; omega) fun h' eb => ⟨rfl, inv_turned I (t' := s.toks) hf fun c o hc q => eb c o (fun z => hc (by simp [z])) q⟩
  self := fun _ _ _ _ _ ⟨⟨_, st⟩, _⟩ h => enum_self st h

def Itz (K : PySem.W.Frag) (b1 b2 : Bool) (a1 a2 : Addr) : It :=
  ⟨fun i H => ∃ xs ys x y, SqB K b1 H a1 xs ∧ SqB K b2 H a2 ys ∧ xs[i]? = some x ∧ ys[i]? = some y, fun i H x H' => ∃ p v u, H p = none ∧ x = .ref p ∧ H' = upd H p (.tup [v, u]) ∧ (∀ xs, SqB K b1 H a1 xs → xs[i]? = some v) ∧ ∀ ys, SqB K b2 H a2 ys → ys[i]? = some u,
   fun i H => ∃ xs ys, SqB K b1 H a1 xs ∧ SqB K b2 H a2 ys ∧ (xs.length ≤ i ∨ ys.length ≤ i)⟩
theorem turn_zip {P : Program} {w : World} {K : PySem.W.Frag} {elts : List Expr} {k : Nat} {pos : Pos} (b1 b2 : Bool) (a1 a2 z ti to i1 i2 : Addr) (D : Zap z ti to i1 i2) : Turn P w K (.Tuple elts k pos) (Itz K b1 b2 a1 a2) [z, ti, to, i1, i2] z
    (fun i h => IsZip h z ti to .none ∧ IsPair h ti (.ref i1) (.ref i2) ∧ (∃ u v, IsPair h to u v) ∧ SIt b1 h i1 a1 i ∧ SIt b2 h i2 a2 i) where
  mem := by simp
  obj := fun i h ⟨q1, q2, ⟨u, v, q3⟩, q4, q5⟩ c hc => by
    simp only [List.mem_cons, List.not_mem_nil, or_false] at hc
    rcases hc with rfl | rfl | rfl | rfl | rfl
    · exact ⟨_, q1, fun v q => by cases q⟩
    · exact ⟨_, q2, fun v q => by cases q⟩
    · exact ⟨_, q3, fun v q => by cases q⟩
    · exact q4.rec_
    · exact q5.rec_
  keep := fun i h h' ⟨q1, q2, ⟨u, v, q3⟩, q4, q5⟩ kk => ⟨kk z (by simp) _ q1, kk ti (by simp) _ q2, ⟨u, v, kk to (by simp) _ q3⟩, q4.to fun o q => kk i1 (by simp) o q, q5.to fun o q => kk i2 (by simp) o q⟩
  item := by
    intro X hP hw hK hc i pins s σ H E I hf st hg
    subst hP hw hK
    obtain ⟨q1, q2, ⟨u0, v0, q3⟩, q4, q5⟩ := st
    obtain ⟨xs, ys, x, y, hx, hy, ex, ey⟩ := hg
    obtain ⟨its, rv, co, hz⟩ := sqb_at I hx
    obtain ⟨its2, rv2, co2, hz2⟩ := sqb_at I hy
    obtain ⟨u, hu, ru⟩ := rv.get ex
    obtain ⟨u2, hu2, ru2⟩ := rv2.get ey
    refine zip_step D q1 q2 q3 (sqb_ne I hx (hf to (by simp))) (sqb_ne I hy (hf to (by simp))) q4 q5 co co2 (x := u) (y := u2) (by simpa using hu) (by simpa using hu2) fun h1 p1 p2 p3 p4 p5 p6 hk1 => ?_
    refine ⟨.ref s.heap.objs.size, rfl, ?_⟩
    refine wpAny_letOwnedTupleGo_zip p1 fun h2 z2 hs2 => ?_
    have lt : ∀ c ∈ [z, ti, to, i1, i2], c ≠ s.heap.objs.size := fun c hc e => by
      obtain ⟨o, eo⟩ : ∃ o, s.heap.get? c = some o := by
        simp only [List.mem_cons, List.not_mem_nil, or_false] at hc
        rcases hc with rfl | rfl | rfl | rfl | rfl
        · exact ⟨_, q1⟩
        · exact ⟨_, q2⟩
        · exact ⟨_, q3⟩
        · obtain ⟨o, e, _⟩ := q4.rec_; exact ⟨o, e⟩
        · obtain ⟨o, e, _⟩ := q5.rec_; exact ⟨o, e⟩
      rw [e] at eo
      exact Nat.lt_irrefl _ (Heap.lt_size eo)
    have hk2 : ∀ c o, c ∉ [z, ti, to, i1, i2] → s.heap.get? c = some o → h2.get? c = some o := fun c o hc q => by
      simp only [List.mem_cons, List.not_mem_nil, or_false, not_or] at hc
      exact hs2.extBut _ _ hc.1 (hk1 c o hc.1 hc.2.2.1 hc.2.2.2.1 hc.2.2.2.2 q)
    have tp : IsTup h2 s.heap.objs.size [u, u2].toArray := ⟨_, hs2.extBut _ _ (Ne.symm (lt z (by simp))) p5, rfl, _, rfl⟩
    have I2 := inv_pair I hf (t' := s.toks) (Nat.le_refl _) hk2 tp (xs := [x, y]) (.cons ru (.cons ru2 .nil)) two_fits
    have hn : H s.heap.objs.size = none := I.hok.fresh (Nat.le_refl _)
    refine ⟨.ref s.heap.objs.size, _, I2, rfl, ⟨_, x, y, hn, rfl, rfl, fun ys' hy' => by rw [sqb_inj I hy' hx]; exact ex, fun ys' hy' => by rw [sqb_inj I hy' hy]; exact ey⟩,
      ⟨z2, hs2.extBut _ _ D.a1 (hk1 _ _ D.a1 D.a5 D.a6 D.a7 q2), ⟨u, u2, hs2.extBut _ _ D.a2 p2⟩, p3.to fun o q => hs2.extBut _ _ D.a3 q, p4.to fun o q => hs2.extBut _ _ D.a4 q⟩, fun c hc => ?_⟩
    rw [upd_ne (lt c hc)]; exact (hf c hc).1
  done := by
    intro X hP hw hK hc i pins s σ H E I hf st hg
    subst hP hw hK
    obtain ⟨q1, q2, ⟨u0, v0, q3⟩, q4, q5⟩ := st
    obtain ⟨xs, ys, hx, hy, hl⟩ := hg
    obtain ⟨its, rv, co, hz⟩ := sqb_at I hx
    obtain ⟨its2, rv2, co2, hz2⟩ := sqb_at I hy
    have l1 := rv.length
    have l2 := rv2.length
    refine zip_end (I.ok.hd hc) D q1 q2 q3 (sqb_ne I hx (hf to (by simp))) (sqb_ne I hy (hf to (by simp))) q4 q5 co co2 (by simp; omega) fun h' eb => ⟨rfl, inv_turned I (t' := s.toks) hf fun c o hc q => ?_⟩
    simp only [List.mem_cons, List.not_mem_nil, or_false, not_or] at hc
    exact eb c o hc.1 hc.2.2.1 hc.2.2.2.1 hc.2.2.2.2 q
  self := fun _ _ _ _ _ ⟨st, _⟩ h => wpAny_pyIter_zip st h
section
variable {X : Cx} {elts : List Expr} {k : Nat} {tpos : Pos}
def iEnum (K : PySem.W.Frag) (ta : TA) : TI := fun σ H R => ta σ H fun vs H1 => ∃ a b, vs = [.ref a] ∧ (∃ xs, SqB K b H1 a xs) ∧ R (Ite K b a) H1
theorem pi_enum {a : Expr} {ta : TA} {p pos : Pos} (hg : Gl X "enumerate") (hm : X.mg "enumerate" = none) (ha : PA X [a] ta) (hs : starEach [a] X.env = [(false, eval a X.env)] := by rfl) : PI X (.Tuple elts k tpos) (.Call (.Name "enumerate" p) [a] [] pos) (iEnum X.K ta) := by
  intro pins s σ H R I h
  refine Call_ (ld_blt I hg hm boot_enumerate (PyProof.Rows.callWith_type1 (thn (ha pos pins s σ H _ I h) fun us s1 ⟨vs, H1, I1, r1, q1⟩ => ?_) hs rfl))
  obtain ⟨c, b, e, ⟨xs, hq⟩, q⟩ := q1
  subst e
  cases r1 with
  | cons r rr =>
    cases rr
    cases r
    obtain ⟨its, rv, co, hz⟩ := sqb_at I1 hq
    refine enum_call co fun h' he ti hz' hk => enum_self he ?_
    have I2 : Inv X pins σ H1 { s1 with heap := h' } := I1.kept (t' := s1.toks) hk
    refine ⟨s1.heap.objs.size + 1, [s1.heap.objs.size + 1, s1.heap.objs.size], _, _, H1, rfl, I2, turn_enum b c _ _ (Nat.succ_ne_self _), ⟨⟨.none, he⟩, ti⟩, fun d hd => ?_, q⟩
    rcases List.mem_cons.mp hd with z | z
    · subst z; exact I1.fpOk (Nat.le_succ _) (I1.hok.fresh (Nat.le_succ _))
    · have z' : d = s1.heap.objs.size := by simpa using z
      subst z'; exact I1.fpOk (Nat.le_refl _) (I1.hok.fresh (Nat.le_refl _))
def iZip (K : PySem.W.Frag) (ta : TA) : TI := fun σ H R => ta σ H fun vs H1 => ∃ a1 b1 a2 b2, vs = [.ref a1, .ref a2] ∧ (∃ xs, SqB K b1 H1 a1 xs) ∧ (∃ xs, SqB K b2 H1 a2 xs) ∧ R (Itz K b1 b2 a1 a2) H1
theorem pi_zip {a b : Expr} {ta : TA} {p pos : Pos} (hg : Gl X "zip") (hm : X.mg "zip" = none) (ha : PA X [a, b] ta) (hs : starEach [a, b] X.env = [(false, eval a X.env), (false, eval b X.env)] := by rfl) (hs2 : starEach [b] X.env = [(false, eval b X.env)] := by rfl) :
    PI X (.Tuple elts k tpos) (.Call (.Name "zip" p) [a, b] [] pos) (iZip X.K ta) := by
  intro pins s σ H R I h
  refine Call_ (ld_blt I hg hm boot_zip (PyProof.Rows.callWith_type1 (thn (ha pos pins s σ H _ I h) fun us s1 ⟨vs, H1, I1, r1, q1⟩ => ?_) (by rw [hs, hs2]) (by rw [hs2]; rfl)))
  obtain ⟨c1, b1, c2, b2, e, ⟨xs, hx⟩, ⟨ys, hy⟩, q⟩ := q1
  subst e
  cases r1 with
  | cons r rr =>
    cases rr with
    | cons r' rr =>
      cases rr
      cases r
      cases r'
      obtain ⟨its, rv, co, hz⟩ := sqb_at I1 hx
      obtain ⟨its2, rv2, co2, hz2⟩ := sqb_at I1 hy
      refine zip_call co co2 fun h' g5 g3 g4 g1 g2 gz hk => wpAny_pyIter_zip g5 ?_
      have I2 : Inv X pins σ H1 { s1 with heap := h' } := I1.kept (t' := s1.toks) hk
      refine ⟨s1.heap.objs.size + 4, [s1.heap.objs.size + 4, s1.heap.objs.size + 2, s1.heap.objs.size + 3, s1.heap.objs.size, s1.heap.objs.size + 1], _, _, H1, rfl, I2, turn_zip b1 b2 c1 c2 _ _ _ _ _ ?_, ⟨g5, g3, ⟨_, _, g4⟩, g1, g2⟩, fun d hd => ?_, q⟩
      · constructor <;> (intro z; have z' : ((_ : Nat) = _) := z; omega)
      · have hd' : s1.heap.objs.size ≤ d := by
          simp only [List.mem_cons, List.not_mem_nil, or_false] at hd
          rcases hd with rfl | rfl | rfl | rfl | rfl
          · exact Nat.le_add_right _ _
          · exact Nat.le_add_right _ _
          · exact Nat.le_add_right _ _
          · exact Nat.le_refl _
          · exact Nat.le_add_right _ _
        exact I1.fpOk hd' (I1.hok.fresh hd')
end
end Mi

end
section
set_option Elab.async false
set_option linter.all false
set_option maxRecDepth 100000
namespace Mi
open PySem PySem.Spec PyProof.Rows L2

/-! ### what a datum holds, if it is a list (true) or a tuple (false) -/
def seqOf (S : Sto) : D → Option (Bool × List D)
  | .tup xs => some (false, xs)
  | .rol xs => some (true, xs)
  | .ref n => match S[n]? with
    | some (.lst xs) => some (true, xs)
    | _ => none
  | _ => none
def chkOf (S : Sto) : D → List (Nat × List D)
  | .ref n => match S[n]? with
    | some (.lst xs) => [(n, xs)]
    | _ => []
  | _ => []
section
variable {K : PySem.W.Frag} {H : Hp} {mu : List Addr} {S : Sto}
theorem seqOf_at {d : D} {v : V} {b : Bool} {xs : List D} (r : Rep K H mu d v) (s : Sim K H mu S) (h : seqOf S d = some (b, xs)) : ∃ a vs, v = .ref a ∧ SqB K b H a vs ∧ Reps K H mu xs vs := by
  cases d with
  | tup ys => cases h; cases r with | tup q t => exact ⟨_, _, rfl, q, t⟩
  | rol ys => cases h; cases r with | rol q t => exact ⟨_, _, rfl, q.sq, t⟩
  | ref n =>
    rw [seqOf] at h
    split at h
    · rename_i ys e
      cases h
      cases r with
      | ref q =>
        obtain ⟨vs, e1, r1⟩ := s.lst e q
        exact ⟨_, vs, rfl, SqL.of e1, r1⟩
    · cases h
  | _ => cases h
theorem okC_self (d : D) : okC S (chkOf S d) = true := by
  cases d with
  | ref n =>
    rw [chkOf]
    split
    · rename_i xs e
      rw [okC, e]
      simp only [D.sames_refl, okC, Bool.and_self]
    · rfl
  | _ => rfl
/-- the same later on, where the look allows it -/
theorem seq_later {d : D} {a : Addr} {b : Bool} {xs : List D} (r : Rep K H mu d (.ref a)) (s : Sim K H mu S) (h : seqOf S d = some (b, xs)) {H1 : Hp} {mu1 : List Addr} {S1 : Sto} (x : Exw mu mu1 H H1) (s1 : Sim K H1 mu1 S1) (ok : okC S1 (chkOf S d) = true) :
    ∃ vs, SqB K b H1 a vs ∧ Reps K H1 mu1 xs vs := by
  have r1 := r.exw x
  have h1 : seqOf S1 d = some (b, xs) := by
    cases d with
    | ref n =>
      rw [seqOf] at h
      split at h
      · rename_i ys e
        cases h
        rw [chkOf, e] at ok
        dsimp only [okC] at ok
        rw [Bool.and_true] at ok
        rw [seqOf]
        split at ok
        · rename_i zs ez
          first | rw [ez, D.sames_eq ok] | rw [D.sames_eq ok]
        · cases ok
      · cases h
    | _ => exact h
  obtain ⟨a', vs, e, q, t⟩ := seqOf_at r1 s1 h1
  cases e
  exact ⟨vs, q, t⟩
end

/-! ### iterators -/
def iSeq (m : FE) : FI := fun r S => (m r S).bind fun p => (seqOf p.2 p.1).bind fun q => some (⟨q.2, chkOf p.2 p.1⟩, p.2)
def enD : Nat → List D → List D
  | _, [] => []
  | n, d :: ds => .tup [.int n, d] :: enD (n + 1) ds
def iEn (m : FA) : FI := fun r S => (m r S).bind fun p => match p.1 with
  | [d] => (seqOf p.2 d).bind fun q => some (⟨enD 0 q.2, chkOf p.2 d⟩, p.2)
  | _ => none
def zpD : List D → List D → List D
  | x :: xs, y :: ys => .tup [x, y] :: zpD xs ys
  | _, _ => []
def iZp (m : FA) : FI := fun r S => (m r S).bind fun p => match p.1 with
  | [d, e] => (seqOf p.2 d).bind fun q => (seqOf p.2 e).bind fun t => some (⟨zpD q.2 t.2, chkOf p.2 d ++ chkOf p.2 e⟩, p.2)
  | _ => none
def nums (lo : Int) : Nat → List D
  | 0 => []
  | n + 1 => .int lo :: nums (lo + 1) n
def iR1 (m : FA) : FI := fun r S => (m r S).bind fun p => match p.1 with
  | [.int j] => if -(2 ^ 62) ≤ j ∧ j < 2 ^ 62 then some (⟨nums 0 j.toNat, []⟩, p.2) else none
  | _ => none
def iR2 (m : FA) : FI := fun r S => (m r S).bind fun p => match p.1 with
  | [.int i, .int j] => if -(2 ^ 62) ≤ i ∧ i < 2 ^ 62 ∧ -(2 ^ 62) ≤ j ∧ j < 2 ^ 62 then some (⟨nums i (j - i).toNat, []⟩, p.2) else none
  | _ => none
theorem enD_get : ∀ (ds : List D) (n i : Nat), (enD n ds)[i]? = (ds[i]?).map fun d => .tup [.int ((n + i : Nat) : Int), d]
  | [], n, i => by simp [enD]
  | d :: ds, n, 0 => by simp [enD]
  | d :: ds, n, i + 1 => by
    rw [enD, List.getElem?_cons_succ, enD_get ds (n + 1) i, List.getElem?_cons_succ]
    rw [show n + 1 + i = n + (i + 1) by omega]
theorem enD_len : ∀ (ds : List D) (n : Nat), (enD n ds).length = ds.length
  | [], _ => rfl
  | d :: ds, n => by rw [enD, List.length_cons, enD_len ds, List.length_cons]
theorem zpD_get : ∀ (xs ys : List D) (i : Nat) (d : D), (zpD xs ys)[i]? = some d → ∃ x y, xs[i]? = some x ∧ ys[i]? = some y ∧ d = .tup [x, y]
  | [], _, i, d, h => by simp [zpD] at h
  | _ :: _, [], i, d, h => by simp [zpD] at h
  | x :: xs, y :: ys, 0, d, h => by simp [zpD] at h; exact ⟨x, y, rfl, rfl, h.symm⟩
  | x :: xs, y :: ys, i + 1, d, h => by
    rw [zpD, List.getElem?_cons_succ] at h
    obtain ⟨x', y', e1, e2, e3⟩ := zpD_get xs ys i d h
    exact ⟨x', y', by simpa using e1, by simpa using e2, e3⟩
theorem zpD_len : ∀ (xs ys : List D) (i : Nat), (zpD xs ys).length ≤ i → xs.length ≤ i ∨ ys.length ≤ i
  | [], _, i, _ => .inl (Nat.zero_le _)
  | _ :: _, [], i, _ => .inr (Nat.zero_le _)
  | x :: xs, y :: ys, 0, h => by simp [zpD] at h
  | x :: xs, y :: ys, i + 1, h => by
    rcases zpD_len xs ys i (by simpa [zpD] using h) with q | q
    · exact .inl (by simpa using q)
    · exact .inr (by simpa using q)
theorem nums_get : ∀ (n : Nat) (lo : Int) (i : Nat) (d : D), (nums lo n)[i]? = some d → i < n ∧ d = .int (lo + i)
  | 0, lo, i, d, h => by simp [nums] at h
  | n + 1, lo, 0, d, h => by simp [nums] at h; exact ⟨Nat.succ_pos _, by rw [← h]; simp⟩
  | n + 1, lo, i + 1, d, h => by
    rw [nums, List.getElem?_cons_succ] at h
    obtain ⟨h1, h2⟩ := nums_get n (lo + 1) i d h
    refine ⟨Nat.succ_lt_succ h1, ?_⟩
    rw [h2, show lo + 1 + (i : Int) = lo + ((i + 1 : Nat) : Int) by push_cast; omega]
theorem nums_len : ∀ (n : Nat) (lo : Int), (nums lo n).length = n
  | 0, _ => rfl
  | n + 1, lo => by rw [nums, List.length_cons, nums_len n]
theorem okC_app {S : Sto} : ∀ {c c' : List (Nat × List D)}, okC S (c ++ c') = true → okC S c = true ∧ okC S c' = true
  | [], _, h => ⟨rfl, h⟩
  | (n, xs) :: c, c', h => by
    rw [List.cons_append, okC, Bool.and_eq_true] at h
    obtain ⟨h1, h2⟩ := okC_app h.2
    exact ⟨by rw [okC, Bool.and_eq_true]; exact ⟨h.1, h1⟩, h2⟩
section
variable {X : Cx} {tg : Expr}
theorem itr_nums (K : PySem.W.Frag) (lo : Int) (n : Nat) (mu : List Addr) (H : Hp) : ItR K (Itr lo n) ⟨nums lo n, []⟩ mu H := by
  intro i H1 mu1 S1 x s ok
  refine ⟨fun d hd => ?_, fun h => by rw [nums_len] at h; exact h⟩
  obtain ⟨h1, h2⟩ := nums_get n lo i d hd
  refine ⟨h1, fun y H2 ⟨e1, e2⟩ => ?_⟩
  subst e1; subst e2; subst h2
  exact ⟨.refl _ _, s, .int _⟩
theorem mi_seq {e : Expr} {m : FE} (h : ME X e m) : MI X tg e (iSeq m) := pi_imp (pi_or (pi_list h) (pi_tup h)) fun σ H R ⟨r, mu, S, J, S', he, hs, hm, hc⟩ => by
  obtain ⟨⟨d, S1⟩, e1, hm⟩ := Option.bind_eq_some_iff.mp hm
  obtain ⟨⟨b, xs⟩, e2, hm⟩ := Option.bind_eq_some_iff.mp hm
  cases hm
  cases b with
  | true =>
    left
    refine ⟨r, mu, S, d, _, he, hs, e1, fun v H1 mu1 x1 r1 s1 => ?_⟩
    obtain ⟨a, vs, rfl, q, t⟩ := seqOf_at r1 s1 e2
    refine ⟨a, rfl, ⟨vs, q⟩, hc _ H1 mu1 x1 (fun i H2 mu2 S2 x2 s2 ok => ?_) s1⟩
    obtain ⟨ws, q2, t2⟩ := seq_later r1 s1 e2 x2 s2 ok
    refine ⟨fun d hd => ?_, fun hl => ⟨ws, q2, by rw [← t2.length]; exact hl⟩⟩
    obtain ⟨v, ev, rv⟩ := t2.get hd
    refine ⟨⟨ws, v, q2, ev⟩, fun y H3 ⟨z1, z2⟩ => ?_⟩
    subst z1
    have := z2 ws q2
    rw [ev] at this
    cases this
    exact ⟨.refl _ _, s2, rv⟩
  | false =>
    right
    refine ⟨r, mu, S, d, _, he, hs, e1, fun v H1 mu1 x1 r1 s1 => ?_⟩
    obtain ⟨a, vs, rfl, q, t⟩ := seqOf_at r1 s1 e2
    refine ⟨a, rfl, ⟨vs, q⟩, hc _ H1 mu1 x1 (fun i H2 mu2 S2 x2 s2 ok => ?_) s1⟩
    obtain ⟨ws, q2, t2⟩ := seq_later r1 s1 e2 x2 s2 ok
    refine ⟨fun d hd => ?_, fun hl => ⟨ws, q2, by rw [← t2.length]; exact hl⟩⟩
    obtain ⟨v, ev, rv⟩ := t2.get hd
    refine ⟨⟨ws, v, q2, ev⟩, fun y H3 ⟨z1, z2⟩ => ?_⟩
    subst z1
    have := z2 ws q2
    rw [ev] at this
    cases this
    exact ⟨.refl _ _, s2, rv⟩
theorem reps_one {K : PySem.W.Frag} {H : Hp} {mu : List Addr} {d : D} {vs : List V} (r : Reps K H mu [d] vs) : ∃ v, vs = [v] ∧ Rep K H mu d v := by
  cases r with | cons r t => cases t; exact ⟨_, rfl, r⟩
theorem reps_two {K : PySem.W.Frag} {H : Hp} {mu : List Addr} {d e : D} {vs : List V} (r : Reps K H mu [d, e] vs) : ∃ v u, vs = [v, u] ∧ Rep K H mu d v ∧ Rep K H mu e u := by
  cases r with | cons r t => cases t with | cons q t => cases t; exact ⟨_, _, rfl, r, q⟩
theorem mi_range1 {a : Expr} {m : FA} {p pos : Pos} (hg : Gl X "range") (hm : X.mg "range" = none) (ha : MA X [a] m) (hs : starEach [a] X.env = [(false, eval a X.env)] := by rfl) : MI X tg (.Call (.Name "range" p) [a] [] pos) (iR1 m) :=
  pi_imp (pi_range1 hg hm ha hs) fun σ H R ⟨r, mu, S, J, S', he, hs, hm, hc⟩ => by
    obtain ⟨⟨ds, S1⟩, e1, hm⟩ := Option.bind_eq_some_iff.mp hm
    dsimp only at hm
    split at hm
    · rename_i j
      split at hm
      · rename_i hb
        cases hm
        refine ⟨r, mu, S, _, _, he, hs, e1, fun vs H1 mu1 x1 r1 s1 => ?_⟩
        obtain ⟨v, rfl, rv⟩ := reps_one r1
        cases rv
        exact ⟨j, rfl, hb.1, hb.2, hc _ H1 mu1 x1 (itr_nums _ _ _ _ _) s1⟩
      · cases hm
    · cases hm
theorem mi_range2 {a b : Expr} {m : FA} {p pos : Pos} (hg : Gl X "range") (hm : X.mg "range" = none) (ha : MA X [a, b] m) (hs : starEach [a, b] X.env = [(false, eval a X.env), (false, eval b X.env)] := by rfl) (hs2 : starEach [b] X.env = [(false, eval b X.env)] := by rfl) : MI X tg (.Call (.Name "range" p) [a, b] [] pos) (iR2 m) :=
  pi_imp (pi_range2 hg hm ha hs hs2) fun σ H R ⟨r, mu, S, J, S', he, hs, hm, hc⟩ => by
    obtain ⟨⟨ds, S1⟩, e1, hm⟩ := Option.bind_eq_some_iff.mp hm
    dsimp only at hm
    split at hm
    · rename_i i j
      split at hm
      · rename_i hb
        cases hm
        refine ⟨r, mu, S, _, _, he, hs, e1, fun vs H1 mu1 x1 r1 s1 => ?_⟩
        obtain ⟨v, u, rfl, rv, ru⟩ := reps_two r1
        cases rv; cases ru
        exact ⟨i, j, rfl, hb, hc _ H1 mu1 x1 (itr_nums _ _ _ _ _) s1⟩
      · cases hm
    · cases hm
variable {elts : List Expr} {k : Nat} {tpos : Pos}
theorem mi_enum {a : Expr} {m : FA} {p pos : Pos} (hg : Gl X "enumerate") (hm : X.mg "enumerate" = none) (ha : MA X [a] m) (hs : starEach [a] X.env = [(false, eval a X.env)] := by rfl) : MI X (.Tuple elts k tpos) (.Call (.Name "enumerate" p) [a] [] pos) (iEn m) :=
  pi_imp (pi_enum hg hm ha hs) fun σ H R ⟨r, mu, S, J, S', he, hs, hm, hc⟩ => by
    obtain ⟨⟨ds, S1⟩, e1, hm⟩ := Option.bind_eq_some_iff.mp hm
    dsimp only at hm
    split at hm
    · rename_i d
      obtain ⟨⟨b, xs⟩, e2, hm⟩ := Option.bind_eq_some_iff.mp hm
      cases hm
      refine ⟨r, mu, S, _, _, he, hs, e1, fun vs H1 mu1 x1 r1 s1 => ?_⟩
      obtain ⟨v, rfl, rv⟩ := reps_one r1
      obtain ⟨a, vs, rfl, q, t⟩ := seqOf_at rv s1 e2
      refine ⟨a, b, rfl, ⟨vs, q⟩, hc _ H1 mu1 x1 (fun i H2 mu2 S2 x2 s2 ok => ?_) s1⟩
      obtain ⟨ws, q2, t2⟩ := seq_later rv s1 e2 x2 s2 ok
      refine ⟨fun d hd => ?_, fun hl => ⟨ws, q2, by rw [enD_len] at hl; rw [← t2.length]; exact hl⟩⟩
      rw [enD_get] at hd
      obtain ⟨d', ed, hd⟩ := Option.map_eq_some_iff.mp hd
      obtain ⟨v, ev, rv'⟩ := t2.get ed
      refine ⟨⟨ws, v, q2, ev⟩, fun y H3 ⟨p, v', hp, z1, z2, z3⟩ => ?_⟩
      have := z3 ws q2
      rw [ev] at this
      cases this
      subst z1; subst z2; subst hd
      rw [Nat.zero_add]
      exact ⟨Ext.fresh hp, s2.fresh hp, .tup (SqT.of upd_same) (.cons (.int _) (.cons (rv'.ext (Ext.fresh hp)) .nil))⟩
    · cases hm
theorem mi_zip {a b : Expr} {m : FA} {p pos : Pos} (hg : Gl X "zip") (hm : X.mg "zip" = none) (ha : MA X [a, b] m) (hs : starEach [a, b] X.env = [(false, eval a X.env), (false, eval b X.env)] := by rfl) (hs2 : starEach [b] X.env = [(false, eval b X.env)] := by rfl) : MI X (.Tuple elts k tpos) (.Call (.Name "zip" p) [a, b] [] pos) (iZp m) :=
  pi_imp (pi_zip hg hm ha hs hs2) fun σ H R ⟨r, mu, S, J, S', he, hs, hm, hc⟩ => by
    obtain ⟨⟨ds, S1⟩, e1, hm⟩ := Option.bind_eq_some_iff.mp hm
    dsimp only at hm
    split at hm
    · rename_i d e
      obtain ⟨⟨b1, xs⟩, e2, hm⟩ := Option.bind_eq_some_iff.mp hm
      obtain ⟨⟨b2, ys⟩, e3, hm⟩ := Option.bind_eq_some_iff.mp hm
      cases hm
      refine ⟨r, mu, S, _, _, he, hs, e1, fun vs H1 mu1 x1 r1 s1 => ?_⟩
      obtain ⟨v, u, rfl, rv, ru⟩ := reps_two r1
      obtain ⟨a1, vs1, rfl, q1, t1⟩ := seqOf_at rv s1 e2
      obtain ⟨a2, vs2, rfl, q2, t2⟩ := seqOf_at ru s1 e3
      refine ⟨a1, b1, a2, b2, rfl, ⟨vs1, q1⟩, ⟨vs2, q2⟩, hc _ H1 mu1 x1 (fun i H2 mu2 S2 x2 s2 ok => ?_) s1⟩
      obtain ⟨ok1, ok2⟩ := okC_app ok
      obtain ⟨ws, q3, t3⟩ := seq_later rv s1 e2 x2 s2 ok1
      obtain ⟨ws2, q4, t4⟩ := seq_later ru s1 e3 x2 s2 ok2
      refine ⟨fun d hd => ?_, fun hl => ⟨ws, ws2, q3, q4, ?_⟩⟩
      · obtain ⟨x', y', ex, ey, rfl⟩ := zpD_get xs ys i d hd
        obtain ⟨v, ev, rv'⟩ := t3.get ex
        obtain ⟨u, eu, ru'⟩ := t4.get ey
        refine ⟨⟨ws, ws2, v, u, q3, q4, ev, eu⟩, fun y H3 ⟨p, v', u', hp, z1, z2, z3, z4⟩ => ?_⟩
        have w3 := z3 ws q3
        have w4 := z4 ws2 q4
        rw [ev] at w3; cases w3
        rw [eu] at w4; cases w4
        subst z1; subst z2
        exact ⟨Ext.fresh hp, s2.fresh hp, .tup (SqT.of upd_same) (.cons (rv'.ext (Ext.fresh hp)) (.cons (ru'.ext (Ext.fresh hp)) .nil))⟩
      · rcases zpD_len xs ys i hl with z | z
        · exact .inl (by rw [← t3.length]; exact z)
        · exact .inr (by rw [← t4.length]; exact z)
    · cases hm
end
end Mi

end
section
set_option Elab.async false
set_option linter.all false
set_option maxRecDepth 100000
namespace Mi
open PySem PySem.Spec PyProof.Rows L2

/-! ### functions of one, two data -/
abbrev G1 := D → Sto → Option (D × Sto)
abbrev G2 := D → D → Sto → Option (D × Sto)
abbrev G3 := D → D → D → Sto → Option (D × Sto)
def b1 (f : G1) : FN := fun ds S => match ds with
  | [a] => f a S
  | _ => none
def b2 (f : G2) : FN := fun ds S => match ds with
  | [a, b] => f a b S
  | _ => none
def b3 (f : G3) : FN := fun ds S => match ds with
  | [a, b, c] => f a b c S
  | _ => none
section
variable {X : Cx} {K : PySem.W.Frag} {H : Hp} {Q : VK}
theorem rn2 {f : G2} {x y : V} (h : rN K (b2 f) [x, y] H Q) : ∃ mu S d e r S', Rep K H mu d x ∧ Rep K H mu e y ∧ Sim K H mu S ∧ f d e S = some (r, S') ∧ Cont K mu H r S' Q := by
  obtain ⟨mu, S, ds, r, S', hr, hs, hm, hc⟩ := h
  cases hr with
  | cons q t => cases t with
    | cons q2 t => cases t; exact ⟨mu, S, _, _, r, S', q, q2, hs, hm, hc⟩
theorem rn1 {f : G1} {xs : List V} (h : rN K (b1 f) xs H Q) : ∃ x mu S d r S', xs = [x] ∧ Rep K H mu d x ∧ Sim K H mu S ∧ f d S = some (r, S') ∧ Cont K mu H r S' Q := by
  obtain ⟨mu, S, ds, r, S', hr, hs, hm, hc⟩ := h
  cases hr with
  | nil => cases hm
  | cons q t => cases t with
    | nil => exact ⟨_, mu, S, _, r, S', rfl, q, hs, hm, hc⟩
    | cons q2 t => cases hm
theorem rn2l {f : G2} {xs : List V} (h : rN K (b2 f) xs H Q) : ∃ x y mu S d e r S', xs = [x, y] ∧ Rep K H mu d x ∧ Rep K H mu e y ∧ Sim K H mu S ∧ f d e S = some (r, S') ∧ Cont K mu H r S' Q := by
  obtain ⟨mu, S, ds, r, S', hr, hs, hm, hc⟩ := h
  cases hr with
  | nil => cases hm
  | cons q t => cases t with
    | nil => cases hm
    | cons q2 t => cases t with
      | nil => exact ⟨_, _, mu, S, _, _, r, S', rfl, q, q2, hs, hm, hc⟩
      | cons q3 t => cases hm
/-- plain answers: nothing changes -/
theorem Cont.now {mu : List Addr} {S : Sto} {d : D} {v : V} (c : Cont K mu H d S Q) (r : Rep K H mu d v) (s : Sim K H mu S) : Q v H := c v H mu (.refl _ _) r s
end

/-! ### arithmetic -/
def mulFits (i j : Int) : Bool := (decide (-(2 ^ 64) < i) && decide (i < 2 ^ 64)) || (decide (-(2 ^ 64) < j) && decide (j < 2 ^ 64)) || (decide (i.natAbs < 2 ^ 1000) && decide (j.natAbs < 2 ^ 1000))
def gAdd : G2 := fun d e S => match d, e with
  | .int i, .int j => some (.int (i + j), S)
  | .tup xs, .tup ys => if xs.length + ys.length ≤ sizeLine then some (.tup (xs ++ ys), S) else none
  | .str x, .str y => if x.length + y.length ≤ sizeLine then some (.str (x ++ y), S) else none
  | .ref a, .ref b => match S[a]?, S[b]? with
    | some (.lst xs), some (.lst ys) => if xs.length + ys.length ≤ sizeLine then some (.ref S.length, S ++ [.lst (xs ++ ys)]) else none
    | _, _ => none
  | _, _ => none
def gSub : G2 := fun d e S => match d, e with
  | .int i, .int j => some (.int (i - j), S)
  | _, _ => none
def gMul : G2 := fun d e S => match d, e with
  | .int i, .int j => if mulFits i j = true then some (.int (i * j), S) else none
  | _, _ => none
def gMod : G2 := fun d e S => match d, e with
  | .int i, .int j => if 0 < j then some (.int (i % j), S) else none
  | _, _ => none
def gDiv : G2 := fun d e S => match d, e with
  | .int i, .int j => if 0 < j ∧ j < 1073741824 then some (.int (i / j), S) else none
  | _, _ => none
def gPow : G2 := fun d e S => match d, e with
  | .int i, .int j => if 0 ≤ j ∧ j ≤ 1000000 ∧ i.natAbs < 2 ^ 64 then some (.int (i ^ j.toNat), S) else none
  | _, _ => none
def gNeg : G1 := fun d S => match d with
  | .int i => some (.int (-i), S)
  | _ => none
section
variable {X : Cx}
theorem mulFits_ok {i j : Int} (h : mulFits i j = true) : IntMulOk i j := by
  unfold mulFits at h
  simp only [Bool.or_eq_true, Bool.and_eq_true, decide_eq_true_eq] at h
  rcases h with (⟨h1, h2⟩ | ⟨h1, h2⟩) | ⟨h1, h2⟩
  · exact .of_left (intBits_le_64 h1 h2)
  · exact .of_right (intBits_le_64 h1 h2)
  · exact .of_bits (Nat.le_trans (intBits_le h1) (by decide)) (Nat.le_trans (intBits_le h2) (by decide))
/-- an int of two ints -/
theorem op2_int {f : Value → Value → Sem Value} {g : G2} {c : Int → Int → Prop} {v : Int → Int → D} (hg : ∀ d e S r S', g d e S = some (r, S') → ∃ i j, d = .int i ∧ e = .int j ∧ c i j ∧ r = v i j ∧ S' = S) {vv : Int → Int → V}
    (hv : ∀ i j K H mu, Rep K H mu (v i j) (vv i j)) (ho : OpR X f (rI c vv)) : OpR X f (r2 X.K (b2 g)) := by
  intro pins s σ H x y u w Q I rx ry h
  obtain ⟨mu, S, d, e, r, S', r1, r2, hs, hm, hc⟩ := rn2 h
  obtain ⟨i, j, rfl, rfl, cc, rfl, rfl⟩ := hg d e S r S' hm
  cases r1; cases r2
  exact ho pins s σ H _ _ u w Q I rx ry ⟨i, j, rfl, rfl, cc, hc.now (hv i j _ _ _) hs⟩
theorem op2_int0 {f : Value → Value → Sem Value} {g : G2} {v : Int → Int → D} (hg : ∀ d e S r S', g d e S = some (r, S') → ∃ i j, d = .int i ∧ e = .int j ∧ r = v i j ∧ S' = S) {vv : Int → Int → V}
    (hv : ∀ i j K H mu, Rep K H mu (v i j) (vv i j)) (ho : OpR X f (rI0 vv)) : OpR X f (r2 X.K (b2 g)) := by
  intro pins s σ H x y u w Q I rx ry h
  obtain ⟨mu, S, d, e, r, S', r1, r2, hs, hm, hc⟩ := rn2 h
  obtain ⟨i, j, rfl, rfl, rfl, rfl⟩ := hg d e S r S' hm
  cases r1; cases r2
  exact ho pins s σ H _ _ u w Q I rx ry ⟨i, j, rfl, rfl, hc.now (hv i j _ _ _) hs⟩
theorem o_sub : OpR X (binaryOp .Sub) (r2 X.K (b2 gSub)) := op2_int0 (v := fun i j => .int (i - j)) (fun d e S r S' h => by
  unfold gSub at h; split at h
  · cases h; exact ⟨_, _, rfl, rfl, rfl, rfl⟩
  · cases h) (fun _ _ _ _ _ => .int _) op_sub
theorem o_mul : OpR X (binaryOp .Mult) (r2 X.K (b2 gMul)) := op2_int (c := fun i j => IntMulOk i j) (v := fun i j => .int (i * j)) (fun d e S r S' h => by
  unfold gMul at h; split at h
  · split at h
    · rename_i q; cases h; exact ⟨_, _, rfl, rfl, mulFits_ok q, rfl, rfl⟩
    · cases h
  · cases h) (fun _ _ _ _ _ => .int _) (opI fun _ _ _ _ _ _ _ hc q => mul_int q hc)
theorem o_mod : OpR X (binaryOp .Mod) (r2 X.K (b2 gMod)) := op2_int (c := fun _ j => 0 < j) (v := fun i j => .int (i % j)) (fun d e S r S' h => by
  unfold gMod at h; split at h
  · split at h
    · rename_i q; cases h; exact ⟨_, _, rfl, rfl, q, rfl, rfl⟩
    · cases h
  · cases h) (fun _ _ _ _ _ => .int _) op_mod
theorem o_div : OpR X (binaryOp .FloorDiv) (r2 X.K (b2 gDiv)) := op2_int (c := CDiv) (v := fun i j => .int (i / j)) (fun d e S r S' h => by
  unfold gDiv at h; split at h
  · split at h
    · rename_i q; cases h; exact ⟨_, _, rfl, rfl, q, rfl, rfl⟩
    · cases h
  · cases h) (fun _ _ _ _ _ => .int _) op_fdiv
theorem o_pow : OpR X (binaryOp .Pow) (r2 X.K (b2 gPow)) := op2_int (c := CPow) (v := fun i j => .int (i ^ j.toNat)) (fun d e S r S' h => by
  unfold gPow at h; split at h
  · split at h
    · rename_i q; cases h; exact ⟨_, _, rfl, rfl, q, rfl, rfl⟩
    · cases h
  · cases h) (fun _ _ _ _ _ => .int _) op_pow
theorem o_neg : UnR X (unaryOp .USub) (fun x H Q => rN X.K (b1 gNeg) [x] H Q) := by
  intro pins s σ H x v Q I rx h
  obtain ⟨x', mu, S, d, r, S', e, r1, hs, hm, hc⟩ := rn1 h
  cases e
  cases d with
  | int i => cases hm; cases r1; exact un_neg pins s σ H _ v Q I rx ⟨i, rfl, hc.now (.int _) hs⟩
  | _ => cases hm
/-- t + u where t is empty -/
theorem cat_empty {s : Shared} {prog : Program} {w : World} {A : Around} {E : Value → Shared → Prop} {t b : Addr} {ws : List Value} {Q : Value → Shared → Prop} (ht : IsTup s.heap t ([] : List Value).toArray) (hb : IsTup s.heap b ws.toArray) (h : Q (.ref b) s) :
    wpAny (model prog w) A (binaryOp .Add (.ref t) (.ref b)) Q E s := by
  obtain ⟨⟨cls, dd, data, sl⟩, ho, hc, n, hd⟩ := id ht
  obtain ⟨⟨cls2, dd2, data2, sl2⟩, ho2, hc2, n2, hd2⟩ := id hb
  simp only at hc hd hc2 hd2; subst hc hd hc2 hd2
  exact concat_meets ⟨_, ho, rfl⟩ ⟨_, ho2, rfl⟩ noFill_tuple_add seq_tuple_add PySem.F.slot_tuple_add PySem.F.entry_tuple_add (PySem.F.args_tuple_add_2 _ _) (tuple_addW0 t b ([] : List Value).toArray ws.toArray n n2 dd dd2 sl sl2 (by simp)) ⟨ho, ho2, h⟩
theorem o_add : OpR X (binaryOp .Add) (r2 X.K (b2 gAdd)) := by
  intro pins s σ H x y u w Q I rx ry h
  obtain ⟨mu, S, d, e, r, S', r1, r2, hs, hm, hc⟩ := rn2 h
  unfold gAdd at hm
  split at hm
  · cases hm; cases r1; cases r2
    exact op_add pins s σ H _ _ u w Q I rx ry ⟨_, _, rfl, rfl, hc.now (.int _) hs⟩
  · rename_i xs ys
    split at hm
    · rename_i hl
      cases hm
      cases r1 with
      | tup q1 t1 =>
        cases r2 with
        | tup q2 t2 =>
          rename_i vs1 a1 vs2 a2
          by_cases hx : vs1 = []
          · subst hx
            have : xs = [] := by cases t1; rfl
            subst this
            cases rx; cases ry
            obtain ⟨its, rv, p1, _⟩ := I.tuple q1
            obtain ⟨its2, rv2, p2, _⟩ := I.tuple q2
            have : its = [] := rv.nil_iff.mpr rfl
            subst this
            exact cat_empty p1 p2 ⟨.ref a2, H, I, rfl, hc.now (.tup q2 t2) hs⟩
          · refine op_catT pins s σ H _ _ u w Q I rx ry ⟨a1, a2, vs1, vs2, rfl, rfl, q1, q2, hx, by rw [← t1.length, ← t2.length]; exact hl, fun z => ?_, fun z p hp => ?_⟩
            · subst z
              have : ys = [] := by cases t2; rfl
              subst this
              rw [List.append_nil] at hc
              exact hc.now (.tup q1 t1) hs
            · exact hc _ _ mu (Ext.fresh hp) (.tup (SqT.of upd_same) ((t1.append t2).ext (Ext.fresh hp))) (hs.fresh hp)
    · cases hm
  · rename_i i j
    split at hm
    · rename_i hl
      cases hm; cases r1; cases r2
      exact op_add_str pins s σ H _ _ u w Q I rx ry ⟨i, j, rfl, rfl, hl, hc.now (.str _) hs⟩
    · cases hm
  · rename_i a b
    split at hm
    · rename_i xs ys ea eb
      split at hm
      · rename_i hl
        cases hm
        cases r1 with
        | ref qa =>
          cases r2 with
          | ref qb =>
            obtain ⟨vs1, e1, t1⟩ := hs.lst ea qa
            obtain ⟨vs2, e2, t2⟩ := hs.lst eb qb
            refine op_cat pins s σ H _ _ u w Q I rx ry ⟨_, _, vs1, vs2, rfl, rfl, e1, e2, by rw [← t1.length, ← t2.length]; exact hl, fun p hp => ?_⟩
            exact hc _ _ (mu ++ [p]) (Ext.new_ hp) (.ref (new_at hs.len p)) (hs.newL (t1.append t2) hp)
      · cases hm
    · cases hm
  · cases hm
end

/-! ### comparisons of ints -/
def gCmp (p : Int → Int → Bool) : G2 := fun d e S => match d, e with
  | .int i, .int j => some (.bl (p i j), S)
  | _, _ => none
section
variable {X : Cx}
theorem gCmp_of {p : Int → Int → Bool} (d e : D) (S : Sto) (r : D) (S' : Sto) (h : gCmp p d e S = some (r, S')) : ∃ i j, d = .int i ∧ e = .int j ∧ r = .bl (p i j) ∧ S' = S := by
  unfold gCmp at h; split at h
  · cases h; exact ⟨_, _, rfl, rfl, rfl, rfl⟩
  · cases h
theorem o_lt : OpR X (compareOp .Lt) (r2 X.K (b2 (gCmp fun i j => decide (i < j)))) := op2_int0 gCmp_of (fun _ _ _ _ _ => .bl _) op_lt
theorem o_le : OpR X (compareOp .LtE) (r2 X.K (b2 (gCmp fun i j => decide (i ≤ j)))) := op2_int0 gCmp_of (fun _ _ _ _ _ => .bl _) op_le
theorem o_gt : OpR X (compareOp .Gt) (r2 X.K (b2 (gCmp fun i j => decide (j < i)))) := op2_int0 gCmp_of (fun _ _ _ _ _ => .bl _) op_gt
theorem o_ge : OpR X (compareOp .GtE) (r2 X.K (b2 (gCmp fun i j => decide (j ≤ i)))) := op2_int0 gCmp_of (fun _ _ _ _ _ => .bl _) op_ge
end

/-! ### equality, however deep -/
def flatD : D → Bool
  | .non => true
  | .bl _ => true
  | .int _ => true
  | .str _ => true
  | _ => false
def eqF : D → D → Option Bool
  | .non, .non => some true
  | .bl a, .bl b => some (a == b)
  | .bl a, .int b => some ((if a then 1 else 0) == b)
  | .int a, .bl b => some (a == (if b then 1 else 0))
  | .int a, .int b => some (a == b)
  | .str a, .str b => some (a == b)
  | d, e => if flatD d && flatD e then some false else none
def eqL (f : D → D → Option Bool) : List D → List D → Option Bool
  | x :: xs, y :: ys => (f x y).bind fun b => (eqL f xs ys).map fun c => b && c
  | [], [] => some true
  | _, _ => some false
def eqN (S : Sto) : Nat → D → D → Option Bool
  | 0, _, _ => none
  | n + 1, d, e => match seqOf S d, seqOf S e with
    | some p, some q => if p.1 = q.1 then (if p.1 = true ∧ p.2.length ≠ q.2.length then some false else eqL (eqN S n) p.2 q.2) else some false
    | some _, none => if flatD e = true then some false else none
    | none, some _ => if flatD d = true then some false else none
    | none, none => eqF d e
section
variable {X : Cx} {pins : List (Addr × Obj)} {σ : L2.St} {H : Hp} {s : Shared} {mu : List Addr} {S : Sto}
theorem flat_rep {K : PySem.W.Frag} {d : D} {v : V} (r : Rep K H mu d v) (h : flatD d = true) : flatV v = true ∧ ∀ e w, Rep K H mu e w → flatD e = true → eqF d e = some (eqV v w) := by
  cases d with
  | non => cases r; refine ⟨rfl, fun e w q f => ?_⟩; cases e with
    | non => cases q; rfl
    | bl _ => cases q; rfl
    | int _ => cases q; rfl
    | str _ => cases q; rfl
    | _ => cases f
  | bl b => cases r; refine ⟨rfl, fun e w q f => ?_⟩; cases e with
    | non => cases q; rfl
    | bl _ => cases q; rfl
    | int _ => cases q; rfl
    | str _ => cases q; rfl
    | _ => cases f
  | int i => cases r; refine ⟨rfl, fun e w q f => ?_⟩; cases e with
    | non => cases q; rfl
    | bl _ => cases q; rfl
    | int _ => cases q; rfl
    | str _ => cases q; rfl
    | _ => cases f
  | str x => cases r; refine ⟨rfl, fun e w q f => ?_⟩; cases e with
    | non => cases q; rfl
    | bl _ => cases q; rfl
    | int _ => cases q; rfl
    | str _ => cases q; rfl
    | _ => cases f
  | _ => cases h
theorem eqF_flat {d e : D} {b : Bool} (h : eqF d e = some b) : flatD d = true ∧ flatD e = true := by
  cases d <;> cases e <;> first | exact ⟨rfl, rfl⟩ | (simp [eqF, flatD] at h)
theorem eqV_self {v : V} (h : flatV v = true) : eqV v v = true := by
  cases v <;> first | rfl | (cases h; done) | (simp [eqV]; done)
/-- one value twice: equal -/
theorem eqN_same (I : Inv X pins σ H s) (hs : Sim X.K H mu S) : ∀ (n : Nat) {d e : D} {v : V} {b : Bool}, Rep X.K H mu d v → Rep X.K H mu e v → eqN S n d e = some b → b = true
  | 0, _, _, _, _, _, _, h => by cases h
  | n + 1, d, e, v, b, rd, re, h => by
    rw [eqN] at h
    have lists : ∀ {xs ys : List D} {vs : List V} {b : Bool}, Reps X.K H mu xs vs → Reps X.K H mu ys vs → eqL (eqN S n) xs ys = some b → b = true := by
      intro xs
      induction xs with
      | nil => intro ys vs b hx hy h; cases hx; cases hy; cases h; rfl
      | cons x xs ih =>
        intro ys vs b hx hy h
        cases hx with
        | cons r t =>
          cases hy with
          | cons r' t' =>
            rw [eqL] at h
            obtain ⟨b1, e1, h⟩ := Option.bind_eq_some_iff.mp h
            obtain ⟨b2, e2, h⟩ := Option.map_eq_some_iff.mp h
            subst h
            rw [eqN_same I hs n r r' e1, ih t t' e2]; rfl
    cases hd : seqOf S d with
    | some p =>
      obtain ⟨pb, xs⟩ := p
      obtain ⟨a, vs, rfl, q, t⟩ := seqOf_at rd hs hd
      cases he : seqOf S e with
      | some p2 =>
        obtain ⟨qb, ys⟩ := p2
        obtain ⟨a2, vs2, e2, q2, t2⟩ := seqOf_at re hs he
        cases e2
        rw [hd, he] at h
        dsimp only at h
        obtain ⟨its, rv, co, _⟩ := sqb_at I q
        obtain ⟨its2, rv2, co2, _⟩ := sqb_at I q2
        have hb : pb = qb := by
          cases pb <;> cases qb
          · rfl
          · obtain ⟨o, e1, c1, _⟩ := co; obtain ⟨o2, e2, c2, _⟩ := co2; rw [e1] at e2; cases e2; rw [c1] at c2; exact absurd c2 (by decide)
          · obtain ⟨o, e1, c1, _⟩ := co; obtain ⟨o2, e2, c2, _⟩ := co2; rw [e1] at e2; cases e2; rw [c1] at c2; exact absurd c2 (by decide)
          · rfl
        subst hb
        have hv := sqb_inj I q q2
        subst hv
        rw [if_pos rfl, if_neg (by rw [t.length, t2.length]; simp)] at h
        exact lists t t2 h
      | none =>
        rw [hd, he] at h
        dsimp only at h
        split at h
        · rename_i f
          have := (flat_rep re f).1
          cases this
        · cases h
    | none =>
      cases he : seqOf S e with
      | some p2 =>
        obtain ⟨qb, ys⟩ := p2
        obtain ⟨a2, vs2, e2, q2, t2⟩ := seqOf_at re hs he
        subst e2
        rw [hd, he] at h
        dsimp only at h
        split at h
        · rename_i f
          have := (flat_rep rd f).1
          cases this
        · cases h
      | none =>
        rw [hd, he] at h
        dsimp only at h
        obtain ⟨f1, f2⟩ := eqF_flat h
        obtain ⟨g1, g2⟩ := flat_rep rd f1
        rw [g2 e v re f2] at h
        cases h
        exact eqV_self g1
theorem rc_seq_none {A : Around} {b : Bool} {a : Addr} {its : Array Value} {v : V} {u : Value} (c : SCo b s.heap a its) (r : RelV v u) (f : flatV v = true) (hu : A.units < cLine) :
    SeqAt.EqAt A s (.ref a) u false ∧ SeqAt.EqAt A s u (.ref a) false ∧ SeqAt.RcAt A s (.ref a) u false ∧ SeqAt.RcAt A s u (.ref a) false := by
  cases v with
  | non => cases r; cases b
           · exact ⟨.tuple_none c hu, .none_tuple c hu, .tuple_none c hu, .none_tuple c hu⟩
           · exact ⟨.list_none c hu, .none_list c hu, .list_none c hu, .none_list c hu⟩
  | bl k => cases r; cases b
            · exact ⟨.tuple_bool k c hu, .bool_tuple k c hu, .tuple_bool k c hu, .bool_tuple k c hu⟩
            · exact ⟨.list_bool k c hu, .bool_list k c hu, .list_bool k c hu, .bool_list k c hu⟩
  | int i => obtain ⟨t, rfl⟩ := r; cases b
             · exact ⟨.tuple_int i t c hu, .int_tuple i t c hu, .tuple_int i t c hu, .int_tuple i t c hu⟩
             · exact ⟨.list_int i t c hu, .int_list i t c hu, .list_int i t c hu, .int_list i t c hu⟩
  | str x => obtain ⟨t, rfl⟩ := r; cases b
             · exact ⟨.tuple_str x t c hu, .str_tuple x t c hu, .tuple_str x t c hu, .str_tuple x t c hu⟩
             · exact ⟨.list_str x t c hu, .str_list x t c hu, .list_str x t c hu, .str_list x t c hu⟩
  | _ => cases f
theorem rc_flat {A : Around} {x y : V} {u w : Value} (rx : RelV x u) (ry : RelV y w) (fx : flatV x = true) (fy : flatV y = true) : SeqAt.RcAt A s u w (eqV x y) := by
  cases x with
  | non => cases rx; cases y with
    | non => cases ry; exact .none_none
    | bl k => cases ry; exact .none_bool k
    | int i => obtain ⟨t, rfl⟩ := ry; exact .none_int i t
    | str z => obtain ⟨t, rfl⟩ := ry; exact .none_str z t
    | _ => cases fy
  | bl k' => cases rx; cases y with
    | non => cases ry; exact .bool_none k'
    | bl k => cases ry; exact .bool_bool k' k
    | int i => obtain ⟨t, rfl⟩ := ry; exact .bool_int k' i t
    | str z => obtain ⟨t, rfl⟩ := ry; exact .bool_str k' z t
    | _ => cases fy
  | int i' => obtain ⟨t', rfl⟩ := rx; cases y with
    | non => cases ry; exact .int_none i' t'
    | bl k => cases ry; exact .int_bool i' t' k
    | int i => obtain ⟨t, rfl⟩ := ry; exact .int_int i' t' i t
    | str z => obtain ⟨t, rfl⟩ := ry; exact .int_str i' t' z t
    | _ => cases fy
  | str z' => obtain ⟨t', rfl⟩ := rx; cases y with
    | non => cases ry; exact .str_none z' t'
    | bl k => cases ry; exact .str_bool z' t' k
    | int i => obtain ⟨t, rfl⟩ := ry; exact .str_int z' t' i t
    | str z => obtain ⟨t, rfl⟩ := ry; exact .str_str z' t' z t
    | _ => cases fy
  | _ => cases fx
theorem eqL_at (f : D → D → Option Bool) : ∀ {xs ys : List D} {b : Bool}, eqL f xs ys = some b → ∃ e : Nat → Bool, (∀ j x y, xs[j]? = some x → ys[j]? = some y → f x y = some (e j)) ∧ b = ((List.range (min xs.length ys.length)).all e && xs.length == ys.length)
  | [], [], b, h => by cases h; exact ⟨fun _ => true, fun j x y h => by simp at h, rfl⟩
  | [], y :: ys, b, h => by cases h; exact ⟨fun _ => true, fun j x y h => by simp at h, by simp⟩
  | x :: xs, [], b, h => by cases h; exact ⟨fun _ => true, fun j x y h h' => by simp at h', by simp⟩
  | x :: xs, y :: ys, b, h => by
    rw [eqL] at h
    obtain ⟨b1, e1, h⟩ := Option.bind_eq_some_iff.mp h
    obtain ⟨b2, e2, h⟩ := Option.map_eq_some_iff.mp h
    obtain ⟨e, he, hb⟩ := eqL_at f e2
    refine ⟨fun j => match j with | 0 => b1 | j + 1 => e j, fun j x' y' hx hy => ?_, ?_⟩
    · cases j with
      | zero => simp at hx hy; subst hx; subst hy; exact e1
      | succ j => exact he j x' y' (by simpa using hx) (by simpa using hy)
    · rw [← h, hb, List.length_cons, List.length_cons, Nat.succ_min_succ, List.range_succ_eq_map, List.all_cons, List.all_map]
      have : ((xs.length + 1 == ys.length + 1) : Bool) = (xs.length == ys.length) := by simp
      rw [this, Bool.and_assoc]
      rfl
/-- == of what two data stand for, as the model reckons it -/
theorem eqN_at (I : Inv X pins σ H s) (hs : Sim X.K H mu S) : ∀ (n : Nat) {A : Around} {d e : D} {v w : V} {u z : Value} {b : Bool}, A.units + n < cLine → Rep X.K H mu d v → Rep X.K H mu e w → RelV v u → RelV w z → eqN S n d e = some b → SeqAt.EqAt A s u z b ∧ SeqAt.RcAt A s u z b
  | 0, _, _, _, _, _, _, _, _, _, _, _, _, _, h => by cases h
  | n + 1, A, d, e, v, w, u, z, b, hu, rd, re, ru, rz, h => by
    have hu0 : A.units < cLine := by omega
    have h0 := h
    rw [eqN] at h
    cases hd : seqOf S d with
    | some p =>
      obtain ⟨pb, xs⟩ := p
      obtain ⟨a, vs, rfl, q, t⟩ := seqOf_at rd hs hd
      obtain ⟨its, rv, co, _⟩ := sqb_at I q
      cases ru
      cases he : seqOf S e with
      | some p2 =>
        obtain ⟨qb, ys⟩ := p2
        obtain ⟨a2, vs2, rfl, q2, t2⟩ := seqOf_at re hs he
        obtain ⟨its2, rv2, co2, _⟩ := sqb_at I q2
        cases rz
        rw [hd, he] at h
        dsimp only at h
        have both : SeqAt.RcAt A s (.ref a) (.ref a2) b → SeqAt.EqAt A s (.ref a) (.ref a2) b ∧ SeqAt.RcAt A s (.ref a) (.ref a2) b := fun rc => by
          refine ⟨?_, rc⟩
          by_cases ha : a = a2
          · subst ha
            rw [eqN_same I hs (n + 1) rd re h0]
            exact .same _
          · exact .of_refs ha rc
        split at h
        · rename_i hb
          have hb' : pb = qb := hb
          subst hb'
          split at h
          · rename_i hl
            cases h
            obtain ⟨h1, h2⟩ := hl
            subst h1
            refine both (.lists_lengths co co2 ?_ hu0)
            have l1 := t.length; have l2 := t2.length; have l3 := rv.length; have l4 := rv2.length
            simp only [List.size_toArray, bne_iff_ne, ne_eq]
            omega
          · rename_i hl
            obtain ⟨f, hf, hbb⟩ := eqL_at _ h
            have elts : ∀ j (h1 : j < its.toArray.size) (h2 : j < its2.toArray.size), SeqAt.EqAt A.in1 s its.toArray[j] its2.toArray[j] (f j) := fun j h1 h2 => by
              have h1' : j < its.length := by simpa using h1
              have h2' : j < its2.length := by simpa using h2
              have k1 : j < vs.length := by rw [rv.length]; exact h1'
              have k2 : j < vs2.length := by rw [rv2.length]; exact h2'
              obtain ⟨x, ex, rx⟩ := t.getV (List.getElem?_eq_getElem k1)
              obtain ⟨y, ey, ry⟩ := t2.getV (List.getElem?_eq_getElem k2)
              obtain ⟨u1, eu1, ru1⟩ := rv.get (List.getElem?_eq_getElem k1)
              obtain ⟨u2, eu2, ru2⟩ := rv2.get (List.getElem?_eq_getElem k2)
              have e1 : its.toArray[j] = u1 := by
                rw [List.getElem?_eq_getElem h1'] at eu1; simpa using eu1
              have e2 : its2.toArray[j] = u2 := by
                rw [List.getElem?_eq_getElem h2'] at eu2; simpa using eu2
              rw [e1, e2]
              exact (eqN_at I hs n (A := A.in1) (by show A.units + 1 + n < cLine; omega) rx ry ru1 ru2 (hf j x y ex ey)).1
            have l1 := t.length; have l2 := t2.length; have l3 := rv.length; have l4 := rv2.length
            cases pb with
            | false =>
              refine both ?_
              have := SeqAt.RcAt.tuples co co2 hu0 elts
              rw [hbb]
              have e1 : its.toArray.size = xs.length := by simp; omega
              have e2 : its2.toArray.size = ys.length := by simp; omega
              rw [e1, e2] at this
              exact this
            | true =>
              refine both ?_
              have hl' : xs.length = ys.length := by
                by_cases z : xs.length = ys.length
                · exact z
                · exact absurd ⟨rfl, z⟩ hl
              have := SeqAt.RcAt.lists co co2 (by simp; omega) hu0 elts
              rw [hbb]
              have e1 : its.toArray.size = xs.length := by simp; omega
              rw [e1] at this
              rw [hl', Nat.min_self, beq_self_eq_true, Bool.and_true, ← hl']
              exact this
        · rename_i hb
          cases h
          cases pb with
          | true =>
            cases qb with
            | true => exact absurd rfl hb
            | false => exact ⟨.list_tuple co co2 hu0, .list_tuple co co2 hu0⟩
          | false =>
            cases qb with
            | false => exact absurd rfl hb
            | true => exact ⟨.tuple_list co co2 hu0, .tuple_list co co2 hu0⟩
      | none =>
        rw [hd, he] at h
        dsimp only at h
        split at h
        · rename_i f
          cases h
          obtain ⟨r1, r2, r3, r4⟩ := rc_seq_none co rz (flat_rep re f).1 hu0
          exact ⟨r1, r3⟩
        · cases h
    | none =>
      cases he : seqOf S e with
      | some p2 =>
        obtain ⟨qb, ys⟩ := p2
        obtain ⟨a2, vs2, rfl, q2, t2⟩ := seqOf_at re hs he
        obtain ⟨its2, rv2, co2, _⟩ := sqb_at I q2
        cases rz
        rw [hd, he] at h
        dsimp only at h
        split at h
        · rename_i f
          cases h
          obtain ⟨r1, r2, r3, r4⟩ := rc_seq_none co2 ru (flat_rep rd f).1 hu0
          exact ⟨r2, r4⟩
        · cases h
      | none =>
        rw [hd, he] at h
        dsimp only at h
        obtain ⟨f1, f2⟩ := eqF_flat h
        obtain ⟨g1, g2⟩ := flat_rep rd f1
        have g3 := (flat_rep re f2).1
        rw [g2 e w re f2] at h
        cases h
        exact ⟨eqAt_V ru rz g1 g3, rc_flat ru rz g1 g3⟩
end
def deepMost : Nat := 60
def gEq : G2 := fun d e S => (eqN S deepMost d e).map fun b => (.bl b, S)
section
variable {X : Cx}
theorem o_eq (hu : X.A.units + 64 < cLine) : OpR X (compareOp .Eq) (r2 X.K (b2 gEq)) := by
  intro pins s σ H x y u w Q I rx ry h
  obtain ⟨mu, S, d, e, r, S', r1, r2, hs, hm, hc⟩ := rn2 h
  obtain ⟨b, e1, hm⟩ := Option.map_eq_some_iff.mp hm
  cases hm
  exact (eqN_at I hs deepMost (by show _ + 60 < cLine; omega) r1 r2 rx ry e1).2 X.prog X.w X.xe _ ⟨.bl b, H, I, rfl, hc.now (.bl b) hs⟩
end
end Mi

end
section
set_option Elab.async false
set_option linter.all false
set_option maxRecDepth 100000
namespace Mi
open PySem PySem.Spec PyProof.Rows L2

/-! ### != -/
section
variable {X : Cx} {pins : List (Addr × Obj)} {σ : L2.St} {H : Hp} {s : Shared} {mu : List Addr} {S : Sto}
theorem ne_flat {A : Around} {x y : V} {u w : Value} (rx : RelV x u) (ry : RelV y w) (fx : flatV x = true) (fy : flatV y = true) : SeqAt.RcNeAt A s u w (!eqV x y) := by
  cases x with
  | non => cases rx; cases y with
    | non => cases ry; exact .none_none
    | bl k => cases ry; exact .none_bool k
    | int i => obtain ⟨t, rfl⟩ := ry; exact .none_int i t
    | str z => obtain ⟨t, rfl⟩ := ry; exact .none_str z t
    | _ => cases fy
  | bl k' => cases rx; cases y with
    | non => cases ry; exact .bool_none k'
    | bl k => cases ry; exact .bool_bool k' k
    | int i => obtain ⟨t, rfl⟩ := ry; exact .bool_int k' i t
    | str z => obtain ⟨t, rfl⟩ := ry; exact .bool_str k' z t
    | _ => cases fy
  | int i' => obtain ⟨t', rfl⟩ := rx; cases y with
    | non => cases ry; exact .int_none i' t'
    | bl k => cases ry; exact .int_bool i' t' k
    | int i => obtain ⟨t, rfl⟩ := ry; exact .int_int i' t' i t
    | str z => obtain ⟨t, rfl⟩ := ry; exact .int_str i' t' z t
    | _ => cases fy
  | str z' => obtain ⟨t', rfl⟩ := rx; cases y with
    | non => cases ry; exact .str_none z' t'
    | bl k => cases ry; exact .str_bool z' t' k
    | int i => obtain ⟨t, rfl⟩ := ry; exact .str_int z' t' i t
    | str z => obtain ⟨t, rfl⟩ := ry; exact .str_str z' t' z t
    | _ => cases fy
  | _ => cases fx
theorem ne_seq_none {A : Around} {b : Bool} {a : Addr} {its : Array Value} {v : V} {u : Value} (c : SCo b s.heap a its) (r : RelV v u) (f : flatV v = true) (hu : A.units < cLine) : SeqAt.RcNeAt A s (.ref a) u true ∧ SeqAt.RcNeAt A s u (.ref a) true := by
  cases v with
  | non => cases r; cases b
           · exact ⟨.tuple_none c hu, .none_tuple c hu⟩
           · exact ⟨.list_none c hu, .none_list c hu⟩
  | bl k => cases r; cases b
            · exact ⟨.tuple_bool k c hu, .bool_tuple k c hu⟩
            · exact ⟨.list_bool k c hu, .bool_list k c hu⟩
  | int i => obtain ⟨t, rfl⟩ := r; cases b
             · exact ⟨.tuple_int i t c hu, .int_tuple i t c hu⟩
             · exact ⟨.list_int i t c hu, .int_list i t c hu⟩
  | str x => obtain ⟨t, rfl⟩ := r; cases b
             · exact ⟨.tuple_str x t c hu, .str_tuple x t c hu⟩
             · exact ⟨.list_str x t c hu, .str_list x t c hu⟩
  | _ => cases f
theorem neN_at (I : Inv X pins σ H s) (hs : Sim X.K H mu S) (n : Nat) {A : Around} {d e : D} {v w : V} {u z : Value} {b : Bool} (hu : A.units + n < cLine) (rd : Rep X.K H mu d v) (re : Rep X.K H mu e w) (ru : RelV v u) (rz : RelV w z) (h : eqN S n d e = some b) : SeqAt.RcNeAt A s u z (!b) := by
  cases n with
  | zero => cases h
  | succ n =>
    have hu0 : A.units < cLine := by omega
    rw [eqN] at h
    cases hd : seqOf S d with
    | some p =>
      obtain ⟨pb, xs⟩ := p
      obtain ⟨a, vs, rfl, q, t⟩ := seqOf_at rd hs hd
      obtain ⟨its, rv, co, _⟩ := sqb_at I q
      cases ru
      cases he : seqOf S e with
      | some p2 =>
        obtain ⟨qb, ys⟩ := p2
        obtain ⟨a2, vs2, rfl, q2, t2⟩ := seqOf_at re hs he
        obtain ⟨its2, rv2, co2, _⟩ := sqb_at I q2
        cases rz
        rw [hd, he] at h
        dsimp only at h
        have l1 := t.length; have l2 := t2.length; have l3 := rv.length; have l4 := rv2.length
        split at h
        · rename_i hb
          have hb' : pb = qb := hb
          subst hb'
          split at h
          · rename_i hl
            cases h
            obtain ⟨h1, h2⟩ := hl
            subst h1
            refine .lists_lengths co co2 ?_ hu0
            simp only [List.size_toArray, bne_iff_ne, ne_eq]
            omega
          · rename_i hl
            obtain ⟨f, hf, hbb⟩ := eqL_at _ h
            have elts : ∀ j (h1 : j < its.toArray.size) (h2 : j < its2.toArray.size), SeqAt.EqAt A.in1 s its.toArray[j] its2.toArray[j] (f j) := fun j h1 h2 => by
              have h1' : j < its.length := by simpa using h1
              have h2' : j < its2.length := by simpa using h2
              have k1 : j < vs.length := by rw [rv.length]; exact h1'
              have k2 : j < vs2.length := by rw [rv2.length]; exact h2'
              obtain ⟨x, ex, rx⟩ := t.getV (List.getElem?_eq_getElem k1)
              obtain ⟨y, ey, ry⟩ := t2.getV (List.getElem?_eq_getElem k2)
              obtain ⟨u1, eu1, ru1⟩ := rv.get (List.getElem?_eq_getElem k1)
              obtain ⟨u2, eu2, ru2⟩ := rv2.get (List.getElem?_eq_getElem k2)
              have e1 : its.toArray[j] = u1 := by
                rw [List.getElem?_eq_getElem h1'] at eu1; simpa using eu1
              have e2 : its2.toArray[j] = u2 := by
                rw [List.getElem?_eq_getElem h2'] at eu2; simpa using eu2
              rw [e1, e2]
              exact (eqN_at I hs n (A := A.in1) (by show A.units + 1 + n < cLine; omega) rx ry ru1 ru2 (hf j x y ex ey)).1
            cases pb with
            | false =>
              have := SeqAt.RcNeAt.tuples co co2 hu0 elts
              rw [hbb]
              have e1 : its.toArray.size = xs.length := by simp; omega
              have e2 : its2.toArray.size = ys.length := by simp; omega
              rw [e1, e2] at this
              exact this
            | true =>
              have hl' : xs.length = ys.length := by
                by_cases z : xs.length = ys.length
                · exact z
                · exact absurd ⟨rfl, z⟩ hl
              have := SeqAt.RcNeAt.lists co co2 (by simp; omega) hu0 elts
              rw [hbb]
              have e1 : its.toArray.size = xs.length := by simp; omega
              rw [e1] at this
              rw [hl', Nat.min_self, beq_self_eq_true, Bool.and_true, ← hl']
              exact this
        · rename_i hb
          cases h
          cases pb with
          | true =>
            cases qb with
            | true => exact absurd rfl hb
            | false => exact .list_tuple co co2 hu0
          | false =>
            cases qb with
            | false => exact absurd rfl hb
            | true => exact .tuple_list co co2 hu0
      | none =>
        rw [hd, he] at h
        dsimp only at h
        split at h
        · rename_i f
          cases h
          exact (ne_seq_none co rz (flat_rep re f).1 hu0).1
        · cases h
    | none =>
      cases he : seqOf S e with
      | some p2 =>
        obtain ⟨qb, ys⟩ := p2
        obtain ⟨a2, vs2, rfl, q2, t2⟩ := seqOf_at re hs he
        obtain ⟨its2, rv2, co2, _⟩ := sqb_at I q2
        cases rz
        rw [hd, he] at h
        dsimp only at h
        split at h
        · rename_i f
          cases h
          exact (ne_seq_none co2 ru (flat_rep rd f).1 hu0).2
        · cases h
      | none =>
        rw [hd, he] at h
        dsimp only at h
        obtain ⟨f1, f2⟩ := eqF_flat h
        obtain ⟨g1, g2⟩ := flat_rep rd f1
        have g3 := (flat_rep re f2).1
        rw [g2 e w re f2] at h
        cases h
        exact ne_flat ru rz g1 g3
end
def gNe : G2 := fun d e S => (eqN S deepMost d e).map fun b => (.bl (!b), S)
/-- x in ys -/
def inL (f : D → D → Option Bool) (x : D) : List D → Option Bool
  | [] => some false
  | y :: ys => (f y x).bind fun b => (inL f x ys).map fun c => b || c
def gIn : G2 := fun d e S => (seqOf S e).bind fun p => (inL (eqN S deepMost) d p.2).map fun b => (.bl b, S)
def gNotIn : G2 := fun d e S => (seqOf S e).bind fun p => (inL (eqN S deepMost) d p.2).map fun b => (.bl (!b), S)
def isNon : D → Bool
  | .non => true
  | _ => false
def gIsN : G2 := fun d e S => match e with
  | .non => some (.bl (isNon d), S)
  | _ => none
def gIsNotN : G2 := fun d e S => match e with
  | .non => some (.bl (!isNon d), S)
  | _ => none
section
variable {X : Cx}
theorem o_ne (hu : X.A.units + 64 < cLine) : OpR X (compareOp .NotEq) (r2 X.K (b2 gNe)) := by
  intro pins s σ H x y u w Q I rx ry h
  obtain ⟨mu, S, d, e, r, S', r1, r2, hs, hm, hc⟩ := rn2 h
  obtain ⟨b, e1, hm⟩ := Option.map_eq_some_iff.mp hm
  cases hm
  exact neN_at I hs deepMost (by show _ + 60 < cLine; omega) r1 r2 rx ry e1 X.prog X.w X.xe _ ⟨.bl (!b), H, I, rfl, hc.now (.bl _) hs⟩
theorem inL_at (f : D → D → Option Bool) (x : D) : ∀ {ys : List D} {b : Bool}, inL f x ys = some b → ∃ bs : List Bool, bs.length = ys.length ∧ (∀ (j : Nat) (y : D) (k : Bool), ys[j]? = some y → bs[j]? = some k → f y x = some k) ∧ b = bs.any id
  | [], b, h => by cases h; exact ⟨[], rfl, fun j y k h => by simp at h, rfl⟩
  | y :: ys, b, h => by
    rw [inL] at h
    obtain ⟨b1, e1, h⟩ := Option.bind_eq_some_iff.mp h
    obtain ⟨b2, e2, h⟩ := Option.map_eq_some_iff.mp h
    obtain ⟨bs, hl, hb, hany⟩ := inL_at f x e2
    refine ⟨b1 :: bs, by simp [hl], fun j y' k hy hk => ?_, ?_⟩
    · cases j with
      | zero => simp at hy hk; subst hy; subst hk; exact e1
      | succ j => exact hb j y' k (by simpa using hy) (by simpa using hk)
    · rw [← h, hany]; simp
open Classical in
theorem in_at {pins : List (Addr × Obj)} {σ : L2.St} {H : Hp} {s : Shared} {mu : List Addr} {S : Sto} (I : Inv X pins σ H s) (hs : Sim X.K H mu S) {A : Around} (hu : A.units + 61 < cLine) {x : D} {v : V} {u : Value} (rx : Rep X.K H mu x v) (ru : RelV v u)
    {ys : List D} {vs : List V} {us : List Value} {b : Bool} (ry : Reps X.K H mu ys vs) (rv : Vals vs us) (h : inL (eqN S deepMost) x ys = some b) : ∃ e : Value → Bool, (∀ w ∈ us, SeqAt.EqAt A.in1 s w u (e w)) ∧ us.any e = b := by
  obtain ⟨bs, hl, hb, rfl⟩ := inL_at _ x h
  have l1 := ry.length
  have l2 := rv.length
  have at_ : ∀ (j : Nat) w k, us[j]? = some w → bs[j]? = some k → SeqAt.EqAt A.in1 s w u k := fun j w k hw hk => by
    have j1 : j < us.length := (List.getElem?_eq_some_iff.mp hw).1
    obtain ⟨y, ey, r1⟩ := ry.getV (i := j) (v := vs[j]'(by omega)) (List.getElem?_eq_getElem (by omega))
    obtain ⟨w', ew, r2⟩ := rv.get (i := j) (x := vs[j]'(by omega)) (List.getElem?_eq_getElem (by omega))
    rw [hw] at ew; cases ew
    exact (eqN_at I hs deepMost (A := A.in1) (by show A.units + 1 + 60 < cLine; omega) r1 rx r2 ru (hb j y k ey hk)).1
  refine ⟨fun w => decide (∃ j : Nat, us[j]? = some w ∧ bs[j]? = some true), fun w hw => ?_, ?_⟩
  · by_cases z : ∃ j : Nat, us[j]? = some w ∧ bs[j]? = some true
    · dsimp only; rw [decide_eq_true z]
      obtain ⟨j, e1, e2⟩ := z
      exact at_ j w true e1 e2
    · dsimp only; rw [decide_eq_false z]
      obtain ⟨j, hj⟩ := List.getElem?_of_mem hw
      have j1 : j < us.length := (List.getElem?_eq_some_iff.mp hj).1
      have j2 : j < bs.length := by omega
      have e2 := List.getElem?_eq_getElem j2
      cases hk : bs[j] with
      | true => rw [hk] at e2; exact absurd ⟨j, hj, e2⟩ z
      | false => rw [hk] at e2; exact at_ j w false hj e2
  · rw [Bool.eq_iff_iff, List.any_eq_true, List.any_eq_true]
    constructor
    · rintro ⟨w, hw, z⟩
      obtain ⟨j, e1, e2⟩ := of_decide_eq_true z
      exact ⟨true, List.mem_of_getElem? e2, rfl⟩
    · rintro ⟨k, hk, z⟩
      obtain ⟨j, hj⟩ := List.getElem?_of_mem hk
      have j1 : j < bs.length := (List.getElem?_eq_some_iff.mp hj).1
      have j2 : j < us.length := by omega
      have z' : k = true := z
      subst z'
      exact ⟨us[j], List.getElem_mem j2, decide_eq_true ⟨j, List.getElem?_eq_getElem j2, hj⟩⟩
theorem o_in (hu : X.A.units + 64 < cLine) : OpR X (compareOp .In) (r2 X.K (b2 gIn)) := by
  intro pins s σ H x y u w Q I rx ry h
  obtain ⟨mu, S, d, e, r, S', r1, r2, hs, hm, hc⟩ := rn2 h
  obtain ⟨⟨pb, ys⟩, e1, hm⟩ := Option.bind_eq_some_iff.mp hm
  obtain ⟨b, e2, hm⟩ := Option.map_eq_some_iff.mp hm
  cases hm
  obtain ⟨a, vs, rfl, q, t⟩ := seqOf_at r2 hs e1
  cases ry
  obtain ⟨its, rv, co, _⟩ := sqb_at I q
  obtain ⟨f, hf, hb⟩ := in_at I hs (A := X.A) (by omega) r1 rx t rv e2
  have fin : EP X pins σ Q (.bool (its.toArray.any f)) s := ⟨.bl b, H, I, by rw [show its.toArray.any f = its.any f by simp, hb]; rfl, hc.now (.bl b) hs⟩
  cases pb
  · exact SeqAt.in_tupleAt f co (fun y hy => hf y (by simpa using hy)) fin
  · exact SeqAt.in_listAt f co (fun y hy => hf y (by simpa using hy)) fin
theorem o_notIn (hu : X.A.units + 64 < cLine) : OpR X (compareOp .NotIn) (r2 X.K (b2 gNotIn)) := by
  intro pins s σ H x y u w Q I rx ry h
  obtain ⟨mu, S, d, e, r, S', r1, r2, hs, hm, hc⟩ := rn2 h
  obtain ⟨⟨pb, ys⟩, e1, hm⟩ := Option.bind_eq_some_iff.mp hm
  obtain ⟨b, e2, hm⟩ := Option.map_eq_some_iff.mp hm
  cases hm
  obtain ⟨a, vs, rfl, q, t⟩ := seqOf_at r2 hs e1
  cases ry
  obtain ⟨its, rv, co, _⟩ := sqb_at I q
  obtain ⟨f, hf, hb⟩ := in_at I hs (A := X.A) (by omega) r1 rx t rv e2
  have fin : EP X pins σ Q (.bool (!its.toArray.any f)) s := ⟨.bl (!b), H, I, by rw [show its.toArray.any f = its.any f by simp, hb]; rfl, hc.now (.bl _) hs⟩
  cases pb
  · exact SeqAt.notIn_tupleAt f co (fun y hy => hf y (by simpa using hy)) fin
  · exact SeqAt.notIn_listAt f co (fun y hy => hf y (by simpa using hy)) fin
theorem non_rep {K : PySem.W.Frag} {H : Hp} {mu : List Addr} {d : D} {v : V} (r : Rep K H mu d v) : isNon d = decide (v = .non) := by
  cases r <;> simp [isNon]
theorem o_isN : OpR X (compareOp .Is) (r2 X.K (b2 gIsN)) := by
  intro pins s σ H x y u w Q I rx ry h
  obtain ⟨mu, S, d, e, r, S', r1, r2, hs, hm, hc⟩ := rn2 h
  cases e with
  | non =>
    cases hm; cases r2
    refine op_isN pins s σ H _ _ u w Q I rx ry ⟨rfl, ?_⟩
    rw [← non_rep r1]
    exact hc.now (.bl _) hs
  | _ => cases hm
theorem o_notN : OpR X (compareOp .IsNot) (r2 X.K (b2 gIsNotN)) := by
  intro pins s σ H x y u w Q I rx ry h
  obtain ⟨mu, S, d, e, r, S', r1, r2, hs, hm, hc⟩ := rn2 h
  cases e with
  | non =>
    cases hm; cases r2
    refine op_notN pins s σ H _ _ u w Q I rx ry ⟨rfl, ?_⟩
    rw [← non_rep r1]
    exact hc.now (.bl _) hs
  | _ => cases hm
end

/-! ### sequences: length, items, slices, copies -/
def gLen : G1 := fun d S => match d with
  | .str x => if x.length ≤ sizeLine then some (.int x.length, S) else none
  | _ => (seqOf S d).map fun p => (.int p.2.length, S)
def gIx : G2 := fun d e S => match e with
  | .int i => (seqOf S d).bind fun p => (atI p.2 i).map fun x => (x, S)
  | _ => none
def gTup : G1 := fun d S => (seqOf S d).map fun p => (.tup p.2, S)
def gLst : G1 := fun d S => (seqOf S d).map fun p => (.ref S.length, S ++ [.lst p.2])
def gSetIx : G3 := fun o i v S => match o, i with
  | .ref n, .int k => match S[n]? with
    | some (.lst xs) => (ixN xs.length k).map fun j => (.non, S.set n (.lst (xs.set j v)))
    | _ => none
  | _, _ => none
def allB : List D → Option Bool
  | [] => some true
  | .bl b :: r => (allB r).map fun c => b && c
  | _ => none
def anyB : List D → Option Bool
  | [] => some false
  | .bl b :: r => (anyB r).map fun c => b || c
  | _ => none
def gAll : G1 := fun d S => (seqOf S d).bind fun p => (allB p.2).map fun b => (.bl b, S)
def gAny : G1 := fun d S => (seqOf S d).bind fun p => (anyB p.2).map fun b => (.bl b, S)
def gInt : G1 := fun d S => match d with
  | .int i => some (.int i, S)
  | .bl b => some (.int (if b then 1 else 0), S)
  | _ => none
def gAbs : G1 := fun d S => match d with
  | .int i => some (.int (if i < 0 then -i else i), S)
  | _ => none
def gMax : G2 := fun d e S => match d, e with
  | .int i, .int j => some (.int (if j > i then j else i), S)
  | _, _ => none
def gMin : G2 := fun d e S => match d, e with
  | .int i, .int j => some (.int (if j < i then j else i), S)
  | _, _ => none
section
variable {X : Cx}
theorem c_len : CallR X (.builtin "len") (rN X.K (b1 gLen)) := by
  intro pins s σ H xs us Q I r h
  obtain ⟨x, mu, S, d, r', S', rfl, r1, hs, hm, hc⟩ := rn1 h
  unfold gLen at hm
  split at hm
  · split at hm
    · rename_i z hl
      cases hm; cases r1
      exact call_len_str pins s σ H _ us Q I r ⟨_, rfl, hl, hc.now (.int _) hs⟩
    · cases hm
  · obtain ⟨⟨b, ys⟩, e1, hm⟩ := Option.map_eq_some_iff.mp hm
    cases hm
    obtain ⟨a, vs, rfl, q, t⟩ := seqOf_at r1 hs e1
    refine call_len_seq pins s σ H _ us Q I r ⟨a, vs, rfl, ?_, ?_⟩
    · cases b
      · exact .inr q
      · exact .inl q
    · rw [← t.length]; exact hc.now (.int _) hs
theorem atI_rep {K : PySem.W.Frag} {H : Hp} {mu : List Addr} {ds : List D} {vs : List V} {i : Int} {d : D} (t : Reps K H mu ds vs) (h : atI ds i = some d) : ∃ v, atI vs i = some v ∧ Rep K H mu d v := by
  unfold atI at h ⊢
  rw [← t.length]
  obtain ⟨j, e1, h⟩ := Option.bind_eq_some_iff.mp h
  obtain ⟨v, ev, rv⟩ := t.get h
  exact ⟨v, by rw [e1]; exact ev, rv⟩
theorem x_ix : IxR X (r2 X.K (b2 gIx)) := by
  intro value slice pins s σ H x y v u Q I rx ry h hs2
  obtain ⟨mu, S, d, e, r, S', r1, r2, hs, hm, hc⟩ := rn2 h
  cases e with
  | int i =>
    obtain ⟨⟨b, ys⟩, e1, hm⟩ := Option.bind_eq_some_iff.mp hm
    obtain ⟨z, e2, hm⟩ := Option.map_eq_some_iff.mp hm
    cases hm; cases r2
    obtain ⟨a, vs, rfl, q, t⟩ := seqOf_at r1 hs e1
    obtain ⟨v', ev, rv⟩ := atI_rep t e2
    cases b
    · exact ix_tup value slice pins s σ H _ _ v u Q I rx ry ⟨a, vs, i, v', rfl, rfl, q, ev, hc.now rv hs⟩ hs2
    · exact ix_list value slice pins s σ H _ _ v u Q I rx ry ⟨a, vs, i, v', rfl, rfl, q, ev, hc.now rv hs⟩ hs2
  | _ => cases hm
theorem c_tuple : CallR X (.type "tuple") (rN X.K (b1 gTup)) := by
  intro pins s σ H xs us Q I r h
  obtain ⟨x, mu, S, d, r', S', rfl, r1, hs, hm, hc⟩ := rn1 h
  obtain ⟨⟨b, ys⟩, e1, hm⟩ := Option.map_eq_some_iff.mp hm
  cases hm
  obtain ⟨a, vs, rfl, q, t⟩ := seqOf_at r1 hs e1
  refine call_tuple_of pins s σ H _ us Q I r ⟨a, vs, rfl, ?_⟩
  cases b
  · exact .inr ⟨q, hc.now (.tup q t) hs⟩
  · exact .inl ⟨q, fun l hl => hc _ _ mu (Ext.fresh hl) (.tup (SqT.of upd_same) (t.ext (Ext.fresh hl))) (hs.fresh hl)⟩
theorem c_list : CallR X (.type "list") (rN X.K (b1 gLst)) := by
  intro pins s σ H xs us Q I r h
  obtain ⟨x, mu, S, d, r', S', rfl, r1, hs, hm, hc⟩ := rn1 h
  obtain ⟨⟨b, ys⟩, e1, hm⟩ := Option.map_eq_some_iff.mp hm
  cases hm
  obtain ⟨a, vs, rfl, q, t⟩ := seqOf_at r1 hs e1
  refine call_list_of pins s σ H _ us Q I r ⟨a, vs, rfl, ?_, fun l hl => hc _ _ (mu ++ [l]) (Ext.new_ hl) (.ref (new_at hs.len l)) (hs.newL t hl)⟩
  cases b
  · exact .inr q
  · exact .inl q
theorem s_set : PSet X (rU X.K (b3 gSetIx)) := by
  intro pins s σ H o i v ov iv u Q I ro ri rv h
  obtain ⟨mu, S, ds, d, S', hr, hs, hm, hc⟩ := h
  cases hr with
  | cons q1 t1 => cases t1 with
    | cons q2 t2 => cases t2 with
      | cons q3 t3 =>
        cases t3
        rename_i d1 d2 d3
        dsimp only [b3] at hm
        unfold gSetIx at hm
        split at hm
        · rename_i n k
          split at hm
          · rename_i xs e
            obtain ⟨j, ej, hm⟩ := Option.map_eq_some_iff.mp hm
            cases hm
            cases q1 with
            | ref qn =>
              cases q2
              obtain ⟨vs, ev, t⟩ := hs.lst e qn
              refine set_list pins s σ H _ _ v ov iv u Q I ro ri rv ⟨_, vs, k, j, rfl, rfl, ev, by rw [← t.length]; exact ej, ?_⟩
              exact hc _ mu (Ext.put ev trivial (List.mem_of_getElem? qn)) (hs.putL (t.set q3 j) qn ev)
          · cases hm
        · cases hm
theorem allB_at {K : PySem.W.Frag} {H : Hp} {mu : List Addr} : ∀ {ds : List D} {vs : List V} {us : List Value} {b : Bool}, Reps K H mu ds vs → Vals vs us → allB ds = some b → ∃ bs : List Bool, us = bs.map Value.bool ∧ b = bs.all id
  | [], _, _, b, .nil, .nil, h => by cases h; exact ⟨[], rfl, rfl⟩
  | .bl k :: ds, _, _, b, .cons (.bl _) t, .cons r tt, h => by
    obtain ⟨c, e, h⟩ := Option.map_eq_some_iff.mp h
    obtain ⟨bs, e1, e2⟩ := allB_at t tt e
    cases r
    exact ⟨k :: bs, by rw [e1]; rfl, by rw [← h, e2]; rfl⟩
theorem anyB_at {K : PySem.W.Frag} {H : Hp} {mu : List Addr} : ∀ {ds : List D} {vs : List V} {us : List Value} {b : Bool}, Reps K H mu ds vs → Vals vs us → anyB ds = some b → ∃ bs : List Bool, us = bs.map Value.bool ∧ b = bs.any id
  | [], _, _, b, .nil, .nil, h => by cases h; exact ⟨[], rfl, rfl⟩
  | .bl k :: ds, _, _, b, .cons (.bl _) t, .cons r tt, h => by
    obtain ⟨c, e, h⟩ := Option.map_eq_some_iff.mp h
    obtain ⟨bs, e1, e2⟩ := anyB_at t tt e
    cases r
    exact ⟨k :: bs, by rw [e1]; rfl, by rw [← h, e2]; rfl⟩
theorem range_all (bs : List Bool) : (List.range bs.length).all (fun i => bs.getD i true) = bs.all id := by
  rw [Bool.eq_iff_iff, List.all_eq_true, List.all_eq_true]
  constructor
  · intro h b hb
    obtain ⟨i, hi, rfl⟩ := List.mem_iff_getElem.mp hb
    have := h i (List.mem_range.mpr hi)
    simpa [List.getD_eq_getElem?_getD, hi] using this
  · intro h i hi
    have hi' := List.mem_range.mp hi
    have := h _ (List.getElem_mem hi')
    simpa [List.getD_eq_getElem?_getD, hi'] using this
theorem range_any (bs : List Bool) : (List.range bs.length).any (fun i => bs.getD i true) = bs.any id := by
  rw [Bool.eq_iff_iff, List.any_eq_true, List.any_eq_true]
  constructor
  · rintro ⟨i, hi, h⟩
    have hi' := List.mem_range.mp hi
    exact ⟨bs[i], List.getElem_mem hi', by simpa [List.getD_eq_getElem?_getD, hi'] using h⟩
  · rintro ⟨b, hb, h⟩
    obtain ⟨i, hi, rfl⟩ := List.mem_iff_getElem.mp hb
    exact ⟨i, List.mem_range.mpr hi, by simpa [List.getD_eq_getElem?_getD, hi] using h⟩
theorem walk_bools {s : Shared} {b : Bool} {a : Addr} {bs : List Bool} (hc : X.A.handled = none) (co : SCo b s.heap a (bs.map Value.bool).toArray) {Q : Value → Shared → Prop}
    (all : ∀ h' tk, (∀ c o, s.heap.get? c = some o → h'.get? c = some o) → Q (.bool (bs.all id)) { s with heap := h', toks := tk }) : wpAny (model X.prog X.w) X.A (call (.builtin "all") [.ref a]) Q X.xe s := by
  refine call_all_walk (sit_iter co ?_)
  have hlt : a < s.heap.objs.size := by cases b <;> (obtain ⟨o, e, _⟩ := co; exact Heap.lt_size e)
  have ne : a ≠ s.heap.objs.size := Nat.ne_of_lt hlt
  have tr : TruthOf X.prog X.w X.A.in1 (fun i v => (bs.map Value.bool).toArray[i]? = some v) (fun i => bs.getD i true) := fun i v s' Q' E' hv hq => by
    have hv' : (bs.map Value.bool)[i]? = some v := by simpa using hv
    rw [List.getElem?_map] at hv'
    obtain ⟨k, ek, rfl⟩ := Option.map_eq_some_iff.mp hv'
    dsimp only at hq; rw [List.getD_eq_getElem?_getD, ek] at hq
    exact wpAny_truthy_bool hq
  have keep : ∀ (h' : Heap), (∀ c o, c ∉ [s.heap.objs.size] → (s.heap.push (itObj b a)).get? c = some o → h'.get? c = some o) → ∀ c o, s.heap.get? c = some o → h'.get? c = some o := fun h' hk c o e =>
    hk c o (by simpa using Nat.ne_of_lt (Heap.lt_size e)) (Heap.get?_push_of_some _ e)
  have hi : (s.heap.push (itObj b a)).get? s.heap.objs.size = some (itObj b a) := Heap.get?_push_size _ (by cases b <;> rfl)
  cases b with
  | true =>
    refine ⟨s.heap.objs.size, _, _, _, _, _, _, rfl, Walks.list (A := X.A.in1) hc s.heap.objs.size a ne (bs.map Value.bool).toArray, ⟨⟨_, hi, rfl, rfl⟩, SCo.to (b := true) co fun o e => Heap.get?_push_of_some _ e⟩, tr, fun h' tk hk => ?_⟩
    have e : (bs.map Value.bool).toArray.size = bs.length := by simp
    rw [e, range_all]
    exact all h' tk (keep h' hk)
  | false =>
    refine ⟨s.heap.objs.size, _, _, _, _, _, _, rfl, Walks.tuple (A := X.A.in1) hc s.heap.objs.size a ne (bs.map Value.bool).toArray, ⟨⟨_, hi, rfl, rfl⟩, SCo.to (b := false) co fun o e => Heap.get?_push_of_some _ e⟩, tr, fun h' tk hk => ?_⟩
    have e : (bs.map Value.bool).toArray.size = bs.length := by simp
    rw [e, range_all]
    exact all h' tk (keep h' hk)
theorem walk_bools' {s : Shared} {b : Bool} {a : Addr} {bs : List Bool} (hc : X.A.handled = none) (co : SCo b s.heap a (bs.map Value.bool).toArray) {Q : Value → Shared → Prop}
    (all : ∀ h' tk, (∀ c o, s.heap.get? c = some o → h'.get? c = some o) → Q (.bool (bs.any id)) { s with heap := h', toks := tk }) : wpAny (model X.prog X.w) X.A (call (.builtin "any") [.ref a]) Q X.xe s := by
  refine call_any_walk (sit_iter co ?_)
  have hlt : a < s.heap.objs.size := by cases b <;> (obtain ⟨o, e, _⟩ := co; exact Heap.lt_size e)
  have ne : a ≠ s.heap.objs.size := Nat.ne_of_lt hlt
  have tr : TruthOf X.prog X.w X.A.in1 (fun i v => (bs.map Value.bool).toArray[i]? = some v) (fun i => bs.getD i true) := fun i v s' Q' E' hv hq => by
    have hv' : (bs.map Value.bool)[i]? = some v := by simpa using hv
    rw [List.getElem?_map] at hv'
    obtain ⟨k, ek, rfl⟩ := Option.map_eq_some_iff.mp hv'
    dsimp only at hq; rw [List.getD_eq_getElem?_getD, ek] at hq
    exact wpAny_truthy_bool hq
  have keep : ∀ (h' : Heap), (∀ c o, c ∉ [s.heap.objs.size] → (s.heap.push (itObj b a)).get? c = some o → h'.get? c = some o) → ∀ c o, s.heap.get? c = some o → h'.get? c = some o := fun h' hk c o e =>
    hk c o (by simpa using Nat.ne_of_lt (Heap.lt_size e)) (Heap.get?_push_of_some _ e)
  have hi : (s.heap.push (itObj b a)).get? s.heap.objs.size = some (itObj b a) := Heap.get?_push_size _ (by cases b <;> rfl)
  cases b with
  | true =>
    refine ⟨s.heap.objs.size, _, _, _, _, _, _, rfl, Walks.list (A := X.A.in1) hc s.heap.objs.size a ne (bs.map Value.bool).toArray, ⟨⟨_, hi, rfl, rfl⟩, SCo.to (b := true) co fun o e => Heap.get?_push_of_some _ e⟩, tr, fun h' tk hk => ?_⟩
    have e : (bs.map Value.bool).toArray.size = bs.length := by simp
    rw [e, range_any]
    exact all h' tk (keep h' hk)
  | false =>
    refine ⟨s.heap.objs.size, _, _, _, _, _, _, rfl, Walks.tuple (A := X.A.in1) hc s.heap.objs.size a ne (bs.map Value.bool).toArray, ⟨⟨_, hi, rfl, rfl⟩, SCo.to (b := false) co fun o e => Heap.get?_push_of_some _ e⟩, tr, fun h' tk hk => ?_⟩
    have e : (bs.map Value.bool).toArray.size = bs.length := by simp
    rw [e, range_any]
    exact all h' tk (keep h' hk)
theorem c_all (hc : X.calm = true) : CallR X (.builtin "all") (rN X.K (b1 gAll)) := by
  intro pins s σ H xs us Q I r h
  obtain ⟨x, mu, S, d, r', S', rfl, r1, hs, hm, hcc⟩ := rn1 h
  obtain ⟨⟨b, ys⟩, e1, hm⟩ := Option.bind_eq_some_iff.mp hm
  obtain ⟨k, e2, hm⟩ := Option.map_eq_some_iff.mp hm
  cases hm
  obtain ⟨a, vs, rfl, q, t⟩ := seqOf_at r1 hs e1
  obtain ⟨u, rfl, ru⟩ := vals1 r
  cases ru
  obtain ⟨its, rv, co, _⟩ := sqb_at I q
  obtain ⟨bs, rfl, rfl⟩ := allB_at t rv e2
  exact walk_bools (I.ok.hd hc) co fun h' tk hk => ⟨.bl _, H, I.kept hk, rfl, hcc.now (.bl _) hs⟩
theorem c_any (hc : X.calm = true) : CallR X (.builtin "any") (rN X.K (b1 gAny)) := by
  intro pins s σ H xs us Q I r h
  obtain ⟨x, mu, S, d, r', S', rfl, r1, hs, hm, hcc⟩ := rn1 h
  obtain ⟨⟨b, ys⟩, e1, hm⟩ := Option.bind_eq_some_iff.mp hm
  obtain ⟨k, e2, hm⟩ := Option.map_eq_some_iff.mp hm
  cases hm
  obtain ⟨a, vs, rfl, q, t⟩ := seqOf_at r1 hs e1
  obtain ⟨u, rfl, ru⟩ := vals1 r
  cases ru
  obtain ⟨its, rv, co, _⟩ := sqb_at I q
  obtain ⟨bs, rfl, rfl⟩ := anyB_at t rv e2
  exact walk_bools' (I.ok.hd hc) co fun h' tk hk => ⟨.bl _, H, I.kept hk, rfl, hcc.now (.bl _) hs⟩
theorem c_int : CallR X (.type "int") (rN X.K (b1 gInt)) := by
  intro pins s σ H xs us Q I r h
  obtain ⟨x, mu, S, d, r', S', rfl, r1, hs, hm, hc⟩ := rn1 h
  cases d with
  | int i => cases hm; cases r1; exact call_int1 pins s σ H _ us Q I r (.inl ⟨i, rfl, hc.now (.int _) hs⟩)
  | bl b => cases hm; cases r1; exact call_int1 pins s σ H _ us Q I r (.inr ⟨b, rfl, hc.now (.int _) hs⟩)
  | _ => cases hm
theorem c_abs : CallR X (.builtin "abs") (rN X.K (b1 gAbs)) := by
  intro pins s σ H xs us Q I r h
  obtain ⟨x, mu, S, d, r', S', rfl, r1, hs, hm, hc⟩ := rn1 h
  cases d with
  | int i => cases hm; cases r1; exact call_abs pins s σ H _ us Q I r ⟨i, rfl, hc.now (.int _) hs⟩
  | _ => cases hm
theorem c_max (hc : X.calm = true) : CallR X (.builtin "max") (rN X.K (b2 gMax)) := by
  intro pins s σ H xs us Q I r h
  obtain ⟨x, y, mu, S, d, e, r', S', rfl, r1, r2, hs, hm, hcc⟩ := rn2l h
  unfold gMax at hm
  split at hm
  · cases hm; cases r1; cases r2
    exact call_max2 hc pins s σ H _ us Q I r ⟨_, _, rfl, hcc.now (.int _) hs⟩
  · cases hm
theorem c_min (hc : X.calm = true) : CallR X (.builtin "min") (rN X.K (b2 gMin)) := by
  intro pins s σ H xs us Q I r h
  obtain ⟨x, y, mu, S, d, e, r', S', rfl, r1, r2, hs, hm, hcc⟩ := rn2l h
  unfold gMin at hm
  split at hm
  · cases hm; cases r1; cases r2
    exact call_min2 hc pins s σ H _ us Q I r ⟨_, _, rfl, hcc.now (.int _) hs⟩
  · cases hm
end
end Mi

end
section
set_option Elab.async false
set_option linter.all false
set_option maxRecDepth 100000
namespace Mi
open PySem PySem.Spec PyProof.Rows L2
open PySem.SeqAt
open PySem.AutoSeq1 (wpAny_loadPart')
open PySem.MeetsSeq PySem.MeetsSeq2 PySem.MeetsSeq3

/-! ### < of lists and tuples -/
def RcLt (A : Around) (s : Shared) (y x : Value) (b : Bool) : Prop := ∀ (prog : Program) (w : World) (E : Value → Shared → Prop) (Q : Value → Shared → Prop), Q (.bool b) s → wpAny (model prog w) A (richCompare .Lt y x) Q E s
inductive LtS (A : Around) (s : Shared) : List Value → List Value → Bool → Prop
  | nn : LtS A s [] [] false
  | nc (y : Value) (ys : List Value) : LtS A s [] (y :: ys) true
  | cn (x : Value) (xs : List Value) : LtS A s (x :: xs) [] false
  | eq {x y : Value} {xs ys : List Value} {k : Bool} (e : EqAt A.in1 s x y true) (t : LtS A s xs ys k) : LtS A s (x :: xs) (y :: ys) k
  | lt {x y : Value} {xs ys : List Value} {k : Bool} (e : EqAt A.in1 s x y false) (t : RcLt A.in1 s x y k) : LtS A s (x :: xs) (y :: ys) k
theorem tup_lt (l b : Addr) (items items2 : Array Value) (n n2 : Nat) (dd dd2 : Option Addr) (sl sl2 : Array (Option Value)) (c : Bool) :
    Meets (Builtin.«tuple.__lt__» ⟨[.ref l, .ref b], []⟩) (fun A R s => s.heap.get? l = some { cls := .type "tuple", dict := dd, data := .seq items n, slots := sl } ∧ s.heap.get? b = some { cls := .type "tuple", dict := dd2, data := .seq items2 n2, slots := sl2 } ∧
        LtS A s items.toList items2.toList c ∧ R (.ok (.ret (.bool c))) s) :=
  .of_wp fun prog w A R s h => by
    obtain ⟨hp, g, d, tk, os⟩ := s; obtain ⟨hl, hb, hs, h⟩ := h; have f2 := AutoSeq1.sub_tuple_tuple
    wp_walk using wpAny_loadPart' hl, wpAny_loadPart' hb, wpAny_forIn_list _ (fun rest b s' => b.1 = none ∧ s' = ⟨hp, g, d, tk, os⟩ ∧ ∃ vs ws : List Value, rest = vs.zip ws ∧ LtS A ⟨hp, g, d, tk, os⟩ vs ws c ∧ vs.length + items2.size = ws.length + items.size) _
    case turn =>
      rintro ⟨y, x⟩ rest b s' ⟨hb', rfl, vs, ws, hz, hL, hlen⟩
      cases hL with
      | nn => cases hz
      | nc _ _ => cases hz
      | cn _ _ => cases hz
      | eq e t =>
        rw [List.zip_cons_cons] at hz; injection hz with hyx hrest; injection hyx with hy hx; subst hy hx
        simp only [List.length_cons] at hlen
        refine wpAny_bind (e prog w _ _ ?_)
        wp_walk
        exact ⟨rfl, rfl, _, _, hrest, t, by omega⟩
      | lt e t =>
        rw [List.zip_cons_cons] at hz; injection hz with hyx hrest; injection hyx with hy hx; subst hy hx
        refine wpAny_bind (e prog w _ _ ?_)
        have t' := t prog w
        wp_walk using t'
        exact ⟨_, rfl, by simpa using h⟩
    case fin =>
      rintro ⟨b1, b2⟩ s' ⟨hb', rfl, vs, ws, hz, hL, hlen⟩
      simp only at hb'; subst hb'
      have hv : c = decide (items.size < items2.size) := by
        cases hL with
        | nn => simp only [List.length_nil] at hlen; exact (decide_eq_false (by omega)).symm
        | nc _ _ => simp only [List.length_nil, List.length_cons] at hlen; exact (decide_eq_true (by omega)).symm
        | cn _ _ => simp only [List.length_nil, List.length_cons] at hlen; exact (decide_eq_false (by omega)).symm
        | eq _ _ => rw [List.zip_cons_cons] at hz; cases hz
        | lt _ _ => rw [List.zip_cons_cons] at hz; cases hz
      rw [hv] at h
      wp_walk
      exact ⟨_, rfl, by simpa [Builtin.Tuple.tupleCompareSizes] using h⟩
    case h => exact ⟨rfl, rfl, items.toList, items2.toList, rfl, hs, by simp; omega⟩
theorem lst_loop (l b : Addr) (items items2 : Array Value) (n n2 : Nat) (dd dd2 : Option Addr) (sl sl2 : Array (Option Value)) (c : Bool) (k : Nat) :
    ∀ i : Nat, items.size - i = k → i ≤ items.size → i ≤ items2.size → Meets (Builtin.«list.__eq__.loop» ⟨[.ref l, .ref b, rawInt i, rawInt 0], []⟩)
      (fun A R s => s.heap.get? l = some { cls := .type "list", dict := dd, data := .seq items n, slots := sl } ∧ s.heap.get? b = some { cls := .type "list", dict := dd2, data := .seq items2 n2, slots := sl2 } ∧
        LtS A s (items.toList.drop i) (items2.toList.drop i) c ∧ R (.ok (.ret (.bool c))) s) := by
  induction k with
  | zero =>
    intro i hk hi1 hi2 prog w A R s h
    obtain ⟨hp, g, d, tk, os⟩ := s; obtain ⟨hl, hb, hL, h⟩ := h
    wp_walk using wpAny_loadPart' hl, wpAny_loadPart' hb
    have e1 : items[((i : Nat) : Int).toNat]? = none := by simp; omega
    have d1 : items.toList.drop i = [] := by simp; omega
    rw [d1] at hL; rw [e1]
    wp_walk using wpAny_loadPart' hl, wpAny_loadPart' hb
    have hv : c = decide (items.size < items2.size) := by
      cases h2 : items2.toList.drop i with
      | nil =>
        rw [h2] at hL; cases hL
        have := congrArg List.length h2; simp at this
        exact (decide_eq_false (by omega)).symm
      | cons y ys =>
        rw [h2] at hL; cases hL
        have := congrArg List.length h2; simp at this
        exact (decide_eq_true (by omega)).symm
    show R (.ok (.ret (.bool (decide (items.size < items2.size))))) _
    rw [← hv]; exact h
  | succ k ih =>
    intro i hk hi1 hi2 prog w A R s h
    obtain ⟨hp, g, d, tk, os⟩ := s; obtain ⟨hl, hb, hL, h⟩ := h
    have hlt : i < items.size := by omega
    have d1 : items.toList.drop i = items[i] :: items.toList.drop (i + 1) := by simp [List.drop_eq_getElem_cons, hlt]
    have e1 : items[((i : Nat) : Int).toNat]? = some items[i] := by simp [hlt]
    have hc : ((i : Int) + 1) = ((i + 1 : Nat) : Int) := by push_cast; rfl
    rw [d1] at hL
    rcases Nat.lt_or_ge i items2.size with hlt2 | hge
    · have d2 : items2.toList.drop i = items2[i] :: items2.toList.drop (i + 1) := by simp [List.drop_eq_getElem_cons, hlt2]
      have e2 : items2[((i : Nat) : Int).toNat]? = some items2[i] := by simp [hlt2]
      rw [d2] at hL
      wp_walk using wpAny_loadPart' hl, wpAny_loadPart' hb
      rw [e1, e2]
      cases hL with
      | eq e t =>
        refine wpAny_bind (e prog w _ _ ?_)
        wp_walk
        rw [hc]
        exact ⟨plainId_quiet plain_eq_loop _, codeAny_builtin entry_eq_loop (by rw [Around.under_plainId plain_eq_loop _]; exact ih (i + 1) (by omega) (by omega) (by omega) prog w A R _ ⟨hl, hb, t, h⟩)⟩
      | lt e t =>
        refine wpAny_bind (e prog w _ _ ?_)
        have t' := t prog w
        wp_walk using wpAny_loadPart' hl, wpAny_loadPart' hb
        rw [e1, e2]
        wp_walk using t'
        simpa using h
    · have e2 : items2[((i : Nat) : Int).toNat]? = none := by simp; omega
      have d2 : items2.toList.drop i = [] := by simp; omega
      rw [d2] at hL; cases hL
      wp_walk using wpAny_loadPart' hl, wpAny_loadPart' hb
      rw [e1, e2]
      wp_walk using wpAny_loadPart' hl, wpAny_loadPart' hb
      show R (.ok (.ret (.bool (decide (items.size < items2.size))))) _
      rw [decide_eq_false (by omega)]; exact h
theorem lst_lt (l b : Addr) (items items2 : Array Value) (n n2 : Nat) (dd dd2 : Option Addr) (sl sl2 : Array (Option Value)) (c : Bool) :
    Meets (Builtin.«list.__lt__» ⟨[.ref l, .ref b], []⟩) (fun A R s => s.heap.get? l = some { cls := .type "list", dict := dd, data := .seq items n, slots := sl } ∧ s.heap.get? b = some { cls := .type "list", dict := dd2, data := .seq items2 n2, slots := sl2 } ∧
        LtS A s items.toList items2.toList c ∧ R (.ok (.ret (.bool c))) s) := by
  intro prog w A R s h
  obtain ⟨hp, g, d, tk, os⟩ := s; obtain ⟨hl, hb, hL, h⟩ := h; have f3 := AutoSeq1.sub_list_list
  wp_walk using wpAny_loadPart' hl, wpAny_loadPart' hb
  exact ⟨plainId_quiet plain_eq_loop _, codeAny_builtin entry_eq_loop (by rw [Around.under_plainId plain_eq_loop _]; exact lst_loop l b items items2 n n2 dd dd2 sl sl2 c _ 0 rfl (Nat.zero_le _) (Nat.zero_le _) prog w A R _ ⟨hl, hb, by simpa using hL, h⟩)⟩
theorem seq_lt {A : Around} {s : Shared} {k : Bool} {l b : Addr} {xs ys : Array Value} {c : Bool} (c1 : SCo k s.heap l xs) (c2 : SCo k s.heap b ys) (hu : A.units < cLine) (h : LtS A s xs.toList ys.toList c) : RcLt A s (.ref l) (.ref b) c := fun prog w E Q q => by
  cases k
  · obtain ⟨⟨cls, dd, data, sl⟩, ho, hc, n, hd⟩ := id c1
    obtain ⟨⟨cls2, dd2, data2, sl2⟩, ho2, hc2, n2, hd2⟩ := id c2
    simp only at hc hd hc2 hd2; subst hc hd hc2 hd2
    exact richCompare_meets_room (op := .Lt) ⟨_, ho, rfl⟩ ⟨_, ho2, rfl⟩ PySem.F.slot_tuple_lt PySem.F.entry_tuple_lt (PySem.F.args_tuple_lt_2 _ _) (tup_lt l b xs ys n n2 dd dd2 sl sl2 c) ⟨ho, ho2, h, show Value.bool c ≠ Value.notImplemented ∧ Q (.bool c) s from ⟨(fun x => nomatch x), q⟩⟩ hu
  · obtain ⟨⟨cls, dd, data, sl⟩, ho, hc, n, hd⟩ := id c1
    obtain ⟨⟨cls2, dd2, data2, sl2⟩, ho2, hc2, n2, hd2⟩ := id c2
    simp only at hc hd hc2 hd2; subst hc hd hc2 hd2
    exact richCompare_meets_room (op := .Lt) ⟨_, ho, rfl⟩ ⟨_, ho2, rfl⟩ PySem.F.slot_list_lt PySem.F.entry_list_lt (PySem.F.args_list_lt_2 _ _) (lst_lt l b xs ys n n2 dd dd2 sl sl2 c) ⟨ho, ho2, h, show Value.bool c ≠ Value.notImplemented ∧ Q (.bool c) s from ⟨(fun x => nomatch x), q⟩⟩ hu
def ltL (f g : D → D → Option Bool) : List D → List D → Option Bool
  | [], [] => some false
  | [], _ :: _ => some true
  | _ :: _, [] => some false
  | x :: xs, y :: ys => (f x y).bind fun b => if b = true then ltL f g xs ys else g x y
def ltF : D → D → Option Bool
  | .int i, .int j => some (decide (i < j))
  | .str x, .str y => some (decide (x.cps.toList < y.cps.toList))
  | _, _ => none
def ltN (S : Sto) : Nat → D → D → Option Bool
  | 0, _, _ => none
  | n + 1, d, e => match ltF d e with
    | some b => some b
    | none => match seqOf S d, seqOf S e with
      | some p, some q => if p.1 = q.1 then ltL (eqN S n) (ltN S n) p.2 q.2 else none
      | _, _ => none
def gLt : G2 := fun d e S => (ltN S deepMost d e).map fun b => (.bl b, S)
def gGe' : G2 := fun d e S => (ltN S deepMost d e).map fun b => (.bl (!b), S)
section
variable {X : Cx} {pins : List (Addr × Obj)} {σ : L2.St} {H : Hp} {s : Shared} {mu : List Addr} {S : Sto}
theorem ltL_at (I : Inv X pins σ H s) (hs : Sim X.K H mu S) {n : Nat} {A : Around} (hu : A.units + 1 + n < cLine) (ih : ∀ {d e : D} {v w : V} {u z : Value} {b : Bool}, Rep X.K H mu d v → Rep X.K H mu e w → RelV v u → RelV w z → ltN S n d e = some b → RcLt A.in1 s u z b) :
    ∀ {xs ys : List D} {vs ws : List V} {us zs : List Value} {b : Bool}, Reps X.K H mu xs vs → Reps X.K H mu ys ws → Vals vs us → Vals ws zs → ltL (eqN S n) (ltN S n) xs ys = some b → LtS A s us zs b
  | [], [], _, _, _, _, b, .nil, .nil, .nil, .nil, h => by cases h; exact .nn
  | [], y :: ys, _, _, _, _, b, .nil, .cons _ _, .nil, .cons _ _, h => by cases h; exact .nc _ _
  | x :: xs, [], _, _, _, _, b, .cons _ _, .nil, .cons _ _, .nil, h => by cases h; exact .cn _ _
  | x :: xs, y :: ys, _, _, _, _, b, .cons r1 t1, .cons r2 t2, .cons q1 p1, .cons q2 p2, h => by
    rw [ltL] at h
    obtain ⟨k, e1, h⟩ := Option.bind_eq_some_iff.mp h
    have eq := (eqN_at I hs n (A := A.in1) hu r1 r2 q1 q2 e1).1
    cases k with
    | true => exact .eq eq (ltL_at I hs hu ih t1 t2 p1 p2 h)
    | false => exact .lt eq (ih r1 r2 q1 q2 h)
theorem ltN_at (I : Inv X pins σ H s) (hs : Sim X.K H mu S) : ∀ (n : Nat) {A : Around} {d e : D} {v w : V} {u z : Value} {b : Bool}, A.units + n < cLine → Rep X.K H mu d v → Rep X.K H mu e w → RelV v u → RelV w z → ltN S n d e = some b → RcLt A s u z b
  | 0, _, _, _, _, _, _, _, _, _, _, _, _, _, h => by cases h
  | n + 1, A, d, e, v, w, u, z, b, hu, rd, re, ru, rz, h => by
    rw [ltN] at h
    split at h
    · rename_i k hk
      cases h
      unfold ltF at hk
      split at hk
      · cases hk; cases rd; cases re
        obtain ⟨t, rfl⟩ := ru; obtain ⟨t', rfl⟩ := rz
        exact fun prog w E Q q => (PyProof.Rows.lt_int q : wpAny (model prog w) A (compareOp .Lt (.int _ t) (.int _ t')) Q E s)
      · cases hk; cases rd; cases re
        obtain ⟨t, rfl⟩ := ru; obtain ⟨t', rfl⟩ := rz
        exact fun prog w E Q q => (PyProof.Rows.lt_str q : wpAny (model prog w) A (compareOp .Lt (.str _ t) (.str _ t')) Q E s)
      · cases hk
    · split at h
      · rename_i p q hd he
        split at h
        · rename_i hb
          obtain ⟨pb, xs⟩ := p
          obtain ⟨qb, ys⟩ := q
          have hb' : pb = qb := hb
          subst hb'
          obtain ⟨a, vs, rfl, q1, t1⟩ := seqOf_at rd hs hd
          obtain ⟨a2, vs2, rfl, q2, t2⟩ := seqOf_at re hs he
          cases ru; cases rz
          obtain ⟨its, rv, co, _⟩ := sqb_at I q1
          obtain ⟨its2, rv2, co2, _⟩ := sqb_at I q2
          refine seq_lt co co2 (by omega) ?_
          have := ltL_at I hs (A := A) (n := n) (by omega) (fun r1 r2 r3 r4 h => ltN_at I hs n (A := A.in1) (by show A.units + 1 + n < cLine; omega) r1 r2 r3 r4 h) t1 t2 rv rv2 h
          simpa using this
        · cases h
      · cases h
theorem o_ltN (hu : X.A.units + 64 < cLine) : OpR X (compareOp .Lt) (r2 X.K (b2 gLt)) := by
  intro pins s σ H x y u w Q I rx ry h
  obtain ⟨mu, S, d, e, r, S', r1, r2, hs, hm, hc⟩ := rn2 h
  obtain ⟨b, e1, hm⟩ := Option.map_eq_some_iff.mp hm
  cases hm
  exact ltN_at I hs deepMost (by show _ + 60 < cLine; omega) r1 r2 rx ry e1 X.prog X.w X.xe _ ⟨.bl b, H, I, rfl, hc.now (.bl b) hs⟩
end
end Mi

end
section
set_option Elab.async false
set_option linter.all false
set_option maxRecDepth 100000
namespace Mi
open PySem PySem.Spec PyProof.Rows L2

/-! ### isinstance(x, T), T one of Python's own -/
inductive Ty where
  | int | bool | str | tuple | list | dict
  deriving DecidableEq
def Ty.nm : Ty → String
  | .int => "int" | .bool => "bool" | .str => "str" | .tuple => "tuple" | .list => "list" | .dict => "dict"
def isTy (S : Sto) (T : Ty) : D → Option Bool
  | .non => some false
  | .bl _ => some (decide (T = .bool) || decide (T = .int))
  | .int _ => some (decide (T = .int))
  | .str _ => some (decide (T = .str))
  | .tup _ => some (decide (T = .tuple))
  | .rol _ => some (decide (T = .list))
  | .ref n => match S[n]? with
    | some (.lst _) => some (decide (T = .list))
    | some (.dct _) => some (decide (T = .dict))
    | none => none
def mIsT (T : Ty) (m : FE) : FE := fun r S => (m r S).bind fun p => (isTy p.2 T p.1).map fun b => (.bl b, p.2)
section
variable {X : Cx} {pins : List (Addr × Obj)} {σ : L2.St} {H : Hp} {s : Shared} {mu : List Addr} {S : Sto} {K : PySem.W.Frag}
theorem kit_non (T : Ty) : PySem.W.kitOne K (.type "NoneType") (.type T.nm) = some false := by cases T <;> rfl
theorem kit_bl (T : Ty) : PySem.W.kitOne K (.type "bool") (.type T.nm) = some (decide (T = .bool) || decide (T = .int)) := by cases T <;> rfl
theorem kit_int (T : Ty) : PySem.W.kitOne K (.type "int") (.type T.nm) = some (decide (T = .int)) := by cases T <;> rfl
theorem kit_str (T : Ty) : PySem.W.kitOne K (.type "str") (.type T.nm) = some (decide (T = .str)) := by cases T <;> rfl
theorem kit_tup (T : Ty) : PySem.W.kitOne K (.type "tuple") (.type T.nm) = some (decide (T = .tuple)) := by cases T <;> rfl
theorem kit_lst (T : Ty) : PySem.W.kitOne K (.type "list") (.type T.nm) = some (decide (T = .list)) := by cases T <;> rfl
theorem kit_dct (T : Ty) : PySem.W.kitOne K (.type "dict") (.type T.nm) = some (decide (T = .dict)) := by cases T <;> rfl
theorem isTy_at {T : Ty} {d : D} {v : V} {u : Value} {b : Bool} {Q : Value → Shared → Prop} {E : Value → Shared → Prop} (I : Inv X pins σ H s) (hs : Sim X.K H mu S) (r : Rep X.K H mu d v) (ru : RelV v u) (h : isTy S T d = some b) (q : ∀ tk, Q (.bool b) { s with toks := tk }) :
    wpAny (model X.prog X.w) X.A (call (.builtin "isinstance") [u, .type T.nm]) Q E s := by
  have seq : ∀ {k : Bool} {a : Addr} {vs : List V}, SqB X.K k H a vs → b = (match k with | true => decide (T = .list) | false => decide (T = .tuple)) → wpAny (model X.prog X.w) X.A (call (.builtin "isinstance") [.ref a, .type T.nm]) Q E s := fun {k a vs} hq hb => by
    obtain ⟨its, rv, co, _⟩ := sqb_at I hq
    cases k
    · obtain ⟨o, e, c, _⟩ := co
      subst hb
      exact PySem.W.kia_one PySem.W.kitx_tuple I.kIn ⟨o, e, c⟩ (kit_tup T) (fun z => nomatch z) q
    · obtain ⟨o, e, c, _⟩ := co
      subst hb
      exact PySem.W.kia_one PySem.W.kitx_list I.kIn ⟨o, e, c⟩ (kit_lst T) (fun z => nomatch z) q
  cases d with
  | non => cases h; cases r; exact isinst_ok I ru .non (kit_non T) q
  | bl k => cases h; cases r; exact isinst_ok I ru (.bl k) (kit_bl T) q
  | int i => cases h; cases r; exact isinst_ok I ru (.int i) (kit_int T) q
  | str x => cases h; cases r; exact isinst_ok I ru (.str x) (kit_str T) q
  | tup xs =>
    cases h
    obtain ⟨a, vs, rfl, hq, t⟩ := seqOf_at (S := S) r hs rfl
    cases ru
    exact seq hq rfl
  | rol xs =>
    cases h
    obtain ⟨a, vs, rfl, hq, t⟩ := seqOf_at (S := S) r hs rfl
    cases ru
    exact seq hq rfl
  | ref n =>
    rw [isTy] at h
    split at h
    · rename_i xs e
      cases h
      obtain ⟨a, vs, rfl, hq, t⟩ := seqOf_at (S := S) r hs (by rw [seqOf, e])
      cases ru
      exact seq hq rfl
    · rename_i ks e
      cases h
      cases r with
      | ref qn =>
        obtain ⟨ws, e1, _⟩ := hs.dct e qn
        exact isinst_ok I ru (.dK e1) (kit_dct T) q
    · cases h
theorem c_isinst (T : Ty) : CallR X (.builtin "isinstance") (fun xs H Q => ∃ x mu S d b, xs = [x, .ty T.nm] ∧ Rep X.K H mu d x ∧ Sim X.K H mu S ∧ isTy S T d = some b ∧ Q (.bl b) H) := by
  intro pins s σ H xs us Q I r h
  obtain ⟨x, mu, S, d, b, rfl, r1, hs, hm, hc⟩ := h
  obtain ⟨u, w', rfl, ru, rt⟩ := vals2 r
  cases rt
  exact isTy_at I hs r1 ru hm fun tk => ⟨.bl b, H, I.tok tk, rfl, hc⟩
theorem me_isinst (T : Ty) {e : Expr} {m : FE} {nm : Str} {p p2 pos : Pos} (hg : Gl X "isinstance") (hm : X.mg "isinstance" = none) (hg2 : Gl X nm) (hm2 : X.mg nm = none) (hv2 : bootBuiltins nm = some (.type T.nm)) (h : ME X e m)
    (hn : nm ≠ "__name__" := by decide) (hd : (nm == ("__debug__" : Str)) = false := by decide)
    (hs1 : starEach [e, .Name nm p2] X.env = (false, eval e X.env) :: starEach [.Name nm p2] X.env := by rfl) (hs2 : starEach [.Name nm p2] X.env = (false, eval (.Name nm p2) X.env) :: starEach [] X.env := by rfl)
    (hpl : (backTo pos (starEach [.Name nm p2] X.env)).any (·.1) = false := by rfl) : ME X (.Call (.Name "isinstance" p) [e, .Name nm p2] [] pos) (mIsT T m) :=
  pe_imp (pe_callB (c_isinst T) hg hm (by decide +kernel) (pa_cons h (pa_cons (pe_bltn (v := .ty T.nm) hg2 hm2 hv2 rfl hn hd) pa_nil hs2) hs1) (by decide) (by decide) hs1 hpl) fun σ H Q ⟨r, mu, S, d, S', he, hs, hm, hc⟩ => by
    obtain ⟨⟨d1, S1⟩, e1, hm⟩ := Option.bind_eq_some_iff.mp hm
    obtain ⟨b, e2, hm⟩ := Option.map_eq_some_iff.mp hm
    cases hm
    refine ⟨r, mu, S, d1, _, he, hs, e1, fun v H1 mu1 x1 r1 s1 => ?_⟩
    exact ⟨v, mu1, _, d1, b, rfl, r1, s1, e2, hc _ H1 mu1 x1 (.bl b) s1⟩
end

/-! ### slices -/
abbrev FO := Ev → Sto → Option (Option Int × Sto)
def tMO (K : PySem.W.Frag) (m : FO) : TO := fun σ H Q => ∃ r mu S o S', EnvR K H mu r σ ∧ Sim K H mu S ∧ m r S = some (o, S') ∧ ∀ H' mu', Ext mu mu' H H' → Sim K H' mu' S' → Q o H'
abbrev MO (X : Cx) (e : Option Expr) (m : FO) : Prop := PO X e (tMO X.K m)
def oNone : FO := fun _ S => some (none, S)
def oSome (m : FE) : FO := fun r S => (m r S).bind fun p => match p.1 with
  | .int i => some (some i, p.2)
  | _ => none
def cutD (xs : List D) (lo hi : Option Int) : List D := (xs.drop (HT.sIx xs.length 0 lo)).take (HT.sIx xs.length xs.length hi - HT.sIx xs.length 0 lo)
def sliceD (S : Sto) (d : D) (lo hi : Option Int) : Option (D × Sto) := (seqOf S d).bind fun p => match p.1 with
  | true => some (.ref S.length, S ++ [.lst (cutD p.2 lo hi)])
  | false => if HT.sIx p.2.length 0 lo = 0 ∧ HT.sIx p.2.length p.2.length hi = p.2.length then none else some (.tup (cutD p.2 lo hi), S)
def mSl (m : FE) (lo hi : FO) : FE := fun r S => (m r S).bind fun p => (lo r p.2).bind fun a => (hi r a.2).bind fun b => sliceD b.2 p.1 a.1 b.1
section
variable {X : Cx}
theorem mo_none : MO X none oNone := fun pins s σ H Q I ⟨r, mu, S, o, S', he, hs, hm, hc⟩ => by
  cases hm
  exact po_none pins s σ H Q I (hc H mu (.refl _ _) hs)
theorem mo_some {e : Expr} {m : FE} (h : ME X e m) : MO X (some e) (oSome m) := fun pins s σ H Q I ⟨r, mu, S, o, S', he, hs, hm, hc⟩ => by
  obtain ⟨⟨d, S1⟩, e1, hm⟩ := Option.bind_eq_some_iff.mp hm
  cases d with
  | int i =>
    cases hm
    refine po_some h pins s σ H Q I ⟨r, mu, S, _, _, he, hs, e1, fun v H1 mu1 x1 r1 s1 => ?_⟩
    cases r1
    exact ⟨i, rfl, hc H1 mu1 x1 s1⟩
  | _ => cases hm
theorem cut_rep {K : PySem.W.Frag} {H : Hp} {mu : List Addr} {ds : List D} {vs : List V} (t : Reps K H mu ds vs) (lo hi : Option Int) : Reps K H mu (cutD ds lo hi) (cutV vs lo hi) := by
  unfold cutD cutV
  rw [← t.length]
  exact (t.drop _).take _
theorem me_slice {e : Expr} {lo hi : Option Expr} {m : FE} {a b : FO} {pos p2 : Pos} (h : ME X e m) (hl : MO X lo a) (hh : MO X hi b) : ME X (.Subscript e (.Slice lo hi none p2) pos) (mSl m a b) :=
  pe_imp (pe_slice (SlR.or sl_tup sl_list) h hl hh) fun σ H Q ⟨r, mu, S, d, S', he, hs, hm, hc⟩ => by
    obtain ⟨⟨d1, S1⟩, e1, hm⟩ := Option.bind_eq_some_iff.mp hm
    obtain ⟨⟨o1, S2⟩, e2, hm⟩ := Option.bind_eq_some_iff.mp hm
    obtain ⟨⟨o2, S3⟩, e3, hm⟩ := Option.bind_eq_some_iff.mp hm
    refine ⟨r, mu, S, d1, S1, he, hs, e1, fun v H1 mu1 x1 r1 s1 => ?_⟩
    refine ⟨r, mu1, S1, o1, S2, he.ext x1, s1, e2, fun H2 mu2 x2 s2 => ?_⟩
    refine ⟨r, mu2, S2, o2, S3, (he.ext x1).ext x2, s2, e3, fun H3 mu3 x3 s3 => ?_⟩
    obtain ⟨⟨k, xs⟩, e4, hm⟩ := Option.bind_eq_some_iff.mp hm
    have xx := (x1.trans x2).trans x3
    obtain ⟨c, vs, rfl, q, t⟩ := seqOf_at ((r1.ext x2).ext x3) s3 e4
    cases k with
    | true =>
      cases hm
      right
      exact ⟨c, vs, rfl, q, fun p hp => hc _ _ (mu3 ++ [p]) (xx.trans (Ext.new_ hp)) (.ref (new_at s3.len p)) (s3.newL (cut_rep t o1 o2) hp)⟩
    | false =>
      dsimp only at hm
      split at hm
      · cases hm
      · rename_i hw
        cases hm
        left
        refine ⟨c, vs, rfl, q, by rw [← t.length]; exact hw, fun p hp => hc _ _ mu3 (xx.trans (Ext.fresh hp)) (.tup (SqT.of upd_same) ((cut_rep t o1 o2).ext (Ext.fresh hp))) (s3.fresh hp)⟩
end

/-! ### list(range(..)) -/
section
variable {X : Cx}
def tRng1 (ta : TA) : TE := fun σ H Q => ta σ H fun vs H1 => ∃ j : Int, vs = [.int j] ∧ ∀ p, H1 p = none → Q (.ref p) (upd H1 p (.rng 0 j))
def tRng2 (ta : TA) : TE := fun σ H Q => ta σ H fun vs H1 => ∃ i j : Int, vs = [.int i, .int j] ∧ ∀ p, H1 p = none → Q (.ref p) (upd H1 p (.rng i j))
theorem pe_range1 {a : Expr} {ta : TA} {p pos : Pos} (hg : Gl X "range") (hm : X.mg "range" = none) (ha : PA X [a] ta) (hs : starEach [a] X.env = [(false, eval a X.env)] := by rfl) : PE X (.Call (.Name "range" p) [a] [] pos) (tRng1 ta) := by
  intro pins s σ H Q I h
  refine Call_ (ld_blt I hg hm boot_range (PyProof.Rows.callWith_type1 (thn (ha pos pins s σ H _ I h) fun us s1 ⟨vs, H1, I1, r1, q1⟩ => ?_) hs rfl))
  obtain ⟨j, e, q⟩ := q1
  subst e
  cases r1 with
  | cons r rr =>
    cases rr
    obtain ⟨t, rfl⟩ := r
    refine call_range_1 ⟨.ref s1.heap.objs.size, _, I1.laid (fun b o e => Heap.get?_push_of_some _ e) (Nat.le_refl _) (o := .rng 0 j) ?_, rfl, q _ (I1.hok.fresh (Nat.le_refl _))⟩
    exact ⟨_, _, _, Heap.get?_push_size _ rfl⟩
theorem pe_range2 {a b : Expr} {ta : TA} {p pos : Pos} (hg : Gl X "range") (hm : X.mg "range" = none) (ha : PA X [a, b] ta) (hs : starEach [a, b] X.env = [(false, eval a X.env), (false, eval b X.env)] := by rfl) (hs2 : starEach [b] X.env = [(false, eval b X.env)] := by rfl) :
    PE X (.Call (.Name "range" p) [a, b] [] pos) (tRng2 ta) := by
  intro pins s σ H Q I h
  refine Call_ (ld_blt I hg hm boot_range (PyProof.Rows.callWith_type1 (thn (ha pos pins s σ H _ I h) fun us s1 ⟨vs, H1, I1, r1, q1⟩ => ?_) (by rw [hs, hs2]) (by rw [hs2]; rfl)))
  obtain ⟨i, j, e, q⟩ := q1
  subst e
  cases r1 with
  | cons r rr =>
    cases rr with
    | cons r' rr =>
      cases rr
      obtain ⟨t, rfl⟩ := r
      obtain ⟨t', rfl⟩ := r'
      refine call_range_2 ⟨.ref s1.heap.objs.size, _, I1.laid (fun b o e => Heap.get?_push_of_some _ e) (Nat.le_refl _) (o := .rng i j) ?_, rfl, q _ (I1.hok.fresh (Nat.le_refl _))⟩
      exact ⟨_, _, _, Heap.get?_push_size _ rfl⟩
def rngV (i : Int) : Nat → List V
  | 0 => []
  | n + 1 => .int i :: rngV (i + 1) n
theorem rngV_len : ∀ (n : Nat) (i : Int), (rngV i n).length = n
  | 0, _ => rfl
  | n + 1, i => by rw [rngV, List.length_cons, rngV_len n]
theorem rngV_get : ∀ (n : Nat) (i : Int) (k : Nat) (v : V), (rngV i n)[k]? = some v → v = .int (i + k)
  | 0, i, k, v, h => by simp [rngV] at h
  | n + 1, i, 0, v, h => by simp [rngV] at h; rw [← h]; simp
  | n + 1, i, k + 1, v, h => by
    rw [rngV, List.getElem?_cons_succ] at h
    rw [rngV_get n (i + 1) k v h, show i + 1 + (k : Int) = i + ((k + 1 : Nat) : Int) by push_cast; omega]
theorem rngV_rep {K : PySem.W.Frag} {H : Hp} {mu : List Addr} : ∀ (n : Nat) (i : Int), Reps K H mu (nums i n) (rngV i n)
  | 0, _ => .nil
  | n + 1, i => .cons (.int i) (rngV_rep n (i + 1))
theorem vals_of : ∀ {xs : List V} {us : List Value}, xs.length = us.length → (∀ (i : Nat) x u, xs[i]? = some x → us[i]? = some u → RelV x u) → Vals xs us
  | [], [], _, _ => .nil
  | x :: xs, u :: us, h, f => .cons (f 0 x u rfl rfl) (vals_of (by simpa using h) fun i y w h1 h2 => f (i + 1) y w (by simpa using h1) (by simpa using h2))
  | [], _ :: _, h, _ => by simp at h
  | _ :: _, [], h, _ => by simp at h
theorem c_listR (hc : X.calm = true) : CallR X (.type "list") (fun xs H Q => ∃ p i j, xs = [.ref p] ∧ H p = some (.rng i j) ∧ (-(2 ^ 62) ≤ i ∧ i < 2 ^ 62 ∧ -(2 ^ 62) ≤ j ∧ j < 2 ^ 62) ∧ (j - i).toNat ≤ 2 ^ 20 ∧ ∀ l, H l = none → Q (.ref l) (upd H l (.lst (rngV i (j - i).toNat)))) := by
  intro pins s σ H xs us Q I r h
  obtain ⟨p, i, j, rfl, hp, ⟨h1, h2, h3, h4⟩, hl, q⟩ := h
  obtain ⟨u, rfl, ru⟩ := vals1 r
  cases ru
  obtain ⟨t, u, v, e⟩ := I.hok p _ hp
  have hz : (((j - i).toNat : Nat) : Int) = Builtin.Range.rangeSize i j 1 := by rw [rangeSize_one]; split <;> omega
  refine call_list_range (n := (j - i).toNat) (I.ok.hd hc) e (small_one h1 h2 h3 h4) hz.symm (Nat.le_trans hl (by decide)) fun h' tk acc c' hk hS hi => ?_
  obtain ⟨hsz, hval⟩ := hi
  have vals : Vals (rngV i (j - i).toNat) acc.toList := vals_of (by rw [rngV_len]; simpa using hsz.symm) fun k x u hx hu => by
    rw [rngV_get _ _ _ _ hx]
    obtain ⟨t', rfl⟩ := hval k u (by simpa using hu)
    exact ⟨t', by rw [Int.mul_one]⟩
  refine ⟨.ref s.heap.objs.size, _, I.laid (t' := tk) hk (Nat.le_refl _) (show ObjOk X.prog X.w _ h' _ (.lst (rngV i (j - i).toNat)) from ⟨?_, acc.toList, c', vals, by simpa using hS⟩), rfl, q _ (I.hok.fresh (Nat.le_refl _))⟩
  rw [rngV_len]
  exact Nat.le_trans hl (by decide)
def rngOk (i j : Int) : Bool := decide (-(2 ^ 62) ≤ i) && decide (i < 2 ^ 62) && decide (-(2 ^ 62) ≤ j) && decide (j < 2 ^ 62) && decide ((j - i).toNat ≤ 2 ^ 20)
def mLR1 (m : FA) : FE := fun r S => (m r S).bind fun p => match p.1 with
  | [.int j] => if rngOk 0 j = true then some (.ref p.2.length, p.2 ++ [.lst (nums 0 j.toNat)]) else none
  | _ => none
def mLR2 (m : FA) : FE := fun r S => (m r S).bind fun p => match p.1 with
  | [.int i, .int j] => if rngOk i j = true then some (.ref p.2.length, p.2 ++ [.lst (nums i (j - i).toNat)]) else none
  | _ => none
theorem rngOk_at {i j : Int} (h : rngOk i j = true) : (-(2 ^ 62) ≤ i ∧ i < 2 ^ 62 ∧ -(2 ^ 62) ≤ j ∧ j < 2 ^ 62) ∧ (j - i).toNat ≤ 2 ^ 20 := by
  unfold rngOk at h
  simp only [Bool.and_eq_true, decide_eq_true_eq] at h
  obtain ⟨⟨⟨⟨h1, h2⟩, h3⟩, h4⟩, h5⟩ := h
  exact ⟨⟨h1, h2, h3, h4⟩, h5⟩
theorem lr_end {K : PySem.W.Frag} {mu : List Addr} {H H1 : Hp} {S1 : Sto} {i j : Int} {Q : VK} {mu1 : List Addr} (x1 : Ext mu mu1 H H1) (s1 : Sim K H1 mu1 S1) (hc : Cont K mu H (.ref S1.length) (S1 ++ [.lst (nums i (j - i).toNat)]) Q) {p l : Addr} (hp : H1 p = none) (hl : upd H1 p (.rng i j) l = none) :
    Q (.ref l) (upd (upd H1 p (.rng i j)) l (.lst (rngV i (j - i).toNat))) :=
  hc _ _ (mu1 ++ [l]) ((x1.trans (Ext.fresh hp)).trans (Ext.new_ hl)) (.ref (new_at s1.len l)) ((s1.fresh hp).newL (rngV_rep _ _) hl)
theorem me_listR1 {a : Expr} {m : FA} {p1 p2 pos1 pos2 : Pos} (hc : X.calm = true) (hg : Gl X "range") (hm : X.mg "range" = none) (hg2 : Gl X "list") (hm2 : X.mg "list" = none) (ha : MA X [a] m) (hs : starEach [a] X.env = [(false, eval a X.env)] := by rfl)
    (hs2 : starEach [.Call (.Name "range" p1) [a] [] pos1] X.env = [(false, eval (.Call (.Name "range" p1) [a] [] pos1) X.env)] := by rfl) : ME X (.Call (.Name "list" p2) [.Call (.Name "range" p1) [a] [] pos1] [] pos2) (mLR1 m) :=
  pe_imp (pe_callTy (c_listR hc) hg2 hm2 (by decide +kernel) (pa_cons (pe_range1 hg hm ha hs) pa_nil hs2) (by decide) (by decide) hs2) fun σ H Q ⟨r, mu, S, d, S', he, hs, hm, hcc⟩ => by
    obtain ⟨⟨ds, S1⟩, e1, hm⟩ := Option.bind_eq_some_iff.mp hm
    dsimp only at hm
    split at hm
    · rename_i j
      split at hm
      · rename_i hb
        cases hm
        refine ⟨r, mu, S, _, _, he, hs, e1, fun vs H1 mu1 x1 r1 s1 => ?_⟩
        obtain ⟨v, rfl, rv⟩ := reps_one r1
        cases rv
        refine ⟨j, rfl, fun p hp => ⟨p, 0, j, rfl, upd_same, (rngOk_at hb).1, (rngOk_at hb).2, fun l hl => lr_end x1 s1 (by rw [Int.sub_zero]; exact hcc) hp hl⟩⟩
      · cases hm
    · cases hm
theorem me_listR2 {a b : Expr} {m : FA} {p1 p2 pos1 pos2 : Pos} (hc : X.calm = true) (hg : Gl X "range") (hm : X.mg "range" = none) (hg2 : Gl X "list") (hm2 : X.mg "list" = none) (ha : MA X [a, b] m) (hs : starEach [a, b] X.env = [(false, eval a X.env), (false, eval b X.env)] := by rfl) (hs3 : starEach [b] X.env = [(false, eval b X.env)] := by rfl)
    (hs2 : starEach [.Call (.Name "range" p1) [a, b] [] pos1] X.env = [(false, eval (.Call (.Name "range" p1) [a, b] [] pos1) X.env)] := by rfl) : ME X (.Call (.Name "list" p2) [.Call (.Name "range" p1) [a, b] [] pos1] [] pos2) (mLR2 m) :=
  pe_imp (pe_callTy (c_listR hc) hg2 hm2 (by decide +kernel) (pa_cons (pe_range2 hg hm ha hs hs3) pa_nil hs2) (by decide) (by decide) hs2) fun σ H Q ⟨r, mu, S, d, S', he, hs, hm, hcc⟩ => by
    obtain ⟨⟨ds, S1⟩, e1, hm⟩ := Option.bind_eq_some_iff.mp hm
    dsimp only at hm
    split at hm
    · rename_i i j
      split at hm
      · rename_i hb
        cases hm
        refine ⟨r, mu, S, _, _, he, hs, e1, fun vs H1 mu1 x1 r1 s1 => ?_⟩
        obtain ⟨v, u, rfl, rv, ru⟩ := reps_two r1
        cases rv; cases ru
        refine ⟨i, j, rfl, fun p hp => ⟨p, i, j, rfl, upd_same, (rngOk_at hb).1, (rngOk_at hb).2, fun l hl => lr_end x1 s1 hcc hp hl⟩⟩
      · cases hm
    · cases hm
end

/-! ### methods of lists -/
def gApp : G2 := fun o v S => match o with
  | .ref n => match S[n]? with
    | some (.lst xs) => if xs.length < sizeLine then some (.non, S.set n (.lst (xs ++ [v]))) else none
    | _ => none
  | _ => none
def gPop : G2 := fun o i S => match o, i with
  | .ref n, .int k => match S[n]? with
    | some (.lst xs) => if -(2 ^ 63) ≤ k ∧ k < 2 ^ 63 then (ixN xs.length k).bind fun j => (xs[j]?).map fun y => (y, S.set n (.lst (xs.eraseIdx j))) else none
    | _ => none
  | _, _ => none
/-- o.m(a): the receiver, then the arguments -/
def mMt (f : FN) (o : FE) (a : FA) : FE := fun r S => (o r S).bind fun p => match p.1 with
  | .ref n => match p.2[n]? with
    | some (.lst _) => (a r p.2).bind fun q => f (p.1 :: q.1) q.2
    | _ => none
  | _ => none
section
variable {X : Cx}
theorem mt_rn {id : String} {f : FN} (h : MtM X id (fun x xs H Q => rN X.K f (x :: xs) H Q)) : MtR X id (fun x xs H Q => rN X.K f (x :: xs) H Q) := h
theorem t_app : MtR X "list.append" (fun x xs H Q => rN X.K (b2 gApp) (x :: xs) H Q) := by
  intro pins s σ H x xs v us Q I rx rv h
  obtain ⟨x', y, mu, S, d, e, r', S', e0, r1, r2, hs, hm, hc⟩ := rn2l h
  cases e0
  cases d with
  | ref n =>
    rw [gApp] at hm
    split at hm
    · rename_i ys en
      split at hm
      · rename_i hl
        cases hm
        cases r1 with
        | ref qn =>
          obtain ⟨vs, ev, t⟩ := hs.lst en qn
          refine mt_append pins s σ H _ [y] v us Q I rx rv ⟨_, vs, y, rfl, rfl, ev, by rw [← t.length]; exact hl, ?_⟩
          exact hc _ _ mu (Ext.put ev trivial (List.mem_of_getElem? qn)) .non (hs.putL (t.append (.cons r2 .nil)) qn ev)
      · cases hm
    · cases hm
  | _ => cases hm
theorem t_pop : MtR X "list.pop" (fun x xs H Q => rN X.K (b2 gPop) (x :: xs) H Q) := by
  intro pins s σ H x xs v us Q I rx rv h
  obtain ⟨x', y, mu, S, d, e, r', S', e0, r1, r2, hs, hm, hc⟩ := rn2l h
  cases e0
  unfold gPop at hm
  split at hm
  · rename_i n k
    split at hm
    · rename_i ys en
      split at hm
      · rename_i hb
        obtain ⟨j, ej, hm⟩ := Option.bind_eq_some_iff.mp hm
        obtain ⟨z, ez, hm⟩ := Option.map_eq_some_iff.mp hm
        cases hm
        cases r1 with
        | ref qn =>
          cases r2
          obtain ⟨vs, ev, t⟩ := hs.lst en qn
          obtain ⟨w, ew, rw'⟩ := t.get ez
          refine mt_popAt pins s σ H _ [.int k] v us Q I rx rv ⟨_, vs, k, j, w, rfl, rfl, ev, hb.1, hb.2, ?_, ew, ?_⟩
          · rw [← t.length]; exact (ixN_seq ej).1
          · have x := Ext.put (u := .lst (vs.eraseIdx j)) ev trivial (List.mem_of_getElem? qn)
            exact hc _ _ mu x (rw'.ext x) (hs.putL (t.eraseIdx j) qn ev)
      · cases hm
    · cases hm
  · cases hm
theorem me_lmeth {o e : Expr} {es : List Expr} {m : FE} {a : FA} {f : FN} {name : Str} {apos cpos : Pos} {id : String} (slot : Slot "list" name id) (hty : typeOf (.builtin id) = pure (.type "method_descriptor")) (hm : MtR X id (fun x xs H Q => rN X.K f (x :: xs) H Q)) (ho : ME X o m) (ha : MA X (e :: es) a)
    (hbase : attributeBase o name X.env (eval o X.env) = eval o X.env := by rfl)
    (hfew : ((backTo cpos (starEach (e :: es) X.env)).all (fun x => !x.1) && (backToKw cpos (keywordEach [] X.env)).all (fun x => x.1.isSome) && decide ((e :: es).length + ([] : List Keyword).length + (if ([] : List Keyword).isEmpty then 0 else 1) < 30)) = true := by rfl)
    (hline : (apos.endLine == cpos.line) = true := by rfl) (hs : starEach (e :: es) X.env = (false, eval e X.env) :: starEach es X.env := by rfl) (hplain : (backTo cpos (starEach es X.env)).any (·.1) = false := by rfl) :
    ME X (.Call (.Attribute o name apos) (e :: es) [] cpos) (mMt f m a) :=
  pe_imp (pe_bm PySem.F.plainAttrs_list slot hty hm ho ha hbase hfew hline hs hplain) fun σ H Q ⟨r, mu, S, d, S', he, hs, hm, hc⟩ => by
    obtain ⟨⟨d1, S1⟩, e1, hm⟩ := Option.bind_eq_some_iff.mp hm
    refine ⟨r, mu, S, d1, S1, he, hs, e1, fun v H1 mu1 x1 r1 s1 => ?_⟩
    cases d1 with
    | ref n =>
      dsimp only at hm
      split at hm
      · rename_i xs en
        obtain ⟨⟨ds, S2⟩, e2, hm⟩ := Option.bind_eq_some_iff.mp hm
        refine ⟨?_, r, mu1, S1, ds, S2, he.ext x1, s1, e2, fun vs H2 mu2 x2 r2 s2 => ?_⟩
        · cases r1 with
          | ref qn =>
            obtain ⟨vs, ev, t⟩ := s1.lst en qn
            exact .inl ⟨rfl, vs, SqL.of ev⟩
        · exact ⟨mu2, S2, .ref n :: ds, d, S', .cons (r1.ext x2) r2, s2, hm, fun v3 H3 mu3 x3 => hc v3 H3 mu3 ((x1.trans x2).trans x3)⟩
      · cases hm
    | _ => cases hm
end
end Mi

end
section
set_option Elab.async false
set_option linter.all false
set_option maxRecDepth 100000
namespace Mi
open PySem PySem.Spec PyProof.Rows L2

/-! ### name = [comprehension], the store ahead of the block's end -/
theorem ps_comp {X : Cx} (hc : X.calm = true) {elt tg iter : Expr} {ifs : List Expr} {rest : List Comprehension} {scope : Scope} {pos spos py : Pos} {y : Str} {i : Nat} {T : List Str} {keep : List Nat} {cl : List (Str × Addr)} {wi : TI} {g : TG} {ti : TT} {tb : Addr → TS} {emit : Value → Env → Sem Unit}
    (hsw : swapsWith (.ListComp elt (⟨tg, iter, ifs, 0⟩ :: rest) scope pos) (some (.Name y py)) spos.line X.env = pure true)
    (eq : ∀ it acc env, compTurn (.ListComp elt (⟨tg, iter, ifs, 0⟩ :: rest) scope pos) 0 it acc env = turnT iter.pos tg ifs it env (emit acc env) (.compLoop (.ListComp elt (⟨tg, iter, ifs, 0⟩ :: rest) scope pos) 0 it acc env))
    (C : CSc X scope T keep) (hcl : cloF X.env.cells scope.names [] = some cl) (hi : PI X tg iter wi)
    (hb : ∀ s H fp p, PG (cxC X scope cl T keep s H fp) tg g ∧ PIfs (cxC X scope cl T keep s H fp) ifs ti ∧ PU (cxC X scope cl T keep s H fp) (emit (.ref p) (cxC X scope cl T keep s H fp).env) (tb p))
    (hN : X.N.Nodup) (hy : X.N[i]? = some y) (hx : Loc X.env.scope y) (hf : X.fn y = true ∨ X.env.scope.names.lookup y = some .local)
    (hs : ∀ x, foldedSetIterable iter X.env x = pure x := by intro _; rfl) :
    PS X (.Assign [.Name y py] (.ListComp elt (⟨tg, iter, ifs, 0⟩ :: rest) scope pos) spos) (tAsg (tComp T.length keep wi g ti tb) (gName i)) := by
  intro pins s σ H D I h
  rw [exec_Assign_Name_used _ _ _ _ hsw]
  refine wpAny_bind (wpAny_standAt (wpAny_bind ?_))
  show wpAny _ X.A (do let _ ← comprehension (.ListComp elt (⟨tg, iter, ifs, 0⟩ :: rest) scope pos) scope X.env _ (newList []) false (eval iter X.env) (some (assign (.Name y py) X.env))) _ _ s
  refine wpAny_bind (wpAny_mono (wpAny_comprehension_free (use := some (assign (.Name y py) X.env)) (Q := fun _ s' => SP X pins D .next s') rfl hs (clo_eq hcl) C.kind C.names ?_) (fun _ s' hq => wpAny_pure (wpAny_pure hq)) fun _ _ e => e)
  refine thn (hi pins s σ H _ I h) fun v s1 h1 => thn h1 fun itv s2 h2 => ?_
  obtain ⟨it, fp, tn, J, H2, rfl, I2, TT, st2, f2, q2⟩ := h2
  refine wpAny_newObj_type ?_
  have I3 : Inv X pins σ (upd H2 s2.heap.objs.size (.lst [])) { s2 with heap := s2.heap.push { cls := .type "list", data := .seq ([] : List Value).toArray } } := I2.lnew (t' := s2.toks) .nil (Nat.zero_le _)
  have old : ∀ b ∈ fp, ∃ o, s2.heap.get? b = some o := fun b hb => by
    obtain ⟨o, e, _⟩ := TT.obj 0 s2.heap st2 b hb
    exact ⟨o, e⟩
  have fne : ∀ b ∈ fp, b ≠ s2.heap.objs.size := fun b hb z => by
    obtain ⟨o, e⟩ := old b hb
    have := Heap.lt_size e
    rw [z] at this
    exact Nat.lt_irrefl _ this
  have f3 : ∀ b ∈ fp, FpOk X pins (upd H2 s2.heap.objs.size (.lst [])) b := fun b hb => ⟨by rw [upd_ne (fne b hb)]; exact (f2 b hb).1, (f2 b hb).2⟩
  have o3 : ∀ b ∈ fp, ∃ o, ({ s2 with heap := s2.heap.push { cls := .type "list", data := .seq ([] : List Value).toArray } } : Shared).heap.get? b = some o := fun b hb => by
    obtain ⟨o, e⟩ := old b hb
    exact ⟨o, Heap.get?_push_of_some _ e⟩
  have I4 := inv_comp I3 C hcl f3 o3
  obtain ⟨hg, hf2, he⟩ := hb { s2 with heap := s2.heap.push { cls := .type "list", data := .seq ([] : List Value).toArray } } (upd H2 s2.heap.objs.size (.lst [])) fp s2.heap.objs.size
  refine newEnv_around ?_
  have f4 : ∀ b ∈ fp, FpOk (cxC X scope cl T keep { s2 with heap := s2.heap.push { cls := .type "list", data := .seq ([] : List Value).toArray } } (upd H2 s2.heap.objs.size (.lst [])) fp) [] (upd H2 s2.heap.objs.size (.lst [])) b := fun b hb =>
    ⟨(f3 b hb).1, (I4.ok.exf b hb).1, I4.ok.exfs b hb, .inl hb, (I4.ok.exf b hb).2, fun p hp => absurd (show p ∈ ([] : List (Addr × Obj)) from hp) (by simp)⟩
  have st4 : tn 0 (pushCells ((s2.heap.push { cls := .type "list", data := .seq ([] : List Value).toArray }).push { cls := .type "dict", data := .dict #[] }) scope.names) :=
    TT.keep 0 s2.heap _ st2 fun b hb o e => pushCells_keeps scope.names _ b o (Heap.get?_push_of_some _ (Heap.get?_push_of_some _ e))
  have loop := comp_loop (X := cxC X scope cl T keep { s2 with heap := s2.heap.push { cls := .type "list", data := .seq ([] : List Value).toArray } } (upd H2 s2.heap.objs.size (.lst [])) fp) rfl hc (eq (.ref it) (.ref s2.heap.objs.size) _) TT hg hf2 he I4 st4 f4
    (q2 s2.heap.objs.size (I2.hok.fresh (Nat.le_refl _)))
  refine codeAny_mono (codeAny_compStart_list loop (TT.self X.A 0 _ _ _ st4 loop)) fun r s' hr => ?_
  cases r with
  | error e => exact hr.elim
  | ok f =>
    obtain ⟨σ', H', I', q'⟩ := hr
    have J1 : Inv X pins σ H' s' := I3.call' (s' := s') (ch := fp) I'.os I'.base I'.hok I'.bare fun b hb => (f3 b hb).2.2.2 |> fun z => ⟨z.1, (f3 b hb).2.1, z.2.1, z.2.2⟩
    -- the block's own dict is kept aside
    obtain ⟨m, hn, _⟩ := id I'.loc
    obtain ⟨oC, es, ep, eC, dC, rC⟩ := id hn
    have hCz : (s2.heap.push { cls := .type "list", data := .seq ([] : List Value).toArray }).get? (s2.heap.push { cls := .type "list", data := .seq ([] : List Value).toArray }).objs.size = none := Heap.get?_none_of_le (Nat.le_refl _)
    have neL : (s2.heap.push { cls := .type "list", data := .seq ([] : List Value).toArray }).objs.size ≠ X.env.locals := fun z => by
      have := I3.lt
      rw [← z] at this
      exact Nat.lt_irrefl _ this
    have frC : H' (s2.heap.push { cls := .type "list", data := .seq ([] : List Value).toArray }).objs.size = none := I'.free
    have J2 : Inv X (pins ++ [((s2.heap.push { cls := .type "list", data := .seq ([] : List Value).toArray }).objs.size, oC)]) σ H' s' := J1.pins_of fun p hp => by
      rcases List.mem_append.mp hp with z | z
      · exact J1.pin p (List.mem_append_right _ z)
      · have z' : p = ((s2.heap.push { cls := .type "list", data := .seq ([] : List Value).toArray }).objs.size, oC) := by simpa using z
        subst z'
        exact ⟨eC, frC, neL, I3.nofs (Nat.le_refl _), fun v q => by rw [dC] at q; cases q⟩
    refine thn (pg_name hN hy hx hf _ s' σ H' (.ref s2.heap.objs.size) (.ref s2.heap.objs.size) D.nx J2 rfl q') fun _ s5 ⟨σ5, H5, J5, q5⟩ => ?_
    obtain ⟨e5, n5, _⟩ := J5.pin ((s2.heap.push { cls := .type "list", data := .seq ([] : List Value).toArray }).objs.size, oC) (List.mem_append_right _ (List.mem_append_right _ List.mem_cons_self))
    refine ⟨m, ⟨oC, es, ep, e5, dC, rC⟩, fun h' hs' => ?_⟩
    have J6 : Inv X pins σ5 H5 s5 := J5.unpinned
    refine ⟨σ5, H5, J6.turned (t' := s5.toks) (fun b o hb e => (hs'.2 b hb).trans e) n5 neL (.inr ?_) (fun x c hcell z => ?_) (fun p hp z => ?_), q5⟩
    · exact I3.sz
    · obtain ⟨w', zc⟩ := I3.cell x c hcell
      have hlt := zc.lt
      rw [z] at hlt
      exact Nat.lt_irrefl _ hlt
    · obtain ⟨ep', _⟩ := I3.pin p hp
      have hlt := Heap.lt_size ep'
      rw [z] at hlt
      exact Nat.lt_irrefl _ hlt
section
variable {X : Cx}
theorem asg_ok {K : PySem.W.Frag} {te : TE} {m : FE} {i : Nat} (hm : ∀ σ H Q, tM K m σ H Q → te σ H Q) {E : Ends} {σ : L2.St} {H : Hp} (h : tMS K (mAsg m (gN i)) E σ H) : tAsg te (gName i) E σ H := by
  obtain ⟨r, mu, S, d, S', h1, h2, h3, h4⟩ := mAsg_ok h
  refine hm _ _ _ ⟨r, mu, S, d, S', h1, h2, h3, fun v H' mu' x1 r1 s1 => ?_⟩
  obtain ⟨r2, mu2, S2, d2, r3, S3, q1, q2, q3, q4, q5⟩ := h4 v H' mu' x1 r1 s1
  cases q4
  exact q5 _ H' mu2 (.refl _ _) (q1.set q3) q2
theorem ms_comp1 {elt tg iter : Expr} {ifs : List Expr} {scope : Scope} {pos spos py : Pos} {y : Str} (i : Nat) {T : List Str} {keep : List Nat} {cl : List (Str × Addr)} {m : FI} {g : FG} {t : FT} {e : FE} (hc : X.calm = true)
    (C : CSc X scope T keep) (hcl : cloF X.env.cells scope.names [] = some cl) (hi : MI X tg iter m)
    (hb : ∀ s H fp, MG (cxC X scope cl T keep s H fp) tg g ∧ PIfs (cxC X scope cl T keep s H fp) ifs (tMT X.K t) ∧ ME (cxC X scope cl T keep s H fp) elt e)
    (hN : X.N.Nodup) (hy : X.N[i]? = some y) (hx : Loc X.env.scope y) (hsw : swapsWith (.ListComp elt [⟨tg, iter, ifs, 0⟩] scope pos) (some (.Name y py)) spos.line X.env = pure true := by rfl)
    (hf : X.fn y = true ∨ X.env.scope.names.lookup y = some .local := by first | exact .inl rfl | exact .inr rfl | assumption)
    (hs : ∀ x, foldedSetIterable iter X.env x = pure x := by intro _; rfl) : MS X (.Assign [.Name y py] (.ListComp elt [⟨tg, iter, ifs, 0⟩] scope pos) spos) (mAsg (mComp T.length keep m g t fun n => mEmit n e) (gN i)) :=
  ps_imp (ps_comp (emit := emitE elt) (tb := fun p => tEmit p (tM X.K e)) hc hsw (fun it acc env => turn_A elt tg iter ifs scope pos it acc env) C hcl hi (fun s H fp p => ⟨(hb s H fp).1, (hb s H fp).2.1, pu_emit (hb s H fp).2.2 p⟩) hN hy hx hf hs)
    fun E σ H h => asg_ok (fun σ H Q q => comp_ok (fun n a E σ H q => emit_ok q) q) h
theorem ms_comp2 {elt tg iter tg2 iter2 : Expr} {ifs ifs2 : List Expr} {scope : Scope} {pos spos py : Pos} {y : Str} (i : Nat) {T : List Str} {keep : List Nat} {cl : List (Str × Addr)} {m m2 : FI} {g g2 : FG} {t t2 : FT} {e : FE} (hc : X.calm = true)
    (C : CSc X scope T keep) (hcl : cloF X.env.cells scope.names [] = some cl) (hi : MI X tg iter m)
    (hb : ∀ s H fp, MG (cxC X scope cl T keep s H fp) tg g ∧ PIfs (cxC X scope cl T keep s H fp) ifs (tMT X.K t) ∧ MI (cxC X scope cl T keep s H fp) tg2 iter2 m2 ∧ MG (cxC X scope cl T keep s H fp) tg2 g2 ∧ PIfs (cxC X scope cl T keep s H fp) ifs2 (tMT X.K t2) ∧ ME (cxC X scope cl T keep s H fp) elt e)
    (hN : X.N.Nodup) (hy : X.N[i]? = some y) (hx : Loc X.env.scope y) (hsw : swapsWith (.ListComp elt [⟨tg, iter, ifs, 0⟩, ⟨tg2, iter2, ifs2, 0⟩] scope pos) (some (.Name y py)) spos.line X.env = pure true := by rfl)
    (hf : X.fn y = true ∨ X.env.scope.names.lookup y = some .local := by first | exact .inl rfl | exact .inr rfl | assumption)
    (hs : ∀ x, foldedSetIterable iter X.env x = pure x := by intro _; rfl) (hs2 : ∀ env x, foldedSetIterable iter2 env x = pure x := by intro _ _; rfl) :
    MS X (.Assign [.Name y py] (.ListComp elt [⟨tg, iter, ifs, 0⟩, ⟨tg2, iter2, ifs2, 0⟩] scope pos) spos) (mAsg (mComp T.length keep m g t fun n => mNest m2 g2 t2 (mEmit n e)) (gN i)) :=
  ps_imp (ps_comp (emit := emitN (.ListComp elt [⟨tg, iter, ifs, 0⟩, ⟨tg2, iter2, ifs2, 0⟩] scope pos) iter2) (tb := fun p => tNest (tMI X.K m2) (tMG X.K g2) (tMT X.K t2) (tEmit p (tM X.K e))) hc hsw (fun it acc env => turn_B elt tg iter tg2 iter2 ifs ifs2 scope pos it acc env) C hcl hi
      (fun s H fp p => ⟨(hb s H fp).1, (hb s H fp).2.1, pu_nest (X := cxC X scope cl T keep s H fp) rfl hc (hb s H fp).2.2.1 (hb s H fp).2.2.2.1 (hb s H fp).2.2.2.2.1 (pu_emit (hb s H fp).2.2.2.2.2 p) (hs2 _)⟩) hN hy hx hf hs)
    fun E σ H h => asg_ok (fun σ H Q q => comp_ok (fun n a E σ H q => nest_ok (fun _ _ _ z => emit_ok z) q) q) h
/-! ### short forms -/
theorem mv (i : Nat) {x : Str} {pos : Pos} (hN : X.N[i]? = some x := by rfl) (hv : Vis X.env.scope x := by first | exact Or.inl rfl | exact Or.inr (Or.inl rfl) | exact Or.inr (Or.inr rfl)) (hd : (x == ("__debug__" : Str)) = false := by decide) (hcd : (x == ("__classdict__" : Str)) = false := by decide) :
    ME X (.Name x pos) (mV i) := me_var i hN hv hd hcd
end
/-- a def of the text, by its name -/
def Own (P : Program) (w : World) (K : PySem.W.Frag) (mg : Str → Option Value) (base : Heap) (k : Nat) (x : Str) (n : Nat) (m : FN) : Prop :=
  ∃ (f : Addr) (fd : FuncData) (ps : List Str), FnOk P w K mg base CX0 k f fd ps (spM K n m) ∧ Binds K fd ps [] ∧ PySem.W.keepIn K (.ref f) = true ∧ mg x = some (.ref f)
theorem me_own {X : Cx} {k k' n : Nat} {x : Str} {m : FN} {p pos : Pos} {e : Expr} {es : List Expr} {a : FA} (h : Own X.prog X.w X.K X.mg X.base k x n m) (hr : Room k' X.A) (hk : k ≤ k') (hg : Gl X x) (ha : MA X (e :: es) a) (hdb : (x == ("__debug__" : Str)) = false := by decide)
    (he : starEach (e :: es) X.env = (false, eval e X.env) :: starEach es X.env := by rfl) (hpl : (backTo pos (starEach es X.env)).any (·.1) = false := by rfl) : ME X (.Call (.Name x p) (e :: es) [] pos) (mN (mCall n m) a) := by
  obtain ⟨f, fd, ps, F, b, kp, hm⟩ := h
  exact me_call F (hr.mono hk) hg hm kp b ha hdb he hpl
theorem own_mk {P : Program} {w : World} {K : PySem.W.Frag} {mg : Str → Option Value} {base : Heap} {x qual : Str} {st : Stmt} {f : Addr} {fd : FuncData} {N ps : List Str} {k n : Nat} {b : FS} (F : Fun K x qual st f fd) (hb : Binds K fd ps []) (hm : mg x = some (.ref f)) (S : FnScope N ps (defScope st)) (hn : ps.length = n)
    (hbody : ∀ (cdv : Value) (A : Around) (outer : List Env) (s : Shared) (H : Hp) (E : XK), Room k (A.deeper (envOfC qual (defScope st) s.heap.objs.size f cdv)) →
      MSs (cxOf CX0 P w K mg base N qual (defScope st) f cdv A outer s H E).nox (defBody st) b) : Own P w K mg base (k + 1) x n (fnB N.length b) := by
  subst hn
  exact ⟨f, fd, ps, fn_m F S hbody, hb, F.kp, hm⟩
end Mi

end
section
set_option Elab.async false
set_option linter.all false
namespace Mi
open PySem PySem.Spec PyProof.Rows L2
/-! ### an argument that is no star, by its kind -/
theorem st_Tuple (es k pos rest env) : starEach (.Tuple es k pos :: rest) env = (false, eval (.Tuple es k pos) env) :: starEach rest env := rfl
theorem st_List (es pos rest env) : starEach (.List es pos :: rest) env = (false, eval (.List es pos) env) :: starEach rest env := rfl
theorem st_Name (x pos rest env) : starEach (.Name x pos :: rest) env = (false, eval (.Name x pos) env) :: starEach rest env := rfl
theorem st_Constant (c k pos rest env) : starEach (.Constant c k pos :: rest) env = (false, eval (.Constant c k pos) env) :: starEach rest env := rfl
theorem st_Call (f a k pos rest env) : starEach (.Call f a k pos :: rest) env = (false, eval (.Call f a k pos) env) :: starEach rest env := rfl
theorem st_BinOp (a o b pos rest env) : starEach (.BinOp a o b pos :: rest) env = (false, eval (.BinOp a o b pos) env) :: starEach rest env := rfl
theorem st_Compare (a o b pos rest env) : starEach (.Compare a o b pos :: rest) env = (false, eval (.Compare a o b pos) env) :: starEach rest env := rfl
theorem st_IfExp (a o b pos rest env) : starEach (.IfExp a o b pos :: rest) env = (false, eval (.IfExp a o b pos) env) :: starEach rest env := rfl
theorem st_Subscript (a o pos rest env) : starEach (.Subscript a o pos :: rest) env = (false, eval (.Subscript a o pos) env) :: starEach rest env := rfl
theorem st_ListComp (a o b pos rest env) : starEach (.ListComp a o b pos :: rest) env = (false, eval (.ListComp a o b pos) env) :: starEach rest env := rfl
theorem st_UnaryOp (a o pos rest env) : starEach (.UnaryOp a o pos :: rest) env = (false, eval (.UnaryOp a o pos) env) :: starEach rest env := rfl
theorem st_BoolOp (a o pos rest env) : starEach (.BoolOp a o pos :: rest) env = (false, eval (.BoolOp a o pos) env) :: starEach rest env := rfl
def CGl (K : PySem.W.Frag) (mg : Str → Option Value) (x : Str) (d : D) : Prop := ∃ (v : V) (u : Value), mg x = some u ∧ RelV v u ∧ ∀ H mu, Rep K H mu d v
theorem me_glob {X : Cx} {x : Str} {d : D} {pos : Pos} (h : CGl X.K X.mg x d) (hg : Gl X x) (hd : (x == ("__debug__" : Str)) = false := by decide) : ME X (.Name x pos) (mC d) := by
  obtain ⟨v, u, hm, r, q⟩ := h
  exact me_c d (pe_glob hg hm r hd) q
end Mi

end
section
set_option Elab.async false
set_option linter.all false
set_option maxRecDepth 100000
namespace Mi
open PySem PySem.Spec PyProof.Rows L2

/-! ### a block that needs plain data alone: it runs in an empty store, what it made is dropped -/
def maskE : List Bool → Ev → Ev
  | true :: bs, o :: r => o :: maskE bs r
  | false :: bs, _ :: r => none :: maskE bs r
  | [], _ :: r => none :: maskE [] r
  | _, [] => []
def shutE : Ev → Bool
  | [] => true
  | none :: r => shutE r
  | some d :: r => d.und 0 && shutE r
def mPure (ki ko : List Bool) (b : FS) : FS := fun r S => if shutE (maskE ki r) = true then
    (b (maskE ki r) []).bind fun p => match p.1 with
      | .rt d => if d.und 0 = true then some (.rt d, [], S) else none
      | f => if shutE (maskE ko p.2.1) = true then some (f, maskE ko p.2.1, S) else none
  else none
theorem maskE_len : ∀ (bs : List Bool) (r : Ev), (maskE bs r).length = r.length
  | true :: bs, o :: r => congrArg (· + 1) (maskE_len bs r)
  | false :: bs, o :: r => congrArg (· + 1) (maskE_len bs r)
  | [], o :: r => congrArg (· + 1) (maskE_len [] r)
  | [], [] => rfl
  | true :: _, [] => rfl
  | false :: _, [] => rfl
theorem maskE_get : ∀ (bs : List Bool) (r : Ev) (i : Nat) (d : D), (maskE bs r)[i]? = some (some d) → r[i]? = some (some d)
  | true :: bs, o :: r, 0, d, h => h
  | true :: bs, o :: r, i + 1, d, h => by
    rw [List.getElem?_cons_succ]; exact maskE_get bs r i d (by rw [maskE, List.getElem?_cons_succ] at h; exact h)
  | false :: bs, o :: r, 0, d, h => by simp [maskE] at h
  | false :: bs, o :: r, i + 1, d, h => by
    rw [List.getElem?_cons_succ]; exact maskE_get bs r i d (by rw [maskE, List.getElem?_cons_succ] at h; exact h)
  | [], o :: r, 0, d, h => by simp [maskE] at h
  | [], o :: r, i + 1, d, h => by
    rw [List.getElem?_cons_succ]; exact maskE_get [] r i d (by rw [maskE, List.getElem?_cons_succ] at h; exact h)
  | [], [], i, d, h => by simp [maskE] at h
  | true :: _, [], i, d, h => by simp [maskE] at h
  | false :: _, [], i, d, h => by simp [maskE] at h
theorem shutE_get : ∀ (r : Ev) (i : Nat) (d : D), shutE r = true → r[i]? = some (some d) → d.und 0 = true
  | none :: r, 0, d, _, h => by simp at h
  | none :: r, i + 1, d, hs, h => shutE_get r i d hs (by simpa using h)
  | some e :: r, 0, d, hs, h => by
    rw [shutE, Bool.and_eq_true] at hs
    simp at h; subst h; exact hs.1
  | some e :: r, i + 1, d, hs, h => by
    rw [shutE, Bool.and_eq_true] at hs
    exact shutE_get r i d hs.2 (by simpa using h)
theorem EnvR.mask {K : PySem.W.Frag} {H : Hp} {mu mu' : List Addr} {r : Ev} {σ : L2.St} {bs : List Bool} (h : EnvR K H mu r σ) (hs : shutE (maskE bs r) = true) : EnvR K H mu' (maskE bs r) σ :=
  ⟨by rw [maskE_len]; exact h.len, fun i d e => by
    obtain ⟨v, e1, r1⟩ := h.val i d (maskE_get bs r i d e)
    exact ⟨v, e1, r1.cut (n := 0) (fun k hk => absurd hk (Nat.not_lt_zero _)) (shutE_get _ i d hs e)⟩⟩
theorem mPure_ok {K : PySem.W.Frag} {ki ko : List Bool} {b : FS} {E : Ends} {σ : L2.St} {H : Hp} (h : tMS K (mPure ki ko b) E σ H) : tMS K b E σ H := by
  obtain ⟨r, mu, S, f, r', S', he, hs, hm, hc⟩ := h
  unfold mPure at hm
  split at hm
  · rename_i hb
    obtain ⟨⟨f1, r1, S1⟩, e1, hm⟩ := Option.bind_eq_some_iff.mp hm
    refine ⟨maskE ki r, [], [], f1, r1, S1, he.mask hb, .nil, e1, ?_⟩
    have back : ∀ {H' : Hp} {mu' : List Addr}, Ext [] mu' H H' → Ext mu mu H H' := fun {H' mu'} x => ⟨List.prefix_rfl, fun a o e _ => x.old a o e (by simp), x.tup, x.frz, fun _ z => .inl z⟩
    have keep : ∀ {H' : Hp} {mu' : List Addr}, Ext [] mu' H H' → Sim K H' mu S := fun {H' mu'} x => ⟨hs.len, hs.nd, fun n o a h1 h2 => (hs.ob n o a h1 h2).keep (back x) fun o e => x.old a o e (by simp)⟩
    cases f1 with
    | rt d =>
      dsimp only at hm
      split at hm
      · rename_i hd
        cases hm
        exact fun v H' mu' x r s => hc v H' mu (back x) (r.cut (n := 0) (fun k hk => absurd hk (Nat.not_lt_zero _)) hd) (keep x)
      · cases hm
    | nx =>
      dsimp only at hm
      split at hm
      · rename_i hd
        cases hm
        exact fun σ' H' mu' x r s => hc σ' H' mu (back x) (r.mask hd) (keep x)
      · cases hm
    | bk =>
      dsimp only at hm
      split at hm
      · rename_i hd
        cases hm
        exact fun σ' H' mu' x r s => hc σ' H' mu (back x) (r.mask hd) (keep x)
      · cases hm
    | ct =>
      dsimp only at hm
      split at hm
      · rename_i hd
        cases hm
        exact fun σ' H' mu' x r s => hc σ' H' mu (back x) (r.mask hd) (keep x)
      · cases hm
  · cases hm
theorem mss_pure {X : Cx} {sts : List Stmt} {b : FS} (ki ko : List Bool) (h : MSs X sts b) : MSs X sts (mPure ki ko b) := pss_imp h fun _ _ _ => mPure_ok

/-! ### constants of the text -/
def CV (K : PySem.W.Frag) (d : D) (u : Value) : Prop := ∃ v : V, RelV v u ∧ ∀ H mu, Rep K H mu d v
def CVs (K : PySem.W.Frag) (ds : List D) (us : List Value) : Prop := ∃ vs : List V, Vals vs us ∧ ∀ H mu, Reps K H mu ds vs
section
variable {K : PySem.W.Frag}
theorem cv_int {i : Int} {t} : CV K (.int i) (.int i t) := ⟨.int i, ⟨t, rfl⟩, fun _ _ => .int i⟩
theorem cv_str {x : Str} {t} : CV K (.str x) (.str x t) := ⟨.str x, ⟨t, rfl⟩, fun _ _ => .str x⟩
theorem cv_non : CV K .non .none := ⟨.non, rfl, fun _ _ => .non⟩
theorem cv_bl {b : Bool} : CV K (.bl b) (.bool b) := ⟨.bl b, rfl, fun _ _ => .bl b⟩
theorem cvs_nil : CVs K [] [] := ⟨[], .nil, fun _ _ => .nil⟩
theorem cvs_cons {d : D} {u : Value} {ds : List D} {us : List Value} (h : CV K d u) (t : CVs K ds us) : CVs K (d :: ds) (u :: us) := by
  obtain ⟨v, r, q⟩ := h
  obtain ⟨vs, rs, qs⟩ := t
  exact ⟨v :: vs, .cons r rs, fun H mu => .cons (q H mu) (qs H mu)⟩
theorem cv_tup {a : Addr} {od : Option Addr} {us : List Value} {n : Nat} {sl : Array (Option Value)} {ds : List D} (h : K.lookup a = some ⟨.type "tuple", od, .seq us.toArray n, sl⟩) (hs : us.length ≤ sizeLine) (t : CVs K ds us) : CV K (.tup ds) (.ref a) := by
  obtain ⟨vs, rs, qs⟩ := t
  exact ⟨.ref a, rfl, fun H mu => .tup (.inr ⟨_, us.toArray, n, h, rfl, rfl, by simpa using hs, by simpa using rs⟩) (qs H mu)⟩
theorem cgl_mk {mg : Str → Option Value} {x : Str} {d : D} {u : Value} (hm : mg x = some u) (h : CV K d u) : CGl K mg x d := by
  obtain ⟨v, r, q⟩ := h
  exact ⟨v, u, hm, r, q⟩
end

/-! ### the law's promise -/
theorem reps_ints {K : PySem.W.Frag} {H : Hp} {mu : List Addr} : ∀ ns : List Int, Reps K H mu (ns.map D.int) (ns.map V.int)
  | [] => .nil
  | n :: ns => .cons (.int n) (reps_ints ns)
theorem law_sp {K : PySem.W.Frag} {m : FN} (hm : ∀ ns : List Int, ns.length ≤ 63 → ∃ S, m [.rol (ns.map D.int)] [] = some (.bl true, S)) (H : Hp) (a : Addr) (ns : List Int) (hl : ns.length ≤ 63) (hO : Only H) (hS : SqL K H a (ns.map V.int)) :
    spM K 1 m [.ref a] H (fun v _ => v = .bl true) fun _ _ _ => False := by
  refine ⟨rfl, ?_⟩
  obtain ⟨S, e⟩ := hm ns hl
  have hR : RoL K H a (ns.map V.int) := by
    rcases hS with h | h
    · rcases h with h | h
      · rcases hO a with z | ⟨o, xs, z⟩
        · rw [h] at z; cases z
        · rw [h] at z; cases z
      · exact .inl h
    · exact .inr h
  refine ⟨[], [], [.rol (ns.map D.int)], .bl true, S, .cons (.rol hR (reps_ints ns)) .nil, .nil, e, fun v H' mu' x r s => ?_⟩
  cases r
  rfl
theorem walk_m {l : PySem.W.OpenLaw} {q : Program} {loose : List Str} {XP : (Str → Option Value) → Heap → Prop} {YP : World → Heap → Prop} {d : DefRec} {K : Params → PySem.W.Frag} {m : FN} {k : Nat} {x : Str} (hn : l.most = some 63) (hdf : d.params.defaults = []) (hr : Room k callerA)
    (hY : ∀ (w : World) (h : Heap), YP w h → (K w.params).In h) (hm : ∀ ns : List Int, ns.length ≤ 63 → ∃ S, m [.rol (ns.map D.int)] [] = some (.bl true, S))
    (F : ∀ (w : World) (mg : Str → Option Value) (fa : Addr) (h : Heap), (K w.params).In h → h.Ns mainGlobals mg → mg d.name = some (.ref fa) →
      ∃ fd : FuncData, (∀ (s : Shared) (u : Value), BindsTo s fd ⟨[u], []⟩ [(x, u)]) ∧ ∀ base : Heap, (K w.params).In base → base.Ns mainGlobals mg → FnOk l.prog w (K w.params) mg base CX0 k fa fd [x] (spM (K w.params) 1 m)) :
    PySem.W.WalkO q loose XP YP l.row.toRowW d [] (fun f vs => PySem.call f vs) :=
  L2.walk_of (n := 63) (k := k) (x := x) (CX := fun _ => CX0) (sp := fun w => spM (K w.params) 1 m) hn (by decide) hdf hr hY F (fun _ H a ns hl hO hS => law_sp hm H a ns hl hO hS) fun _ _ _ _ _ z => z
end Mi

end
section
set_option Elab.async false
set_option linter.all false
set_option maxRecDepth 100000
/-! The same rules under names that the elaborator cannot look into (else it runs the model at each step). -/
namespace Mi
open PySem PySem.Spec PyProof.Rows L2
structure XE (X : Cx) (e : Expr) (m : FE) : Prop where
  h : ME X e m
structure XT (X : Cx) (e : Expr) (m : FT) : Prop where
  h : MT X e m
structure XW (X : Cx) (e : Expr) (m : FT) : Prop where
  h : MW X e m
structure XA (X : Cx) (e : List Expr) (m : FA) : Prop where
  h : MA X e m
structure XS (X : Cx) (e : Stmt) (m : FS) : Prop where
  h : MS X e m
structure XSs (X : Cx) (e : List Stmt) (m : FS) : Prop where
  h : MSs X e m
structure XI (X : Cx) (tg e : Expr) (m : FI) : Prop where
  h : MI X tg e m
structure XG (X : Cx) (e : Expr) (m : FG) : Prop where
  h : MG X e m
structure XGs (X : Cx) (e : List Expr) (m : FGs) : Prop where
  h : MGs X e m
structure XO (X : Cx) (e : Option Expr) (m : FO) : Prop where
  h : MO X e m
structure XF (X : Cx) (K : PySem.W.Frag) (ifs : List Expr) (t : FT) : Prop where
  h : PIfs X ifs (tMT K t)
theorem xmif_nil {X : Cx} : XF X X.K [] mTrue := ⟨mif_nil⟩
theorem xmif_one {X : Cx} {c : Expr} {t : FT} (h : XT X c t) : XF X X.K [c] t := ⟨mif_one h.h⟩
theorem xmss_pure {X : Cx} {sts : List Stmt} {b : FS} (ki ko : List Bool) (h : XSs X sts b) : XSs X sts (mPure ki ko b) := ⟨mss_pure ki ko h.h⟩
section
variable {X : Cx} {pos : Pos}
theorem xme_int {i : Int} {j} : XE X (.Constant (.int i) j pos) (mC (.int i)) := ⟨me_int ⟩
end
section
variable {X : Cx} {pos : Pos}
theorem xme_bl {b : Bool} {j} : XE X (.Constant (.bool b) j pos) (mC (.bl b)) := ⟨me_bl ⟩
end
section
variable {X : Cx} {pos : Pos}
theorem xme_non {j} : XE X (.Constant .none j pos) (mC .non) := ⟨me_non ⟩
end
section
variable {X : Cx} {pos : Pos}
theorem xme_str {x : Str} {j} : XE X (.Constant (.str x) j pos) (mC (.str x)) := ⟨me_str ⟩
end
section
variable {X : Cx} {pos : Pos} {e : Expr} {es : List Expr} {m : FE} {n : FA}
theorem xma_nil  : XA X [] mNil := ⟨ma_nil ⟩
end
section
variable {X : Cx} {pos : Pos} {e : Expr} {es : List Expr} {m : FE} {n : FA}
theorem xma_cons (h : XE X e m) (ht : XA X es n) (hs : starEach (e :: es) X.env = (false, eval e X.env) :: starEach es X.env := by rfl) : XA X (e :: es) (mCons m n) := ⟨ma_cons (h := h.h) (ht := ht.h) (hs := hs)⟩
end
section
variable {X : Cx} {K : PySem.W.Frag} {f : FN} {a b : FE} {σ : L2.St} {H : Hp} {Q : VK}
theorem xme_op {op : Operator} {x y : Expr} {pos : Pos} (ho : OpR X (binaryOp op) (r2 X.K f)) (hx : XE X x a) (hy : XE X y b) : XE X (.BinOp x op y pos) (m2 f a b) := ⟨me_op (ho := ho) (hx := hx.h) (hy := hy.h)⟩
end
section
variable {X : Cx} {K : PySem.W.Frag} {f : FN} {a b : FE} {σ : L2.St} {H : Hp} {Q : VK}
theorem xme_un {op : UnaryOp} {x : Expr} {pos : Pos} (ho : UnR X (unaryOp op) (fun x H Q => rN X.K f [x] H Q)) (hx : XE X x a) : XE X (.UnaryOp op x pos) (m1 f a) := ⟨me_un (ho := ho) (hx := hx.h)⟩
end
section
variable {X : Cx} {K : PySem.W.Frag} {f : FN} {a b : FE} {σ : L2.St} {H : Hp} {Q : VK}
theorem xme_cmp {op : CmpOp} {x y : Expr} {pos : Pos} (ho : OpR X (compareOp op) (r2 X.K f)) (hx : XE X x a) (hy : XE X y b) (hm : behindInMarks op y = false) : XE X (.Compare x [op] [y] pos) (m2 f a b) := ⟨me_cmp (ho := ho) (hx := hx.h) (hy := hy.h) (hm := hm)⟩
end
section
variable {X : Cx} {K : PySem.W.Frag} {f : FN} {a b : FE} {σ : L2.St} {H : Hp} {Q : VK}
theorem xme_ix {x y : Expr} {pos : Pos} (ho : IxR X (r2 X.K f)) (hx : XE X x a) (hy : XE X y b) (hs : PlainIx y) : XE X (.Subscript x y pos) (m2 f a b) := ⟨me_ix (ho := ho) (hx := hx.h) (hy := hy.h) (hs := hs)⟩
end
section
variable {X : Cx} {K : PySem.W.Frag} {f : FN} {a b : FE} {σ : L2.St} {H : Hp} {Q : VK}
theorem xme_callB {x : Str} {p pos : Pos} {e : Expr} {es : List Expr} {id : String} {a : FA} (hc : CallR X (.builtin id) (rN X.K f)) (hg : Gl X x) (hm : X.mg x = none) (hv : bootBuiltins x = some (.builtin id)) (ha : XA X (e :: es) a) (hn : x ≠ "__name__" := by decide) (hdb : (x == ("__debug__" : Str)) = false := by decide) (he : starEach (e :: es) X.env = (false, eval e X.env) :: starEach es X.env := by rfl) (hpl : (backTo pos (starEach es X.env)).any (·.1) = false := by rfl) : XE X (.Call (.Name x p) (e :: es) [] pos) (mN f a) := ⟨me_callB (hc := hc) (hg := hg) (hm := hm) (hv := hv) (ha := ha.h) (hn := hn) (hdb := hdb) (he := he) (hpl := hpl)⟩
end
section
variable {X : Cx} {K : PySem.W.Frag} {f : FN} {a b : FE} {σ : L2.St} {H : Hp} {Q : VK}
theorem xme_callTy {x : Str} {p pos : Pos} {e : Expr} {es : List Expr} {T : String} {a : FA} (hc : CallR X (.type T) (rN X.K f)) (hg : Gl X x) (hm : X.mg x = none) (hv : bootBuiltins x = some (.type T)) (ha : XA X (e :: es) a) (hn : x ≠ "__name__" := by decide) (hdb : (x == ("__debug__" : Str)) = false := by decide) (he : starEach (e :: es) X.env = (false, eval e X.env) :: starEach es X.env := by rfl) (hpl : (backTo pos (starEach es X.env)).any (·.1) = false := by rfl) : XE X (.Call (.Name x p) (e :: es) [] pos) (mN f a) := ⟨me_callTy (hc := hc) (hg := hg) (hm := hm) (hv := hv) (ha := ha.h) (hn := hn) (hdb := hdb) (he := he) (hpl := hpl)⟩
end
section
variable {X : Cx} {x y c : Expr} {rest : List Expr} {pos : Pos} {a b : FT} {f g : FE}
theorem xmt_cmp {op : CmpOp} {f : FN} {a b : FE} (ho : OpR X (compareOp op) (r2 X.K f)) (hx : XE X x a) (hy : XE X y b) (hm : behindInMarks op y = false) : XT X (.Compare x [op] [y] pos) (mB (m2 f a b)) := ⟨mt_cmp (ho := ho) (hx := hx.h) (hy := hy.h) (hm := hm)⟩
end
section
variable {X : Cx} {x y c : Expr} {rest : List Expr} {pos : Pos} {a b : FT} {f g : FE}
theorem xmt_val (h : XE X x f) (he : ∀ whole, isTrue x X.env whole = (do let v ← whole; standAt x.pos; holding [v] (truthy v)) := by intro _; rfl) : XT X x (mB f) := ⟨mt_val (h := h.h) (he := he)⟩
end
section
variable {X : Cx} {x y c : Expr} {rest : List Expr} {pos : Pos} {a b : FT} {f g : FE}
theorem xmw_and1 (ha : XT X x a) : XW X (.BoolOp .And [x] pos) a := ⟨mw_and1 (ha := ha.h)⟩
end
section
variable {X : Cx} {x y c : Expr} {rest : List Expr} {pos : Pos} {a b : FT} {f g : FE}
theorem xmw_or1 (ha : XT X x a) : XW X (.BoolOp .Or [x] pos) a := ⟨mw_or1 (ha := ha.h)⟩
end
section
variable {X : Cx} {x y c : Expr} {rest : List Expr} {pos : Pos} {a b : FT} {f g : FE}
theorem xmw_and (ha : XT X x a) (hb : XW X (.BoolOp .And (y :: rest) pos) b) : XW X (.BoolOp .And (x :: y :: rest) pos) (mAnd a b) := ⟨mw_and (ha := ha.h) (hb := hb.h)⟩
end
section
variable {X : Cx} {x y c : Expr} {rest : List Expr} {pos : Pos} {a b : FT} {f g : FE}
theorem xmw_or (ha : XT X x a) (hb : XW X (.BoolOp .Or (y :: rest) pos) b) : XW X (.BoolOp .Or (x :: y :: rest) pos) (mOr a b) := ⟨mw_or (ha := ha.h) (hb := hb.h)⟩
end
section
variable {X : Cx} {x y c : Expr} {rest : List Expr} {pos : Pos} {a b : FT} {f g : FE}
theorem xmt_w (h : XW X x a) : XT X x a := ⟨mt_w (h := h.h)⟩
end
section
variable {X : Cx} {x y c : Expr} {rest : List Expr} {pos : Pos} {a b : FT} {f g : FE}
theorem xmt_not (ha : XT X x a) : XT X (.UnaryOp .Not x pos) (mNot a) := ⟨mt_not (ha := ha.h)⟩
end
section
variable {X : Cx} {x y c : Expr} {rest : List Expr} {pos : Pos} {a b : FT} {f g : FE}
theorem xme_one {op} (h : XE X x f) : XE X (.BoolOp op [x] pos) f := ⟨me_one (h := h.h)⟩
end
section
variable {X : Cx} {x y c : Expr} {rest : List Expr} {pos : Pos} {a b : FT} {f g : FE}
theorem xme_and (ha : XE X x f) (hb : XE X (.BoolOp .And (y :: rest) pos) g) : XE X (.BoolOp .And (x :: y :: rest) pos) (mAndV f g) := ⟨me_and (ha := ha.h) (hb := hb.h)⟩
end
section
variable {X : Cx} {x y c : Expr} {rest : List Expr} {pos : Pos} {a b : FT} {f g : FE}
theorem xme_or (ha : XE X x f) (hb : XE X (.BoolOp .Or (y :: rest) pos) g) : XE X (.BoolOp .Or (x :: y :: rest) pos) (mOrV f g) := ⟨me_or (ha := ha.h) (hb := hb.h)⟩
end
section
variable {X : Cx} {x y c : Expr} {rest : List Expr} {pos : Pos} {a b : FT} {f g : FE}
theorem xme_not (ha : XE X x f) : XE X (.UnaryOp .Not x pos) (mNotV f) := ⟨me_not (ha := ha.h)⟩
end
section
variable {X : Cx} {x y c : Expr} {rest : List Expr} {pos : Pos} {a b : FT} {f g : FE}
theorem xme_if (hc : XT X c a) (hx : XE X x f) (hy : XE X y g) : XE X (.IfExp c x y pos) (mIf a f g) := ⟨me_if (hc := hc.h) (hx := hx.h) (hy := hy.h)⟩
end
section
variable {X : Cx} {x y z : Expr} {pos : Pos} {f g : FN} {a b c : FE} {op op' : CmpOp}
theorem xme_chain (ho : OpR X (compareOp op) (r2 X.K f)) (ho' : OpR X (compareOp op') (r2 X.K g)) (hx : XE X x a) (hy : XE X y b) (hz : XE X z c) (hm : lastMarks [op, op'] [y, z] = false := by with_unfolding_all rfl) : XE X (.Compare x [op, op'] [y, z] pos) (mCh f g a b c) := ⟨me_chain (ho := ho) (ho' := ho') (hx := hx.h) (hy := hy.h) (hz := hz.h) (hm := hm)⟩
end
section
variable {X : Cx} {x y z : Expr} {pos : Pos} {f g : FN} {a b c : FE} {op op' : CmpOp}
theorem xmt_chain (ho : OpR X (compareOp op) (r2 X.K f)) (ho' : OpR X (compareOp op') (r2 X.K g)) (hx : XE X x a) (hy : XE X y b) (hz : XE X z c) (hm : lastMarks [op, op'] [y, z] = false := by with_unfolding_all rfl) : XT X (.Compare x [op, op'] [y, z] pos) (mB (mCh f g a b c)) := ⟨mt_chain (ho := ho) (ho' := ho') (hx := hx.h) (hy := hy.h) (hz := hz.h) (hm := hm)⟩
end
section
variable {X : Cx} {pos : Pos} {e c : Expr} {st : Stmt} {rest as bs : List Stmt} {a b : FS} {m : FE} {t : FT}
theorem xmss_nil  : XSs X [] mNx := ⟨mss_nil ⟩
end
section
variable {X : Cx} {pos : Pos} {e c : Expr} {st : Stmt} {rest as bs : List Stmt} {a b : FS} {m : FE} {t : FT}
theorem xmss_cons (h1 : XS X st a) (h2 : XSs X rest b) : XSs X (st :: rest) (mSeq a b) := ⟨mss_cons (h1 := h1.h) (h2 := h2.h)⟩
end
section
variable {X : Cx} {pos : Pos} {e c : Expr} {st : Stmt} {rest as bs : List Stmt} {a b : FS} {m : FE} {t : FT}
theorem xmss_one (h1 : XS X st a) : XSs X [st] a := ⟨mss_one (h1 := h1.h)⟩
end
section
variable {X : Cx} {pos : Pos} {e c : Expr} {st : Stmt} {rest as bs : List Stmt} {a b : FS} {m : FE} {t : FT}
theorem xms_pass  : XS X (.Pass pos) mNx := ⟨ms_pass ⟩
end
section
variable {X : Cx} {pos : Pos} {e c : Expr} {st : Stmt} {rest as bs : List Stmt} {a b : FS} {m : FE} {t : FT}
theorem xms_break  : XS X (.Break pos) mBk := ⟨ms_break ⟩
end
section
variable {X : Cx} {pos : Pos} {e c : Expr} {st : Stmt} {rest as bs : List Stmt} {a b : FS} {m : FE} {t : FT}
theorem xms_continue  : XS X (.Continue pos) mCt := ⟨ms_continue ⟩
end
section
variable {X : Cx} {pos : Pos} {e c : Expr} {st : Stmt} {rest as bs : List Stmt} {a b : FS} {m : FE} {t : FT}
theorem xms_expr (h : XE X e m) (hs : swapsWith e none pos.line X.env = pure false := by rfl) : XS X (.Expr e pos) (mDrop m) := ⟨ms_expr (h := h.h) (hs := hs)⟩
end
section
variable {X : Cx} {pos : Pos} {e c : Expr} {st : Stmt} {rest as bs : List Stmt} {a b : FS} {m : FE} {t : FT}
theorem xms_ret (h : XE X e m) : XS X (.Return (some e) pos) (mRet m) := ⟨ms_ret (h := h.h)⟩
end
section
variable {X : Cx} {pos : Pos} {e c : Expr} {st : Stmt} {rest as bs : List Stmt} {a b : FS} {m : FE} {t : FT}
theorem xms_retN  : XS X (.Return none pos) mRetN := ⟨ms_retN ⟩
end
section
variable {X : Cx} {pos : Pos} {e c : Expr} {st : Stmt} {rest as bs : List Stmt} {a b : FS} {m : FE} {t : FT}
theorem xms_if (hc : XT X c t) (ha : XSs X as a) (hb : XSs X bs b) : XS X (.If c as bs pos) (mIfS t a b) := ⟨ms_if (hc := hc.h) (ha := ha.h) (hb := hb.h)⟩
end
section
variable {X : Cx} {pos : Pos}
theorem xmg_name (i : Nat) {x : Str} (hN : X.N.Nodup) (hi : X.N[i]? = some x) (hx : Loc X.env.scope x) (hf : X.fn x = true ∨ X.env.scope.names.lookup x = some .local := by first | exact .inl rfl | exact .inr rfl | assumption) : XG X (.Name x pos) (gN i) := ⟨mg_name (i := i) (hN := hN) (hi := hi) (hx := hx) (hf := hf)⟩
end
section
variable {X : Cx} {pos : Pos}
theorem xmgs_nil  : XGs X [] gNl := ⟨mgs_nil ⟩
end
section
variable {X : Cx} {pos : Pos}
theorem xmgs_cons {e : Expr} {es : List Expr} {g : FG} {gs : FGs} (h1 : XG X e g) (h2 : XGs X es gs) (hs : (assignEach (e :: es) X.env).map (·.2) = assign e X.env :: (assignEach es X.env).map (·.2) := by rfl) : XGs X (e :: es) (gCs g gs) := ⟨mgs_cons (h1 := h1.h) (h2 := h2.h) (hs := hs)⟩
end
section
variable {X : Cx} {pos : Pos}
theorem xmg_tup {es : List Expr} {k : Nat} {gs : FGs} {n : Nat} (hc : X.calm = true) (h : XGs X es gs) (hn : (assignEach es X.env).length = n := by rfl) (hst : (assignEach es X.env).findIdx? (·.1) = none := by rfl) : XG X (.Tuple es k pos) (gT n gs) := ⟨mg_tup (hc := hc) (h := h.h) (hn := hn) (hst := hst)⟩
end
section
variable {X : Cx} {pos : Pos}
theorem xmg_sub {o i : Expr} {a b : FE} {f : FN} (ho : XE X o a) (hi : XE X i b) (hs : PSet X (rU X.K f)) (ha : ∀ v, assign (.Subscript o i pos) X.env v = (do
      let ov ← holding [v] (eval o X.env)
      let iv ← holding [v, ov] (eval i X.env)
      standAt pos
      holding [v, ov, iv] (setItem ov iv v)
      release [v, ov, iv] []) := by intro _; rfl) : XG X (.Subscript o i pos) (gS f a b) := ⟨mg_sub (ho := ho.h) (hi := hi.h) (hs := hs) (ha := ha)⟩
end
section
variable {X : Cx} {pos : Pos}
theorem xms_asg {tg e : Expr} {m : FE} {g : FG} (he : XE X e m) (hg : XG X tg g) (hs : swapsWithSole [tg] e pos.line X.env = pure false := by rfl) (hw : swappedStores [tg] e X.env = pure none := by rfl) (h1 : (assignEach [tg] X.env).map (·.2) = [assign tg X.env] := by rfl) : XS X (.Assign [tg] e pos) (mAsg m g) := ⟨ms_asg (he := he.h) (hg := hg.h) (hs := hs) (hw := hw) (h1 := h1)⟩
end
section
variable {X : Cx} {pos : Pos}
theorem xms_set (i : Nat) {x : Str} {e : Expr} {m : FE} {pos' : Pos} (hN : X.N.Nodup) (hi : X.N[i]? = some x) (hx : Loc X.env.scope x) (he : XE X e m) (hs : swapsWith e (some (.Name x pos')) pos.line X.env = pure false := by rfl) (hf : X.fn x = true ∨ X.env.scope.names.lookup x = some .local := by first | exact .inl rfl | exact .inr rfl | assumption) : XS X (.Assign [.Name x pos'] e pos) (mAsg m (gN i)) := ⟨ms_set (i := i) (hN := hN) (hi := hi) (hx := hx) (he := he.h) (hs := hs) (hf := hf)⟩
end
section
variable {X : Cx} {pos : Pos}
theorem xms_aug (i : Nat) {x : Str} {e : Expr} {m : FE} {op : Operator} {f : FN} {pos' : Pos} (hN : X.N.Nodup) (hi : X.N[i]? = some x) (hx : Loc X.env.scope x) (he : XE X e m) (ho : PIp X op (r2 X.K f)) (hf : X.fn x = true ∨ X.env.scope.names.lookup x = some .local := by first | exact .inl rfl | exact .inr rfl | assumption) : XS X (.AugAssign (.Name x pos') op e pos) (mAug i f m) := ⟨ms_aug (i := i) (hN := hN) (hi := hi) (hx := hx) (he := he.h) (ho := ho) (hf := hf)⟩
end
section

theorem xms_while {X : Cx} {pos : Pos} (n : Nat) {c : Expr} {body : List Stmt} {t : FT} {b : FS} (hp : PassesOwn (model X.prog X.w) X.A X.env X.xe) (hc : XT X c t) (hb : XSs X body b) : XS X (.While c body [] pos) (whl t b n) := ⟨ms_while (n := n) (hp := hp) (hc := hc.h) (hb := hb.h)⟩
end
section

theorem xms_for {X : Cx} {pos : Pos} {tg iter : Expr} {body : List Stmt} {m : FI} {g : FG} {b : FS} (hp : PassesOwn (model X.prog X.w) X.A X.env X.xe) (hc : X.calm = true) (hi : XI X tg iter m) (hg : XG X tg g) (hb : XSs X body b) (hs : ∀ x, foldedSetIterable iter X.env x = pure x := by intro _; rfl) : XS X (.For tg iter body [] pos) (mFor m g b) := ⟨ms_for (hp := hp) (hc := hc) (hi := hi.h) (hg := hg.h) (hb := hb.h) (hs := hs)⟩
end
section
variable {X : Cx} {es : List Expr} {pos : Pos} {a : FA}
theorem xme_tup {x1} (h : XA X es a) : XE X (.Tuple es x1 pos) (mTup a) := ⟨me_tup (h := h.h)⟩
end
section
variable {X : Cx} {es : List Expr} {pos : Pos} {a : FA}
theorem xme_lst (h : XA X es a) : XE X (.List es pos) (mLst a) := ⟨me_lst (h := h.h)⟩
end
section
variable {X : Cx} {tg : Expr}
theorem xmi_seq {e : Expr} {m : FE} (h : XE X e m) : XI X tg e (iSeq m) := ⟨mi_seq (h := h.h)⟩
end
section
variable {X : Cx} {tg : Expr}
theorem xmi_range1 {a : Expr} {m : FA} {p pos : Pos} (hg : Gl X "range") (hm : X.mg "range" = none) (ha : XA X [a] m) (hs : starEach [a] X.env = [(false, eval a X.env)] := by rfl) : XI X tg (.Call (.Name "range" p) [a] [] pos) (iR1 m) := ⟨mi_range1 (hg := hg) (hm := hm) (ha := ha.h) (hs := hs)⟩
end
section
variable {X : Cx} {tg : Expr}
theorem xmi_range2 {a b : Expr} {m : FA} {p pos : Pos} (hg : Gl X "range") (hm : X.mg "range" = none) (ha : XA X [a, b] m) (hs : starEach [a, b] X.env = [(false, eval a X.env), (false, eval b X.env)] := by rfl) (hs2 : starEach [b] X.env = [(false, eval b X.env)] := by rfl) : XI X tg (.Call (.Name "range" p) [a, b] [] pos) (iR2 m) := ⟨mi_range2 (hg := hg) (hm := hm) (ha := ha.h) (hs := hs) (hs2 := hs2)⟩
end
section
variable {X : Cx} {tg : Expr}
variable {elts : List Expr} {k : Nat} {tpos : Pos}
theorem xmi_enum {a : Expr} {m : FA} {p pos : Pos} (hg : Gl X "enumerate") (hm : X.mg "enumerate" = none) (ha : XA X [a] m) (hs : starEach [a] X.env = [(false, eval a X.env)] := by rfl) : XI X (.Tuple elts k tpos) (.Call (.Name "enumerate" p) [a] [] pos) (iEn m) := ⟨mi_enum (hg := hg) (hm := hm) (ha := ha.h) (hs := hs)⟩
end
section
variable {X : Cx} {tg : Expr}
variable {elts : List Expr} {k : Nat} {tpos : Pos}
theorem xmi_zip {a b : Expr} {m : FA} {p pos : Pos} (hg : Gl X "zip") (hm : X.mg "zip" = none) (ha : XA X [a, b] m) (hs : starEach [a, b] X.env = [(false, eval a X.env), (false, eval b X.env)] := by rfl) (hs2 : starEach [b] X.env = [(false, eval b X.env)] := by rfl) : XI X (.Tuple elts k tpos) (.Call (.Name "zip" p) [a, b] [] pos) (iZp m) := ⟨mi_zip (hg := hg) (hm := hm) (ha := ha.h) (hs := hs) (hs2 := hs2)⟩
end
section
variable {X : Cx} {pins : List (Addr × Obj)} {σ : L2.St} {H : Hp} {s : Shared} {mu : List Addr} {S : Sto} {K : PySem.W.Frag}
theorem xme_isinst (T : Ty) {e : Expr} {m : FE} {nm : Str} {p p2 pos : Pos} (hg : Gl X "isinstance") (hm : X.mg "isinstance" = none) (hg2 : Gl X nm) (hm2 : X.mg nm = none) (hv2 : bootBuiltins nm = some (.type T.nm)) (h : XE X e m) (hn : nm ≠ "__name__" := by decide) (hd : (nm == ("__debug__" : Str)) = false := by decide) (hs1 : starEach [e, .Name nm p2] X.env = (false, eval e X.env) :: starEach [.Name nm p2] X.env := by rfl) (hs2 : starEach [.Name nm p2] X.env = (false, eval (.Name nm p2) X.env) :: starEach [] X.env := by rfl) (hpl : (backTo pos (starEach [.Name nm p2] X.env)).any (·.1) = false := by rfl) : XE X (.Call (.Name "isinstance" p) [e, .Name nm p2] [] pos) (mIsT T m) := ⟨me_isinst (T := T) (hg := hg) (hm := hm) (hg2 := hg2) (hm2 := hm2) (hv2 := hv2) (h := h.h) (hn := hn) (hd := hd) (hs1 := hs1) (hs2 := hs2) (hpl := hpl)⟩
end
section
variable {X : Cx}
theorem xmo_none  : XO X none oNone := ⟨mo_none ⟩
end
section
variable {X : Cx}
theorem xmo_some {e : Expr} {m : FE} (h : XE X e m) : XO X (some e) (oSome m) := ⟨mo_some (h := h.h)⟩
end
section
variable {X : Cx}
theorem xme_slice {e : Expr} {lo hi : Option Expr} {m : FE} {a b : FO} {pos p2 : Pos} (h : XE X e m) (hl : XO X lo a) (hh : XO X hi b) : XE X (.Subscript e (.Slice lo hi none p2) pos) (mSl m a b) := ⟨me_slice (h := h.h) (hl := hl.h) (hh := hh.h)⟩
end
section
variable {X : Cx}
theorem xme_listR1 {a : Expr} {m : FA} {p1 p2 pos1 pos2 : Pos} (hc : X.calm = true) (hg : Gl X "range") (hm : X.mg "range" = none) (hg2 : Gl X "list") (hm2 : X.mg "list" = none) (ha : XA X [a] m) (hs : starEach [a] X.env = [(false, eval a X.env)] := by rfl) (hs2 : starEach [.Call (.Name "range" p1) [a] [] pos1] X.env = [(false, eval (.Call (.Name "range" p1) [a] [] pos1) X.env)] := by rfl) : XE X (.Call (.Name "list" p2) [.Call (.Name "range" p1) [a] [] pos1] [] pos2) (mLR1 m) := ⟨me_listR1 (hc := hc) (hg := hg) (hm := hm) (hg2 := hg2) (hm2 := hm2) (ha := ha.h) (hs := hs) (hs2 := hs2)⟩
end
section
variable {X : Cx}
theorem xme_listR2 {a b : Expr} {m : FA} {p1 p2 pos1 pos2 : Pos} (hc : X.calm = true) (hg : Gl X "range") (hm : X.mg "range" = none) (hg2 : Gl X "list") (hm2 : X.mg "list" = none) (ha : XA X [a, b] m) (hs : starEach [a, b] X.env = [(false, eval a X.env), (false, eval b X.env)] := by rfl) (hs3 : starEach [b] X.env = [(false, eval b X.env)] := by rfl) (hs2 : starEach [.Call (.Name "range" p1) [a, b] [] pos1] X.env = [(false, eval (.Call (.Name "range" p1) [a, b] [] pos1) X.env)] := by rfl) : XE X (.Call (.Name "list" p2) [.Call (.Name "range" p1) [a, b] [] pos1] [] pos2) (mLR2 m) := ⟨me_listR2 (hc := hc) (hg := hg) (hm := hm) (hg2 := hg2) (hm2 := hm2) (ha := ha.h) (hs := hs) (hs3 := hs3) (hs2 := hs2)⟩
end
section
variable {X : Cx}
theorem xme_lmeth {o e : Expr} {es : List Expr} {m : FE} {a : FA} {f : FN} {name : Str} {apos cpos : Pos} {id : String} (slot : Slot "list" name id) (hty : typeOf (.builtin id) = pure (.type "method_descriptor")) (hm : MtR X id (fun x xs H Q => rN X.K f (x :: xs) H Q)) (ho : XE X o m) (ha : XA X (e :: es) a) (hbase : attributeBase o name X.env (eval o X.env) = eval o X.env := by rfl) (hfew : ((backTo cpos (starEach (e :: es) X.env)).all (fun x => !x.1) && (backToKw cpos (keywordEach [] X.env)).all (fun x => x.1.isSome) && decide ((e :: es).length + ([] : List Keyword).length + (if ([] : List Keyword).isEmpty then 0 else 1) < 30)) = true := by rfl) (hline : (apos.endLine == cpos.line) = true := by rfl) (hs : starEach (e :: es) X.env = (false, eval e X.env) :: starEach es X.env := by rfl) (hplain : (backTo cpos (starEach es X.env)).any (·.1) = false := by rfl) : XE X (.Call (.Attribute o name apos) (e :: es) [] cpos) (mMt f m a) := ⟨me_lmeth (slot := slot) (hty := hty) (hm := hm) (ho := ho.h) (ha := ha.h) (hbase := hbase) (hfew := hfew) (hline := hline) (hs := hs) (hplain := hplain)⟩
end
section
variable {X : Cx}
theorem xmv (i : Nat) {x : Str} {pos : Pos} (hN : X.N[i]? = some x := by rfl) (hv : Vis X.env.scope x := by first | exact Or.inl rfl | exact Or.inr (Or.inl rfl) | exact Or.inr (Or.inr rfl)) (hd : (x == ("__debug__" : Str)) = false := by decide) (hcd : (x == ("__classdict__" : Str)) = false := by decide) : XE X (.Name x pos) (mV i) := ⟨mv (i := i) (hN := hN) (hv := hv) (hd := hd) (hcd := hcd)⟩
end
section

theorem xme_own {X : Cx} {k k' n : Nat} {x : Str} {m : FN} {p pos : Pos} {e : Expr} {es : List Expr} {a : FA} (h : Own X.prog X.w X.K X.mg X.base k x n m) (hr : Room k' X.A) (hk : k ≤ k') (hg : Gl X x) (ha : XA X (e :: es) a) (hdb : (x == ("__debug__" : Str)) = false := by decide) (he : starEach (e :: es) X.env = (false, eval e X.env) :: starEach es X.env := by rfl) (hpl : (backTo pos (starEach es X.env)).any (·.1) = false := by rfl) : XE X (.Call (.Name x p) (e :: es) [] pos) (mN (mCall n m) a) := ⟨me_own (h := h) (hr := hr) (hk := hk) (hg := hg) (ha := ha.h) (hdb := hdb) (he := he) (hpl := hpl)⟩
end
section

theorem xme_glob {X : Cx} {x : Str} {d : D} {pos : Pos} (h : CGl X.K X.mg x d) (hg : Gl X x) (hd : (x == ("__debug__" : Str)) = false := by decide) : XE X (.Name x pos) (mC d) := ⟨me_glob (h := h) (hg := hg) (hd := hd)⟩
end
section
variable {X : Cx}
structure XB1 (X : Cx) (K : PySem.W.Frag) (tg : Expr) (ifs : List Expr) (elt : Expr) (g : FG) (t : FT) (e : FE) : Prop where
  g : XG X tg g
  t : XF X K ifs t
  e : XE X elt e
structure XB2 (X : Cx) (K : PySem.W.Frag) (tg : Expr) (ifs : List Expr) (tg2 iter2 : Expr) (ifs2 : List Expr) (elt : Expr) (g : FG) (t : FT) (m2 : FI) (g2 : FG) (t2 : FT) (e : FE) : Prop where
  g : XG X tg g
  t : XF X K ifs t
  i2 : XI X tg2 iter2 m2
  g2 : XG X tg2 g2
  t2 : XF X K ifs2 t2
  e : XE X elt e
theorem xme_comp1 {elt tg iter : Expr} {ifs : List Expr} {scope : Scope} {pos : Pos} {T : List Str} {keep : List Nat} {cl : List (Str × Addr)} {m : FI} {g : FG} {t : FT} {e : FE} (hc : X.calm = true)
    (C : CSc X scope T keep) (hcl : cloF X.env.cells scope.names [] = some cl) (hi : XI X tg iter m) (hb : ∀ s H fp, XB1 (cxC X scope cl T keep s H fp) X.K tg ifs elt g t e)
    (hs : ∀ x, foldedSetIterable iter X.env x = pure x := by intro _; rfl) : XE X (.ListComp elt [⟨tg, iter, ifs, 0⟩] scope pos) (mComp T.length keep m g t fun n => mEmit n e) :=
  ⟨me_comp1 hc C hcl hi.h (fun s H fp => ⟨(hb s H fp).g.h, (hb s H fp).t.h, (hb s H fp).e.h⟩) hs⟩
theorem xme_comp2 {elt tg iter tg2 iter2 : Expr} {ifs ifs2 : List Expr} {scope : Scope} {pos : Pos} {T : List Str} {keep : List Nat} {cl : List (Str × Addr)} {m m2 : FI} {g g2 : FG} {t t2 : FT} {e : FE} (hc : X.calm = true)
    (C : CSc X scope T keep) (hcl : cloF X.env.cells scope.names [] = some cl) (hi : XI X tg iter m) (hb : ∀ s H fp, XB2 (cxC X scope cl T keep s H fp) X.K tg ifs tg2 iter2 ifs2 elt g t m2 g2 t2 e)
    (hs : ∀ x, foldedSetIterable iter X.env x = pure x := by intro _; rfl) (hs2 : ∀ env x, foldedSetIterable iter2 env x = pure x := by intro _ _; rfl) :
    XE X (.ListComp elt [⟨tg, iter, ifs, 0⟩, ⟨tg2, iter2, ifs2, 0⟩] scope pos) (mComp T.length keep m g t fun n => mNest m2 g2 t2 (mEmit n e)) :=
  ⟨me_comp2 hc C hcl hi.h (fun s H fp => ⟨(hb s H fp).g.h, (hb s H fp).t.h, (hb s H fp).i2.h, (hb s H fp).g2.h, (hb s H fp).t2.h, (hb s H fp).e.h⟩) hs hs2⟩
theorem xms_comp1 {elt tg iter : Expr} {ifs : List Expr} {scope : Scope} {pos spos py : Pos} {y : Str} (i : Nat) {T : List Str} {keep : List Nat} {cl : List (Str × Addr)} {m : FI} {g : FG} {t : FT} {e : FE} (hc : X.calm = true)
    (C : CSc X scope T keep) (hcl : cloF X.env.cells scope.names [] = some cl) (hi : XI X tg iter m) (hb : ∀ s H fp, XB1 (cxC X scope cl T keep s H fp) X.K tg ifs elt g t e)
    (hN : X.N.Nodup) (hy : X.N[i]? = some y) (hx : Loc X.env.scope y) (hsw : swapsWith (.ListComp elt [⟨tg, iter, ifs, 0⟩] scope pos) (some (.Name y py)) spos.line X.env = pure true := by rfl)
    (hf : X.fn y = true ∨ X.env.scope.names.lookup y = some .local := by first | exact .inl rfl | exact .inr rfl | assumption)
    (hs : ∀ x, foldedSetIterable iter X.env x = pure x := by intro _; rfl) : XS X (.Assign [.Name y py] (.ListComp elt [⟨tg, iter, ifs, 0⟩] scope pos) spos) (mAsg (mComp T.length keep m g t fun n => mEmit n e) (gN i)) :=
  ⟨ms_comp1 i hc C hcl hi.h (fun s H fp => ⟨(hb s H fp).g.h, (hb s H fp).t.h, (hb s H fp).e.h⟩) hN hy hx hsw hf hs⟩
theorem xms_comp2 {elt tg iter tg2 iter2 : Expr} {ifs ifs2 : List Expr} {scope : Scope} {pos spos py : Pos} {y : Str} (i : Nat) {T : List Str} {keep : List Nat} {cl : List (Str × Addr)} {m m2 : FI} {g g2 : FG} {t t2 : FT} {e : FE} (hc : X.calm = true)
    (C : CSc X scope T keep) (hcl : cloF X.env.cells scope.names [] = some cl) (hi : XI X tg iter m) (hb : ∀ s H fp, XB2 (cxC X scope cl T keep s H fp) X.K tg ifs tg2 iter2 ifs2 elt g t m2 g2 t2 e)
    (hN : X.N.Nodup) (hy : X.N[i]? = some y) (hx : Loc X.env.scope y) (hsw : swapsWith (.ListComp elt [⟨tg, iter, ifs, 0⟩, ⟨tg2, iter2, ifs2, 0⟩] scope pos) (some (.Name y py)) spos.line X.env = pure true := by rfl)
    (hf : X.fn y = true ∨ X.env.scope.names.lookup y = some .local := by first | exact .inl rfl | exact .inr rfl | assumption)
    (hs : ∀ x, foldedSetIterable iter X.env x = pure x := by intro _; rfl) (hs2 : ∀ env x, foldedSetIterable iter2 env x = pure x := by intro _ _; rfl) :
    XS X (.Assign [.Name y py] (.ListComp elt [⟨tg, iter, ifs, 0⟩, ⟨tg2, iter2, ifs2, 0⟩] scope pos) spos) (mAsg (mComp T.length keep m g t fun n => mNest m2 g2 t2 (mEmit n e)) (gN i)) :=
  ⟨ms_comp2 i hc C hcl hi.h (fun s H fp => ⟨(hb s H fp).g.h, (hb s H fp).t.h, (hb s H fp).i2.h, (hb s H fp).g2.h, (hb s H fp).t2.h, (hb s H fp).e.h⟩) hN hy hx hsw hf hs hs2⟩
end
theorem xown_mk {P : Program} {w : World} {K : PySem.W.Frag} {mg : Str → Option Value} {base : Heap} {x qual : Str} {st : Stmt} {f : Addr} {fd : FuncData} {N ps : List Str} {k n : Nat} {b : FS} (F : Fun K x qual st f fd) (hb : Binds K fd ps []) (hm : mg x = some (.ref f)) (S : FnScope N ps (defScope st)) (hn : ps.length = n)
    (hbody : ∀ (cdv : Value) (A : Around) (outer : List Env) (s : Shared) (H : Hp) (E : XK), Room k (A.deeper (envOfC qual (defScope st) s.heap.objs.size f cdv)) →
      XSs (cxOf CX0 P w K mg base N qual (defScope st) f cdv A outer s H E).nox (defBody st) b) : Own P w K mg base (k + 1) x n (fnB N.length b) :=
  own_mk F hb hm S hn fun cdv A outer s H E hr => (hbody cdv A outer s H E hr).h
theorem xfn_mk {P : Program} {w : World} {K : PySem.W.Frag} {mg : Str → Option Value} {base : Heap} {x qual : Str} {st : Stmt} {f : Addr} {fd : FuncData} {N ps : List Str} {k n : Nat} {b : FS} (F : Fun K x qual st f fd) (S : FnScope N ps (defScope st)) (hn : ps.length = n)
    (hbody : ∀ (cdv : Value) (A : Around) (outer : List Env) (s : Shared) (H : Hp) (E : XK), Room k (A.deeper (envOfC qual (defScope st) s.heap.objs.size f cdv)) →
      XSs (cxOf CX0 P w K mg base N qual (defScope st) f cdv A outer s H E).nox (defBody st) b) : FnOk P w K mg base CX0 (k + 1) f fd ps (spM K n (fnB N.length b)) := by
  subst hn
  exact fn_m F S fun cdv A outer s H E hr => (hbody cdv A outer s H E hr).h
end Mi

end
section
set_option Elab.async false
set_option linter.all false
set_option maxRecDepth 100000
/-! Comprehensions as plain maps: what they emit is handed back, the list stands in the store behind all that was made meanwhile. -/
namespace Mi
open PySem PySem.Spec PyProof.Rows L2

abbrev FV := Ev → Sto → Option (List D × Ev × Sto)
def loopF (c : List (Nat × List D)) (g : FG) (t : FT) (b : FV) : List D → FV
  | [] => fun r S => if okC S c = true then some ([], r, S) else none
  | d :: ds => fun r S => if okC S c = true then (g d r S).bind fun p => (t p.1 p.2).bind fun k => if k.1 = true then (b p.1 k.2).bind fun q => (loopF c g t b ds q.2.1 q.2.2).map fun z => (q.1 ++ z.1, z.2) else loopF c g t b ds p.1 k.2 else none
def fEmit (m : FE) : FV := fun r S => (m r S).map fun q => ([q.1], r, q.2)
def fNest (m : FI) (g : FG) (t : FT) (b : FV) : FV := fun r S => (m r S).bind fun p => loopF p.1.chk g t b p.1.items r p.2
def fComp (k : Nat) (keep : List Nat) (m : FI) (g : FG) (t : FT) (b : FV) : FE := fun r S => (m r S).bind fun p =>
  (loopF p.1.chk g t b p.1.items (inEv k keep r) p.2).bind fun q => if q.1.length ≤ sizeLine then some (.ref q.2.2.length, q.2.2 ++ [.lst q.1]) else none

section
variable {K : PySem.W.Frag} {H H' H1 : Hp} {mu mu' mu1 : List Addr} {S : Sto} {a : Addr}
theorem Ext.aside (x : Ext mu mu' H H') : Ext (a :: mu) (a :: mu') H H' where
  pre := List.cons_prefix_cons.mpr ⟨rfl, x.pre⟩
  old := fun b o h n => x.old b o h fun z => n (List.mem_cons_of_mem _ z)
  tup := x.tup
  frz := x.frz
  new := fun b h => by
    rcases List.mem_cons.mp h with h | h
    · exact .inl (by rw [h]; exact List.mem_cons_self)
    · rcases x.new b h with q | q
      · exact .inl (List.mem_cons_of_mem _ q)
      · exact .inr q
theorem Ext.inner (x : Ext (a :: mu) (a :: mu') H H') : Exw mu mu' H H' := ⟨(List.cons_prefix_cons.mp x.pre).2, x.tup, x.frz⟩
theorem Ext.held {o : HO} (x : Ext mu mu' H H') (ha : H a = some o) (hn : a ∉ mu) : H' a = some o ∧ a ∉ mu' := by
  refine ⟨x.old a o ha hn, fun z => ?_⟩
  rcases x.new a z with q | q
  · exact hn q
  · rw [ha] at q; cases q
theorem EnvR.exw {r : Ev} {σ : L2.St} (e : Exw mu mu' H H') (h : EnvR K H mu r σ) : EnvR K H' mu' r σ := ⟨h.len, fun i d q => by
  obtain ⟨v, e1, r1⟩ := h.val i d q
  exact ⟨v, e1, r1.exw e⟩⟩
theorem ObR.exw {b : Addr} (e : Exw mu mu' H H') (h : ∀ o, H b = some o → H' b = some o) : ∀ {o : Ob}, ObR K H mu b o → ObR K H' mu' b o
  | .lst _, ⟨vs, q, r⟩ => ⟨vs, h _ q, r.exw e⟩
  | .dct _, ⟨ws, q, r⟩ => ⟨ws, h _ q, Paired.mapP r fun _ _ z => ⟨z.1, z.2.exw e⟩⟩
theorem Sim.aside {u : HO} (s : Sim K H mu S) (e : Exw mu mu H (upd H a u)) (hn : a ∉ mu) : Sim K (upd H a u) mu S :=
  ⟨s.len, s.nd, fun k o b h1 h2 => (s.ob k o b h1 h2).exw e fun o' q => by rw [upd_ne (fun z => hn (by rw [← z]; exact List.mem_of_getElem? h2))]; exact q⟩
end
def tMV (K : PySem.W.Frag) (a : Addr) (m : FV) : TS := fun E σ H => ∃ r mu S acc vs xs r' S', H a = some (.lst vs) ∧ a ∉ mu ∧ Reps K H mu acc vs ∧ EnvR K H mu r σ ∧ Sim K H mu S ∧ m r S = some (xs, r', S') ∧ vs.length + xs.length ≤ sizeLine ∧
  ∀ σ' H' mu' vs', Ext (a :: mu) (a :: mu') H H' → H' a = some (.lst vs') → a ∉ mu' → Reps K H' mu' (acc ++ xs) vs' → EnvR K H' mu' r' σ' → Sim K H' mu' S' → E.nx σ' H'
theorem emitF_ok {K : PySem.W.Frag} {a : Addr} {m : FE} {E : Ends} {σ : L2.St} {H : Hp} (h : tMV K a (fEmit m) E σ H) : tEmit a (tM K m) E σ H := by
  obtain ⟨r, mu, S, acc, vs, xs, r', S', ha, hna, hr, he, hs, hm, hl, hc⟩ := h
  obtain ⟨⟨d, S1⟩, e1, hm⟩ := Option.map_eq_some_iff.mp hm
  cases hm
  refine ⟨r, mu, S, d, S1, he, hs, e1, fun v H1 mu1 x1 r1 s1 => ?_⟩
  obtain ⟨ha1, hn1⟩ := x1.held ha hna
  have put : Ext (a :: mu1) (a :: mu1) H1 (upd H1 a (.lst (vs ++ [v]))) := Ext.put ha1 trivial List.mem_cons_self
  refine ⟨vs, ha1, hl, ?_⟩
  exact hc σ _ mu1 (vs ++ [v]) (x1.aside.trans put) upd_same hn1 (((hr.ext x1).append (.cons r1 .nil)).exw put.inner) ((he.ext x1).exw put.inner) (s1.aside put.inner hn1)
theorem loopF_ok {K : PySem.W.Frag} {a : Addr} {j : It} {J : Itm} {g : FG} {t : FT} {b : FV} {tb : TS} {D : Ends} (hb : ∀ E σ H, tMV K a b E σ H → tb E σ H)
    {mu1 mu2 : List Addr} {H1 H : Hp} {r r' : Ev} {S S' : Sto} {σ : L2.St} {acc xs : List Mi.D} {vs : List V} (hJ : ItR K j J mu1 H1) (x : Exw mu1 mu2 H1 H) (ha : H a = some (.lst vs)) (hna : a ∉ mu2) (hr : Reps K H mu2 acc vs) (he : EnvR K H mu2 r σ) (hs : Sim K H mu2 S)
    (hm : loopF J.chk g t b J.items r S = some (xs, r', S')) (hl : vs.length + xs.length ≤ sizeLine)
    (hc : ∀ σ' H' mu' vs', Ext (a :: mu2) (a :: mu') H H' → H' a = some (.lst vs') → a ∉ mu' → Reps K H' mu' (acc ++ xs) vs' → EnvR K H' mu' r' σ' → Sim K H' mu' S' → D.nx σ' H') : tLoop j (tMG K g) (tMT K t) tb D σ H := by
  refine ⟨fun i k σ' H' => ∃ r3 mu3 S3 acc3 vs3 xs3, Ext (a :: mu2) (a :: mu3) H H' ∧ H' a = some (.lst vs3) ∧ a ∉ mu3 ∧ Reps K H' mu3 acc3 vs3 ∧ EnvR K H' mu3 r3 σ' ∧ Sim K H' mu3 S3 ∧ k = (J.items.drop i).length ∧ loopF J.chk g t b (J.items.drop i) r3 S3 = some (xs3, r', S') ∧ acc3 ++ xs3 = acc ++ xs ∧ vs3.length + xs3.length ≤ sizeLine,
    ⟨_, r, mu2, S, acc, vs, xs, .refl _ _, ha, hna, hr, he, hs, rfl, hm, rfl, hl⟩, ?_⟩
  rintro i k σ3 H3 ⟨r3, mu3, S3, acc3, vs3, xs3, x3, ha3, hn3, hr3, he3, s3, rfl, hm3, hx3, hl3⟩
  cases hd0 : J.items.drop i with
  | nil =>
    left
    rw [hd0, loopF] at hm3
    dsimp only at hm3
    split at hm3
    · rename_i ok
      cases hm3
      refine ⟨(hJ i H3 mu3 _ (x.trans x3.inner) s3 ok).2 (List.drop_eq_nil_iff.mp hd0), hc σ3 H3 mu3 vs3 x3 ha3 hn3 ?_ he3 s3⟩
      rw [← hx3, List.append_nil]; exact hr3
    · cases hm3
  | cons d ds =>
    right
    rw [hd0] at hm3
    obtain ⟨hi, hd⟩ := drop_of_get hd0
    rw [loopF] at hm3
    dsimp only at hm3
    split at hm3
    · rename_i ok
      obtain ⟨⟨r4, S4⟩, e4, hm3⟩ := Option.bind_eq_some_iff.mp hm3
      obtain ⟨⟨k5, S5⟩, e5, hm3⟩ := Option.bind_eq_some_iff.mp hm3
      obtain ⟨go, yl⟩ := (hJ i H3 mu3 _ (x.trans x3.inner) s3 ok).1 d hi
      refine ⟨go, fun σ' H' => ∃ r3 mu3 S3 acc3 vs3 xs3, Ext (a :: mu2) (a :: mu3) H H' ∧ H' a = some (.lst vs3) ∧ a ∉ mu3 ∧ Reps K H' mu3 acc3 vs3 ∧ EnvR K H' mu3 r3 σ' ∧ Sim K H' mu3 S3 ∧ loopF J.chk g t b ds r3 S3 = some (xs3, r', S') ∧ acc3 ++ xs3 = acc ++ xs ∧ vs3.length + xs3.length ≤ sizeLine, ?_, fun y H4 yy => ?_⟩
      · rintro σ' H' ⟨r6, mu6, S6, acc6, vs6, xs6, x6, ha6, hn6, hr6, he6, s6, hm6, hx6, hl6⟩
        exact ⟨ds.length, Nat.lt_succ_self _, r6, mu6, S6, acc6, vs6, xs6, x6, ha6, hn6, hr6, he6, s6, by rw [hd], by rw [hd]; exact hm6, hx6, hl6⟩
      · obtain ⟨x4, s4, q4⟩ := yl y H4 yy
        obtain ⟨ha4, hn4⟩ := x4.held ha3 hn3
        refine ⟨r3, mu3, S3, d, r4, S4, he3.ext x4, s4, q4, e4, fun σ5 H5 mu5 x5 he5 s5 => ?_⟩
        obtain ⟨ha5, hn5⟩ := x5.held ha4 hn4
        refine ⟨r4, mu5, S4, k5, S5, he5, s5, e5, fun H6 mu6 x6 s6 => ?_⟩
        obtain ⟨ha6, hn6⟩ := x6.held ha5 hn5
        have xx := ((x3.trans x4.aside).trans x5.aside).trans x6.aside
        have hr6 : Reps K H6 mu6 acc3 vs3 := ((hr3.ext x4).ext x5).ext x6
        cases k5 with
        | true =>
          obtain ⟨⟨q1, r7, S7⟩, e7, hm3⟩ := Option.bind_eq_some_iff.mp hm3
          obtain ⟨⟨z1, r8, S8⟩, e8, hm3⟩ := Option.map_eq_some_iff.mp hm3
          cases hm3
          refine hb _ _ _ ⟨r4, mu6, S5, acc3, vs3, q1, r7, S7, ha6, hn6, hr6, he5.ext x6, s6, e7, ?_, fun σ8 H8 mu8 vs8 x8 ha8 hn8 hr8 he8 s8 => ⟨r7, mu8, S7, acc3 ++ q1, vs8, z1, xx.trans x8, ha8, hn8, hr8, he8, s8, e8, ?_, ?_⟩⟩
          · rw [List.length_append] at hl3; dsimp only at hl3; omega
          · rw [← hx3, List.append_assoc]
          · have := hr8.length
            have h3 := hr6.length
            rw [List.length_append] at this hl3
            dsimp only at hl3
            omega
        | false => exact ⟨r4, mu6, S5, acc3, vs3, xs3, xx, ha6, hn6, hr6, he5.ext x6, s6, hm3, hx3, hl3⟩
    · cases hm3
theorem nestF_ok {K : PySem.W.Frag} {a : Addr} {m : FI} {g : FG} {t : FT} {b : FV} {tb : TS} (hb : ∀ E σ H, tMV K a b E σ H → tb E σ H) {E : Ends} {σ : L2.St} {H : Hp} (h : tMV K a (fNest m g t b) E σ H) : tNest (tMI K m) (tMG K g) (tMT K t) tb E σ H := by
  obtain ⟨r, mu, S, acc, vs, xs, r', S', ha, hna, hr, he, hs, hm, hl, hc⟩ := h
  obtain ⟨⟨J, S1⟩, e1, hm⟩ := Option.bind_eq_some_iff.mp hm
  refine ⟨r, mu, S, J, S1, he, hs, e1, fun j H1 mu1 x1 J1 s1 => ?_⟩
  obtain ⟨ha1, hn1⟩ := x1.held ha hna
  exact loopF_ok hb J1 (Ext.refl _ _).w ha1 hn1 (hr.ext x1) (he.ext x1) s1 hm hl fun σ' H' mu' vs' x' => hc σ' H' mu' vs' (x1.aside.trans x')
theorem compF_ok {K : PySem.W.Frag} {k : Nat} {keep : List Nat} {m : FI} {g : FG} {t : FT} {b : FV} {tb : Addr → TS} (hb : ∀ a E σ H, tMV K a b E σ H → tb a E σ H) {σ : L2.St} {H : Hp} {Q : VK} (h : tM K (fComp k keep m g t b) σ H Q) :
    tComp k keep (tMI K m) (tMG K g) (tMT K t) tb σ H Q := by
  obtain ⟨r, mu, S, d, S', he, hs, hm, hc⟩ := h
  obtain ⟨⟨J, S1⟩, e1, hm⟩ := Option.bind_eq_some_iff.mp hm
  obtain ⟨⟨xs, r2, S2⟩, e2, hm⟩ := Option.bind_eq_some_iff.mp hm
  dsimp only at hm
  split at hm
  · rename_i hl
    cases hm
    refine ⟨r, mu, S, J, S1, he, hs, e1, fun j H1 mu1 x1 J1 s1 p hp => ?_⟩
    have fr : Ext mu1 mu1 H1 (upd H1 p (.lst [])) := Ext.fresh hp
    refine loopF_ok (hb p) J1 fr.w upd_same (s1.notin hp) .nil ((inEnv k keep (he.ext x1)).ext fr) (s1.fresh hp) e2 (by simpa using hl) fun σ' H' mu' vs' x' ha' hn' hr' he' s' => ?_
    have y : Ext mu1 (mu' ++ [p]) H1 H' := by
      refine ⟨((List.cons_prefix_cons.mp x'.pre).2).trans (List.prefix_append _ _), fun b o e n => ?_, fun b ys e => x'.tup b ys (fr.tup b ys e), fun b o u e => x'.frz b o u (fr.frz b o u e), fun b hb' => ?_⟩
      · have nb : b ≠ p := ne_of_none e hp
        exact x'.old b o (by rw [upd_ne nb]; exact e) fun z => by
          rcases List.mem_cons.mp z with z | z
          · exact nb z
          · exact n z
      · rcases List.mem_append.mp hb' with z | z
        · rcases x'.new b (List.mem_cons_of_mem _ z) with q | q
          · rcases List.mem_cons.mp q with q | q
            · exact .inr (by rw [q]; exact hp)
            · exact .inl q
          · by_cases hbp : b = p
            · exact .inr (by rw [hbp]; exact hp)
            · rw [upd_ne hbp] at q; exact .inr q
        · have : b = p := by simpa using z
          exact .inr (by rw [this]; exact hp)
    refine hc _ H' (mu' ++ [p]) (x1.trans y) (.ref (new_at s'.len p)) ⟨by rw [List.length_append, List.length_append, s'.len]; rfl, ?_, fun n o b h1 h2 => ?_⟩
    · rw [List.nodup_append]
      refine ⟨s'.nd, by simp, fun b hb c hc e => ?_⟩
      have : c = p := by simpa using hc
      subst this; subst e
      exact hn' hb
    · by_cases hk : n < S2.length
      · rw [List.getElem?_append_left hk] at h1
        rw [List.getElem?_append_left (by rw [s'.len]; exact hk)] at h2
        exact (s'.ob n o b h1 h2).mor [p]
      · have hk' : n = S2.length := by
          have := (List.getElem?_eq_some_iff.mp h1).1
          rw [List.length_append] at this
          simp at this
          omega
        subst hk'
        rw [List.getElem?_append_right (Nat.le_refl _)] at h1
        rw [← s'.len, List.getElem?_append_right (Nat.le_refl _)] at h2
        simp at h1 h2
        subst h1; subst h2
        exact ⟨vs', ha', (by simpa using hr' : Reps K H' mu' xs vs').mor [p]⟩
  · cases hm
section
variable {X : Cx}
theorem xfe_comp1 {elt tg iter : Expr} {ifs : List Expr} {scope : Scope} {pos : Pos} {T : List Str} {keep : List Nat} {cl : List (Str × Addr)} {m : FI} {g : FG} {t : FT} {e : FE} (hc : X.calm = true)
    (C : CSc X scope T keep) (hcl : cloF X.env.cells scope.names [] = some cl) (hi : XI X tg iter m) (hb : ∀ s H fp, XB1 (cxC X scope cl T keep s H fp) X.K tg ifs elt g t e)
    (hs : ∀ x, foldedSetIterable iter X.env x = pure x := by intro _; rfl) : XE X (.ListComp elt [⟨tg, iter, ifs, 0⟩] scope pos) (fComp T.length keep m g t (fEmit e)) :=
  ⟨pe_imp (pe_comp (emit := emitE elt) (tb := fun p => tEmit p (tM X.K e)) hc (fun it acc env => turn_A elt tg iter ifs scope pos it acc env) C hcl hi.h (fun s H fp p => ⟨(hb s H fp).g.h, (hb s H fp).t.h, pu_emit (hb s H fp).e.h p⟩) hs)
    fun σ H Q h => compF_ok (fun a E σ H q => emitF_ok q) h⟩
theorem xfe_comp2 {elt tg iter tg2 iter2 : Expr} {ifs ifs2 : List Expr} {scope : Scope} {pos : Pos} {T : List Str} {keep : List Nat} {cl : List (Str × Addr)} {m m2 : FI} {g g2 : FG} {t t2 : FT} {e : FE} (hc : X.calm = true)
    (C : CSc X scope T keep) (hcl : cloF X.env.cells scope.names [] = some cl) (hi : XI X tg iter m) (hb : ∀ s H fp, XB2 (cxC X scope cl T keep s H fp) X.K tg ifs tg2 iter2 ifs2 elt g t m2 g2 t2 e)
    (hs : ∀ x, foldedSetIterable iter X.env x = pure x := by intro _; rfl) (hs2 : ∀ env x, foldedSetIterable iter2 env x = pure x := by intro _ _; rfl) :
    XE X (.ListComp elt [⟨tg, iter, ifs, 0⟩, ⟨tg2, iter2, ifs2, 0⟩] scope pos) (fComp T.length keep m g t (fNest m2 g2 t2 (fEmit e))) :=
  ⟨pe_imp (pe_comp (emit := emitN (.ListComp elt [⟨tg, iter, ifs, 0⟩, ⟨tg2, iter2, ifs2, 0⟩] scope pos) iter2) (tb := fun p => tNest (tMI X.K m2) (tMG X.K g2) (tMT X.K t2) (tEmit p (tM X.K e))) hc (fun it acc env => turn_B elt tg iter tg2 iter2 ifs ifs2 scope pos it acc env) C hcl hi.h
      (fun s H fp p => ⟨(hb s H fp).g.h, (hb s H fp).t.h, pu_nest (X := cxC X scope cl T keep s H fp) rfl hc (hb s H fp).i2.h (hb s H fp).g2.h (hb s H fp).t2.h (pu_emit (hb s H fp).e.h p) (hs2 _)⟩) hs)
    fun σ H Q h => compF_ok (fun a E σ H q => nestF_ok (fun _ _ _ z => emitF_ok z) q) h⟩
theorem xfs_comp1 {elt tg iter : Expr} {ifs : List Expr} {scope : Scope} {pos spos py : Pos} {y : Str} (i : Nat) {T : List Str} {keep : List Nat} {cl : List (Str × Addr)} {m : FI} {g : FG} {t : FT} {e : FE} (hc : X.calm = true)
    (C : CSc X scope T keep) (hcl : cloF X.env.cells scope.names [] = some cl) (hi : XI X tg iter m) (hb : ∀ s H fp, XB1 (cxC X scope cl T keep s H fp) X.K tg ifs elt g t e)
    (hN : X.N.Nodup) (hy : X.N[i]? = some y) (hx : Loc X.env.scope y) (hsw : swapsWith (.ListComp elt [⟨tg, iter, ifs, 0⟩] scope pos) (some (.Name y py)) spos.line X.env = pure true := by rfl)
    (hf : X.fn y = true ∨ X.env.scope.names.lookup y = some .local := by first | exact .inl rfl | exact .inr rfl | assumption)
    (hs : ∀ x, foldedSetIterable iter X.env x = pure x := by intro _; rfl) : XS X (.Assign [.Name y py] (.ListComp elt [⟨tg, iter, ifs, 0⟩] scope pos) spos) (mAsg (fComp T.length keep m g t (fEmit e)) (gN i)) :=
  ⟨ps_imp (ps_comp (emit := emitE elt) (tb := fun p => tEmit p (tM X.K e)) hc hsw (fun it acc env => turn_A elt tg iter ifs scope pos it acc env) C hcl hi.h (fun s H fp p => ⟨(hb s H fp).g.h, (hb s H fp).t.h, pu_emit (hb s H fp).e.h p⟩) hN hy hx hf hs)
    fun E σ H h => asg_ok (fun σ H Q q => compF_ok (fun a E σ H q => emitF_ok q) q) h⟩
theorem xfs_comp2 {elt tg iter tg2 iter2 : Expr} {ifs ifs2 : List Expr} {scope : Scope} {pos spos py : Pos} {y : Str} (i : Nat) {T : List Str} {keep : List Nat} {cl : List (Str × Addr)} {m m2 : FI} {g g2 : FG} {t t2 : FT} {e : FE} (hc : X.calm = true)
    (C : CSc X scope T keep) (hcl : cloF X.env.cells scope.names [] = some cl) (hi : XI X tg iter m) (hb : ∀ s H fp, XB2 (cxC X scope cl T keep s H fp) X.K tg ifs tg2 iter2 ifs2 elt g t m2 g2 t2 e)
    (hN : X.N.Nodup) (hy : X.N[i]? = some y) (hx : Loc X.env.scope y) (hsw : swapsWith (.ListComp elt [⟨tg, iter, ifs, 0⟩, ⟨tg2, iter2, ifs2, 0⟩] scope pos) (some (.Name y py)) spos.line X.env = pure true := by rfl)
    (hf : X.fn y = true ∨ X.env.scope.names.lookup y = some .local := by first | exact .inl rfl | exact .inr rfl | assumption)
    (hs : ∀ x, foldedSetIterable iter X.env x = pure x := by intro _; rfl) (hs2 : ∀ env x, foldedSetIterable iter2 env x = pure x := by intro _ _; rfl) :
    XS X (.Assign [.Name y py] (.ListComp elt [⟨tg, iter, ifs, 0⟩, ⟨tg2, iter2, ifs2, 0⟩] scope pos) spos) (mAsg (fComp T.length keep m g t (fNest m2 g2 t2 (fEmit e))) (gN i)) :=
  ⟨ps_imp (ps_comp (emit := emitN (.ListComp elt [⟨tg, iter, ifs, 0⟩, ⟨tg2, iter2, ifs2, 0⟩] scope pos) iter2) (tb := fun p => tNest (tMI X.K m2) (tMG X.K g2) (tMT X.K t2) (tEmit p (tM X.K e))) hc hsw (fun it acc env => turn_B elt tg iter tg2 iter2 ifs ifs2 scope pos it acc env) C hcl hi.h
      (fun s H fp p => ⟨(hb s H fp).g.h, (hb s H fp).t.h, pu_nest (X := cxC X scope cl T keep s H fp) rfl hc (hb s H fp).i2.h (hb s H fp).g2.h (hb s H fp).t2.h (pu_emit (hb s H fp).e.h p) (hs2 _)⟩) hN hy hx hf hs)
    fun E σ H h => asg_ok (fun σ H Q q => compF_ok (fun a E σ H q => nestF_ok (fun _ _ _ z => emitF_ok z) q) q) h⟩
end
end Mi

end
section
set_option Elab.async false
set_option linter.all false
set_option maxRecDepth 100000
/-! Plain mathematics over the mirror: loops, stores, equality. -/
namespace Mi
open PySem PySem.Spec PyProof.Rows L2

theorem unds_ints (n : Nat) : ∀ ns : List Int, D.unds n (ns.map D.int) = true
  | [] => rfl
  | _ :: ns => by rw [List.map_cons, D.unds, unds_ints n ns]; rfl
theorem gc_same {n : Nat} {d : D} {S : Sto} (h : S.length = n) : gc n (d, S) = (d, S) := by
  unfold gc
  split
  · rw [show (d, S).2 = S from rfl, ← h, List.take_length]
  · rfl
theorem call_shut {n : Nat} {f : FN} {ds : List D} {S S1 : Sto} {d : D} (h : f ds [] = some (d, S1)) (hn : ds.length = n) (hu : D.unds 0 ds = true) (hd : d.und 0 = true) : mCall n f ds S = some (d, S) := by
  unfold mCall callG
  rw [if_pos hn, if_pos hu, h, Option.map_some, if_pos hd]
theorem call_new {n : Nat} {f : FN} {ds : List D} {S S1 : Sto} {d : D} (h : f ds [] = some (d, S1)) (hn : ds.length = n) (hu : D.unds 0 ds = true) (hd : d.und 0 = false) : mCall n f ds S = some (d.sh S.length, S ++ S1.map (Ob.sh S.length)) := by
  unfold mCall callG
  rw [if_pos hn, if_pos hu, h, Option.map_some, if_neg (by dsimp only; rw [hd]; decide)]
theorem call_open {n : Nat} {f : FN} {ds : List D} {S S1 : Sto} {d : D} (h : f ds S = some (d, S1)) (hn : ds.length = n) (hu : D.unds 0 ds = false) : mCall n f ds S = some (gc S.length (d, S1)) := by
  unfold mCall callG
  rw [if_pos hn, if_neg (by rw [hu]; decide), h, Option.map_some]
theorem call_same {n : Nat} {f : FN} {ds : List D} {S S1 : Sto} {d : D} (h : f ds S = some (d, S1)) (hn : ds.length = n) (hu : D.unds 0 ds = false) (hl : S1.length = S.length) : mCall n f ds S = some (d, S1) := by
  rw [call_open h hn hu, gc_same hl]
theorem mSeq_nx {a b : FS} {r r1 : Ev} {S S1 : Sto} (h : a r S = some (.nx, r1, S1)) : mSeq a b r S = b r1 S1 := by unfold mSeq; rw [h]; rfl
theorem mAsg_of {m : FE} {i : Nat} {r : Ev} {S S1 : Sto} {d : D} (h : m r S = some (d, S1)) : mAsg m (gN i) r S = some (.nx, r.set i (some d), S1) := by unfold mAsg gN; rw [h]; rfl
theorem mulF1 {i j : Int} (h1 : -(2 ^ 64) < i) (h2 : i < 2 ^ 64) : mulFits i j = true := by
  unfold mulFits; simp only [Bool.or_eq_true, Bool.and_eq_true, decide_eq_true_eq]; exact .inl (.inl ⟨h1, h2⟩)
theorem mulF2 {i j : Int} (h1 : -(2 ^ 64) < j) (h2 : j < 2 ^ 64) : mulFits i j = true := by
  unfold mulFits; simp only [Bool.or_eq_true, Bool.and_eq_true, decide_eq_true_eq]; exact .inl (.inr ⟨h1, h2⟩)
theorem okC_nil {S : Sto} : okC S [] = true := rfl
theorem okC_one {S : Sto} {n : Nat} {xs : List D} (h : S[n]? = some (.lst xs)) : okC S [(n, xs)] = true := by
  rw [okC, h]; simp [D.sames_refl, okC]
theorem okC_two {S : Sto} {n k : Nat} {xs ys : List D} (h : S[n]? = some (.lst xs)) (h2 : S[k]? = some (.lst ys)) : okC S [(n, xs), (k, ys)] = true := by
  rw [okC, h, okC_one h2]; simp [D.sames_refl]
/-- a comprehension that changes nothing but its names -/
theorem loopF_map {c : List (Nat × List D)} {g : FG} {t : FT} {e : FE} {S : Sto} (P : Ev → Prop) (F : D → D) (hok : okC S c = true) : ∀ (items : List D) (r : Ev), P r →
    (∀ d ∈ items, ∀ r, P r → ∃ r1, g d r S = some (r1, S) ∧ t r1 S = some (true, S) ∧ e r1 S = some (F d, S) ∧ P r1) →
    ∃ r', loopF c g t (fEmit e) items r S = some (items.map F, r', S) ∧ P r'
  | [], r, hp, _ => ⟨r, by rw [loopF]; simp [hok], hp⟩
  | d :: ds, r, hp, h => by
    obtain ⟨r1, e1, e2, e3, p1⟩ := h d List.mem_cons_self r hp
    obtain ⟨r2, e4, p2⟩ := loopF_map P F hok ds r1 p1 fun d hd => h d (List.mem_cons_of_mem _ hd)
    exact ⟨r2, by rw [loopF]; simp [hok, e1, e2, fEmit, e3, e4], p2⟩
/-- one that picks -/
theorem loopF_filter {c : List (Nat × List D)} {g : FG} {t : FT} {e : FE} {S : Sto} (P : Ev → Prop) (p : D → Bool) (F : D → D) (hok : okC S c = true) : ∀ (items : List D) (r : Ev), P r →
    (∀ d ∈ items, ∀ r, P r → ∃ r1, g d r S = some (r1, S) ∧ t r1 S = some (p d, S) ∧ (p d = true → e r1 S = some (F d, S)) ∧ P r1) →
    ∃ r', loopF c g t (fEmit e) items r S = some ((items.filter p).map F, r', S) ∧ P r'
  | [], r, hp, _ => ⟨r, by rw [loopF]; simp [hok], hp⟩
  | d :: ds, r, hp, h => by
    obtain ⟨r1, e1, e2, e3, p1⟩ := h d List.mem_cons_self r hp
    obtain ⟨r2, e4, p2⟩ := loopF_filter P p F hok ds r1 p1 fun d hd => h d (List.mem_cons_of_mem _ hd)
    refine ⟨r2, ?_, p2⟩
    rw [loopF]
    cases hd : p d with
    | true => simp [hok, e1, e2, fEmit, e3 hd, e4, hd]
    | false => simp [hok, e1, e2, e4, hd]
/-- one that makes a new list each time -/
def refs (n : Nat) : Nat → List D
  | 0 => []
  | k + 1 => .ref n :: refs (n + 1) k
theorem loopF_fresh {g : FG} {t : FT} {e : FE} (P : Ev → Prop) (F : D → List D) : ∀ (items : List D) (r : Ev) (S : Sto), P r →
    (∀ d ∈ items, ∀ r S, P r → ∃ r1, g d r S = some (r1, S) ∧ t r1 S = some (true, S) ∧ e r1 S = some (.ref S.length, S ++ [.lst (F d)]) ∧ P r1) →
    ∃ r', loopF [] g t (fEmit e) items r S = some (refs S.length items.length, r', S ++ items.map fun d => .lst (F d)) ∧ P r'
  | [], r, S, hp, _ => ⟨r, by rw [loopF]; simp [okC, refs], hp⟩
  | d :: ds, r, S, hp, h => by
    obtain ⟨r1, e1, e2, e3, p1⟩ := h d List.mem_cons_self r S hp
    obtain ⟨r2, e4, p2⟩ := loopF_fresh P F ds r1 (S ++ [.lst (F d)]) p1 fun d hd => h d (List.mem_cons_of_mem _ hd)
    refine ⟨r2, ?_, p2⟩
    rw [List.length_append] at e4
    rw [loopF]; simp [okC, e1, e2, fEmit, e3, refs]
    simp at e4
    simp [e4]
theorem allB_true {α : Type} : ∀ xs : List α, allB (xs.map fun _ => D.bl true) = some true
  | [] => rfl
  | _ :: xs => by rw [List.map_cons, allB, allB_true xs]; rfl
theorem allB_mapT {α : Type} {f : α → D} : ∀ {xs : List α}, (∀ x ∈ xs, f x = .bl true) → allB (xs.map f) = some true
  | [], _ => rfl
  | x :: xs, h => by rw [List.map_cons, h x List.mem_cons_self, allB, allB_mapT fun y hy => h y (List.mem_cons_of_mem _ hy)]; rfl
/-- a loop whose turns change nothing but names -/
theorem loopM_nx {c : List (Nat × List D)} {g : FG} {b : FS} {S : Sto} (P : Ev → Prop) (hok : okC S c = true) : ∀ (items : List D) (r : Ev), P r →
    (∀ d ∈ items, ∀ r, P r → ∃ r1 r2, g d r S = some (r1, S) ∧ b r1 S = some (.nx, r2, S) ∧ P r2) → ∃ r', loopM c g b items r S = some (.nx, r', S) ∧ P r'
  | [], r, hp, _ => ⟨r, by rw [loopM]; simp [hok], hp⟩
  | d :: ds, r, hp, h => by
    obtain ⟨r1, r2, e1, e2, p2⟩ := h d List.mem_cons_self r hp
    obtain ⟨r3, e4, p3⟩ := loopM_nx P hok ds r2 p2 fun d hd => h d (List.mem_cons_of_mem _ hd)
    exact ⟨r3, by rw [loopM]; simp [hok, e1, e2, e4], p3⟩
theorem mem_nums : ∀ {n : Nat} {lo : Int} {d : D}, d ∈ nums lo n → ∃ k : Int, d = .int k ∧ lo ≤ k ∧ k < lo + n
  | 0, lo, d, h => by simp [nums] at h
  | n + 1, lo, d, h => by
    rw [nums] at h
    rcases List.mem_cons.mp h with h | h
    · exact ⟨lo, h, Int.le_refl _, by omega⟩
    · obtain ⟨k, e, h1, h2⟩ := mem_nums h
      exact ⟨k, e, by omega, by omega⟩
/-! equality and order of what bears no names do not ask the store -/
theorem unds_mem {n : Nat} : ∀ {xs : List D} {x : D}, D.unds n xs = true → x ∈ xs → x.und n = true
  | y :: ys, x, h, hx => by
    rw [D.unds, Bool.and_eq_true] at h
    rcases List.mem_cons.mp hx with e | e
    · rw [e]; exact h.1
    · exact unds_mem h.2 e
theorem seqOf_und {S : Sto} {d : D} (h : d.und 0 = true) : seqOf S d = seqOf [] d := by
  cases d with
  | ref n => simp [D.und] at h
  | _ => rfl
theorem seqOf_unds {S : Sto} {d : D} (h : d.und 0 = true) {p : Bool × List D} (e : seqOf S d = some p) : D.unds 0 p.2 = true := by
  cases d with
  | ref n => simp [D.und] at h
  | tup xs => cases e; simpa [D.und] using h
  | rol xs => cases e; simpa [D.und] using h
  | _ => cases e
theorem eqL_congr {f f' : D → D → Option Bool} : ∀ {xs ys : List D}, (∀ x ∈ xs, ∀ y ∈ ys, f x y = f' x y) → eqL f xs ys = eqL f' xs ys
  | [], [], _ => rfl
  | [], _ :: _, _ => rfl
  | _ :: _, [], _ => rfl
  | x :: xs, y :: ys, h => by
    rw [eqL, eqL, h x List.mem_cons_self y List.mem_cons_self, eqL_congr fun a ha b hb => h a (List.mem_cons_of_mem _ ha) b (List.mem_cons_of_mem _ hb)]
theorem eqN_und {S : Sto} : ∀ {n : Nat} {d e : D}, d.und 0 = true → e.und 0 = true → eqN S n d e = eqN [] n d e
  | 0, _, _, _, _ => rfl
  | n + 1, d, e, hd, he => by
    rw [eqN, eqN, seqOf_und hd, seqOf_und he]
    cases h1 : seqOf [] d with
    | none => cases seqOf [] e <;> rfl
    | some p =>
      cases h2 : seqOf [] e with
      | none => rfl
      | some q =>
        dsimp only
        have u1 := seqOf_unds hd h1
        have u2 := seqOf_unds he h2
        rw [eqL_congr (f := eqN S n) (f' := eqN [] n) fun x hx y hy => eqN_und (unds_mem u1 hx) (unds_mem u2 hy)]
theorem ltL_congr {f f' g g' : D → D → Option Bool} : ∀ {xs ys : List D}, (∀ x ∈ xs, ∀ y ∈ ys, f x y = f' x y) → (∀ x ∈ xs, ∀ y ∈ ys, g x y = g' x y) → ltL f g xs ys = ltL f' g' xs ys
  | [], [], _, _ => rfl
  | [], _ :: _, _, _ => rfl
  | _ :: _, [], _, _ => rfl
  | x :: xs, y :: ys, h, k => by
    rw [ltL, ltL, h x List.mem_cons_self y List.mem_cons_self, k x List.mem_cons_self y List.mem_cons_self, ltL_congr (fun a ha b hb => h a (List.mem_cons_of_mem _ ha) b (List.mem_cons_of_mem _ hb)) fun a ha b hb => k a (List.mem_cons_of_mem _ ha) b (List.mem_cons_of_mem _ hb)]
theorem ltN_und {S : Sto} : ∀ {n : Nat} {d e : D}, d.und 0 = true → e.und 0 = true → ltN S n d e = ltN [] n d e
  | 0, _, _, _, _ => rfl
  | n + 1, d, e, hd, he => by
    rw [ltN, ltN, seqOf_und hd, seqOf_und he]
    cases ltF d e with
    | some b => rfl
    | none =>
      cases h1 : seqOf [] d with
      | none => rfl
      | some p =>
        cases h2 : seqOf [] e with
        | none => rfl
        | some q =>
          dsimp only
          have u1 := seqOf_unds hd h1
          have u2 := seqOf_unds he h2
          rw [ltL_congr (f := eqN S n) (f' := eqN [] n) (g := ltN S n) (g' := ltN [] n) (fun x hx y hy => eqN_und (unds_mem u1 hx) (unds_mem u2 hy)) fun x hx y hy => ltN_und (unds_mem u1 hx) (unds_mem u2 hy)]
theorem inL_congr {f f' : D → D → Option Bool} {x : D} : ∀ {ys : List D}, (∀ y ∈ ys, f y x = f' y x) → inL f x ys = inL f' x ys
  | [], _ => rfl
  | y :: ys, h => by rw [inL, inL, h y List.mem_cons_self, inL_congr fun z hz => h z (List.mem_cons_of_mem _ hz)]
end Mi

end
section
set_option Elab.async false
set_option linter.all false
set_option maxRecDepth 100000
set_option maxHeartbeats 4000000
namespace Law
open PySem PySem.Spec PyProof.Rows L2 Mi
def top (i : Nat) : Stmt := PySem.Challenge.pw_ringmeet_k23_sights_of_eyes.main.body.getD i (.Pass ⟨0, 0, 0, 0⟩)
structure Blt (mg : Str → Option Value) : Prop where
  z_all : mg "all" = none
  z_bool : mg "bool" = none
  z_int : mg "int" = none
  z_isinstance : mg "isinstance" = none
  z_len : mg "len" = none
  z_list : mg "list" = none
  z_max : mg "max" = none
  z_min : mg "min" = none
  z_range : mg "range" = none
  z_tuple : mg "tuple" = none
  z_zip : mg "zip" = none
def d_PARTS : D := (D.tup [(D.tup [(D.str "came"), (D.int (5))]), (D.tup [(D.str "chalk"), (D.int (2))]), (D.tup [(D.str "doors"), (D.int (5))]), (D.tup [(D.str "others"), (D.int (2))])])
abbrev s_sights : Stmt := top 2
def p_sights_1 : FS := (mSeq (mAsg (mIf (mB (m2 (b2 gIn) (mV 2) (mV 0))) (mLR1 (mCons (mV 3) mNil)) (mLst (mCons (mC D.non) mNil))) (gN 4))
    (mAsg (fComp 2 [4] (iSeq (mV 1)) (gN 0) mTrue (fNest (iSeq (mV 2)) (gN 1) mTrue (fEmit (m2 (b2 gAdd) (mV 0) (mTup (mCons (mV 1) mNil)))))) (gN 1)))
def b_sights : FS := (mSeq (mAsg (mLst (mCons (mTup mNil) mNil)) (gN 1))
    (mSeq (mFor (iSeq (mC d_PARTS)) (gT 2 (gCs (gN 2) (gCs (gN 3) gNl))) p_sights_1)
    (mRet (mN (b1 gTup) (mCons (mV 1) mNil)))))
def m_sights : FN := fnB 5 b_sights
theorem sc_sights : FnScope ["eyes", "found", "eye", "many", "parts"] ["eyes"] (defScope s_sights) := ⟨rfl, rfl, rfl, by decide +kernel, rfl, by decide +kernel, by decide +kernel⟩
theorem ok_sights {P : Program} {w : World} {K : PySem.W.Frag} {mg : Str → Option Value} {base : Heap} {f : Addr} {fd : FuncData} (F : Fun K "sights" "sights" s_sights f fd) (hb : Binds K fd ["eyes"] []) (hm : mg "sights" = some (.ref f)) (B : Blt mg) (c_PARTS : CGl K mg "PARTS" d_PARTS) :
    Own P w K mg base 1 "sights" 1 m_sights := xown_mk (k := 0) (n := 1) (N := ["eyes", "found", "eye", "many", "parts"]) (ps := ["eyes"]) (b := b_sights) F hb hm sc_sights rfl fun cdv A outer s H E hr =>
  (xmss_cons (xms_set 1 sc_sights.nd rfl (by first | exact Or.inl rfl | exact Or.inr rfl) (xme_lst (xma_cons (xme_tup xma_nil) xma_nil (st_Tuple ..))))
    (xmss_cons (xms_for PassesOwn.never rfl (xmi_seq (xme_glob c_PARTS rfl)) (xmg_tup rfl (xmgs_cons (xmg_name 2 sc_sights.nd rfl (by first | exact Or.inl rfl | exact Or.inr rfl)) (xmgs_cons (xmg_name 3 sc_sights.nd rfl (by first | exact Or.inl rfl | exact Or.inr rfl)) xmgs_nil))) (xmss_cons (xms_set 4 sc_sights.nd rfl (by first | exact Or.inl rfl | exact Or.inr rfl) (xme_if (xmt_cmp (o_in hr.units) (xmv 2) (xmv 0) (by with_unfolding_all rfl)) (xme_listR1 rfl rfl B.z_range rfl B.z_list (xma_cons (xmv 3) xma_nil (st_Name ..))) (xme_lst (xma_cons xme_non xma_nil (st_Constant ..)))))
    (xmss_one (xfs_comp2 1 rfl (T := ["sight", "part"]) (keep := [4]) ⟨rfl, by decide +kernel, (List.forall_mem_cons.mpr ⟨⟨_, rfl, rfl, (by first | exact Or.inl rfl | exact Or.inr rfl), by decide +kernel⟩, (List.forall_mem_nil _)⟩)⟩ rfl (xmi_seq (xmv 1)) (fun _ _ _ => ⟨(xmg_name 0 (show List.Nodup (["sight", "part", "parts"] : List Str) by decide +kernel) rfl (by first | exact Or.inl rfl | exact Or.inr rfl)), xmif_nil, (xmi_seq (xmv 2)), (xmg_name 1 (show List.Nodup (["sight", "part", "parts"] : List Str) by decide +kernel) rfl (by first | exact Or.inl rfl | exact Or.inr rfl)), xmif_nil, (xme_op o_add (xmv 0) (xme_tup (xma_cons (xmv 1) xma_nil (st_Name ..))))⟩) sc_sights.nd rfl (by first | exact Or.inl rfl | exact Or.inr rfl)))))
    (xmss_one (xms_ret (xme_callTy c_tuple rfl B.z_tuple (by decide +kernel) (xma_cons (xmv 1) xma_nil (st_Name ..)))))))
abbrev s__law_hand : Stmt := top 4
def b__law_hand : FS := (mSeq (mAsg (mC (D.int (0))) (gN 2))
    (mSeq (mIfS (mB (m2 (b2 gLt) (mV 1) (mN (b1 gLen) (mCons (mV 0) mNil)))) (mAsg (m2 (b2 gIx) (mV 0) (mV 1)) (gN 2)) mNx)
    (mSeq (mAsg (m2 (b2 gMul) (m2 (b2 gMod) (mV 2) (m2 (b2 gMul) (m2 (b2 gPow) (mC (D.int (10))) (mC (D.int (60)))) (m2 (b2 gPow) (mC (D.int (10))) (mC (D.int (30)))))) (mN (b1 gInt) (mCons (m2 (b2 (gCmp fun i j => decide (j ≤ i))) (mV 2) (m2 (b2 gPow) (mC (D.int (10))) (mC (D.int (18))))) mNil))) (gN 3))
    (mRet (mLst (mCons (mV 3) (mCons (m2 (b2 gMod) (m2 (b2 gAdd) (m2 (b2 gAdd) (m2 (b2 gMod) (mV 2) (mC (D.int (2305843009213693951)))) (m2 (b2 gMul) (mC (D.int (7919))) (mV 1))) (mC (D.int (3)))) (mC (D.int (2305843009213693951)))) (mCons (mC (D.int (0))) mNil))))))))
def m__law_hand : FN := fnB 4 b__law_hand
theorem sc__law_hand : FnScope ["_law_script", "_law_k", "_law_cell", "_law_great"] ["_law_script", "_law_k"] (defScope s__law_hand) := ⟨rfl, rfl, rfl, by decide +kernel, rfl, by decide +kernel, by decide +kernel⟩
theorem ok__law_hand {P : Program} {w : World} {K : PySem.W.Frag} {mg : Str → Option Value} {base : Heap} {f : Addr} {fd : FuncData} (F : Fun K "_law_hand" "_law_hand" s__law_hand f fd) (hb : Binds K fd ["_law_script", "_law_k"] []) (hm : mg "_law_hand" = some (.ref f)) (B : Blt mg) :
    Own P w K mg base 1 "_law_hand" 2 m__law_hand := xown_mk (k := 0) (n := 2) (N := ["_law_script", "_law_k", "_law_cell", "_law_great"]) (ps := ["_law_script", "_law_k"]) (b := b__law_hand) F hb hm sc__law_hand rfl fun cdv A outer s H E hr =>
  (xmss_cons (xms_set 2 sc__law_hand.nd rfl (by first | exact Or.inl rfl | exact Or.inr rfl) xme_int)
    (xmss_cons (xms_if (xmt_cmp (o_ltN hr.units) (xmv 1) (xme_callB c_len rfl B.z_len (by decide +kernel) (xma_cons (xmv 0) xma_nil (st_Name ..))) (nomark _)) (xmss_one (xms_set 2 sc__law_hand.nd rfl (by first | exact Or.inl rfl | exact Or.inr rfl) (xme_ix x_ix (xmv 0) (xmv 1) (fun _ _ => rfl)))) xmss_nil)
    (xmss_cons (xms_set 3 sc__law_hand.nd rfl (by first | exact Or.inl rfl | exact Or.inr rfl) (xme_op o_mul (xme_op o_mod (xmv 2) (xme_op o_mul (xme_op o_pow xme_int xme_int) (xme_op o_pow xme_int xme_int))) (xme_callTy c_int rfl B.z_int (by decide +kernel) (xma_cons (xme_cmp o_ge (xmv 2) (xme_op o_pow xme_int xme_int) (nomark _)) xma_nil (st_Compare ..)))))
    (xmss_one (xms_ret (xme_lst (xma_cons (xmv 3) (xma_cons (xme_op o_mod (xme_op o_add (xme_op o_add (xme_op o_mod (xmv 2) xme_int) (xme_op o_mul xme_int (xmv 1))) xme_int) xme_int) (xma_cons xme_int xma_nil (st_Constant ..)) (st_BinOp ..)) (st_Name ..))))))))
abbrev s__law_take : Stmt := top 5
def b__law_take : FS := (mSeq (mIfS (mB (m2 (b2 (gCmp fun i j => decide (j < i))) (m2 (b2 gIx) (mV 0) (mC (D.int (0)))) (mC (D.int (0))))) (mSeq (mAsg (m2 (b2 gMod) (m2 (b2 gIx) (mV 0) (mC (D.int (0)))) (mV 1)) (gN 2))
    (mSeq (mAsg (m2 (b2 gDiv) (m2 (b2 gIx) (mV 0) (mC (D.int (0)))) (mV 1)) (gS (b3 gSetIx) (mV 0) (mC (D.int (0)))))
    (mRet (mV 2)))) mNx)
    (mSeq (mAsg (m2 (b2 gAdd) (m2 (b2 gIx) (mV 0) (mC (D.int (2)))) (mC (D.int (1)))) (gS (b3 gSetIx) (mV 0) (mC (D.int (2)))))
    (mSeq (mAsg (m2 (b2 gMod) (m2 (b2 gMul) (m2 (b2 gAdd) (m2 (b2 gAdd) (m2 (b2 gIx) (mV 0) (mC (D.int (1)))) (m2 (b2 gMul) (m2 (b2 gMul) (mC (D.int (65537))) (m2 (b2 gIx) (mV 0) (mC (D.int (2))))) (m2 (b2 gIx) (mV 0) (mC (D.int (2)))))) (mC (D.int (11)))) (mC (D.int (48271)))) (mC (D.int (2305843009213693921)))) (gN 3))
    (mSeq (mAsg (m2 (b2 gMod) (m2 (b2 gMul) (mV 3) (m2 (b2 gAdd) (m2 (b2 gMod) (mV 3) (mC (D.int (1000003)))) (m2 (b2 gMul) (mC (D.int (99991))) (m2 (b2 gIx) (mV 0) (mC (D.int (2))))))) (mC (D.int (2305843009213693907)))) (gN 3))
    (mRet (m2 (b2 gMod) (m2 (b2 gAdd) (m2 (b2 gDiv) (mV 3) (mC (D.int (97)))) (m2 (b2 gDiv) (mV 3) (mC (D.int (1000033))))) (mV 1)))))))
def m__law_take : FN := fnB 4 b__law_take
theorem sc__law_take : FnScope ["_law_hand_here", "_law_many", "_law_digit", "_law_mixed"] ["_law_hand_here", "_law_many"] (defScope s__law_take) := ⟨rfl, rfl, rfl, by decide +kernel, rfl, by decide +kernel, by decide +kernel⟩
theorem ok__law_take {P : Program} {w : World} {K : PySem.W.Frag} {mg : Str → Option Value} {base : Heap} {f : Addr} {fd : FuncData} (F : Fun K "_law_take" "_law_take" s__law_take f fd) (hb : Binds K fd ["_law_hand_here", "_law_many"] []) (hm : mg "_law_take" = some (.ref f)) (B : Blt mg) :
    Own P w K mg base 1 "_law_take" 2 m__law_take := xown_mk (k := 0) (n := 2) (N := ["_law_hand_here", "_law_many", "_law_digit", "_law_mixed"]) (ps := ["_law_hand_here", "_law_many"]) (b := b__law_take) F hb hm sc__law_take rfl fun cdv A outer s H E hr =>
  (xmss_cons (xms_if (xmt_cmp o_gt (xme_ix x_ix (xmv 0) xme_int (fun _ _ => rfl)) xme_int (nomark _)) (xmss_cons (xms_set 2 sc__law_take.nd rfl (by first | exact Or.inl rfl | exact Or.inr rfl) (xme_op o_mod (xme_ix x_ix (xmv 0) xme_int (fun _ _ => rfl)) (xmv 1)))
    (xmss_cons (xms_asg (xme_op o_div (xme_ix x_ix (xmv 0) xme_int (fun _ _ => rfl)) (xmv 1)) (xmg_sub (xmv 0) xme_int s_set))
    (xmss_one (xms_ret (xmv 2))))) xmss_nil)
    (xmss_cons (xms_asg (xme_op o_add (xme_ix x_ix (xmv 0) xme_int (fun _ _ => rfl)) xme_int) (xmg_sub (xmv 0) xme_int s_set))
    (xmss_cons (xms_set 3 sc__law_take.nd rfl (by first | exact Or.inl rfl | exact Or.inr rfl) (xme_op o_mod (xme_op o_mul (xme_op o_add (xme_op o_add (xme_ix x_ix (xmv 0) xme_int (fun _ _ => rfl)) (xme_op o_mul (xme_op o_mul xme_int (xme_ix x_ix (xmv 0) xme_int (fun _ _ => rfl))) (xme_ix x_ix (xmv 0) xme_int (fun _ _ => rfl)))) xme_int) xme_int) xme_int))
    (xmss_cons (xms_set 3 sc__law_take.nd rfl (by first | exact Or.inl rfl | exact Or.inr rfl) (xme_op o_mod (xme_op o_mul (xmv 3) (xme_op o_add (xme_op o_mod (xmv 3) xme_int) (xme_op o_mul xme_int (xme_ix x_ix (xmv 0) xme_int (fun _ _ => rfl))))) xme_int))
    (xmss_one (xms_ret (xme_op o_mod (xme_op o_add (xme_op o_div (xmv 3) xme_int) (xme_op o_div (xmv 3) xme_int)) (xmv 1))))))))
abbrev s__law_bounds : Stmt := top 7
def p__law_bounds_1 : FS := (mDrop (mMt (b2 gApp) (mV 1) (mCons (mIf (mB (m2 (b2 gIn) (mV 2) (mV 0))) (mV 3) (mC D.non)) mNil)))
def b__law_bounds : FS := (mSeq (mAsg (mLst mNil) (gN 1))
    (mSeq (mFor (iSeq (mTup (mCons (mTup (mCons (mC (D.str "came")) (mCons (mC (D.int (4))) mNil))) (mCons (mTup (mCons (mC (D.str "chalk")) (mCons (mC (D.int (1))) mNil))) (mCons (mTup (mCons (mC (D.str "doors")) (mCons (mC (D.int (4))) mNil))) (mCons (mTup (mCons (mC (D.str "others")) (mCons (mC (D.int (1))) mNil))) mNil)))))) (gT 2 (gCs (gN 2) (gCs (gN 3) gNl))) p__law_bounds_1)
    (mRet (mV 1))))
def m__law_bounds : FN := fnB 4 b__law_bounds
theorem sc__law_bounds : FnScope ["_law_eyes", "_law_found", "_law_eye", "_law_most"] ["_law_eyes"] (defScope s__law_bounds) := ⟨rfl, rfl, rfl, by decide +kernel, rfl, by decide +kernel, by decide +kernel⟩
theorem ok__law_bounds {P : Program} {w : World} {K : PySem.W.Frag} {mg : Str → Option Value} {base : Heap} {f : Addr} {fd : FuncData} (F : Fun K "_law_bounds" "_law_bounds" s__law_bounds f fd) (hb : Binds K fd ["_law_eyes"] []) (hm : mg "_law_bounds" = some (.ref f)) (B : Blt mg) :
    Own P w K mg base 1 "_law_bounds" 1 m__law_bounds := xown_mk (k := 0) (n := 1) (N := ["_law_eyes", "_law_found", "_law_eye", "_law_most"]) (ps := ["_law_eyes"]) (b := b__law_bounds) F hb hm sc__law_bounds rfl fun cdv A outer s H E hr =>
  (xmss_cons (xms_set 1 sc__law_bounds.nd rfl (by first | exact Or.inl rfl | exact Or.inr rfl) (xme_lst xma_nil))
    (xmss_cons (xms_for PassesOwn.never rfl (xmi_seq (xme_tup (xma_cons (xme_tup (xma_cons xme_str (xma_cons xme_int xma_nil (st_Constant ..)) (st_Constant ..))) (xma_cons (xme_tup (xma_cons xme_str (xma_cons xme_int xma_nil (st_Constant ..)) (st_Constant ..))) (xma_cons (xme_tup (xma_cons xme_str (xma_cons xme_int xma_nil (st_Constant ..)) (st_Constant ..))) (xma_cons (xme_tup (xma_cons xme_str (xma_cons xme_int xma_nil (st_Constant ..)) (st_Constant ..))) xma_nil (st_Tuple ..)) (st_Tuple ..)) (st_Tuple ..)) (st_Tuple ..)))) (xmg_tup rfl (xmgs_cons (xmg_name 2 sc__law_bounds.nd rfl (by first | exact Or.inl rfl | exact Or.inr rfl)) (xmgs_cons (xmg_name 3 sc__law_bounds.nd rfl (by first | exact Or.inl rfl | exact Or.inr rfl)) xmgs_nil))) (xmss_one (xms_expr (xme_lmeth PySem.F.slot_list_append PySem.F.type_list_append t_app (xmv 1) (xma_cons (xme_if (xmt_cmp (o_in hr.units) (xmv 2) (xmv 0) (by with_unfolding_all rfl)) (xmv 3) xme_non) xma_nil (st_IfExp ..))))))
    (xmss_one (xms_ret (xmv 1)))))
abbrev s__law_right : Stmt := top 8
def p__law_right_1 : FS := (mSeq (mIfS (mAnd (mB (m2 (b2 gIsN) (mV 3) (mC D.non))) (mB (m2 (b2 gIsNotN) (mV 2) (mC D.non)))) (mRet (mC (D.bl false))) mNx)
    (mIfS (mAnd (mB (m2 (b2 gIsNotN) (mV 3) (mC D.non))) (mOr (mNot (mB (mIsT .int (mV 2)))) (mOr (mB (mIsT .bool (mV 2))) (mNot (mB (mCh (b2 (gCmp fun i j => decide (i ≤ j))) (b2 (gCmp fun i j => decide (i ≤ j))) (mC (D.int (0))) (mV 2) (mV 3))))))) (mRet (mC (D.bl false))) mNx))
def b__law_right : FS := (mSeq (mIfS (mOr (mNot (mB (mIsT .tuple (mV 0)))) (mB (m2 (b2 gNe) (mN (b1 gLen) (mCons (mV 0) mNil)) (mC (D.int (4)))))) (mRet (mC (D.bl false))) mNx)
    (mSeq (mFor (iZp (mCons (mV 0) (mCons (mV 1) mNil))) (gT 2 (gCs (gN 2) (gCs (gN 3) gNl))) p__law_right_1)
    (mRet (mC (D.bl true)))))
def m__law_right : FN := fnB 4 b__law_right
theorem sc__law_right : FnScope ["_law_sight", "_law_bounds_here", "_law_part", "_law_most"] ["_law_sight", "_law_bounds_here"] (defScope s__law_right) := ⟨rfl, rfl, rfl, by decide +kernel, rfl, by decide +kernel, by decide +kernel⟩
theorem ok__law_right {P : Program} {w : World} {K : PySem.W.Frag} {mg : Str → Option Value} {base : Heap} {f : Addr} {fd : FuncData} (F : Fun K "_law_right" "_law_right" s__law_right f fd) (hb : Binds K fd ["_law_sight", "_law_bounds_here"] []) (hm : mg "_law_right" = some (.ref f)) (B : Blt mg) :
    Own P w K mg base 1 "_law_right" 2 m__law_right := xown_mk (k := 0) (n := 2) (N := ["_law_sight", "_law_bounds_here", "_law_part", "_law_most"]) (ps := ["_law_sight", "_law_bounds_here"]) (b := b__law_right) F hb hm sc__law_right rfl fun cdv A outer s H E hr =>
  (xmss_cons (xms_if (xmt_w (xmw_or (xmt_not (xmt_val (xme_isinst .tuple rfl B.z_isinstance rfl B.z_tuple (by decide +kernel) (xmv 0)))) (xmw_or1 (xmt_cmp (o_ne hr.units) (xme_callB c_len rfl B.z_len (by decide +kernel) (xma_cons (xmv 0) xma_nil (st_Name ..))) xme_int (nomark _))))) (xmss_one (xms_ret xme_bl)) xmss_nil)
    (xmss_cons (xms_for PassesOwn.never rfl (xmi_zip rfl B.z_zip (xma_cons (xmv 0) (xma_cons (xmv 1) xma_nil (st_Name ..)) (st_Name ..))) (xmg_tup rfl (xmgs_cons (xmg_name 2 sc__law_right.nd rfl (by first | exact Or.inl rfl | exact Or.inr rfl)) (xmgs_cons (xmg_name 3 sc__law_right.nd rfl (by first | exact Or.inl rfl | exact Or.inr rfl)) xmgs_nil))) (xmss_cons (xms_if (xmt_w (xmw_and (xmt_cmp o_isN (xmv 3) xme_non (nomark _)) (xmw_and1 (xmt_cmp o_notN (xmv 2) xme_non (nomark _))))) (xmss_one (xms_ret xme_bl)) xmss_nil)
    (xmss_one (xms_if (xmt_w (xmw_and (xmt_cmp o_notN (xmv 3) xme_non (nomark _)) (xmw_and1 (xmt_w (xmw_or (xmt_not (xmt_val (xme_isinst .int rfl B.z_isinstance rfl B.z_int (by decide +kernel) (xmv 2)))) (xmw_or (xmt_val (xme_isinst .bool rfl B.z_isinstance rfl B.z_bool (by decide +kernel) (xmv 2))) (xmw_or1 (xmt_not (xmt_chain o_le o_le xme_int (xmv 2) (xmv 3)))))))))) (xmss_one (xms_ret xme_bl)) xmss_nil))))
    (xmss_one (xms_ret xme_bl))))
abbrev s__law_some_eyes : Stmt := top 6
def b__law_some_eyes : FS := (mRet (mN (b1 gTup) (mCons (fComp 1 [0] (iSeq (mTup (mCons (mC (D.str "came")) (mCons (mC (D.str "chalk")) (mCons (mC (D.str "doors")) (mCons (mC (D.str "others")) mNil)))))) (gN 0) (mB (m2 (b2 gEq) (mN (mCall 2 m__law_take) (mCons (mV 1) (mCons (mC (D.int (2))) mNil))) (mC (D.int (0))))) (fEmit (mV 0))) mNil)))
def m__law_some_eyes : FN := fnB 1 b__law_some_eyes
theorem sc__law_some_eyes : FnScope ["_law_hand_here"] ["_law_hand_here"] (defScope s__law_some_eyes) := ⟨rfl, rfl, rfl, by decide +kernel, rfl, by decide +kernel, by decide +kernel⟩
theorem ok__law_some_eyes {P : Program} {w : World} {K : PySem.W.Frag} {mg : Str → Option Value} {base : Heap} {f : Addr} {fd : FuncData} (F : Fun K "_law_some_eyes" "_law_some_eyes" s__law_some_eyes f fd) (hb : Binds K fd ["_law_hand_here"] []) (hm : mg "_law_some_eyes" = some (.ref f)) (B : Blt mg) (o__law_take : Own P w K mg base 1 "_law_take" 2 m__law_take) :
    Own P w K mg base 2 "_law_some_eyes" 1 m__law_some_eyes := xown_mk (k := 1) (n := 1) (N := ["_law_hand_here"]) (ps := ["_law_hand_here"]) (b := b__law_some_eyes) F hb hm sc__law_some_eyes rfl fun cdv A outer s H E hr =>
  (xmss_one (xms_ret (xme_callTy c_tuple rfl B.z_tuple (by decide +kernel) (xma_cons (xfe_comp1 rfl (T := ["_law_eye"]) (keep := [0]) ⟨rfl, by decide +kernel, (List.forall_mem_cons.mpr ⟨⟨_, rfl, rfl, (by first | exact Or.inl rfl | exact Or.inr rfl), by decide +kernel⟩, (List.forall_mem_nil _)⟩)⟩ rfl (xmi_seq (xme_tup (xma_cons xme_str (xma_cons xme_str (xma_cons xme_str (xma_cons xme_str xma_nil (st_Constant ..)) (st_Constant ..)) (st_Constant ..)) (st_Constant ..)))) (fun _ _ _ => ⟨(xmg_name 0 (show List.Nodup (["_law_eye", "_law_hand_here"] : List Str) by decide +kernel) rfl (by first | exact Or.inl rfl | exact Or.inr rfl)), (xmif_one (xmt_cmp (o_eq hr.units) (xme_own o__law_take hr (by decide) rfl (xma_cons (xmv 1) (xma_cons xme_int xma_nil (st_Constant ..)) (st_Name ..))) xme_int (nomark _))), (xmv 0)⟩)) xma_nil (st_ListComp ..)))))
abbrev s_law : Stmt := top 9
def p_law_1 : FS := (mAsg (m2 (b2 gMul) (mV 7) (mIf (mB (m2 (b2 gIsN) (mV 8) (mC D.non))) (mC (D.int (1))) (m2 (b2 gAdd) (mV 8) (mC (D.int (1)))))) (gN 7))
def p_law_2 : FS := (mSeq (mAsg (mN (mCall 2 m__law_hand) (mCons (mV 0) (mCons (mV 1) mNil))) (gN 2))
    (mSeq (mAsg (mN (mCall 1 m__law_some_eyes) (mCons (mV 2) mNil)) (gN 3))
    (mSeq (mAsg (mN (mCall 1 m__law_bounds) (mCons (mV 3) mNil)) (gN 4))
    (mSeq (mAsg (mN (mCall 1 m_sights) (mCons (mV 3) mNil)) (gN 5))
    (mSeq (mIfS (mOr (mNot (mB (mIsT .tuple (mV 5)))) (mNot (mB (mN (b1 gAll) (mCons (fComp 1 [4] (iSeq (mV 5)) (gN 0) mTrue (fEmit (mN (mCall 2 m__law_right) (mCons (mV 0) (mCons (mV 1) mNil))))) mNil))))) (mRet (mC (D.bl false))) mNx)
    (mSeq (mAsg (fComp 1 [] (iSeq (mV 5)) (gN 0) mTrue (fEmit (fComp 1 [] (iSeq (mV 0)) (gN 0) (mB (m2 (b2 gIsNotN) (mV 0) (mC D.non))) (fEmit (mV 0))))) (gN 6))
    (mSeq (mIfS (mNot (mB (mN (b1 gAll) (mCons (fComp 2 [] (iZp (mCons (mV 6) (mCons (mSl (mV 6) (oSome (mC (D.int (1)))) oNone) mNil))) (gT 2 (gCs (gN 0) (gCs (gN 1) gNl))) mTrue (fEmit (m2 (b2 gLt) (mV 0) (mV 1)))) mNil)))) (mRet (mC (D.bl false))) mNx)
    (mSeq (mAsg (mC (D.int (1))) (gN 7))
    (mSeq (mFor (iSeq (mV 4)) (gN 8) p_law_1)
    (mSeq (mIfS (mB (m2 (b2 gNe) (mN (b1 gLen) (mCons (mV 5) mNil)) (mV 7))) (mRet (mC (D.bl false))) mNx)
    (mSeq (mAsg (mN (b1 gTup) (mCons (fComp 1 [2] (iSeq (mV 4)) (gN 0) mTrue (fEmit (mIf (mB (m2 (b2 gIsN) (mV 0) (mC D.non))) (mC D.non) (mN (mCall 2 m__law_take) (mCons (mV 1) (mCons (m2 (b2 gAdd) (mV 0) (mC (D.int (1)))) mNil)))))) mNil)) (gN 9))
    (mIfS (mOr (mB (m2 (b2 gNotIn) (mV 9) (mV 5))) (mB (m2 (b2 gNe) (mN (mCall 1 m_sights) (mCons (mV 3) mNil)) (mV 5)))) (mRet (mC (D.bl false))) mNx))))))))))))
def p_law_3 : FS := (mPure [true, true, false, false, false, false, false, false, false, false] [true, false, false, false, false, false, false, false, false, false] p_law_2)
def b_law : FS := (mSeq (mFor (iR1 (mCons (mN (b2 gMax) (mCons (mC (D.int (1))) (mCons (mN (b2 gMin) (mCons (mC (D.int (12))) (mCons (mN (b1 gLen) (mCons (mV 0) mNil)) mNil))) mNil))) mNil)) (gN 1) p_law_3)
    (mRet (mC (D.bl true))))
def m_law : FN := fnB 10 b_law
theorem sc_law : FnScope ["_law_script", "_law_k", "_law_hand_here", "_law_eyes", "_law_bounds_here", "_law_found", "_law_parts", "_law_many", "_law_most", "_law_one"] ["_law_script"] (defScope s_law) := ⟨rfl, rfl, rfl, by decide +kernel, rfl, by decide +kernel, by decide +kernel⟩
theorem ok_law {P : Program} {w : World} {K : PySem.W.Frag} {mg : Str → Option Value} {base : Heap} {f : Addr} {fd : FuncData} (F : Fun K "law" "law" s_law f fd) (hb : Binds K fd ["_law_script"] []) (hm : mg "law" = some (.ref f)) (B : Blt mg) (o__law_bounds : Own P w K mg base 1 "_law_bounds" 1 m__law_bounds) (o__law_hand : Own P w K mg base 1 "_law_hand" 2 m__law_hand) (o__law_right : Own P w K mg base 1 "_law_right" 2 m__law_right) (o__law_some_eyes : Own P w K mg base 2 "_law_some_eyes" 1 m__law_some_eyes) (o__law_take : Own P w K mg base 1 "_law_take" 2 m__law_take) (o_sights : Own P w K mg base 1 "sights" 1 m_sights) :
    FnOk P w K mg base CX0 3 f fd ["_law_script"] (spM K 1 m_law) := xfn_mk (k := 2) (n := 1) (N := ["_law_script", "_law_k", "_law_hand_here", "_law_eyes", "_law_bounds_here", "_law_found", "_law_parts", "_law_many", "_law_most", "_law_one"]) (ps := ["_law_script"]) (b := b_law) F sc_law rfl fun cdv A outer s H E hr =>
  (xmss_cons (xms_for PassesOwn.never rfl (xmi_range1 rfl B.z_range (xma_cons (xme_callB (c_max rfl) rfl B.z_max (by decide +kernel) (xma_cons xme_int (xma_cons (xme_callB (c_min rfl) rfl B.z_min (by decide +kernel) (xma_cons xme_int (xma_cons (xme_callB c_len rfl B.z_len (by decide +kernel) (xma_cons (xmv 0) xma_nil (st_Name ..))) xma_nil (st_Call ..)) (st_Constant ..))) xma_nil (st_Call ..)) (st_Constant ..))) xma_nil (st_Call ..))) (xmg_name 1 sc_law.nd rfl (by first | exact Or.inl rfl | exact Or.inr rfl)) (xmss_pure [true, true, false, false, false, false, false, false, false, false] [true, false, false, false, false, false, false, false, false, false] (xmss_cons (xms_set 2 sc_law.nd rfl (by first | exact Or.inl rfl | exact Or.inr rfl) (xme_own o__law_hand hr (by decide) rfl (xma_cons (xmv 0) (xma_cons (xmv 1) xma_nil (st_Name ..)) (st_Name ..))))
    (xmss_cons (xms_set 3 sc_law.nd rfl (by first | exact Or.inl rfl | exact Or.inr rfl) (xme_own o__law_some_eyes hr (by decide) rfl (xma_cons (xmv 2) xma_nil (st_Name ..))))
    (xmss_cons (xms_set 4 sc_law.nd rfl (by first | exact Or.inl rfl | exact Or.inr rfl) (xme_own o__law_bounds hr (by decide) rfl (xma_cons (xmv 3) xma_nil (st_Name ..))))
    (xmss_cons (xms_set 5 sc_law.nd rfl (by first | exact Or.inl rfl | exact Or.inr rfl) (xme_own o_sights hr (by decide) rfl (xma_cons (xmv 3) xma_nil (st_Name ..))))
    (xmss_cons (xms_if (xmt_w (xmw_or (xmt_not (xmt_val (xme_isinst .tuple rfl B.z_isinstance rfl B.z_tuple (by decide +kernel) (xmv 5)))) (xmw_or1 (xmt_not (xmt_val (xme_callB (c_all rfl) rfl B.z_all (by decide +kernel) (xma_cons (xfe_comp1 rfl (T := ["_law_sight"]) (keep := [4]) ⟨rfl, by decide +kernel, (List.forall_mem_cons.mpr ⟨⟨_, rfl, rfl, (by first | exact Or.inl rfl | exact Or.inr rfl), by decide +kernel⟩, (List.forall_mem_nil _)⟩)⟩ rfl (xmi_seq (xmv 5)) (fun _ _ _ => ⟨(xmg_name 0 (show List.Nodup (["_law_sight", "_law_bounds_here"] : List Str) by decide +kernel) rfl (by first | exact Or.inl rfl | exact Or.inr rfl)), xmif_nil, (xme_own o__law_right hr (by decide) rfl (xma_cons (xmv 0) (xma_cons (xmv 1) xma_nil (st_Name ..)) (st_Name ..)))⟩)) xma_nil (st_ListComp ..)))))))) (xmss_one (xms_ret xme_bl)) xmss_nil)
    (xmss_cons (xfs_comp1 6 rfl (T := ["_law_sight"]) (keep := []) ⟨rfl, by decide +kernel, (List.forall_mem_nil _)⟩ rfl (xmi_seq (xmv 5)) (fun _ _ _ => ⟨(xmg_name 0 (show List.Nodup (["_law_sight"] : List Str) by decide +kernel) rfl (by first | exact Or.inl rfl | exact Or.inr rfl)), xmif_nil, (xfe_comp1 rfl (T := ["_law_part"]) (keep := []) ⟨rfl, by decide +kernel, (List.forall_mem_nil _)⟩ rfl (xmi_seq (xmv 0)) (fun _ _ _ => ⟨(xmg_name 0 (show List.Nodup (["_law_part"] : List Str) by decide +kernel) rfl (by first | exact Or.inl rfl | exact Or.inr rfl)), (xmif_one (xmt_cmp o_notN (xmv 0) xme_non (nomark _))), (xmv 0)⟩))⟩) sc_law.nd rfl (by first | exact Or.inl rfl | exact Or.inr rfl))
    (xmss_cons (xms_if (xmt_not (xmt_val (xme_callB (c_all rfl) rfl B.z_all (by decide +kernel) (xma_cons (xfe_comp1 rfl (T := ["_law_one", "_law_other"]) (keep := []) ⟨rfl, by decide +kernel, (List.forall_mem_nil _)⟩ rfl (xmi_zip rfl B.z_zip (xma_cons (xmv 6) (xma_cons (xme_slice (xmv 6) (xmo_some xme_int) xmo_none) xma_nil (st_Subscript ..)) (st_Name ..))) (fun _ _ _ => ⟨(xmg_tup rfl (xmgs_cons (xmg_name 0 (show List.Nodup (["_law_one", "_law_other"] : List Str) by decide +kernel) rfl (by first | exact Or.inl rfl | exact Or.inr rfl)) (xmgs_cons (xmg_name 1 (show List.Nodup (["_law_one", "_law_other"] : List Str) by decide +kernel) rfl (by first | exact Or.inl rfl | exact Or.inr rfl)) xmgs_nil))), xmif_nil, (xme_cmp (o_ltN hr.units) (xmv 0) (xmv 1) (nomark _))⟩)) xma_nil (st_ListComp ..))))) (xmss_one (xms_ret xme_bl)) xmss_nil)
    (xmss_cons (xms_set 7 sc_law.nd rfl (by first | exact Or.inl rfl | exact Or.inr rfl) xme_int)
    (xmss_cons (xms_for PassesOwn.never rfl (xmi_seq (xmv 4)) (xmg_name 8 sc_law.nd rfl (by first | exact Or.inl rfl | exact Or.inr rfl)) (xmss_one (xms_set 7 sc_law.nd rfl (by first | exact Or.inl rfl | exact Or.inr rfl) (xme_op o_mul (xmv 7) (xme_if (xmt_cmp o_isN (xmv 8) xme_non (nomark _)) xme_int (xme_op o_add (xmv 8) xme_int))))))
    (xmss_cons (xms_if (xmt_cmp (o_ne hr.units) (xme_callB c_len rfl B.z_len (by decide +kernel) (xma_cons (xmv 5) xma_nil (st_Name ..))) (xmv 7) (nomark _)) (xmss_one (xms_ret xme_bl)) xmss_nil)
    (xmss_cons (xms_set 9 sc_law.nd rfl (by first | exact Or.inl rfl | exact Or.inr rfl) (xme_callTy c_tuple rfl B.z_tuple (by decide +kernel) (xma_cons (xfe_comp1 rfl (T := ["_law_most"]) (keep := [2]) ⟨rfl, by decide +kernel, (List.forall_mem_cons.mpr ⟨⟨_, rfl, rfl, (by first | exact Or.inl rfl | exact Or.inr rfl), by decide +kernel⟩, (List.forall_mem_nil _)⟩)⟩ rfl (xmi_seq (xmv 4)) (fun _ _ _ => ⟨(xmg_name 0 (show List.Nodup (["_law_most", "_law_hand_here"] : List Str) by decide +kernel) rfl (by first | exact Or.inl rfl | exact Or.inr rfl)), xmif_nil, (xme_if (xmt_cmp o_isN (xmv 0) xme_non (nomark _)) xme_non (xme_own o__law_take hr (by decide) rfl (xma_cons (xmv 1) (xma_cons (xme_op o_add (xmv 0) xme_int) xma_nil (st_BinOp ..)) (st_Name ..))))⟩)) xma_nil (st_ListComp ..))))
    (xmss_one (xms_if (xmt_w (xmw_or (xmt_cmp (o_notIn hr.units) (xmv 9) (xmv 5) (by with_unfolding_all rfl)) (xmw_or1 (xmt_cmp (o_ne hr.units) (xme_own o_sights hr (by decide) rfl (xma_cons (xmv 3) xma_nil (st_Name ..))) (xmv 5) (nomark _))))) (xmss_one (xms_ret xme_bl)) xmss_nil)))))))))))))))
    (xmss_one (xms_ret xme_bl)))
theorem all_mk {l : PySem.W.OpenLaw} {w : World} {K : PySem.W.Frag} {h : Heap} {mg : Str → Option Value} {fa f1 f2 f3 f4 f5 f6 f7 : Addr} (X : K.In h) (G : h.Ns mainGlobals mg) (hfa : mg "law" = some (.ref fa))
    {oe1 oe2 oe3 oe4 oe5 oe6 oe7 an1 an2 an3 an4 an5 an6 an7 : Option Addr} {sn1 sn2 sn3 sn4 sn5 sn6 sn7 : Array (Option Value)} {oc1 oc2 oc3 oc4 oc5 oc6 oc7 kV1 kV2 kV3 kV4 kV5 kV6 kV7 dc1 dc2 dc3 dc4 dc5 dc6 dc7 pm1 pm2 pm3 pm4 pm5 pm6 pm7 cd1 cd2 cd3 cd4 cd5 cd6 cd7 ct1 ct2 ct3 ct4 ct5 ct6 ct7 : Value}
    {g1 g2 g5 g8 g11 : Addr}
    {t3 t4 t6 t7 t9 t10 t12 t13 : Tok}
    {od2 od5 od8 od11 od1 : Option Addr} {n2 n5 n8 n11 n1 : Nat} {sl2 sl5 sl8 sl11 sl1 : Array (Option Value)}
    (a1 : PySem.W.nsIn K mainGlobals "sights" = some (some (.ref f1)))
    (l1 : K.lookup f1 = some ⟨oc1, oe1, .func (PySem.W.fnOf "sights" "sights" (defArgs s_sights) (defBody s_sights) (defScope s_sights) .none kV1 dc1 pm1 an1 cd1 ct1), sn1⟩)
    (c1 : PySem.W.codeIn K cd1 "sights" = true)
    (k1 : PySem.W.keepIn K (.ref f1) = true)
    (a2 : PySem.W.nsIn K mainGlobals "_law_hand" = some (some (.ref f2)))
    (l2 : K.lookup f2 = some ⟨oc2, oe2, .func (PySem.W.fnOf "_law_hand" "_law_hand" (defArgs s__law_hand) (defBody s__law_hand) (defScope s__law_hand) .none kV2 dc2 pm2 an2 cd2 ct2), sn2⟩)
    (c2 : PySem.W.codeIn K cd2 "_law_hand" = true)
    (k2 : PySem.W.keepIn K (.ref f2) = true)
    (a3 : PySem.W.nsIn K mainGlobals "_law_take" = some (some (.ref f3)))
    (l3 : K.lookup f3 = some ⟨oc3, oe3, .func (PySem.W.fnOf "_law_take" "_law_take" (defArgs s__law_take) (defBody s__law_take) (defScope s__law_take) .none kV3 dc3 pm3 an3 cd3 ct3), sn3⟩)
    (c3 : PySem.W.codeIn K cd3 "_law_take" = true)
    (k3 : PySem.W.keepIn K (.ref f3) = true)
    (a4 : PySem.W.nsIn K mainGlobals "_law_bounds" = some (some (.ref f4)))
    (l4 : K.lookup f4 = some ⟨oc4, oe4, .func (PySem.W.fnOf "_law_bounds" "_law_bounds" (defArgs s__law_bounds) (defBody s__law_bounds) (defScope s__law_bounds) .none kV4 dc4 pm4 an4 cd4 ct4), sn4⟩)
    (c4 : PySem.W.codeIn K cd4 "_law_bounds" = true)
    (k4 : PySem.W.keepIn K (.ref f4) = true)
    (a5 : PySem.W.nsIn K mainGlobals "_law_right" = some (some (.ref f5)))
    (l5 : K.lookup f5 = some ⟨oc5, oe5, .func (PySem.W.fnOf "_law_right" "_law_right" (defArgs s__law_right) (defBody s__law_right) (defScope s__law_right) .none kV5 dc5 pm5 an5 cd5 ct5), sn5⟩)
    (c5 : PySem.W.codeIn K cd5 "_law_right" = true)
    (k5 : PySem.W.keepIn K (.ref f5) = true)
    (a6 : PySem.W.nsIn K mainGlobals "_law_some_eyes" = some (some (.ref f6)))
    (l6 : K.lookup f6 = some ⟨oc6, oe6, .func (PySem.W.fnOf "_law_some_eyes" "_law_some_eyes" (defArgs s__law_some_eyes) (defBody s__law_some_eyes) (defScope s__law_some_eyes) .none kV6 dc6 pm6 an6 cd6 ct6), sn6⟩)
    (c6 : PySem.W.codeIn K cd6 "_law_some_eyes" = true)
    (k6 : PySem.W.keepIn K (.ref f6) = true)
    (a7 : PySem.W.nsIn K mainGlobals "law" = some (some (.ref f7)))
    (l7 : K.lookup f7 = some ⟨oc7, oe7, .func (PySem.W.fnOf "law" "law" (defArgs s_law) (defBody s_law) (defScope s_law) .none kV7 dc7 pm7 an7 cd7 ct7), sn7⟩)
    (c7 : PySem.W.codeIn K cd7 "law" = true)
    (k7 : PySem.W.keepIn K (.ref f7) = true)
    (z_all : PySem.W.nsIn K mainGlobals "all" = some none)
    (z_bool : PySem.W.nsIn K mainGlobals "bool" = some none)
    (z_int : PySem.W.nsIn K mainGlobals "int" = some none)
    (z_isinstance : PySem.W.nsIn K mainGlobals "isinstance" = some none)
    (z_len : PySem.W.nsIn K mainGlobals "len" = some none)
    (z_list : PySem.W.nsIn K mainGlobals "list" = some none)
    (z_max : PySem.W.nsIn K mainGlobals "max" = some none)
    (z_min : PySem.W.nsIn K mainGlobals "min" = some none)
    (z_range : PySem.W.nsIn K mainGlobals "range" = some none)
    (z_tuple : PySem.W.nsIn K mainGlobals "tuple" = some none)
    (z_zip : PySem.W.nsIn K mainGlobals "zip" = some none)
    (e_PARTS : PySem.W.nsIn K mainGlobals "PARTS" = some (some (Value.ref g1)))
    (h1 : K.lookup g1 = some ⟨.type "tuple", od1, .seq ([(Value.ref g2), (Value.ref g5), (Value.ref g8), (Value.ref g11)] : List Value).toArray n1, sl1⟩)
    (h2 : K.lookup g2 = some ⟨.type "tuple", od2, .seq ([(Value.str "came" t3), (Value.int (5) t4)] : List Value).toArray n2, sl2⟩)
    (h5 : K.lookup g5 = some ⟨.type "tuple", od5, .seq ([(Value.str "chalk" t6), (Value.int (2) t7)] : List Value).toArray n5, sl5⟩)
    (h8 : K.lookup g8 = some ⟨.type "tuple", od8, .seq ([(Value.str "doors" t9), (Value.int (5) t10)] : List Value).toArray n8, sl8⟩)
    (h11 : K.lookup g11 = some ⟨.type "tuple", od11, .seq ([(Value.str "others" t12), (Value.int (2) t13)] : List Value).toArray n11, sl11⟩)
    : ∃ fd : FuncData, (∀ (s : Shared) (v : Value), BindsTo s fd ⟨[v], []⟩ [("_law_script", v)]) ∧ ∀ base : Heap, K.In base → base.Ns mainGlobals mg → FnOk l.prog w K mg base CX0 3 fa fd ["_law_script"] (spM K 1 m_law) := by
  have e := hfa.symm.trans (PySem.W.mg_of X G a7)
  cases e
  have B : Blt mg := ⟨PySem.W.mg_none_of X G z_all, PySem.W.mg_none_of X G z_bool, PySem.W.mg_none_of X G z_int, PySem.W.mg_none_of X G z_isinstance, PySem.W.mg_none_of X G z_len, PySem.W.mg_none_of X G z_list, PySem.W.mg_none_of X G z_max, PySem.W.mg_none_of X G z_min, PySem.W.mg_none_of X G z_range, PySem.W.mg_none_of X G z_tuple, PySem.W.mg_none_of X G z_zip⟩
  have c_PARTS : CGl K mg "PARTS" d_PARTS := cgl_mk (PySem.W.mg_of X G e_PARTS) (cv_tup h1 (by show 4 ≤ sizeLine; decide) (cvs_cons (cv_tup h2 (by show 2 ≤ sizeLine; decide) (cvs_cons cv_str (cvs_cons cv_int cvs_nil))) (cvs_cons (cv_tup h5 (by show 2 ≤ sizeLine; decide) (cvs_cons cv_str (cvs_cons cv_int cvs_nil))) (cvs_cons (cv_tup h8 (by show 2 ≤ sizeLine; decide) (cvs_cons cv_str (cvs_cons cv_int cvs_nil))) (cvs_cons (cv_tup h11 (by show 2 ≤ sizeLine; decide) (cvs_cons cv_str (cvs_cons cv_int cvs_nil))) cvs_nil)))))
  have F1 := fun_mk (st := s_sights) l1 c1 k1
  have b1 := F1.binds (ps := ["eyes"]) fun _ _ _ _ _ _ us hl => match us, hl with | [_], _ => rfl
  have F2 := fun_mk (st := s__law_hand) l2 c2 k2
  have b2 := F2.binds (ps := ["_law_script", "_law_k"]) fun _ _ _ _ _ _ us hl => match us, hl with | [_, _], _ => rfl
  have F3 := fun_mk (st := s__law_take) l3 c3 k3
  have b3 := F3.binds (ps := ["_law_hand_here", "_law_many"]) fun _ _ _ _ _ _ us hl => match us, hl with | [_, _], _ => rfl
  have F4 := fun_mk (st := s__law_bounds) l4 c4 k4
  have b4 := F4.binds (ps := ["_law_eyes"]) fun _ _ _ _ _ _ us hl => match us, hl with | [_], _ => rfl
  have F5 := fun_mk (st := s__law_right) l5 c5 k5
  have b5 := F5.binds (ps := ["_law_sight", "_law_bounds_here"]) fun _ _ _ _ _ _ us hl => match us, hl with | [_, _], _ => rfl
  have F6 := fun_mk (st := s__law_some_eyes) l6 c6 k6
  have b6 := F6.binds (ps := ["_law_hand_here"]) fun _ _ _ _ _ _ us hl => match us, hl with | [_], _ => rfl
  have F7 := fun_mk (st := s_law) l7 c7 k7
  have b7 := F7.binds (ps := ["_law_script"]) fun _ _ _ _ _ _ us hl => match us, hl with | [_], _ => rfl
  refine ⟨PySem.W.fnOf "law" "law" (defArgs s_law) (defBody s_law) (defScope s_law) .none kV7 dc7 pm7 an7 cd7 ct7, fun s v => .of_eq rfl, fun base _ _ => ?_⟩
  have o_sights := ok_sights (P := l.prog) (w := w) (base := base) F1 b1 (PySem.W.mg_of X G a1) B c_PARTS
  have o__law_hand := ok__law_hand (P := l.prog) (w := w) (base := base) F2 b2 (PySem.W.mg_of X G a2) B
  have o__law_take := ok__law_take (P := l.prog) (w := w) (base := base) F3 b3 (PySem.W.mg_of X G a3) B
  have o__law_bounds := ok__law_bounds (P := l.prog) (w := w) (base := base) F4 b4 (PySem.W.mg_of X G a4) B
  have o__law_right := ok__law_right (P := l.prog) (w := w) (base := base) F5 b5 (PySem.W.mg_of X G a5) B
  have o__law_some_eyes := ok__law_some_eyes (P := l.prog) (w := w) (base := base) F6 b6 (PySem.W.mg_of X G a6) B o__law_take
  have o_law := ok_law (P := l.prog) (w := w) (base := base) F7 b7 (PySem.W.mg_of X G a7) B o__law_bounds o__law_hand o__law_right o__law_some_eyes o__law_take o_sights
  exact o_law
end Law

end
section
set_option Elab.async false
set_option linter.all false
set_option maxRecDepth 100000
set_option maxHeartbeats 2000000
namespace Law
open PySem PySem.Spec PyProof.Rows L2 Mi
/-! ### the hand -/
def hnd (g m c : Int) : Ob := .lst [.int g, .int m, .int c]
def mix1 (m c : Int) : Int := (m + 65537 * c * c + 11) * 48271 % 2305843009213693921
def mix2 (m c : Int) : Int := mix1 m c * (mix1 m c % 1000003 + 99991 * c) % 2305843009213693907
theorem atI0 {a b c : D} : atI [a, b, c] 0 = some a := by rfl
theorem atI1 {a b c : D} : atI [a, b, c] 1 = some b := by rfl
theorem atI2 {a b c : D} : atI [a, b, c] 2 = some c := by rfl
theorem take_a {S : Sto} {n : Nat} {g m c k : Int} (h : S[n]? = some (hnd g m c)) (hg : 0 < g) (hk : 0 < k) (hk2 : k < 1073741824) :
    m__law_take [.ref n, .int k] S = some (.int (g % k), S.set n (hnd (g / k) m c)) := by
  have hn : n < S.length := (List.getElem?_eq_some_iff.mp h).1
  simp [m__law_take, fnB, startD, b__law_take, mSeq, mIfS, mB, m2, b2, gCmp, mV, mC, gIx, seqOf, h, hnd, hg, hk, hk2, mAsg, gN, gMod, gDiv, gS, b3, gSetIx, mRet, atI0, ixN]
theorem take_b {S : Sto} {n : Nat} {g m c k : Int} (h : S[n]? = some (hnd g m c)) (hg : ¬ 0 < g) (hk : 0 < k) (hk2 : k < 1073741824) (hc : 0 ≤ c) (hc2 : c < 2 ^ 60) :
    m__law_take [.ref n, .int k] S = some (.int ((mix2 m (c + 1) / 97 + mix2 m (c + 1) / 1000033) % k), S.set n (hnd g m (c + 1))) := by
  have hn : n < S.length := (List.getElem?_eq_some_iff.mp h).1
  have e : ∀ x, (S.set n x)[n]? = some x := fun x => by simp [hn]
  have f1 : mulFits 65537 (c + 1) = true := mulF1 (by decide) (by decide)
  have f2 : mulFits (65537 * (c + 1)) (c + 1) = true := mulF2 (by omega) (by omega)
  have f3 : mulFits (m + 65537 * (c + 1) * (c + 1) + 11) 48271 = true := mulF2 (by decide) (by decide)
  have f4 : mulFits 99991 (c + 1) = true := mulF1 (by decide) (by decide)
  have q := Int.emod_lt_of_pos ((m + 65537 * (c + 1) * (c + 1) + 11) * 48271) (show (0 : Int) < 2305843009213693921 by decide)
  have q' := Int.emod_nonneg ((m + 65537 * (c + 1) * (c + 1) + 11) * 48271) (show (2305843009213693921 : Int) ≠ 0 by decide)
  have f5 : mulFits ((m + 65537 * (c + 1) * (c + 1) + 11) * 48271 % 2305843009213693921) ((m + 65537 * (c + 1) * (c + 1) + 11) * 48271 % 2305843009213693921 % 1000003 + 99991 * (c + 1)) = true := mulF1 (by omega) (by omega)
  simp [m__law_take, fnB, startD, b__law_take, mSeq, mIfS, mB, m2, b2, gCmp, mV, mC, gIx, seqOf, h, hnd, hg, hk, hk2, mAsg, gN, gMod, gDiv, gS, b3, gSetIx, mRet, atI0, atI1, atI2, ixN, mNx, gAdd, gMul, f1, f2, f3, f4, f5, e, mix1, mix2]
/-- a draw: some number below many, the hand goes on -/
theorem take_ok {S : Sto} {n : Nat} {g m c k : Int} (h : S[n]? = some (hnd g m c)) (hk : 0 < k) (hk2 : k < 1073741824) (hc : 0 ≤ c) (hc2 : c < 2 ^ 60) :
    ∃ d g' c', mCall 2 m__law_take [.ref n, .int k] S = some (.int d, S.set n (hnd g' m c')) ∧ 0 ≤ d ∧ d < k ∧ 0 ≤ c' ∧ c' ≤ c + 1 := by
  have call : ∀ d o, m__law_take [.ref n, .int k] S = some (d, S.set n o) → mCall 2 m__law_take [.ref n, .int k] S = some (d, S.set n o) := fun d o e => call_same e rfl (by simp [D.unds, D.und]) (by rw [List.length_set])
  by_cases hg : 0 < g
  · exact ⟨_, _, _, call _ _ (take_a h hg hk hk2), Int.emod_nonneg _ (by omega), Int.emod_lt_of_pos _ hk, hc, by omega⟩
  · exact ⟨_, _, _, call _ _ (take_b h hg hk hk2 hc hc2), Int.emod_nonneg _ (by omega), Int.emod_lt_of_pos _ hk, by omega, by omega⟩
theorem hand_ok (ns : List Int) (k : Int) (h0 : 0 ≤ k) (hk : k < 63) : ∃ g m, mCall 2 m__law_hand [.rol (ns.map D.int), .int k] [] = some (.ref 0, [hnd g m 0]) := by
  have key : ∃ g m, m__law_hand [.rol (ns.map D.int), .int k] [] = some (.ref 0, [hnd g m 0]) := by
    have f0 : mulFits (10 ^ 60) (10 ^ 30) = true := by decide +kernel
    have f1 : mulFits 7919 k = true := mulF1 (by decide) (by decide)
    have f2 : ∀ x : Int, mulFits x 1 = true := fun x => mulF2 (by decide) (by decide)
    have f3 : ∀ x : Int, mulFits x 0 = true := fun x => mulF2 (by decide) (by decide)
    have lt : gLt (.int k) (.int ns.length) [] = some (.bl (decide (k < ns.length)), []) := by rfl
    by_cases hl : k < ns.length
    · have hat : atI (ns.map D.int) k = some (.int (ns[k.toNat]'(by omega))) := by
        unfold atI ixN
        rw [if_pos h0, if_pos (by simpa using hl)]
        simp [show k.toNat < ns.length by omega]
      generalize hx : ns[k.toNat]'(by omega) = x at hat
      by_cases hb : (10 : Int) ^ 18 ≤ x
      · have hb' : (1000000000000000000 : Int) ≤ x := by simpa using hb
        simp [m__law_hand, fnB, startD, b__law_hand, mSeq, mIfS, mB, m2, b2, b1, mN, mCons, mNil, gCmp, mV, mC, gIx, gLen, seqOf, mAsg, gN, gMod, gMul, gAdd, gPow, gInt, mRet, mLst, lt, hl, hat, f1, f2, f3, hb', sizeLine, hnd, mNx]
        simp [show mulFits 1000000000000000000000000000000000000000000000000000000000000 1000000000000000000000000000000 = true from f0, f1, f2, f3]
      · have hb' : ¬ (1000000000000000000 : Int) ≤ x := by simpa using hb
        simp [m__law_hand, fnB, startD, b__law_hand, mSeq, mIfS, mB, m2, b2, b1, mN, mCons, mNil, gCmp, mV, mC, gIx, gLen, seqOf, mAsg, gN, gMod, gMul, gAdd, gPow, gInt, mRet, mLst, lt, hl, hat, f1, f2, f3, hb', sizeLine, hnd, mNx]
        simp [show mulFits 1000000000000000000000000000000000000000000000000000000000000 1000000000000000000000000000000 = true from f0, f1, f2, f3]
    · simp [m__law_hand, fnB, startD, b__law_hand, mSeq, mIfS, mB, m2, b2, b1, mN, mCons, mNil, gCmp, mV, mC, gIx, gLen, seqOf, mAsg, gN, gMod, gMul, gAdd, gPow, gInt, mRet, mLst, lt, hl, f1, f2, f3, sizeLine, hnd, mNx]
      simp [show mulFits 1000000000000000000000000000000000000000000000000000000000000 1000000000000000000000000000000 = true from f0, f1, f2, f3]
  obtain ⟨g, m, e⟩ := key
  refine ⟨g, m, ?_⟩
  rw [call_new (n := 2) e rfl (by rw [D.unds, D.und, unds_ints]; rfl) (by simp [D.und])]
  simp [D.sh, Ob.sh, D.shs, hnd]
/-! ### eyes, bounds, sights -/
def eyesD (a b c d : Bool) : D := .tup ((if a then [.str "came"] else []) ++ (if b then [.str "chalk"] else []) ++ (if c then [.str "doors"] else []) ++ (if d then [.str "others"] else []))
def bsOf (a b c d : Bool) : List D := [if a then .int 4 else .non, if b then .int 1 else .non, if c then .int 4 else .non, if d then .int 1 else .non]
def partsOf : D → List D
  | .int m => nums 0 (m.toNat + 1)
  | _ => [.non]
def combos : List D → List D
  | [b1, b2, b3, b4] => (partsOf b1).flatMap fun x1 => (partsOf b2).flatMap fun x2 => (partsOf b3).flatMap fun x3 => (partsOf b4).map fun x4 => .tup [x1, x2, x3, x4]
  | _ => []
theorem eyes_und (a b c d : Bool) : (eyesD a b c d).und 0 = true := by cases a <;> cases b <;> cases c <;> cases d <;> rfl
theorem bounds_ok (a b c d : Bool) : m__law_bounds [eyesD a b c d] [] = some (.ref 0, [.lst (bsOf a b c d)]) := by
  have q : ∀ a b c d : Bool, (match m__law_bounds [eyesD a b c d] [] with | some (.ref 0, [.lst xs]) => D.sames xs (bsOf a b c d) | _ => false) = true := by decide +kernel
  have := q a b c d
  split at this
  · rename_i xs e; rw [e, D.sames_eq this]
  · cases this
theorem sights_ok (a b c d : Bool) : ∃ S, m_sights [eyesD a b c d] [] = some (.tup (combos (bsOf a b c d)), S) := by
  have q : ∀ a b c d : Bool, (match m_sights [eyesD a b c d] [] with | some (.tup xs, _) => D.sames xs (combos (bsOf a b c d)) | _ => false) = true := by decide +kernel
  have := q a b c d
  split at this
  · rename_i xs S e; exact ⟨S, by rw [e, D.sames_eq this]⟩
  · cases this
/-- the eyes are drawn -/
theorem eyes_ok {g m c : Int} (hc : 0 ≤ c) (hc2 : c < 1000) : ∃ a1 a2 a3 a4 g' c', mCall 1 m__law_some_eyes [.ref 0] [hnd g m c] = some (eyesD a1 a2 a3 a4, [hnd g' m c']) ∧ 0 ≤ c' ∧ c' ≤ c + 4 := by
  obtain ⟨d1, g1, c1, e1, h11, h12, h13, h14⟩ := take_ok (S := [hnd g m c]) (n := 0) (k := 2) rfl (by decide) (by decide) hc (by omega)
  obtain ⟨d2, g2, c2, e2, h21, h22, h23, h24⟩ := take_ok (S := [hnd g1 m c1]) (n := 0) (k := 2) rfl (by decide) (by decide) h13 (by omega)
  obtain ⟨d3, g3, c3, e3, h31, h32, h33, h34⟩ := take_ok (S := [hnd g2 m c2]) (n := 0) (k := 2) rfl (by decide) (by decide) h23 (by omega)
  obtain ⟨d4, g4, c4, e4, h41, h42, h43, h44⟩ := take_ok (S := [hnd g3 m c3]) (n := 0) (k := 2) rfl (by decide) (by decide) h33 (by omega)
  simp only [List.set_cons_zero] at e1 e2 e3 e4
  have eq0 : ∀ (x : Int) (S : Sto), gEq (.int x) (.int 0) S = some (.bl (x == 0), S) := fun x S => by rfl
  have key : m__law_some_eyes [.ref 0] [hnd g m c] = some (eyesD (d1 == 0) (d2 == 0) (d3 == 0) (d4 == 0), [hnd g4 m c4, .lst ((if d1 == 0 then [.str "came"] else []) ++ (if d2 == 0 then [.str "chalk"] else []) ++ (if d3 == 0 then [.str "doors"] else []) ++ (if d4 == 0 then [.str "others"] else []))]) := by
    by_cases z1 : d1 = 0 <;> by_cases z2 : d2 = 0 <;> by_cases z3 : d3 = 0 <;> by_cases z4 : d4 = 0 <;>
    simp [m__law_some_eyes, fnB, startD, b__law_some_eyes, mRet, mN, b1, mCons, mNil, fComp, iSeq, mTup, mC, seqOf, chkOf, loopF, okC, gN, mB, m2, b2, mV, inEv, e1, e2, e3, e4, eq0, fEmit, sizeLine, Mi.gTup, eyesD, z1, z2, z3, z4]
  refine ⟨d1 == 0, d2 == 0, d3 == 0, d4 == 0, g4, c4, ?_, h43, by omega⟩
  rw [call_open (n := 1) key rfl (by simp [D.unds, D.und])]
  have u := eyes_und (d1 == 0) (d2 == 0) (d3 == 0) (d4 == 0)
  have u1 : (eyesD (d1 == 0) (d2 == 0) (d3 == 0) (d4 == 0)).und 1 = true := by
    cases (d1 == 0) <;> cases (d2 == 0) <;> cases (d3 == 0) <;> cases (d4 == 0) <;> rfl
  simp [gc, u1, Ob.und, hnd, D.unds, D.und]
end Law

end
section
set_option Elab.async false
set_option linter.all false
set_option maxRecDepth 100000
set_option maxHeartbeats 2000000
namespace Law
open PySem PySem.Spec PyProof.Rows L2 Mi
/-! ### what stands in a sight -/
inductive Bd : D → Prop
  | non : Bd .non
  | int {m : Int} (h0 : 0 ≤ m) (h1 : m ≤ 4) : Bd (.int m)
inductive Good : D → D → Prop
  | non : Good .non .non
  | int {m v : Int} (h0 : 0 ≤ v) (h1 : v ≤ m) : Good (.int m) (.int v)
theorem bsOf_bd (a b c d : Bool) : ∀ x ∈ bsOf a b c d, Bd x := by
  intro x hx
  simp only [bsOf, List.mem_cons, List.not_mem_nil, or_false] at hx
  rcases hx with h | h | h | h <;> subst h
  · cases a; exact .non; exact .int (by decide) (by decide)
  · cases b; exact .non; exact .int (by decide) (by decide)
  · cases c; exact .non; exact .int (by decide) (by decide)
  · cases d; exact .non; exact .int (by decide) (by decide)
theorem parts_good {b x : D} (hb : Bd b) : x ∈ partsOf b ↔ Good b x := by
  cases hb with
  | non => simp only [partsOf, List.mem_singleton]; exact ⟨fun h => h ▸ .non, fun h => by cases h; rfl⟩
  | int h0 h1 =>
    rename_i m
    simp only [partsOf]
    constructor
    · intro h
      obtain ⟨k, e, k0, k1⟩ := mem_nums h
      subst e
      exact .int k0 (by omega)
    · intro h
      cases h with
      | int v0 v1 =>
        rename_i v
        have : ∀ (n : Nat) (lo k : Int), lo ≤ k → k < lo + n → D.int k ∈ nums lo n := by
          intro n
          induction n with
          | zero => intro lo k h1 h2; omega
          | succ n ih =>
            intro lo k h1 h2
            rw [nums]
            by_cases hk : k = lo
            · rw [hk]; exact List.mem_cons_self
            · exact List.mem_cons_of_mem _ (ih (lo + 1) k (by omega) (by push_cast at h2; omega))
        exact this _ 0 v (by omega) (by omega)
theorem mem_combos {b1 b2 b3 b4 x : D} (h1 : Bd b1) (h2 : Bd b2) (h3 : Bd b3) (h4 : Bd b4) : x ∈ combos [b1, b2, b3, b4] ↔ ∃ x1 x2 x3 x4, x = .tup [x1, x2, x3, x4] ∧ Good b1 x1 ∧ Good b2 x2 ∧ Good b3 x3 ∧ Good b4 x4 := by
  simp only [combos, List.mem_flatMap, List.mem_map]
  constructor
  · rintro ⟨x1, g1, x2, g2, x3, g3, x4, g4, e⟩
    exact ⟨x1, x2, x3, x4, e.symm, (parts_good h1).mp g1, (parts_good h2).mp g2, (parts_good h3).mp g3, (parts_good h4).mp g4⟩
  · rintro ⟨x1, x2, x3, x4, e, g1, g2, g3, g4⟩
    exact ⟨x1, (parts_good h1).mpr g1, x2, (parts_good h2).mpr g2, x3, (parts_good h3).mpr g3, x4, (parts_good h4).mpr g4, e.symm⟩
/-! ### a sight is right -/
theorem right_step {b x o1 o2 : D} {S : Sto} (h : Good b x) : p__law_right_1 [some o1, some o2, some x, some b] S = some (.nx, [some o1, some o2, some x, some b], S) := by
  cases h with
  | non => simp [p__law_right_1, mSeq, mIfS, mAnd, mB, m2, b2, gIsN, gIsNotN, isNon, mV, mC, mRet, mNx]
  | int h0 h1 => simp [p__law_right_1, mSeq, mIfS, mAnd, mOr, mNot, mB, m2, b2, gIsN, gIsNotN, isNon, mV, mC, mRet, mNx, mIsT, isTy, mCh, gCmp, h0, h1]
theorem right_ok {S : Sto} {n : Nat} {u1 u2 u3 u4 x1 x2 x3 x4 : D} (hs : S[n]? = some (.lst [u1, u2, u3, u4])) (h1 : Good u1 x1) (h2 : Good u2 x2) (h3 : Good u3 x3) (h4 : Good u4 x4) :
    mCall 2 m__law_right [.tup [x1, x2, x3, x4], .ref n] S = some (.bl true, S) := by
  have ok := okC_one hs
  have ne : gNe (.int 4) (.int 4) S = some (.bl false, S) := by rfl
  refine call_same (n := 2) ?_ rfl (by simp [D.unds, D.und]) rfl
  simp [m__law_right, fnB, startD, b__law_right, mSeq, mIfS, mOr, mNot, mB, mIsT, isTy, mV, m2, b2, b1, mN, mCons, mNil, gLen, seqOf, mC, ne, mNx, mFor, iZp, hs, zpD, chkOf, loopM, ok, gT, gCs, gN, gNl, right_step h1, right_step h2, right_step h3, right_step h4, mRet]
/-! ### the order of sights -/
def strip : D → List D
  | .tup ps => ps.filter fun p => !isNon p
  | _ => []
def chain : List (List D) → Bool
  | x :: y :: r => (match ltL (eqN [] 59) (ltN [] 59) x y with | some true => true | _ => false) && chain (y :: r)
  | _ => true
theorem chain_ok (a b c d : Bool) : chain ((combos (bsOf a b c d)).map strip) = true := by
  have q : ∀ a b c d : Bool, chain ((combos (bsOf a b c d)).map strip) = true := by decide +kernel
  exact q a b c d
def wt : D → Int
  | .int m => m + 1
  | _ => 1
def fw : Int → List D → Int
  | k, [] => k
  | k, x :: xs => fw (k * wt x) xs
theorem many_ok (a b c d : Bool) : ((combos (bsOf a b c d)).length : Int) = fw 1 (bsOf a b c d) := by
  cases a <;> cases b <;> cases c <;> cases d <;> decide +kernel
theorem many_step {k : Int} {x : D} {o0 o1 o2 o3 o4 o5 o6 o9 : Option D} {S : Sto} (h : Bd x) : p_law_1 [o0, o1, o2, o3, o4, o5, o6, some (.int k), some x, o9] S = some (.nx, [o0, o1, o2, o3, o4, o5, o6, some (.int (k * wt x)), some x, o9], S) := by
  cases h with
  | non =>
    have f : mulFits k 1 = true := mulF2 (by decide) (by decide)
    simp [p_law_1, mAsg, m2, b2, mIf, mB, gIsN, isNon, mV, mC, gMul, f, gN, wt]
  | int h0 h1 =>
    rename_i m
    have f : mulFits k (m + 1) = true := mulF2 (by omega) (by omega)
    simp [p_law_1, mAsg, m2, b2, mIf, mB, gIsN, isNon, mV, mC, gMul, f, gN, wt, gAdd]
theorem many_loop {bs : List D} {S : Sto} {n : Nat} (hs : S[n]? = some (.lst bs)) {o0 o1 o2 o3 o4 o5 o6 o9 : Option D} : ∀ (l : List D) (k : Int) (o8 : Option D), (∀ x ∈ l, Bd x) →
    ∃ o8', loopM [(n, bs)] (gN 8) p_law_1 l [o0, o1, o2, o3, o4, o5, o6, some (.int k), o8, o9] S = some (.nx, [o0, o1, o2, o3, o4, o5, o6, some (.int (fw k l)), o8', o9], S)
  | [], k, o8, _ => ⟨o8, by rw [loopM]; simp [okC_one hs, fw]⟩
  | x :: l, k, o8, h => by
    obtain ⟨o8', e⟩ := many_loop (o0 := o0) (o1 := o1) (o2 := o2) (o3 := o3) (o4 := o4) (o5 := o5) (o6 := o6) (o9 := o9) hs l (k * wt x) (some x) fun y hy => h y (List.mem_cons_of_mem _ hy)
    refine ⟨o8', ?_⟩
    rw [loopM]
    simp [okC_one hs, gN, many_step (h x List.mem_cons_self), fw, e]
/-! ### a sight is drawn -/
inductive Goods : List D → List D → Prop
  | nil : Goods [] []
  | cons {b x : D} {bs xs : List D} (h : Good b x) (t : Goods bs xs) : Goods (b :: bs) (x :: xs)
theorem draw_loop {e : FE} (he : e = (mIf (mB (m2 (b2 gIsN) (mV 0) (mC D.non))) (mC D.non) (mN (mCall 2 m__law_take) (mCons (mV 1) (mCons (m2 (b2 gAdd) (mV 0) (mC (D.int (1)))) mNil))))) {bs : List D} {m : Int} : ∀ (l : List D) (S : Sto) (g c : Int) (o : Option D), S[0]? = some (hnd g m c) → S[1]? = some (.lst bs) → 0 ≤ c → c + l.length < 2000 → (∀ x ∈ l, Bd x) →
    ∃ xs g' c' r', loopF [(1, bs)] (gN 0) mTrue (fEmit e) l [o, some (.ref 0)] S = some (xs, r', S.set 0 (hnd g' m c')) ∧ Goods l xs
  | [], S, g, c, o, h0, h1, hc, hc2, _ => ⟨[], g, c, [o, some (.ref 0)], by
      rw [loopF]
      have : S.set 0 (hnd g m c) = S := by
        obtain ⟨hl, hx⟩ := List.getElem?_eq_some_iff.mp h0
        rw [← hx]; exact List.set_getElem_self hl
      simp [okC_one h1, this], .nil⟩
  | x :: l, S, g, c, o, h0, h1, hc, hc2, hb => by
    have hl : 0 < S.length := (List.getElem?_eq_some_iff.mp h0).1
    cases hb x List.mem_cons_self with
    | non =>
      obtain ⟨xs, g', c', r', q, qs⟩ := draw_loop he l S g c (some .non) h0 h1 hc (by simp at hc2; omega) fun y hy => hb y (List.mem_cons_of_mem _ hy)
      refine ⟨.non :: xs, g', c', r', ?_, .cons .non qs⟩
      rw [loopF]
      subst he
      simp [okC_one h1, gN, mTrue, fEmit, mIf, mB, m2, b2, gIsN, isNon, mV, mC]
      simp [q]
    | int z0 z1 =>
      rename_i w
      obtain ⟨d, g1, c1, e1, d0, d1, p0, p1⟩ := take_ok (k := w + 1) h0 (by omega) (by omega) hc (by simp at hc2; omega)
      have h0' : (S.set 0 (hnd g1 m c1))[0]? = some (hnd g1 m c1) := by simp [hl]
      have h1' : (S.set 0 (hnd g1 m c1))[1]? = some (.lst bs) := by rw [List.getElem?_set_ne (by decide)]; exact h1
      obtain ⟨xs, g', c', r', q, qs⟩ := draw_loop he l _ g1 c1 (some (.int w)) h0' h1' p0 (by simp at hc2; omega) fun y hy => hb y (List.mem_cons_of_mem _ hy)
      refine ⟨.int d :: xs, g', c', r', ?_, .cons (.int d0 (by omega)) qs⟩
      rw [List.set_set] at q
      rw [loopF]
      subst he
      simp [okC_one h1, gN, mTrue, fEmit, mIf, mB, m2, b2, gIsN, isNon, mV, mC, mN, mCons, mNil, gAdd, e1]
      simp [q]
end Law

end
section
set_option Elab.async false
set_option linter.all false
set_option maxRecDepth 100000
set_option maxHeartbeats 2000000
namespace Law
open PySem PySem.Spec PyProof.Rows L2 Mi
/-! ### equality of sights -/
theorem eq_flat {b b' x y : D} {n : Nat} (h : Good b x) (h' : Good b' y) : ∃ t, eqN [] (n + 1) x y = some t := by
  cases h <;> cases h' <;> exact ⟨_, rfl⟩
theorem eq_flat_self {b x : D} {n : Nat} (h : Good b x) : eqN [] (n + 1) x x = some true := by
  cases h
  · rfl
  · rename_i m v h0 h1
    show some (v == v) = some true
    simp
theorem good_und {b x : D} (h : Good b x) : x.und 0 = true := by cases h <;> rfl
theorem eq_sight {b1 b2 b3 b4 x1 x2 x3 x4 y1 y2 y3 y4 : D} (g1 : Good b1 x1) (g2 : Good b2 x2) (g3 : Good b3 x3) (g4 : Good b4 x4) (k1 : Good b1 y1) (k2 : Good b2 y2) (k3 : Good b3 y3) (k4 : Good b4 y4) {n : Nat} :
    ∃ t, eqN [] (n + 2) (.tup [x1, x2, x3, x4]) (.tup [y1, y2, y3, y4]) = some t := by
  obtain ⟨t1, e1⟩ := eq_flat (n := n) g1 k1
  obtain ⟨t2, e2⟩ := eq_flat (n := n) g2 k2
  obtain ⟨t3, e3⟩ := eq_flat (n := n) g3 k3
  obtain ⟨t4, e4⟩ := eq_flat (n := n) g4 k4
  exact ⟨_, by rw [eqN]; simp [seqOf, eqL, e1, e2, e3, e4]; rfl⟩
theorem eq_sight_self {b1 b2 b3 b4 x1 x2 x3 x4 : D} (g1 : Good b1 x1) (g2 : Good b2 x2) (g3 : Good b3 x3) (g4 : Good b4 x4) {n : Nat} : eqN [] (n + 2) (.tup [x1, x2, x3, x4]) (.tup [x1, x2, x3, x4]) = some true := by
  rw [eqN]; simp [seqOf, eqL, eq_flat_self g1, eq_flat_self g2, eq_flat_self g3, eq_flat_self g4]
theorem inL_true {f : D → D → Option Bool} {x : D} : ∀ {ys : List D}, (∀ y ∈ ys, ∃ t, f y x = some t) → x ∈ ys → f x x = some true → inL f x ys = some true
  | y :: ys, h, hx, hr => by
    obtain ⟨t, e⟩ := h y List.mem_cons_self
    have some_rest : ∀ {zs : List D}, (∀ y ∈ zs, ∃ t, f y x = some t) → ∃ t, inL f x zs = some t := by
      intro zs
      induction zs with
      | nil => intro _; exact ⟨_, rfl⟩
      | cons z zs ih =>
        intro hz
        obtain ⟨t1, q1⟩ := hz z List.mem_cons_self
        obtain ⟨t2, q2⟩ := ih fun y hy => hz y (List.mem_cons_of_mem _ hy)
        exact ⟨_, by rw [inL, q1, q2]; rfl⟩
    rcases List.mem_cons.mp hx with q | q
    · subst q
      obtain ⟨t2, q2⟩ := some_rest fun y hy => h y (List.mem_cons_of_mem _ hy)
      rw [inL, hr, q2]; simp
    · rw [inL, e, inL_true (fun z hz => h z (List.mem_cons_of_mem _ hz)) q hr]; simp
theorem eqL_self {f : D → D → Option Bool} : ∀ {xs : List D}, (∀ x ∈ xs, f x x = some true) → eqL f xs xs = some true
  | [], _ => rfl
  | x :: xs, h => by rw [eqL, h x List.mem_cons_self, eqL_self fun y hy => h y (List.mem_cons_of_mem _ hy)]; rfl
theorem unds_of {n : Nat} : ∀ {xs : List D}, (∀ x ∈ xs, x.und n = true) → D.unds n xs = true
  | [], _ => rfl
  | x :: xs, h => by rw [D.unds, h x List.mem_cons_self, unds_of fun y hy => h y (List.mem_cons_of_mem _ hy)]; rfl
/-! ### refs -/
theorem refs_get : ∀ {k n i : Nat}, i < k → (refs n k)[i]? = some (.ref (n + i))
  | k + 1, n, 0, _ => rfl
  | k + 1, n, i + 1, h => by rw [refs, List.getElem?_cons_succ, refs_get (Nat.lt_of_succ_lt_succ h), show n + 1 + i = n + (i + 1) by omega]
theorem zip_refs : ∀ {k n : Nat} {d : D}, d ∈ zpD (refs n k) ((refs n k).drop 1) → ∃ i, i + 1 < k ∧ d = .tup [.ref (n + i), .ref (n + i + 1)]
  | 0, n, d, h => by simp [refs, zpD] at h
  | 1, n, d, h => by simp [refs, zpD] at h
  | k + 2, n, d, h => by
    simp only [refs, List.drop_succ_cons, List.drop_zero, zpD] at h
    rcases List.mem_cons.mp h with h | h
    · exact ⟨0, by omega, h⟩
    · obtain ⟨i, hi, e⟩ := zip_refs (k := k + 1) (n := n + 1) (d := d) (by simpa [refs] using h)
      exact ⟨i + 1, by omega, by rw [e]; simp; omega⟩
theorem chain_at : ∀ {ls : List (List D)} {i : Nat} {x y : List D}, chain ls = true → ls[i]? = some x → ls[i + 1]? = some y → ltL (eqN [] 59) (ltN [] 59) x y = some true
  | [], i, x, y, _, h, _ => by simp at h
  | [_], i, x, y, _, h1, h2 => by simp at h2
  | a :: b :: r, 0, x, y, h, h1, h2 => by
    rw [chain, Bool.and_eq_true] at h
    simp at h1 h2; subst h1; subst h2
    have := h.1
    split at this
    · assumption
    · cases this
  | a :: b :: r, i + 1, x, y, h, h1, h2 => by
    rw [chain, Bool.and_eq_true] at h
    exact chain_at (i := i) h.2 (by simpa using h1) (by simpa using h2)
theorem few_ok (a b c d : Bool) : (combos (bsOf a b c d)).length ≤ 100 := by cases a <;> cases b <;> cases c <;> cases d <;> decide +kernel
theorem cut1 (xs : List D) : Mi.cutD xs (some 1) none = xs.drop 1 := by
  unfold Mi.cutD
  have e : HT.sIx xs.length 0 (some 1) = min 1 xs.length := HT.sIx_nat xs.length 0 1
  rw [e, HT.sIx_none]
  cases xs with
  | nil => rfl
  | cons x xs =>
    have : min 1 (x :: xs).length = 1 := by simp
    rw [this, List.drop_one, List.tail_cons, List.length_cons, Nat.add_sub_cancel, List.take_length]
/-! ### one turn -/
def Runs (o : Option (Fl × Ev × Sto)) (P : Fl → Ev → Sto → Prop) : Prop := ∃ f r S, o = some (f, r, S) ∧ P f r S
theorem Runs.seq {a b : FS} {r : Ev} {S : Sto} {P : Fl → Ev → Sto → Prop} (r1 : Ev) (S1 : Sto) (h : a r S = some (.nx, r1, S1)) (k : Runs (b r1 S1) P) : Runs (mSeq a b r S) P := by rw [Runs, mSeq_nx h]; exact k
theorem Runs.fin {o : Option (Fl × Ev × Sto)} {P : Fl → Ev → Sto → Prop} {f : Fl} {r : Ev} {S : Sto} (h : o = some (f, r, S)) (p : P f r S) : Runs o P := ⟨f, r, S, h, p⟩
theorem turn_ok (ns : List Int) (k : Int) (h0 : 0 ≤ k) (hk : k < 63) : Runs (p_law_2 [some (.rol (ns.map D.int)), some (.int k), none, none, none, none, none, none, none, none] []) fun f r _ => f = .nx ∧ ∃ r9, r = some (.rol (ns.map D.int)) :: r9 ∧ r9.length = 9 := by
  obtain ⟨g, m, e1⟩ := hand_ok ns k h0 hk
  obtain ⟨a, b, c, d, g2, c2, e2, q0, q1⟩ := eyes_ok (g := g) (m := m) (c := 0) (by decide) (by decide)
  have e3 := bounds_ok a b c d
  obtain ⟨Sx, e4⟩ := sights_ok a b c d
  have bd := bsOf_bd a b c d
  have ch := chain_ok a b c d
  have mo := many_ok a b c d
  have fe := few_ok a b c d
  obtain ⟨u1, u2, u3, u4, hbs⟩ : ∃ u1 u2 u3 u4, bsOf a b c d = [u1, u2, u3, u4] := ⟨_, _, _, _, rfl⟩
  rw [hbs] at e3 e4 bd ch mo fe
  have w1 := bd u1 (by simp)
  have w2 := bd u2 (by simp)
  have w3 := bd u3 (by simp)
  have w4 := bd u4 (by simp)
  have mem : ∀ x, x ∈ combos [u1, u2, u3, u4] ↔ _ := fun x => mem_combos w1 w2 w3 w4
  have eu := eyes_und a b c d
  generalize eyesD a b c d = E at e2 e3 e4 eu
  generalize combos [u1, u2, u3, u4] = its at e4 ch mo fe mem
  have itsu : D.unds 0 its = true := unds_of fun x hx => by
    obtain ⟨x1, x2, x3, x4, e, g1, g2, g3, g4⟩ := (mem x).mp hx
    subst e
    simp [D.und, D.unds, good_und g1, good_und g2, good_und g3, good_und g4]
  have b3 : mCall 1 m__law_bounds [E] [hnd g2 m c2] = some (.ref 1, [hnd g2 m c2, .lst [u1, u2, u3, u4]]) := by
    have us : D.shs 1 [u1, u2, u3, u4] = [u1, u2, u3, u4] := by
      cases w1 <;> cases w2 <;> cases w3 <;> cases w4 <;> rfl
    rw [call_new (n := 1) e3 rfl (by simp [D.unds, eu]) (by simp [D.und])]
    simp [D.sh, Ob.sh, us]
  have s4 : ∀ S, mCall 1 m_sights [E] S = some (.tup its, S) := fun S => call_shut (n := 1) e4 rfl (by simp [D.unds, eu]) (by simpa [D.und] using itsu)
  unfold p_law_2
  have t0 : ([hnd g2 m c2, .lst [u1, u2, u3, u4]] : Sto)[1]? = some (.lst [u1, u2, u3, u4]) := rfl
  -- hand, eyes, bounds, found
  refine Runs.seq [some (.rol (ns.map D.int)), some (.int k), some (.ref 0), none, none, none, none, none, none, none] [hnd g m 0] ?_ ?_
  · simp [mAsg, gN, mN, mCons, mNil, mV, e1]
  refine Runs.seq [some (.rol (ns.map D.int)), some (.int k), some (.ref 0), some E, none, none, none, none, none, none] [hnd g2 m c2] ?_ ?_
  · simp [mAsg, gN, mN, mCons, mNil, mV, e2]
  refine Runs.seq [some (.rol (ns.map D.int)), some (.int k), some (.ref 0), some E, some (.ref 1), none, none, none, none, none] [hnd g2 m c2, .lst [u1, u2, u3, u4]] ?_ ?_
  · simp [mAsg, gN, mN, mCons, mNil, mV, b3]
  refine Runs.seq [some (.rol (ns.map D.int)), some (.int k), some (.ref 0), some E, some (.ref 1), some (.tup its), none, none, none, none] [hnd g2 m c2, .lst [u1, u2, u3, u4]] ?_ ?_
  · simp [mAsg, gN, mN, mCons, mNil, mV, s4]
  -- all are right
  have few : its.length ≤ sizeLine := Nat.le_trans fe (by decide)
  refine Runs.seq [some (.rol (ns.map D.int)), some (.int k), some (.ref 0), some E, some (.ref 1), some (.tup its), none, none, none, none] [hnd g2 m c2, .lst [u1, u2, u3, u4], .lst (its.map fun _ => .bl true)] ?_ ?_
  · obtain ⟨r', q, _⟩ := loopF_map (c := []) (g := gN 0) (t := mTrue) (e := mN (mCall 2 m__law_right) (mCons (mV 0) (mCons (mV 1) mNil))) (S := [hnd g2 m c2, .lst [u1, u2, u3, u4]]) (fun r => ∃ o, r = [o, some (.ref 1)]) (fun _ => .bl true) rfl its [none, some (.ref 1)] ⟨_, rfl⟩ (by
      rintro x hx r ⟨o, rfl⟩
      obtain ⟨x1, x2, x3, x4, e, g1, g2, g3, g4⟩ := (mem x).mp hx
      subst e
      exact ⟨[some (.tup [x1, x2, x3, x4]), some (.ref 1)], rfl, rfl, by simp [mN, mCons, mNil, mV, right_ok t0 g1 g2 g3 g4], _, rfl⟩)
    simp [mIfS, mOr, mNot, mB, mIsT, isTy, mV, mN, mCons, mNil, fComp, iSeq, seqOf, chkOf, inEv, q, few, b1, gAll, allB_true, mNx]
  -- parts
  have T1 := List.length_map (as := its) (f := fun x => Ob.lst (strip x))
  generalize hA : ([hnd g2 m c2, .lst [u1, u2, u3, u4], .lst (its.map fun _ => D.bl true)] : Sto) = A
  have hA0 : A[0]? = some (hnd g2 m c2) := by rw [← hA]; rfl
  have hA1 : A[1]? = some (.lst [u1, u2, u3, u4]) := by rw [← hA]; rfl
  refine Runs.seq [some (.rol (ns.map D.int)), some (.int k), some (.ref 0), some E, some (.ref 1), some (.tup its), some (.ref (A.length + its.length)), none, none, none] (A ++ its.map (fun x => Ob.lst (strip x)) ++ [.lst (refs A.length its.length)]) ?_ ?_
  · obtain ⟨r', q, _⟩ := loopF_fresh (g := gN 0) (t := mTrue) (e := fComp 1 [] (iSeq (mV 0)) (gN 0) (mB (m2 (b2 gIsNotN) (mV 0) (mC D.non))) (fEmit (mV 0))) (fun r => ∃ o, r = [o]) strip its [none] A ⟨_, rfl⟩ (by
      rintro x hx r S ⟨o, rfl⟩
      obtain ⟨x1, x2, x3, x4, e, g1, g2, g3, g4⟩ := (mem x).mp hx
      subst e
      obtain ⟨r2, q2, _⟩ := loopF_filter (c := []) (g := gN 0) (t := mB (m2 (b2 gIsNotN) (mV 0) (mC D.non))) (e := mV 0) (S := S) (fun r => ∃ o, r = [o]) (fun p => !isNon p) id rfl [x1, x2, x3, x4] [none] ⟨_, rfl⟩ (by
        rintro y hy r ⟨o, rfl⟩
        exact ⟨[some y], rfl, by simp [mB, m2, b2, gIsNotN, mV, mC], fun _ => by simp [mV], _, rfl⟩)
      refine ⟨[some (.tup [x1, x2, x3, x4])], rfl, rfl, ?_, _, rfl⟩
      have hl : (List.map id (List.filter (fun p => !isNon p) [x1, x2, x3, x4])).length ≤ sizeLine := by
        rw [List.length_map]
        exact Nat.le_trans (List.length_filter_le _ _) (by show 4 ≤ sizeLine; decide)
      simp only [fComp, iSeq, mV, seqOf, chkOf, inEv, List.getElem?_cons_zero, Option.bind_some, List.replicate, List.map_nil, List.append_nil, q2, if_pos hl]
      rw [strip, List.map_id])
    have hl : (refs A.length its.length).length ≤ sizeLine := by
      have : ∀ n k, (refs n k).length = k := fun n k => by
        induction k generalizing n with
        | zero => rfl
        | succ k ih => rw [refs, List.length_cons, ih]
      rw [this]; exact few
    refine mAsg_of ?_
    simp only [fComp, iSeq, mV, seqOf, chkOf, inEv, Option.bind_some, List.replicate, List.map_nil, List.append_nil, List.getElem?_cons_succ, List.getElem?_cons_zero]
    rw [q]
    simp only [Option.bind_some, if_pos hl, List.length_append, List.length_map]
  -- they rise
  have rl : ∀ n k, (refs n k).length = k := fun n k => by
    induction k generalizing n with
    | zero => rfl
    | succ k ih => rw [refs, List.length_cons, ih]
  generalize hB : A ++ its.map (fun x => Ob.lst (strip x)) ++ [.lst (refs A.length its.length)] = B
  have hBl : B.length = A.length + its.length + 1 := by rw [← hB]; simp; omega
  have hB6 : B[A.length + its.length]? = some (.lst (refs A.length its.length)) := by
    rw [← hB, List.getElem?_append_right (by simp)]; simp
  have hBi : ∀ i (hi : i < its.length), B[A.length + i]? = some (.lst (strip its[i])) := fun i hi => by
    rw [← hB, List.getElem?_append_left (by simp; omega), List.getElem?_append_right (by omega)]; simp [hi]
  have al : 1 < A.length := (List.getElem?_eq_some_iff.mp hA1).1
  have hB0 : B[0]? = some (hnd g2 m c2) := by
    rw [← hB, List.getElem?_append_left (by simp; omega), List.getElem?_append_left (by omega)]; exact hA0
  have hB1 : B[1]? = some (.lst [u1, u2, u3, u4]) := by
    rw [← hB, List.getElem?_append_left (by simp; omega), List.getElem?_append_left (by omega)]; exact hA1
  clear hB
  generalize hC : B ++ [.lst ((refs A.length its.length).drop 1)] = C
  have hC6 : C[A.length + its.length]? = some (.lst (refs A.length its.length)) := by rw [← hC, List.getElem?_append_left (by omega)]; exact hB6
  have hC7 : C[B.length]? = some (.lst ((refs A.length its.length).drop 1)) := by rw [← hC, List.getElem?_append_right (Nat.le_refl _)]; simp
  have hCi : ∀ i (hi : i < its.length), C[A.length + i]? = some (.lst (strip its[i])) := fun i hi => by rw [← hC, List.getElem?_append_left (by omega)]; exact hBi i hi
  have hC0 : C[0]? = some (hnd g2 m c2) := by rw [← hC, List.getElem?_append_left (by omega)]; exact hB0
  have hC1 : C[1]? = some (.lst [u1, u2, u3, u4]) := by rw [← hC, List.getElem?_append_left (by omega)]; exact hB1
  have su : ∀ x ∈ its, D.unds 0 (strip x) = true := fun x hx => by
    obtain ⟨x1, x2, x3, x4, e, g1, g2, g3, g4⟩ := (mem x).mp hx
    subst e
    refine unds_of fun y hy => ?_
    have hy' := (List.mem_filter.mp hy).1
    simp only [List.mem_cons, List.not_mem_nil, or_false] at hy'
    rcases hy' with h | h | h | h <;> subst h
    · exact good_und g1
    · exact good_und g2
    · exact good_und g3
    · exact good_und g4
  refine Runs.seq [some (.rol (ns.map D.int)), some (.int k), some (.ref 0), some E, some (.ref 1), some (.tup its), some (.ref (A.length + its.length)), none, none, none] (C ++ [.lst ((zpD (refs A.length its.length) ((refs A.length its.length).drop 1)).map fun _ => .bl true)]) ?_ ?_
  · obtain ⟨r', q, _⟩ := loopF_map (c := [(A.length + its.length, refs A.length its.length), (B.length, (refs A.length its.length).drop 1)]) (g := gT 2 (gCs (gN 0) (gCs (gN 1) gNl))) (t := mTrue) (e := m2 (b2 gLt) (mV 0) (mV 1)) (S := C) (fun r => ∃ o o', r = [o, o']) (fun _ => .bl true) (okC_two hC6 hC7) (zpD (refs A.length its.length) ((refs A.length its.length).drop 1)) [none, none] ⟨_, _, rfl⟩ (by
      rintro x hx r ⟨o, o', rfl⟩
      obtain ⟨i, hi, e⟩ := zip_refs hx
      subst e
      have hi1 : i < its.length := by omega
      have lt : gLt (.ref (A.length + i)) (.ref (A.length + i + 1)) C = some (.bl true, C) := by
        have s1 : seqOf C (.ref (A.length + i)) = some (true, strip its[i]) := by rw [seqOf, hCi i hi1]
        have s2 : seqOf C (.ref (A.length + i + 1)) = some (true, strip its[i + 1]) := by rw [seqOf, Nat.add_assoc, hCi (i + 1) hi]
        have z := chain_at (i := i) ch (by rw [List.getElem?_map, List.getElem?_eq_getElem hi1]; rfl) (by rw [List.getElem?_map, List.getElem?_eq_getElem hi]; rfl)
        have u1' := su _ (List.getElem_mem hi1)
        have u2' := su _ (List.getElem_mem hi)
        have z2 : ltN C 60 (.ref (A.length + i)) (.ref (A.length + i + 1)) = some true := by
          rw [show (60 : Nat) = 59 + 1 from rfl, ltN, show ltF (.ref (A.length + i)) (.ref (A.length + i + 1)) = none from rfl, s1, s2]
          dsimp only
          rw [if_pos rfl, ltL_congr (f' := eqN [] 59) (g' := ltN [] 59) (fun x hx y hy => eqN_und (unds_mem u1' hx) (unds_mem u2' hy)) fun x hx y hy => ltN_und (unds_mem u1' hx) (unds_mem u2' hy)]
          exact z
        unfold gLt deepMost
        rw [z2]; rfl
      exact ⟨[some (.ref (A.length + i)), some (.ref (A.length + i + 1))], by simp [gT, gCs, gN, gNl], rfl, by simp [m2, b2, mV, lt], _, _, rfl⟩)
    have zl : (List.map (fun _ => D.bl true) (zpD (refs A.length its.length) ((refs A.length its.length).drop 1))).length ≤ sizeLine := by
      rw [List.length_map]
      have : ∀ xs ys : List D, (zpD xs ys).length ≤ xs.length := fun xs => by
        induction xs with
        | nil => intro ys; simp [zpD]
        | cons x xs ih => intro ys; cases ys with
          | nil => simp [zpD]
          | cons y ys => simp only [zpD, List.length_cons]; exact Nat.succ_le_succ (ih ys)
      exact Nat.le_trans (this _ _) (by rw [rl]; exact few)
    have sl : sliceD B (.ref (A.length + its.length)) (some 1) none = some (.ref B.length, C) := by
      rw [sliceD, seqOf, hB6]; simp only [Option.bind_some]; rw [cut1, hC]
    have iz : iZp (mCons (mV 6) (mCons (mSl (mV 6) (oSome (mC (D.int (1)))) oNone) mNil)) [some (.rol (ns.map D.int)), some (.int k), some (.ref 0), some E, some (.ref 1), some (.tup its), some (.ref (A.length + its.length)), none, none, none] B = some (⟨zpD (refs A.length its.length) ((refs A.length its.length).drop 1), [(A.length + its.length, refs A.length its.length), (B.length, (refs A.length its.length).drop 1)]⟩, C) := by
      simp [iZp, mCons, mV, mSl, oSome, oNone, mC, mNil, sl, seqOf, hC6, hC7, chkOf]
    simp only [mIfS, mNot, mB, mN, mCons, mNil, fComp, iz, inEv, Option.bind_some, List.replicate, List.map_nil, List.append_nil]
    rw [q]
    simp only [Option.bind_some, if_pos zl, b1, gAll, seqOf, List.getElem?_concat_length, allB_true, Option.map_some, mNx, Bool.not_true, Bool.false_eq_true, if_false]
  generalize hF : C ++ [.lst ((zpD (refs A.length its.length) ((refs A.length its.length).drop 1)).map fun _ => D.bl true)] = F
  have hF0 : F[0]? = some (hnd g2 m c2) := by rw [← hF, List.getElem?_append_left (by rw [← hC]; simp)]; exact hC0
  have hF1 : F[1]? = some (.lst [u1, u2, u3, u4]) := by rw [← hF, List.getElem?_append_left (by rw [← hC]; simp; omega)]; exact hC1
  clear hF
  -- how many
  refine Runs.seq [some (.rol (ns.map D.int)), some (.int k), some (.ref 0), some E, some (.ref 1), some (.tup its), some (.ref (A.length + its.length)), some (.int 1), none, none] F (by simp [mAsg, gN, mC]) ?_
  obtain ⟨o8, ml⟩ := many_loop (o0 := some (.rol (ns.map D.int))) (o1 := some (.int k)) (o2 := some (.ref 0)) (o3 := some E) (o4 := some (.ref 1)) (o5 := some (.tup its)) (o6 := some (.ref (A.length + its.length))) (o9 := none) hF1 [u1, u2, u3, u4] 1 none bd
  refine Runs.seq [some (.rol (ns.map D.int)), some (.int k), some (.ref 0), some E, some (.ref 1), some (.tup its), some (.ref (A.length + its.length)), some (.int (fw 1 [u1, u2, u3, u4])), o8, none] F ?_ ?_
  · simp only [mFor, iSeq, mV, List.getElem?_cons_succ, List.getElem?_cons_zero, Option.bind_some, seqOf, chkOf, hF1]
    exact ml
  refine Runs.seq [some (.rol (ns.map D.int)), some (.int k), some (.ref 0), some E, some (.ref 1), some (.tup its), some (.ref (A.length + its.length)), some (.int (fw 1 [u1, u2, u3, u4])), o8, none] F ?_ ?_
  · have ne : gNe (.int (its.length : Int)) (.int (fw 1 [u1, u2, u3, u4])) F = some (.bl false, F) := by
      have : ∀ x y : Int, gNe (.int x) (.int y) F = some (.bl (!(x == y)), F) := fun x y => by rfl
      rw [this, mo]; simp
    simp [mIfS, mB, m2, b2, b1, mN, mCons, mNil, mV, gLen, seqOf, ne, mNx]
  -- one is drawn
  obtain ⟨xs, g3, c3, r3, q, gs⟩ := draw_loop (bs := [u1, u2, u3, u4]) (m := m) rfl [u1, u2, u3, u4] F g2 c2 none hF0 hF1 q0 (by simp; omega) bd
  obtain ⟨x1, x2, x3, x4, hxs, k1, k2, k3, k4⟩ : ∃ x1 x2 x3 x4, xs = [x1, x2, x3, x4] ∧ Good u1 x1 ∧ Good u2 x2 ∧ Good u3 x3 ∧ Good u4 x4 := by
    cases gs with | cons a1 t1 => cases t1 with | cons a2 t2 => cases t2 with | cons a3 t3 => cases t3 with | cons a4 t4 => cases t4; exact ⟨_, _, _, _, rfl, a1, a2, a3, a4⟩
  subst hxs
  refine Runs.seq [some (.rol (ns.map D.int)), some (.int k), some (.ref 0), some E, some (.ref 1), some (.tup its), some (.ref (A.length + its.length)), some (.int (fw 1 [u1, u2, u3, u4])), o8, some (.tup [x1, x2, x3, x4])] (F.set 0 (hnd g3 m c3) ++ [.lst [x1, x2, x3, x4]]) ?_ ?_
  · have hl : ([x1, x2, x3, x4] : List D).length ≤ sizeLine := by show 4 ≤ sizeLine; decide
    refine mAsg_of ?_
    simp only [mN, mCons, mNil, fComp, iSeq, mV, List.getElem?_cons_succ, List.getElem?_cons_zero, Option.bind_some, seqOf, chkOf, hF1, inEv, List.replicate, List.map_cons, List.map_nil, List.append_nil, List.cons_append, List.nil_append, Option.join_some]
    rw [q]
    simp only [Option.bind_some, if_pos hl, b1, Mi.gTup, seqOf, List.getElem?_concat_length, Option.map_some]
  -- it is among them, and they are told again
  refine Runs.fin (f := .nx) (r := [some (.rol (ns.map D.int)), some (.int k), some (.ref 0), some E, some (.ref 1), some (.tup its), some (.ref (A.length + its.length)), some (.int (fw 1 [u1, u2, u3, u4])), o8, some (.tup [x1, x2, x3, x4])]) (S := F.set 0 (hnd g3 m c3) ++ [.lst [x1, x2, x3, x4]]) ?_ ⟨rfl, _, rfl, rfl⟩
  generalize F.set 0 (hnd g3 m c3) ++ [.lst [x1, x2, x3, x4]] = G
  have xu : (D.tup [x1, x2, x3, x4]).und 0 = true := by simp [D.und, D.unds, good_und k1, good_und k2, good_und k3, good_und k4]
  have inn : gNotIn (.tup [x1, x2, x3, x4]) (.tup its) G = some (.bl false, G) := by
    unfold gNotIn deepMost
    have : inL (eqN G 60) (.tup [x1, x2, x3, x4]) its = some true := by
      rw [inL_congr (f' := eqN [] 60) fun y hy => eqN_und (unds_mem itsu hy) xu]
      refine inL_true (fun y hy => ?_) ((mem _).mpr ⟨_, _, _, _, rfl, k1, k2, k3, k4⟩) (eq_sight_self (n := 58) k1 k2 k3 k4)
      obtain ⟨y1, y2, y3, y4, e, j1, j2, j3, j4⟩ := (mem y).mp hy
      subst e
      exact eq_sight (n := 58) j1 j2 j3 j4 k1 k2 k3 k4
    simp [seqOf, this]
  have nee : gNe (.tup its) (.tup its) G = some (.bl false, G) := by
    have tu : (D.tup its).und 0 = true := by simpa [D.und] using itsu
    have : eqN G 60 (.tup its) (.tup its) = some true := by
      rw [eqN_und tu tu, show (60 : Nat) = 59 + 1 from rfl, eqN]
      simp only [seqOf, if_true, Bool.false_eq_true, false_and, if_false]
      refine eqL_self fun y hy => ?_
      obtain ⟨y1, y2, y3, y4, e, j1, j2, j3, j4⟩ := (mem y).mp hy
      subst e
      exact eq_sight_self (n := 57) j1 j2 j3 j4
    unfold gNe deepMost
    rw [this]; rfl
  simp [mIfS, mOr, mB, m2, b2, mV, mN, mCons, mNil, inn, s4, nee, mNx]
/-! ### the whole -/
theorem truth (ns : List Int) (hl : ns.length ≤ 63) : ∃ S, m_law [.rol (ns.map D.int)] [] = some (.bl true, S) := by
  have lc : ∃ t : Int, 0 ≤ t ∧ t ≤ 12 ∧ ∀ r, iR1 (mCons (mN (b2 gMax) (mCons (mC (D.int (1))) (mCons (mN (b2 gMin) (mCons (mC (D.int (12))) (mCons (mN (b1 gLen) (mCons (mV 0) mNil)) mNil))) mNil))) mNil) (some (.rol (ns.map D.int)) :: r) [] = some (⟨nums 0 t.toNat, []⟩, []) := by
    refine ⟨if (if (ns.length : Int) < 12 then (ns.length : Int) else 12) > 1 then (if (ns.length : Int) < 12 then (ns.length : Int) else 12) else 1, ?_, ?_, fun r => ?_⟩
    · split <;> (try split) <;> omega
    · split <;> (try split at *) <;> (try split) <;> omega
    · have h : -(2 ^ 62) ≤ (if (if (ns.length : Int) < 12 then (ns.length : Int) else 12) > 1 then (if (ns.length : Int) < 12 then (ns.length : Int) else 12) else 1) ∧ (if (if (ns.length : Int) < 12 then (ns.length : Int) else 12) > 1 then (if (ns.length : Int) < 12 then (ns.length : Int) else 12) else 1) < 2 ^ 62 := by
        constructor
        · split <;> (try split) <;> omega
        · split <;> (try split at *) <;> (try split) <;> omega
      simp only [iR1, mCons, mN, mC, mV, mNil, b1, b2, gMax, gMin, gLen, seqOf, List.getElem?_cons_zero, Option.bind_some, Option.map_some, List.length_map, if_pos h]
  obtain ⟨t, t0, t1, lc⟩ := lc
  obtain ⟨r', e, _⟩ := loopM_nx (c := []) (g := gN 1) (b := p_law_3) (S := []) (fun r => r = [some (.rol (ns.map D.int)), none, none, none, none, none, none, none, none, none]) rfl (nums 0 t.toNat) [some (.rol (ns.map D.int)), none, none, none, none, none, none, none, none, none] rfl (by
    rintro d hd r rfl
    obtain ⟨k, e, k0, k1⟩ := mem_nums hd
    subst e
    refine ⟨[some (.rol (ns.map D.int)), some (.int k), none, none, none, none, none, none, none, none], [some (.rol (ns.map D.int)), none, none, none, none, none, none, none, none, none], rfl, ?_, rfl⟩
    obtain ⟨f, r2, S2, e2, hf, r9, hr9, hl9⟩ := turn_ok ns k k0 (by omega)
    subst hf; subst hr9
    obtain ⟨z1, z2, z3, z4, z5, z6, z7, z8, z9, hz⟩ : ∃ z1 z2 z3 z4 z5 z6 z7 z8 z9, r9 = [z1, z2, z3, z4, z5, z6, z7, z8, z9] := by
      match r9, hl9 with
      | [z1, z2, z3, z4, z5, z6, z7, z8, z9], _ => exact ⟨_, _, _, _, _, _, _, _, _, rfl⟩
    subst hz
    unfold p_law_3 mPure
    simp [maskE, shutE, D.und, unds_ints, e2])
  refine ⟨[], ?_⟩
  simp only [m_law, fnB, b_law, mSeq, mFor, startD, List.map_cons, List.map_nil, List.length_cons, List.length_nil, List.replicate, List.cons_append, List.nil_append, lc, Option.bind_some, e]
  rfl
end Law

end
open PySem PySem.W PyProof.Rows
set_option Elab.async false
set_option maxRecDepth 100000 in
set_option maxHeartbeats 0 in
theorem PySem.Challenge.cw_ringmeet_k23_sights_of_eyes_holds : PySem.Challenge.rw_ringmeet_k23_sights_of_eyes.Holds := by
  w_on; o_law; k_head; (case hw => w_witness2)
  k_fill
  refine Mi.walk_m (l := PySem.Challenge.rw_ringmeet_k23_sights_of_eyes) (m := Law.m_law) (k := 3) (x := "_law_script") rfl rfl ⟨rfl, by decide, by decide⟩ (fun w h Y => PySem.W.kIn_of Y) Law.truth ?F
  case F =>
    intro w mg fa h KX G hmg
    refine' Law.all_mk KX G hmg ?a1 ?l1 ?c1 ?k1 ?a2 ?l2 ?c2 ?k2 ?a3 ?l3 ?c3 ?k3 ?a4 ?l4 ?c4 ?k4 ?a5 ?l5 ?c5 ?k5 ?a6 ?l6 ?c6 ?k6 ?a7 ?l7 ?c7 ?k7 ?z_all ?z_bool ?z_int ?z_isinstance ?z_len ?z_list ?z_max ?z_min ?z_range ?z_tuple ?z_zip ?e_PARTS ?h1 ?h2 ?h5 ?h8 ?h11
    (case a1 => k_is)
    (case l1 => k_is)
    (case c1 => k_is)
    (case k1 => k_is)
    (case a2 => k_is)
    (case l2 => k_is)
    (case c2 => k_is)
    (case k2 => k_is)
    (case a3 => k_is)
    (case l3 => k_is)
    (case c3 => k_is)
    (case k3 => k_is)
    (case a4 => k_is)
    (case l4 => k_is)
    (case c4 => k_is)
    (case k4 => k_is)
    (case a5 => k_is)
    (case l5 => k_is)
    (case c5 => k_is)
    (case k5 => k_is)
    (case a6 => k_is)
    (case l6 => k_is)
    (case c6 => k_is)
    (case k6 => k_is)
    (case a7 => k_is)
    (case l7 => k_is)
    (case c7 => k_is)
    (case k7 => k_is)
    (case z_all => k_is)
    (case z_bool => k_is)
    (case z_int => k_is)
    (case z_isinstance => k_is)
    (case z_len => k_is)
    (case z_list => k_is)
    (case z_max => k_is)
    (case z_min => k_is)
    (case z_range => k_is)
    (case z_tuple => k_is)
    (case z_zip => k_is)
    (case e_PARTS => k_is)
    (case h1 => k_is)
    (case h2 => k_is)
    (case h5 => k_is)
    (case h8 => k_is)
    (case h11 => k_is)

