import Derived.WalkKit
import Derived.OpenShut
import Derived.Below
import Derived.Laws.OwnMore
/-
  Words for slices of numbers in memory: what came in, what the call makes. No program is named here.
-/
namespace Go.Proofs.YtmpipjangbedkaaGreat
set_option maxRecDepth 8000
open Go.RowKit

/-- A slice value's places read as these numbers (nothing is asked of an empty one's address). -/
def Ints (w : World) (k : IntKind) (A : Option Addr) (l : List Int) : Prop :=
  0 < l.length → ∃ b off, A = some ⟨b, off, none⟩ ∧ ∀ i, i < l.length → w.cell? ⟨b, off + i, none⟩ = some (.int k (l.getD i 0))

theorem block_lt {w : World} {a : Addr} {v : Value} (h : w.cell? a = some v) : a.block < w.heap.size := by
  rcases Nat.lt_or_ge a.block w.heap.size with hlt | hge
  · exact hlt
  · have : w.heap[a.block]? = none := Array.getElem?_eq_none hge
    simp [World.cell?, this] at h

/-- What was there is there in a world that is the same below. -/
theorem Ints.below {w w' : World} {k : IntKind} {A : Option Addr} {l : List Int} (h : Ints w k A l) (hb : Below w.heap.size w w') : Ints w' k A l := by
  intro h0
  obtain ⟨b, off, e, hc⟩ := h h0
  refine ⟨b, off, e, fun i hi => ?_⟩
  rw [hb.cell (p := ⟨b, off + i, none⟩) (block_lt (hc i hi))]
  exact hc i hi

/-- A slice that came in, as the row's frame tells of it. -/
theorem row_ints {k : IntKind} {w : World} {a : Option Addr} {len cap : Nat} {zs : List Int}
    (h : (a = none ∧ len = 0 ∧ cap = 0 ∧ zs = []) ∨
      ∃ x, a = some x ∧ len ≤ cap ∧ cap ≤ maxLen ∧ zs.length = cap ∧ (∀ i, i < zs.length → w.cell? (x.add i) = some (.int k (zs.getD i 0))) ∧ ∀ n ∈ zs, (Lit.int k n).wf = true) :
    ∃ l : List Int, l.length = len ∧ Ints w k a l ∧ len ≤ 9223372036854775807 ∧ ∀ n ∈ l, (Lit.int k n).wf = true := by
  rcases h with ⟨_, rfl, _, _⟩ | ⟨x, rfl, hl, hm, hz, hc, hw⟩
  · exact ⟨[], rfl, fun h => absurd h (by simp), by omega, fun n hn => by simp at hn⟩
  · unfold maxLen at hm
    refine ⟨zs.take len, by rw [List.length_take]; omega, fun h0 => ?_, by omega, fun n hn => hw n (List.mem_of_mem_take hn)⟩
    rw [List.length_take] at h0
    obtain ⟨b, off, rfl, hc'⟩ := ints_at hc (by omega)
    refine ⟨b, off, rfl, fun i hi => ?_⟩
    rw [List.length_take] at hi
    rw [hc' i (by omega), List.getD_eq_getElem?_getD, List.getD_eq_getElem?_getD, List.getElem?_take_of_lt (by omega)]

/-- A slice of the call's own, as numbers. -/
theorem own_form {w : World} {base : Nat} {e : TypeId} {v : Value} {n : Nat} {k : IntKind} {l : List Int} (h : w.ownsRow base e 1 v n (l.map (Value.int k))) :
    l.length = n ∧ ∃ A c, v = .slice A n c ∧ Ints w k A l := by
  have hl : l.length = n := by have := h.1; simpa using this
  refine ⟨hl, ?_⟩
  rcases h.2 with ⟨rfl, rfl⟩ | ⟨g, cap, cur, rfl, _⟩
  · exact ⟨none, 0, rfl, fun h0 => absurd h0 (by omega)⟩
  · refine ⟨some ⟨g, 0, none⟩, cap, rfl, fun h0 => ⟨g, 0, rfl, fun i hi => ?_⟩⟩
    have hc := h.cells (g := g) rfl i (.int k (l.getD i 0)) (by rw [List.getElem?_map, List.getD_eq_getElem?_getD, List.getElem?_eq_getElem hi]; rfl)
    rw [Go.WideShapes.add_plain] at hc
    exact hc
theorem own_form2 {w : World} {base : Nat} {e : TypeId} {v : Value} {n : Nat} {k : IntKind} {l : List Int} (h : w.ownsRow base e 1 v n (l.map (Value.int k))) :
    l.length = n ∧ ∃ A c, v = .slice A n c ∧ Ints w k A l ∧ n ≤ c ∧ c ≤ 9223372036854775807 := by
  obtain ⟨hl, A, c, rfl, hI⟩ := own_form h
  refine ⟨hl, A, c, rfl, hI, ?_⟩
  rcases h.2 with ⟨e1, rfl⟩ | ⟨g, cap, cur, e1, _, _, h1, h2, _⟩
  · injection e1 with _ _ e2; subst e2; exact ⟨Nat.le_refl _, by omega⟩
  · injection e1 with _ _ e2; subst e2; unfold maxLen at h2; exact ⟨h1, h2⟩

theorem ints_new (w : World) (k : IntKind) (l : List Int) (t : TypeId) (cs : Array Value) (h : cs.toList = l.map fun x => Value.int k x) (n : Nat) (hn : n = w.heap.size) : Ints (w.alloc (.cells cs t)) k (some ⟨n, 0, none⟩) l := by
  subst hn
  intro _
  refine ⟨_, _, rfl, fun i hi => ?_⟩
  rw [Nat.zero_add, World.cell?_alloc_new, ← Array.getElem?_toList, h, List.getElem?_map, List.getD_eq_getElem?_getD, List.getElem?_eq_getElem hi]
  rfl

/-- Old cells and marks behind a call that turns nothing old. -/
theorem old_cells {W w1 : World} (hb : Below W.heap.size W w1) : (∀ b o, b < W.heap.size → w1.cell? ⟨b, o, none⟩ = W.cell? ⟨b, o, none⟩) ∧ (∀ b o, b < W.heap.size → w1.frozen? ⟨b, o, none⟩ = W.frozen? ⟨b, o, none⟩) :=
  ⟨fun b o h => hb.cell (p := ⟨b, o, none⟩) h, fun b o h => hb.frozen (p := ⟨b, o, none⟩) h⟩
/-- A store over what is no number turns no numbers. -/
theorem Ints.setCell {w : World} {k : IntKind} {A : Option Addr} {l : List Int} (h : Ints w k A l) {p : Addr} {u : Value} (hp : w.cell? p = some u) (hu : ∀ n, u ≠ .int k n) (v : Value) : Ints (w.setCell p v) k A l := by
  intro h0
  obtain ⟨b, off, e, hc⟩ := h h0
  refine ⟨b, off, e, fun i hi => ?_⟩
  rw [World.cell?_setCell_other w p _ v (fun e2 => by have h1 := hc i hi; rw [← e2, hp] at h1; injection h1 with h1; exact hu _ h1)]
  exact hc i hi
/-- A struct of two fields in a block of its own. -/
def Box2 (w : World) (b : Nat) (u0 u1 : Value) : Prop :=
  w.cell? ⟨b, 0, none⟩ = some u0 ∧ w.cell? ⟨b, 1, none⟩ = some u1 ∧ w.frozen? ⟨b, 0, none⟩ = false ∧ w.frozen? ⟨b, 1, none⟩ = false
theorem Box2.new (w : World) (u0 u1 : Value) (t : TypeId) (b : Nat) (hb : b = w.heap.size) : Box2 (w.alloc (.cells #[u0, u1] t)) b u0 u1 := by
  subst hb
  exact ⟨by rw [World.cell?_alloc_new]; rfl, by rw [World.cell?_alloc_new]; rfl, World.frozen?_alloc_at _ _ _ _ rfl, World.frozen?_alloc_at _ _ _ _ rfl⟩
theorem Box2.lt {w : World} {b : Nat} {u0 u1 : Value} (h : Box2 w b u0 u1) : b < w.heap.size := block_lt h.1
theorem Box2.below {w w' : World} {b : Nat} {u0 u1 : Value} (h : Box2 w b u0 u1) (hb : Below w.heap.size w w') : Box2 w' b u0 u1 := by
  obtain ⟨h1, h2, h3, h4⟩ := h
  have hl : b < w.heap.size := block_lt h1
  obtain ⟨k1, k2⟩ := old_cells hb
  exact ⟨by rw [k1 _ _ hl, h1], by rw [k1 _ _ hl, h2], by rw [k2 _ _ hl, h3], by rw [k2 _ _ hl, h4]⟩
theorem Box2.alloc {w : World} {b : Nat} {u0 u1 : Value} (h : Box2 w b u0 u1) (o : Obj) : Box2 (w.alloc o) b u0 u1 := h.below ((Below.refl _ _).alloc (Nat.le_refl _) _)
theorem Box2.drew {w : World} {b : Nat} {u0 u1 : Value} (h : Box2 w b u0 u1) : Box2 w.drew b u0 u1 := h.below (Below.refl _ _).drew

/-- A struct behind a store of both fields. -/
theorem Box2.put {w : World} {b : Nat} {u0 u1 : Value} (h : Box2 w b u0 u1) (v0 v1 : Value) :
    (w.setCell ⟨b, 0, none⟩ v0).cell? ⟨b, 0, none⟩ = some v0 ∧ ((w.setCell ⟨b, 0, none⟩ v0).setCell ⟨b, 1, none⟩ v1).cell? ⟨b, 1, none⟩ = some v1 := by
  obtain ⟨h1, h2, h3, h4⟩ := h
  refine ⟨World.cell?_setCell_same _ _ _ h1, World.cell?_setCell_same _ _ _ (u := u1) ?_⟩
  rw [World.cell?_setCell_other _ _ _ _ (by simp)]; exact h2

/-- A struct's two stores, read again. -/
theorem Box2.set {w : World} {b : Nat} {u0 u1 : Value} (h : Box2 w b u0 u1) (v0 v1 : Value) : Box2 ((w.setCell ⟨b, 0, none⟩ v0).setCell ⟨b, 1, none⟩ v1) b v0 v1 := by
  obtain ⟨p0, p1⟩ := h.put v0 v1
  refine ⟨?_, p1, ?_, ?_⟩
  · rw [World.cell?_setCell_other _ _ _ _ (by simp)]; exact p0
  · rw [World.frozen?_setCell, World.frozen?_setCell]; exact h.2.2.1
  · rw [World.frozen?_setCell, World.frozen?_setCell]; exact h.2.2.2
theorem Box2.other {w : World} {b : Nat} {u0 u1 : Value} (h : Box2 w b u0 u1) {b' : Nat} (hb : b' ≠ b) (o : Nat) (v : Value) : Box2 (w.setCell ⟨b', o, none⟩ v) b u0 u1 := by
  obtain ⟨h1, h2, h3, h4⟩ := h
  refine ⟨?_, ?_, ?_, ?_⟩
  · rw [World.cell?_setCell_other _ _ _ _ (by intro e; injection e with e; exact hb e)]; exact h1
  · rw [World.cell?_setCell_other _ _ _ _ (by intro e; injection e with e; exact hb e)]; exact h2
  · rw [World.frozen?_setCell]; exact h3
  · rw [World.frozen?_setCell]; exact h4

end Go.Proofs.YtmpipjangbedkaaGreat

/-
  The sum of bytes, as plain numbers: one step a bit; bytes as one number; what a burst of turned bits does to it. No program is named here.
-/
namespace Go.Proofs.YtmpipjangbedkaaGreat
set_option maxRecDepth 8000
open Go.RowKit

/-- One bit goes out. -/
def cstep (s : Nat) : Nat := if s % 2 = 1 then s / 2 ^^^ 3988292384 else s / 2
def csteps : Nat → Nat → Nat
  | 0, s => s
  | j + 1, s => cstep (csteps j s)
def cfold (s : Nat) (l : List Nat) : Nat := l.foldl (fun s x => csteps 8 (s ^^^ x)) s
/-- The sum of bytes. -/
def crc (l : List Nat) : Nat := 4294967295 - cfold 4294967295 l
/-- Each one is a byte. -/
def Oct (l : List Nat) : Prop := ∀ x ∈ l, x < 256

theorem half_xor (a b : Nat) : (a ^^^ b) / 2 = a / 2 ^^^ b / 2 := by
  apply Nat.eq_of_testBit_eq
  intro i
  rw [Nat.testBit_div_two, Nat.testBit_xor, Nat.testBit_xor, Nat.testBit_div_two, Nat.testBit_div_two]
theorem odd_xor (a b : Nat) : (a ^^^ b) % 2 = (a + b) % 2 := by
  have h := Nat.testBit_xor a b 0
  simp only [Nat.testBit_zero] at h
  rcases Nat.mod_two_eq_zero_or_one a with ha | ha <;> rcases Nat.mod_two_eq_zero_or_one b with hb | hb <;> rcases Nat.mod_two_eq_zero_or_one (a ^^^ b) with hc | hc <;> simp [ha, hb, hc] at h <;> omega
theorem xor_zero_eq {a b : Nat} (e : a ^^^ b = 0) : a = b := by
  have h := congrArg (· ^^^ b) e
  simp only [Nat.xor_assoc, Nat.xor_self, Nat.xor_zero, Nat.zero_xor] at h
  exact h
theorem cstep_lt {s : Nat} (h : s < 4294967296) : cstep s < 4294967296 := by
  unfold cstep
  split
  · exact Nat.xor_lt_two_pow (n := 32) (by omega) (by omega)
  · omega
theorem csteps_lt (j : Nat) {s : Nat} (h : s < 4294967296) : csteps j s < 4294967296 := by
  induction j with
  | zero => exact h
  | succ j ih => exact cstep_lt ih
theorem xor_lt {a b : Nat} (ha : a < 4294967296) (hb : b < 4294967296) : a ^^^ b < 4294967296 := Nat.xor_lt_two_pow (n := 32) ha hb
theorem cfold_lt (l : List Nat) (hl : Oct l) {s : Nat} (h : s < 4294967296) : cfold s l < 4294967296 := by
  induction l generalizing s with
  | nil => exact h
  | cons x l ih =>
    refine ih (fun y hy => hl y (List.mem_cons_of_mem _ hy)) (csteps_lt 8 (xor_lt h ?_))
    have := hl x List.mem_cons_self
    omega
theorem cfold_take (s : Nat) (l : List Nat) (k : Nat) (h : k < l.length) : cfold s (l.take (k + 1)) = csteps 8 (cfold s (l.take k) ^^^ l.getD k 0) := by
  unfold cfold
  rw [List.take_succ_eq_append_getElem h, List.foldl_append, List.getD_eq_getElem?_getD, List.getElem?_eq_getElem h]
  rfl
theorem cfold_append (s : Nat) (l r : List Nat) : cfold s (l ++ r) = cfold (cfold s l) r := by unfold cfold; rw [List.foldl_append]
theorem crc_lt (l : List Nat) : crc l < 4294967296 := by unfold crc; omega
theorem ones_xor {s : Nat} (h : s < 4294967296) : 4294967295 ^^^ s = 4294967295 - s := by
  have h1 : 4294967295 ^^^ s = 4294967295 - s := by
    apply Nat.eq_of_testBit_eq
    intro i
    have h2 := Nat.testBit_two_pow_sub_succ (x := s) (n := 32) h i
    rw [show 2 ^ 32 - (s + 1) = 4294967295 - s from by omega] at h2
    rw [h2, Nat.testBit_xor]
    have h3 := Nat.testBit_two_pow_sub_one 32 i
    rw [show 2 ^ 32 - 1 = 4294967295 from rfl] at h3
    rw [h3]
    by_cases hi : i < 32
    · simp [hi]
    · have : s.testBit i = false := Nat.testBit_lt_two_pow (by have h9 : 2 ^ 32 ≤ 2 ^ i := Nat.pow_le_pow_right (by omega) (by omega); omega)
      simp [hi, this]
  exact h1

/-- A step of a sum by exclusive or. -/
theorem cstep_xor (a b : Nat) : cstep (a ^^^ b) = cstep a ^^^ cstep b := by
  unfold cstep
  rw [half_xor, odd_xor]
  by_cases ha : a % 2 = 1 <;> by_cases hb : b % 2 = 1
  · rw [if_neg (by omega), if_pos ha, if_pos hb]
    rw [Nat.xor_assoc, Nat.xor_comm 3988292384, Nat.xor_assoc, Nat.xor_self, Nat.xor_zero]
  · rw [if_pos (by omega), if_pos ha, if_neg hb]
    rw [Nat.xor_assoc, Nat.xor_assoc, Nat.xor_comm 3988292384]
  · rw [if_pos (by omega), if_neg ha, if_pos hb, Nat.xor_assoc]
  · rw [if_neg (by omega), if_neg ha, if_neg hb]
theorem csteps_xor (j a b : Nat) : csteps j (a ^^^ b) = csteps j a ^^^ csteps j b := by
  induction j with
  | zero => rfl
  | succ j ih => unfold csteps; rw [ih, cstep_xor]
theorem csteps_add (i j s : Nat) : csteps (i + j) s = csteps i (csteps j s) := by
  induction i with
  | zero => rw [Nat.zero_add]; rfl
  | succ i ih => rw [Nat.succ_add]; unfold csteps; rw [ih]
theorem cstep_double (s : Nat) : cstep (2 * s) = s := by unfold cstep; rw [if_neg (by omega)]; omega
theorem csteps_pow (j s : Nat) : csteps j (s * 2 ^ j) = s := by
  induction j generalizing s with
  | zero => simp [csteps]
  | succ j ih =>
    rw [csteps_add j 1]
    rw [show s * 2 ^ (j + 1) = 2 * (s * 2 ^ j) from by rw [Nat.pow_succ]; rw [Nat.mul_comm 2, Nat.mul_assoc]]
    rw [show csteps 1 (2 * (s * 2 ^ j)) = s * 2 ^ j from cstep_double _]
    exact ih s
theorem cstep_pos {s : Nat} (h : s < 4294967296) (h0 : s ≠ 0) : cstep s ≠ 0 := by
  unfold cstep
  split
  · intro e
    have := xor_zero_eq e
    omega
  · omega
theorem csteps_pos (j : Nat) {s : Nat} (h : s < 4294967296) (h0 : s ≠ 0) : csteps j s ≠ 0 := by
  induction j with
  | zero => exact h0
  | succ j ih => exact cstep_pos (csteps_lt j h) ih
/-- A burst is never nothing. -/
theorem burst_pos (K k m : Nat) (hm : m < 4294967296) (h0 : m ≠ 0) : csteps K (m * 2 ^ k) ≠ 0 := by
  by_cases h : k ≤ K
  · obtain ⟨d, rfl⟩ := Nat.exists_eq_add_of_le' h
    rw [csteps_add, csteps_pow]
    exact csteps_pos d hm h0
  · obtain ⟨d, rfl⟩ := Nat.exists_eq_add_of_le (Nat.le_of_lt (Nat.lt_of_not_le h))
    rw [show m * 2 ^ (K + d) = (m * 2 ^ d) * 2 ^ K from by rw [Nat.pow_add, Nat.mul_assoc, Nat.mul_comm (2 ^ d)], csteps_pow]
    have := Nat.two_pow_pos d
    exact Nat.mul_ne_zero h0 (by omega)

/-- Bytes as one number, the lowest first. -/
def leN : List Nat → Nat
  | [] => 0
  | x :: l => x + 256 * leN l
theorem add_xor {x y : Nat} (h : x < 256) : x + 256 * y = x ^^^ 256 * y := by
  have := Nat.two_pow_add_eq_or_of_lt (i := 8) (b := x) h y
  rw [show 2 ^ 8 = 256 from rfl] at this
  rw [Nat.add_comm, this, Nat.or_comm]
  apply Nat.eq_of_testBit_eq
  intro i
  rw [Nat.testBit_or, Nat.testBit_xor]
  by_cases hi : i < 8
  · have : (256 * y).testBit i = false := by
      rw [Nat.mul_comm, show 256 = 2 ^ 8 from rfl, Nat.testBit_mul_two_pow]
      simp; omega
    simp [this]
  · have : x.testBit i = false := Nat.testBit_lt_two_pow (Nat.lt_of_lt_of_le h (by rw [show 256 = 2 ^ 8 from rfl]; exact Nat.pow_le_pow_right (by omega) (by omega)))
    simp [this]
theorem cfold_le (l : List Nat) (hl : Oct l) (s t : Nat) : csteps (8 * l.length) (s ^^^ leN l ^^^ t * 2 ^ (8 * l.length)) = cfold s l ^^^ t := by
  induction l generalizing s t with
  | nil => simp [csteps, leN, cfold]
  | cons x l ih =>
    have hx := hl x List.mem_cons_self
    rw [show 8 * (x :: l).length = 8 * l.length + 8 from by simp; omega, csteps_add]
    rw [show leN (x :: l) = x ^^^ 256 * leN l from add_xor hx]
    rw [show t * 2 ^ (8 * l.length + 8) = 256 * (t * 2 ^ (8 * l.length)) from by rw [Nat.pow_add, ← Nat.mul_assoc, Nat.mul_comm 256]]
    rw [csteps_xor 8, ← Nat.xor_assoc, csteps_xor 8]
    rw [show csteps 8 (256 * leN l) = leN l from by rw [Nat.mul_comm]; exact csteps_pow 8 _]
    rw [show csteps 8 (256 * (t * 2 ^ (8 * l.length))) = t * 2 ^ (8 * l.length) from by rw [Nat.mul_comm]; exact csteps_pow 8 _]
    rw [ih (fun y hy => hl y (List.mem_cons_of_mem _ hy))]
    rfl
theorem leN_append (l r : List Nat) : leN (l ++ r) = leN l + leN r * 2 ^ (8 * l.length) := by
  induction l with
  | nil => simp [leN]
  | cons x l ih =>
    simp only [List.cons_append, leN, List.length_cons, ih]
    rw [show 8 * (l.length + 1) = 8 * l.length + 8 from by omega, Nat.pow_add, Nat.mul_add, Nat.add_assoc]
    congr 2
    rw [← Nat.mul_assoc, Nat.mul_comm 256, Nat.mul_assoc]
    rw [Nat.mul_comm (2 ^ (8 * l.length)) (2 ^ 8)]
theorem leN_lt (l : List Nat) (hl : Oct l) : leN l < 2 ^ (8 * l.length) := by
  induction l with
  | nil => simp [leN]
  | cons x l ih =>
    have h1 := ih (fun y hy => hl y (List.mem_cons_of_mem _ hy))
    have hx := hl x List.mem_cons_self
    simp only [leN, List.length_cons]
    rw [show 8 * (l.length + 1) = 8 * l.length + 8 from by omega, Nat.pow_add]
    omega
theorem mul_xor (a : Nat) {x n : Nat} (h : x < 2 ^ n) : x + a * 2 ^ n = x ^^^ a * 2 ^ n := by
  have h1 := Nat.two_pow_add_eq_or_of_lt (i := n) (b := x) h a
  rw [Nat.mul_comm a, Nat.add_comm, h1, Nat.or_comm]
  apply Nat.eq_of_testBit_eq
  intro i
  rw [Nat.testBit_or, Nat.testBit_xor]
  by_cases hi : i < n
  · have : (2 ^ n * a).testBit i = false := by
      rw [Nat.mul_comm, Nat.testBit_mul_two_pow]
      simp; omega
    simp [this]
  · have : x.testBit i = false := Nat.testBit_lt_two_pow (Nat.lt_of_lt_of_le h (Nat.pow_le_pow_right (by omega) (by omega)))
    simp [this]
/-- What is told of bytes and of those behind them. -/
theorem cfold_two (l r : List Nat) (hl : Oct l) (s : Nat) : csteps (8 * l.length) (s ^^^ leN (l ++ r)) = cfold s l ^^^ leN r := by
  rw [leN_append, mul_xor _ (leN_lt l hl), ← Nat.xor_assoc, cfold_le l hl]
end Go.Proofs.YtmpipjangbedkaaGreat
