/-
  The sum of bytes, as plain numbers: one step a bit; bytes as one number; what a burst of turned bits does to it. No program is named here.
-/
import Derived.WalkKit
namespace Go.Proofs.Ytjlhmiajklddiaa
set_option maxRecDepth 8000
open Go.RowKit

/-- One bit goes out. -/
def cstep (s : Nat) : Nat := if s % 2 = 1 then s / 2 ^^^ 3988292384 else s / 2
def csteps : Nat → Nat → Nat
  | 0, s => s
  | j + 1, s => cstep (csteps j s)
def cfold (s : Nat) (l : List Nat) : Nat := l.foldl (fun s x => csteps 8 (s ^^^ x)) s
/-- The sum of bytes. -/
def crc (l : List Nat) : Nat := 4294967295 - cfold 4294967295 l
/-- Each one is a byte. -/
def Oct (l : List Nat) : Prop := ∀ x ∈ l, x < 256

theorem half_xor (a b : Nat) : (a ^^^ b) / 2 = a / 2 ^^^ b / 2 := by
  apply Nat.eq_of_testBit_eq
  intro i
  rw [Nat.testBit_div_two, Nat.testBit_xor, Nat.testBit_xor, Nat.testBit_div_two, Nat.testBit_div_two]
theorem odd_xor (a b : Nat) : (a ^^^ b) % 2 = (a + b) % 2 := by
  have h := Nat.testBit_xor a b 0
  simp only [Nat.testBit_zero] at h
  rcases Nat.mod_two_eq_zero_or_one a with ha | ha <;> rcases Nat.mod_two_eq_zero_or_one b with hb | hb <;> rcases Nat.mod_two_eq_zero_or_one (a ^^^ b) with hc | hc <;> simp [ha, hb, hc] at h <;> omega
theorem xor_zero_eq {a b : Nat} (e : a ^^^ b = 0) : a = b := by
  have h := congrArg (· ^^^ b) e
  simp only [Nat.xor_assoc, Nat.xor_self, Nat.xor_zero, Nat.zero_xor] at h
  exact h
theorem cstep_lt {s : Nat} (h : s < 4294967296) : cstep s < 4294967296 := by
  unfold cstep
  split
  · exact Nat.xor_lt_two_pow (n := 32) (by omega) (by omega)
  · omega
theorem csteps_lt (j : Nat) {s : Nat} (h : s < 4294967296) : csteps j s < 4294967296 := by
  induction j with
  | zero => exact h
  | succ j ih => exact cstep_lt ih
theorem xor_lt {a b : Nat} (ha : a < 4294967296) (hb : b < 4294967296) : a ^^^ b < 4294967296 := Nat.xor_lt_two_pow (n := 32) ha hb
theorem cfold_lt (l : List Nat) (hl : Oct l) {s : Nat} (h : s < 4294967296) : cfold s l < 4294967296 := by
  induction l generalizing s with
  | nil => exact h
  | cons x l ih =>
    refine ih (fun y hy => hl y (List.mem_cons_of_mem _ hy)) (csteps_lt 8 (xor_lt h ?_))
    have := hl x List.mem_cons_self
    omega
theorem cfold_take (s : Nat) (l : List Nat) (k : Nat) (h : k < l.length) : cfold s (l.take (k + 1)) = csteps 8 (cfold s (l.take k) ^^^ l.getD k 0) := by
  unfold cfold
  rw [List.take_succ_eq_append_getElem h, List.foldl_append, List.getD_eq_getElem?_getD, List.getElem?_eq_getElem h]
  rfl
theorem cfold_append (s : Nat) (l r : List Nat) : cfold s (l ++ r) = cfold (cfold s l) r := by unfold cfold; rw [List.foldl_append]
theorem crc_lt (l : List Nat) : crc l < 4294967296 := by unfold crc; omega
theorem ones_xor {s : Nat} (h : s < 4294967296) : 4294967295 ^^^ s = 4294967295 - s := by
  have h1 : 4294967295 ^^^ s = 4294967295 - s := by
    apply Nat.eq_of_testBit_eq
    intro i
    have h2 := Nat.testBit_two_pow_sub_succ (x := s) (n := 32) h i
    rw [show 2 ^ 32 - (s + 1) = 4294967295 - s from by omega] at h2
    rw [h2, Nat.testBit_xor]
    have h3 := Nat.testBit_two_pow_sub_one 32 i
    rw [show 2 ^ 32 - 1 = 4294967295 from rfl] at h3
    rw [h3]
    by_cases hi : i < 32
    · simp [hi]
    · have : s.testBit i = false := Nat.testBit_lt_two_pow (by have h9 : 2 ^ 32 ≤ 2 ^ i := Nat.pow_le_pow_right (by omega) (by omega); omega)
      simp [hi, this]
  exact h1

/-- A step of a sum by exclusive or. -/
theorem cstep_xor (a b : Nat) : cstep (a ^^^ b) = cstep a ^^^ cstep b := by
  unfold cstep
  rw [half_xor, odd_xor]
  by_cases ha : a % 2 = 1 <;> by_cases hb : b % 2 = 1
  · rw [if_neg (by omega), if_pos ha, if_pos hb]
    rw [Nat.xor_assoc, Nat.xor_comm 3988292384, Nat.xor_assoc, Nat.xor_self, Nat.xor_zero]
  · rw [if_pos (by omega), if_pos ha, if_neg hb]
    rw [Nat.xor_assoc, Nat.xor_assoc, Nat.xor_comm 3988292384]
  · rw [if_pos (by omega), if_neg ha, if_pos hb, Nat.xor_assoc]
  · rw [if_neg (by omega), if_neg ha, if_neg hb]
theorem csteps_xor (j a b : Nat) : csteps j (a ^^^ b) = csteps j a ^^^ csteps j b := by
  induction j with
  | zero => rfl
  | succ j ih => unfold csteps; rw [ih, cstep_xor]
theorem csteps_add (i j s : Nat) : csteps (i + j) s = csteps i (csteps j s) := by
  induction i with
  | zero => rw [Nat.zero_add]; rfl
  | succ i ih => rw [Nat.succ_add]; unfold csteps; rw [ih]
theorem cstep_double (s : Nat) : cstep (2 * s) = s := by unfold cstep; rw [if_neg (by omega)]; omega
theorem csteps_pow (j s : Nat) : csteps j (s * 2 ^ j) = s := by
  induction j generalizing s with
  | zero => simp [csteps]
  | succ j ih =>
    rw [csteps_add j 1]
    rw [show s * 2 ^ (j + 1) = 2 * (s * 2 ^ j) from by rw [Nat.pow_succ]; rw [Nat.mul_comm 2, Nat.mul_assoc]]
    rw [show csteps 1 (2 * (s * 2 ^ j)) = s * 2 ^ j from cstep_double _]
    exact ih s
theorem cstep_pos {s : Nat} (h : s < 4294967296) (h0 : s ≠ 0) : cstep s ≠ 0 := by
  unfold cstep
  split
  · intro e
    have := xor_zero_eq e
    omega
  · omega
theorem csteps_pos (j : Nat) {s : Nat} (h : s < 4294967296) (h0 : s ≠ 0) : csteps j s ≠ 0 := by
  induction j with
  | zero => exact h0
  | succ j ih => exact cstep_pos (csteps_lt j h) ih
/-- A burst is never nothing. -/
theorem burst_pos (K k m : Nat) (hm : m < 4294967296) (h0 : m ≠ 0) : csteps K (m * 2 ^ k) ≠ 0 := by
  by_cases h : k ≤ K
  · obtain ⟨d, rfl⟩ := Nat.exists_eq_add_of_le' h
    rw [csteps_add, csteps_pow]
    exact csteps_pos d hm h0
  · obtain ⟨d, rfl⟩ := Nat.exists_eq_add_of_le (Nat.le_of_lt (Nat.lt_of_not_le h))
    rw [show m * 2 ^ (K + d) = (m * 2 ^ d) * 2 ^ K from by rw [Nat.pow_add, Nat.mul_assoc, Nat.mul_comm (2 ^ d)], csteps_pow]
    have := Nat.two_pow_pos d
    exact Nat.mul_ne_zero h0 (by omega)

/-- Bytes as one number, the lowest first. -/
def leN : List Nat → Nat
  | [] => 0
  | x :: l => x + 256 * leN l
theorem add_xor {x y : Nat} (h : x < 256) : x + 256 * y = x ^^^ 256 * y := by
  have := Nat.two_pow_add_eq_or_of_lt (i := 8) (b := x) h y
  rw [show 2 ^ 8 = 256 from rfl] at this
  rw [Nat.add_comm, this, Nat.or_comm]
  apply Nat.eq_of_testBit_eq
  intro i
  rw [Nat.testBit_or, Nat.testBit_xor]
  by_cases hi : i < 8
  · have : (256 * y).testBit i = false := by
      rw [Nat.mul_comm, show 256 = 2 ^ 8 from rfl, Nat.testBit_mul_two_pow]
      simp; omega
    simp [this]
  · have : x.testBit i = false := Nat.testBit_lt_two_pow (Nat.lt_of_lt_of_le h (by rw [show 256 = 2 ^ 8 from rfl]; exact Nat.pow_le_pow_right (by omega) (by omega)))
    simp [this]
theorem cfold_le (l : List Nat) (hl : Oct l) (s t : Nat) : csteps (8 * l.length) (s ^^^ leN l ^^^ t * 2 ^ (8 * l.length)) = cfold s l ^^^ t := by
  induction l generalizing s t with
  | nil => simp [csteps, leN, cfold]
  | cons x l ih =>
    have hx := hl x List.mem_cons_self
    rw [show 8 * (x :: l).length = 8 * l.length + 8 from by simp; omega, csteps_add]
    rw [show leN (x :: l) = x ^^^ 256 * leN l from add_xor hx]
    rw [show t * 2 ^ (8 * l.length + 8) = 256 * (t * 2 ^ (8 * l.length)) from by rw [Nat.pow_add, ← Nat.mul_assoc, Nat.mul_comm 256]]
    rw [csteps_xor 8, ← Nat.xor_assoc, csteps_xor 8]
    rw [show csteps 8 (256 * leN l) = leN l from by rw [Nat.mul_comm]; exact csteps_pow 8 _]
    rw [show csteps 8 (256 * (t * 2 ^ (8 * l.length))) = t * 2 ^ (8 * l.length) from by rw [Nat.mul_comm]; exact csteps_pow 8 _]
    rw [ih (fun y hy => hl y (List.mem_cons_of_mem _ hy))]
    rfl
theorem leN_append (l r : List Nat) : leN (l ++ r) = leN l + leN r * 2 ^ (8 * l.length) := by
  induction l with
  | nil => simp [leN]
  | cons x l ih =>
    simp only [List.cons_append, leN, List.length_cons, ih]
    rw [show 8 * (l.length + 1) = 8 * l.length + 8 from by omega, Nat.pow_add, Nat.mul_add, Nat.add_assoc]
    congr 2
    rw [← Nat.mul_assoc, Nat.mul_comm 256, Nat.mul_assoc]
    rw [Nat.mul_comm (2 ^ (8 * l.length)) (2 ^ 8)]
theorem leN_lt (l : List Nat) (hl : Oct l) : leN l < 2 ^ (8 * l.length) := by
  induction l with
  | nil => simp [leN]
  | cons x l ih =>
    have h1 := ih (fun y hy => hl y (List.mem_cons_of_mem _ hy))
    have hx := hl x List.mem_cons_self
    simp only [leN, List.length_cons]
    rw [show 8 * (l.length + 1) = 8 * l.length + 8 from by omega, Nat.pow_add]
    omega
theorem mul_xor (a : Nat) {x n : Nat} (h : x < 2 ^ n) : x + a * 2 ^ n = x ^^^ a * 2 ^ n := by
  have h1 := Nat.two_pow_add_eq_or_of_lt (i := n) (b := x) h a
  rw [Nat.mul_comm a, Nat.add_comm, h1, Nat.or_comm]
  apply Nat.eq_of_testBit_eq
  intro i
  rw [Nat.testBit_or, Nat.testBit_xor]
  by_cases hi : i < n
  · have : (2 ^ n * a).testBit i = false := by
      rw [Nat.mul_comm, Nat.testBit_mul_two_pow]
      simp; omega
    simp [this]
  · have : x.testBit i = false := Nat.testBit_lt_two_pow (Nat.lt_of_lt_of_le h (Nat.pow_le_pow_right (by omega) (by omega)))
    simp [this]
/-- What is told of bytes and of those behind them. -/
theorem cfold_two (l r : List Nat) (hl : Oct l) (s : Nat) : csteps (8 * l.length) (s ^^^ leN (l ++ r)) = cfold s l ^^^ leN r := by
  rw [leN_append, mul_xor _ (leN_lt l hl), ← Nat.xor_assoc, cfold_le l hl]
end Go.Proofs.Ytjlhmiajklddiaa
