/-
  Plain numbers: what an int64 can hold, words of 64 bits, and what package amount leans on. No program is named here.
-/
import Derived.WalkKit
import Derived.IntWalk
import Derived.Laws.Bits64
import Derived.Laws.Bits64b
namespace Go.Proofs.Ytjlhmiajklddiaa
set_option maxRecDepth 8000
open Go.RowKit

/-- Can an int64 hold it? -/
def fits (x : Int) : Bool := decide (-9223372036854775808 ≤ x ∧ x ≤ 9223372036854775807)
/-- What the answer tells of an exact number. -/
def held (x : Int) : Int := if fits x then x else 0
/-- An int64. -/
def I64 (x : Int) : Prop := -9223372036854775808 ≤ x ∧ x ≤ 9223372036854775807

theorem fits_of {x : Int} (h : I64 x) : fits x = true := by unfold fits; unfold I64 at h; simp [h]
theorem held_of {x : Int} (h : I64 x) : held x = x := by unfold held; rw [fits_of h]; rfl
theorem fits_not {x : Int} (h : ¬ I64 x) : fits x = false := by unfold fits; unfold I64 at h; exact decide_eq_false h
theorem held_not {x : Int} (h : ¬ I64 x) : held x = 0 := by unfold held; rw [fits_not h]; rfl
theorem i64_held (x : Int) : I64 (held x) := by
  by_cases h : I64 x
  · rw [held_of h]; exact h
  · rw [held_not h]; unfold I64; omega
theorem fits_iff {x : Int} : fits x = true ↔ I64 x := by unfold fits I64; simp

theorem ret_int {k : IntKind} {a b : Int} (h : a = b) : Ending.returned (.int k a) = .returned (.int k b) := by rw [h]
theorem ret_two {k : IntKind} {a b : Int} {p q : Bool} (h : a = b) (h' : p = q) : Ending.returned (.tuple #[.int k a, .bool p]) = .returned (.tuple #[.int k b, .bool q]) := by rw [h, h']

/-- The lower word, and what is above it. -/
def lo64 (n : Int) : Int := n % 18446744073709551616
def up64 (n : Int) : Int := n / 18446744073709551616
/-- The upper word of an int64 as a number of 128 bits. -/
def sgnW (x : Int) : Int := if x < 0 then 18446744073709551615 else 0
theorem lo64_nn (n : Int) : 0 ≤ lo64 n := by unfold lo64; omega
theorem lo64_le (n : Int) : lo64 n ≤ 18446744073709551615 := by unfold lo64; omega
theorem sgnW_nn (n : Int) : 0 ≤ sgnW n := by unfold sgnW; split <;> omega
theorem sgnW_le (n : Int) : sgnW n ≤ 18446744073709551615 := by unfold sgnW; split <;> omega
theorem wrapu (n : Int) : IntKind.u64.wrap n = lo64 n := IntKind.wrap_u64 n

/-- One step of a sum in two words. -/
theorem step_lo (S x : Int) : lo64 (lo64 S + lo64 x) = lo64 (S + x) := by unfold lo64; omega
theorem step_ca (S x : Int) : 0 ≤ up64 (lo64 S + lo64 x) ∧ up64 (lo64 S + lo64 x) ≤ 1 := by unfold up64 lo64; omega
theorem step_hi (S x : Int) (hx : I64 x) : lo64 (lo64 (up64 S) + sgnW x + up64 (lo64 S + lo64 x)) = lo64 (up64 (S + x)) := by
  unfold I64 at hx
  unfold sgnW lo64 up64
  split <;> omega
/-- What the two words tell. -/
theorem two_words (S : Int) (h : -85070591730234615865843651857942052864 ≤ S ∧ S ≤ 85070591730234615865843651857942052864) : (lo64 (up64 S) = sgnW (wrap64 (lo64 S))) ↔ I64 S := by
  unfold sgnW lo64 up64 I64 wrap64
  split <;> omega
theorem one_word (S : Int) (h : I64 S) : wrap64 (lo64 S) = S := by
  unfold I64 at h
  unfold lo64 wrap64
  omega

theorem mask32 (a : Nat) (ha : a < 18446744073709551616) : bits .and .u64 (a : Int) 4294967295 = ((a % 4294967296 : Nat) : Int) := by
  have h := bits_and_u64_nat a 4294967295 ha (by omega)
  rw [show a &&& 4294967295 = a % 4294967296 from Nat.and_two_pow_sub_one_eq_mod a 32] at h
  exact h
theorem divN (a : Nat) : (a : Int) / 4294967296 = ((a / 4294967296 : Nat) : Int) := by omega
theorem mulN (a b : Nat) : (a : Int) * (b : Int) = ((a * b : Nat) : Int) := (Int.natCast_mul a b).symm
theorem addN (a b : Nat) : (a : Int) + (b : Int) = ((a + b : Nat) : Int) := (Int.natCast_add a b).symm
theorem wrapN (a : Nat) (ha : a < 18446744073709551616) : IntKind.u64.wrap (a : Int) = (a : Int) := by rw [IntKind.wrap_u64]; omega
theorem wrapM (a : Nat) : IntKind.u64.wrap (a : Int) = ((a % 18446744073709551616 : Nat) : Int) := by rw [IntKind.wrap_u64]; omega

theorem mask32i (a : Int) (h0 : 0 ≤ a) (h1 : a < 18446744073709551616) : bits .and .u64 a 4294967295 = a % 4294967296 := by
  obtain ⟨n, rfl⟩ := Int.eq_ofNat_of_zero_le h0
  rw [mask32 n (by omega)]
  omega

theorem take_sum (l : List Int) (k : Nat) (h : k < l.length) : (l.take (k + 1)).sum = (l.take k).sum + l.getD k 0 := by
  rw [List.take_succ_eq_append_getElem h, List.sum_append, List.getD_eq_getElem?_getD, List.getElem?_eq_getElem h]
  simp

theorem take_bound (l : List Int) (hl : ∀ x ∈ l, I64 x) (k : Nat) (hk : k ≤ l.length) : -(9223372036854775808 * (k : Int)) ≤ (l.take k).sum ∧ (l.take k).sum ≤ 9223372036854775808 * (k : Int) := by
  induction k with
  | zero => simp
  | succ k ih =>
    have h := ih (by omega)
    have hx := hl (l.getD k 0) (by rw [List.getD_eq_getElem?_getD, List.getElem?_eq_getElem (by omega)]; simp)
    unfold I64 at hx
    rw [take_sum l k (by omega)]
    omega

end Go.Proofs.Ytjlhmiajklddiaa
