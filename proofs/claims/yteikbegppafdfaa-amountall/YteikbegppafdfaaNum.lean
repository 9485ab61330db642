/-
  Plain numbers: what an int64 can hold, words of 64 bits, and what package amount leans on. No program is named here.
-/
import Derived.WalkKit
import Derived.IntWalk
import Derived.Laws.Bits64
namespace Go.Proofs.Yteikbegppafdfaa
open Go.RowKit

/-- Can an int64 hold it? -/
def fits (x : Int) : Bool := decide (-9223372036854775808 ≤ x ∧ x ≤ 9223372036854775807)
/-- What the answer tells of an exact number. -/
def held (x : Int) : Int := if fits x then x else 0
/-- An int64. -/
def I64 (x : Int) : Prop := -9223372036854775808 ≤ x ∧ x ≤ 9223372036854775807

theorem fits_of {x : Int} (h : I64 x) : fits x = true := by unfold fits; unfold I64 at h; simp [h]
theorem held_of {x : Int} (h : I64 x) : held x = x := by unfold held; rw [fits_of h]; rfl
theorem fits_not {x : Int} (h : ¬ I64 x) : fits x = false := by unfold fits; unfold I64 at h; exact decide_eq_false h
theorem held_not {x : Int} (h : ¬ I64 x) : held x = 0 := by unfold held; rw [fits_not h]; rfl
theorem i64_held (x : Int) : I64 (held x) := by
  by_cases h : I64 x
  · rw [held_of h]; exact h
  · rw [held_not h]; unfold I64; omega
theorem fits_iff {x : Int} : fits x = true ↔ I64 x := by unfold fits I64; simp

theorem ret_int {k : IntKind} {a b : Int} (h : a = b) : Ending.returned (.int k a) = .returned (.int k b) := by rw [h]
theorem ret_two {k : IntKind} {a b : Int} {p q : Bool} (h : a = b) (h' : p = q) : Ending.returned (.tuple #[.int k a, .bool p]) = .returned (.tuple #[.int k b, .bool q]) := by rw [h, h']

/-- The lower word, and what is above it. -/
def lo64 (n : Int) : Int := n % 18446744073709551616
def up64 (n : Int) : Int := n / 18446744073709551616
/-- The upper word of an int64 as a number of 128 bits. -/
def sgnW (x : Int) : Int := if x < 0 then 18446744073709551615 else 0
theorem lo64_nn (n : Int) : 0 ≤ lo64 n := by unfold lo64; omega
theorem lo64_le (n : Int) : lo64 n ≤ 18446744073709551615 := by unfold lo64; omega
theorem sgnW_nn (n : Int) : 0 ≤ sgnW n := by unfold sgnW; split <;> omega
theorem sgnW_le (n : Int) : sgnW n ≤ 18446744073709551615 := by unfold sgnW; split <;> omega
theorem wrapu (n : Int) : IntKind.u64.wrap n = lo64 n := IntKind.wrap_u64 n

/-- One step of a sum in two words. -/
theorem step_lo (S x : Int) : lo64 (lo64 S + lo64 x) = lo64 (S + x) := by unfold lo64; omega
theorem step_ca (S x : Int) : 0 ≤ up64 (lo64 S + lo64 x) ∧ up64 (lo64 S + lo64 x) ≤ 1 := by unfold up64 lo64; omega
theorem step_hi (S x : Int) (hx : I64 x) : lo64 (lo64 (up64 S) + sgnW x + up64 (lo64 S + lo64 x)) = lo64 (up64 (S + x)) := by
  unfold I64 at hx
  unfold sgnW lo64 up64
  split <;> omega
/-- What the two words tell. -/
theorem two_words (S : Int) (h : -85070591730234615865843651857942052864 ≤ S ∧ S ≤ 85070591730234615865843651857942052864) : (lo64 (up64 S) = sgnW (wrap64 (lo64 S))) ↔ I64 S := by
  unfold sgnW lo64 up64 I64 wrap64
  split <;> omega
theorem one_word (S : Int) (h : I64 S) : wrap64 (lo64 S) = S := by
  unfold I64 at h
  unfold lo64 wrap64
  omega
end Go.Proofs.Yteikbegppafdfaa
