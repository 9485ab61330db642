/-
  Plain numbers of 128 bits: what a Wide can hold, its two words. No program is named here.
-/
import Derived.Test.YtiblbhppojfdaaaNum
namespace Go.Proofs.Ytiblbhppojfdaaa
open Go.RowKit

/-- A number that a Wide can hold. -/
def W128 (n : Int) : Prop := -170141183460469231731687303715884105728 ≤ n ∧ n ≤ 170141183460469231731687303715884105727
def wfits (n : Int) : Bool := decide (-170141183460469231731687303715884105728 ≤ n ∧ n ≤ 170141183460469231731687303715884105727)
def wheld (n : Int) : Int := if wfits n then n else 0
theorem wfits_of {n : Int} (h : W128 n) : wfits n = true := by unfold wfits; unfold W128 at h; simp [h]
theorem wheld_of {n : Int} (h : W128 n) : wheld n = n := by unfold wheld; rw [wfits_of h]; rfl
theorem wfits_not {n : Int} (h : ¬ W128 n) : wfits n = false := by unfold wfits; unfold W128 at h; exact decide_eq_false h
theorem wheld_not {n : Int} (h : ¬ W128 n) : wheld n = 0 := by unfold wheld; rw [wfits_not h]; rfl
theorem w128_zero : W128 0 := by unfold W128; omega
theorem w128_held (n : Int) : W128 (wheld n) := by
  by_cases h : W128 n
  · rw [wheld_of h]; exact h
  · rw [wheld_not h]; exact w128_zero
theorem w128_i64 {x : Int} (h : I64 x) : W128 x := by unfold I64 at h; unfold W128; omega
/-- The words of a Wide. -/
theorem up_i64 {n : Int} (h : W128 n) : I64 (up64 n) := by unfold W128 at h; unfold I64 up64; omega
theorem up_lo (n : Int) : 18446744073709551616 * up64 n + lo64 n = n := by unfold up64 lo64; omega
/-- The number of two words. -/
def num (h l : Int) : Int := 18446744073709551616 * h + l
theorem up_num {h l : Int} (h0 : 0 ≤ l) (h1 : l ≤ 18446744073709551615) : up64 (num h l) = h := by unfold up64 num; omega
theorem lo_num {h l : Int} (h0 : 0 ≤ l) (h1 : l ≤ 18446744073709551615) : lo64 (num h l) = l := by unfold lo64 num; omega
theorem w128_num {h l : Int} (hh : I64 h) (h0 : 0 ≤ l) (h1 : l ≤ 18446744073709551615) : W128 (num h l) := by unfold I64 at hh; unfold W128 num; omega
theorem up_inj {n m : Int} (h1 : up64 n = up64 m) (h2 : lo64 n = lo64 m) : n = m := by unfold up64 at h1; unfold lo64 at h2; omega

/-- -1, 0, 1: how two numbers lie. -/
def cmp3 (a b : Int) : Int := if a < b then -1 else if b < a then 1 else 0
theorem cmp3_range (a b : Int) : -1 ≤ cmp3 a b ∧ cmp3 a b ≤ 1 := by unfold cmp3; split <;> (try split) <;> omega
/-- The first that is not 0. -/
def firstNZ : List Int → Int
  | [] => 0
  | x :: l => if x = 0 then firstNZ l else x
theorem cmp3_words (a b : Int) : firstNZ [cmp3 (up64 a) (up64 b), cmp3 (lo64 a) (lo64 b)] = cmp3 a b := by
  have ha := up_lo a
  have hb := up_lo b
  have a1 := lo64_nn a
  have a2 := lo64_le a
  have b1 := lo64_nn b
  have b2 := lo64_le b
  generalize up64 a = ah at *
  generalize lo64 a = al at *
  generalize up64 b = bh at *
  generalize lo64 b = bl at *
  subst ha hb
  simp only [firstNZ, cmp3]
  repeat' split
  all_goals first | rfl | omega
theorem firstNZ_drop (l : List Int) (k : Nat) (h : k < l.length) (hz : l.getD k 0 = 0) : firstNZ (l.drop (k + 1)) = firstNZ (l.drop k) := by
  rw [List.drop_eq_getElem_cons h]
  have : l[k] = 0 := by rw [List.getD_eq_getElem?_getD, List.getElem?_eq_getElem h] at hz; simpa using hz
  simp [firstNZ, this]
theorem firstNZ_at (l : List Int) (k : Nat) (h : k < l.length) (hz : l.getD k 0 ≠ 0) : firstNZ (l.drop k) = l.getD k 0 := by
  rw [List.drop_eq_getElem_cons h]
  have e : l.getD k 0 = l[k] := by rw [List.getD_eq_getElem?_getD, List.getElem?_eq_getElem h]; rfl
  rw [e] at hz ⊢
  simp [firstNZ, hz]

/-- A number of 128 bits, wrapped round. -/
def wrap128 (n : Int) : Int := (n + 170141183460469231731687303715884105728) % 340282366920938463463374607431768211456 - 170141183460469231731687303715884105728
theorem wrap128_w (n : Int) : W128 (wrap128 n) := by unfold W128 wrap128; omega
theorem wrap128_of {n : Int} (h : W128 n) : wrap128 n = n := by unfold W128 at h; unfold wrap128; omega
theorem add_lo (a b : Int) : lo64 (lo64 a + lo64 b) = lo64 (wrap128 (a + b)) := by unfold lo64 wrap128; omega
theorem add_hi (a b : Int) : wrap64 (lo64 (lo64 (up64 a) + lo64 (up64 b) + up64 (lo64 a + lo64 b))) = up64 (wrap128 (a + b)) := by unfold lo64 up64 wrap128 wrap64; omega
/-- What is borrowed. -/
def brw (x y c : Int) : Int := if x < y + c then 1 else 0
theorem brw_range (x y c : Int) : 0 ≤ brw x y c ∧ brw x y c ≤ 1 := by unfold brw; split <;> omega
theorem sub_lo (a b : Int) : lo64 (lo64 a - lo64 b) = lo64 (wrap128 (a - b)) := by unfold lo64 wrap128; omega
theorem sub_hi (a b : Int) : wrap64 (lo64 (lo64 (up64 a) - lo64 (up64 b) - brw (lo64 a) (lo64 b) 0)) = up64 (wrap128 (a - b)) := by
  unfold brw
  split
  all_goals
    unfold lo64 at *
    unfold up64 wrap128 wrap64
    omega
end Go.Proofs.Ytiblbhppojfdaaa
