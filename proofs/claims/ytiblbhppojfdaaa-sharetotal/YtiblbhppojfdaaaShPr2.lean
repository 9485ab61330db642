/-
  Plain numbers: shares go as weights do. No program is named here.
-/
import Derived.Test.YtiblbhppojfdaaaShPr
namespace Go.Proofs.Ytiblbhppojfdaaa
open Go.RowKit

section
variable (t : Int) (w : List Int) (ht : 0 ≤ t) (hw : ∀ x ∈ w, 0 ≤ x) (hS : 0 < w.sum)
include ht hw hS
/-- A greater weight has no smaller share; of two alike the lesser place has none smaller. -/
theorem splitL_ge (k i : Nat) (hk : k < w.length) (hi : i < w.length) (h : w.getD i 0 < w.getD k 0 ∨ (w.getD i 0 = w.getD k 0 ∧ k ≤ i)) : (splitL t w).getD i 0 ≤ (splitL t w).getD k 0 := by
  rw [splitL_getD t w ht hw hS i hi, splitL_getD t w ht hw hS k hk]
  have hle : t * w.getD i 0 ≤ t * w.getD k 0 := Int.mul_le_mul_of_nonneg_left (by omega) ht
  have hq : t * w.getD i 0 / w.sum ≤ t * w.getD k 0 / w.sum := Int.ediv_le_ediv hS hle
  by_cases hlt : t * w.getD i 0 / w.sum < t * w.getD k 0 / w.sum
  · split <;> split <;> omega
  · have he : t * w.getD i 0 / w.sum = t * w.getD k 0 / w.sum := by omega
    by_cases hm : i ∈ (ordL (rst t w)).take (lack t w).toNat
    · have hrp := rest_pos t w ht hw hS i hm
      have hkm : k ∈ (ordL (rst t w)).take (lack t w).toNat := by
        refine first_closed (rst t w) _ i k (by rw [rst_length]; exact hk) ?_ hm
        unfold leq
        rw [rst_getD _ _ _ hi] at hrp ⊢
        rw [rst_getD _ _ _ hk]
        have e1 := Int.mul_ediv_add_emod (t * w.getD i 0) w.sum
        have e2 := Int.mul_ediv_add_emod (t * w.getD k 0) w.sum
        rw [he] at e1
        have hlt2 : w.getD i 0 < w.getD k 0 → t * w.getD i 0 < t * w.getD k 0 := by
          intro hx
          have ht0 : 0 < t := by
            rcases Int.lt_or_eq_of_le ht with h0 | h0
            · exact h0
            · rw [← h0, Int.zero_mul] at hrp; simp at hrp
          exact Int.mul_lt_mul_of_pos_left hx ht0
        rcases h with h | h
        · left; have := hlt2 h; omega
        · right; rw [h.1]; exact ⟨rfl, h.2⟩
      rw [if_pos hm, if_pos hkm]
      omega
    · rw [if_neg hm]
      split <;> omega
theorem splitL_near (k i : Nat) (hk : k < w.length) (hi : i < w.length) (h : w.getD i 0 = w.getD k 0) : (splitL t w).getD k 0 ≤ (splitL t w).getD i 0 + 1 := by
  rw [splitL_getD t w ht hw hS i hi, splitL_getD t w ht hw hS k hk, h]
  split <;> split <;> omega
/-- Each share is less than one unit from total by weight by all weights. -/
theorem splitL_off (i : Nat) (hi : i < w.length) : (((splitL t w).getD i 0 * w.sum - t * w.getD i 0).natAbs : Int) < w.sum := by
  rw [splitL_getD t w ht hw hS i hi]
  have e1 := Int.mul_ediv_add_emod (t * w.getD i 0) w.sum
  have h1 := Int.emod_nonneg (t * w.getD i 0) (Int.ne_of_gt hS)
  have h2 := Int.emod_lt_of_pos (t * w.getD i 0) hS
  by_cases hm : i ∈ (ordL (rst t w)).take (lack t w).toNat
  · have hrp := rest_pos t w ht hw hS i hm
    rw [rst_getD _ _ _ hi] at hrp
    rw [if_pos hm, Int.add_mul, Int.mul_comm _ w.sum]
    omega
  · rw [if_neg hm, Int.add_zero, Int.mul_comm _ w.sum]
    omega
end
end Go.Proofs.Ytiblbhppojfdaaa
