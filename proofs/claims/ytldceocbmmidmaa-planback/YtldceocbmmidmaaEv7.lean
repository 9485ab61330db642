/-
  Numbers that are read are those that were put. (No program is named here.)
-/
import Derived.Test.YtldceocbmmidmaaEv6
namespace Go.Proofs.Ytldceocbmmidmaa
open Go Go.RowKit
set_option linter.unusedVariables false

theorem pow9 : (128 : Nat) ^ 9 = 9223372036854775808 := by decide
theorem pow10 : (128 : Nat) ^ 10 = 1180591620717411303424 := by decide
theorem drop_head {b : List Nat} {j c : Nat} {r : List Nat} (h : b.drop j = c :: r) : j < b.length ∧ b.getD j 0 = c ∧ b.drop (j + 1) = r := by
  have hj : j < b.length := by
    rcases Nat.lt_or_ge j b.length with h1 | h1
    · exact h1
    · rw [List.drop_eq_nil_of_le h1] at h; cases h
  rw [List.drop_eq_getElem_cons hj] at h
  injection h with h1 h2
  exact ⟨hj, by rw [List.getD_eq_getElem?_getD, List.getElem?_eq_getElem hj]; exact h1, h2⟩
theorem step_sum (v i : Nat) : v % 128 * 128 ^ i + v / 128 * 128 ^ (i + 1) = v * 128 ^ i := by
  rw [Nat.pow_succ, ← Nat.mul_assoc, Nat.mul_right_comm, ← Nat.add_mul]
  congr 1
  omega
theorem rdn_complete (b : List Nat) (a : Nat) (r : List Nat) : ∀ (f i v U : Nat), i + f = 10 → v * 128 ^ i < 18446744073709551616 → (0 < i → 0 < v) → b.drop (a + i) = sevens v ++ r → rdn b a f i U = some (U + v * 128 ^ i, a + i + (sevens v).length) := by
  intro f
  induction f with
  | zero =>
    intro i v U hi hv hp hb
    obtain rfl : i = 10 := by omega
    have := hp (by omega)
    rw [pow10] at hv
    omega
  | succ f ih =>
    intro i v U hi hv hp hb
    have h9 : i = 9 → v < 2 := by rintro rfl; rw [pow9] at hv; omega
    by_cases hs : v < 128
    · rw [sevens_small hs] at hb ⊢
      obtain ⟨h1, h2, _⟩ := drop_head hb
      rw [rdn, if_pos h1, h2, if_neg (by omega), if_pos hs, Nat.mod_eq_of_lt hs]
      rfl
    · rw [sevens_great hs] at hb ⊢
      obtain ⟨h1, h2, h3⟩ := drop_head hb
      rw [rdn, if_pos h1, h2, if_neg (by omega), if_neg (by omega), show (v % 128 + 128) % 128 = v % 128 by omega]
      rw [ih (i + 1) (v / 128) _ (by omega) (by have := step_sum v i; omega) (by omega) (by rw [← Nat.add_assoc]; exact h3)]
      rw [List.length_cons, Nat.add_assoc, step_sum]
      congr 2
      omega
theorem rdn_sound (b : List Nat) (hO : Oct b) (a : Nat) : ∀ (f i U u p : Nat), i + f = 10 → rdn b a f i U = some (u, p) → ∃ v, u = U + v * 128 ^ i ∧ (v + 1) * 128 ^ i ≤ 18446744073709551616 ∧ (0 < i → 0 < v) ∧ b.drop (a + i) = sevens v ++ b.drop p ∧ a + i < p ∧ p ≤ b.length := by
  intro f
  induction f with
  | zero => intro i U u p hi h; cases h
  | succ f ih =>
    intro i U u p hi h
    rw [rdn] at h
    by_cases hl : a + i < b.length
    · rw [if_pos hl] at h
      have hd : b.drop (a + i) = b.getD (a + i) 0 :: b.drop (a + i + 1) := by
        rw [List.drop_eq_getElem_cons hl, List.getD_eq_getElem?_getD, List.getElem?_eq_getElem hl]
        rfl
      have hc8 : b.getD (a + i) 0 < 256 := by
        have : b.getD (a + i) 0 ∈ b := by rw [List.getD_eq_getElem?_getD, List.getElem?_eq_getElem hl]; exact List.getElem_mem _
        have := hO _ this; omega
      generalize b.getD (a + i) 0 = c at *
      by_cases hbad : (i = 9 ∧ 1 < c) ∨ (c = 0 ∧ 0 < i)
      · rw [if_pos hbad] at h; cases h
      · rw [if_neg hbad] at h
        have hpw : i < 9 → 128 ^ (i + 1) ≤ 9223372036854775808 := fun h9 => by rw [← pow9]; exact Nat.pow_le_pow_right (by omega) (by omega)
        have hps : 128 ^ (i + 1) = 128 * 128 ^ i := by rw [Nat.pow_succ, Nat.mul_comm]
        by_cases hs : c < 128
        · rw [if_pos hs, Nat.mod_eq_of_lt hs] at h
          injection h with h
          injection h with h1 h2
          refine ⟨c, h1.symm, ?_, by omega, by rw [sevens_small hs, hd, ← h2]; rfl, by omega, by omega⟩
          rcases Nat.lt_or_ge i 9 with h9 | h9
          · have h10 := hpw h9
            have h11 : (c + 1) * 128 ^ i ≤ 128 * 128 ^ i := Nat.mul_le_mul_right _ (by omega)
            omega
          · obtain rfl : i = 9 := by omega
            rw [pow9]
            omega
        · rw [if_neg hs] at h
          obtain ⟨v, e1, e2, e3, e4, e5, e6⟩ := ih (i + 1) _ u p (by omega) h
          have hv := e3 (by omega)
          refine ⟨c % 128 + 128 * v, ?_, ?_, by omega, ?_, by omega, e6⟩
          · rw [e1, Nat.add_mul, Nat.add_assoc, hps]
            congr 2
            rw [Nat.mul_right_comm, Nat.mul_comm v, Nat.mul_assoc, Nat.mul_comm (128 ^ i)]
          · have h11 : (c % 128 + 128 * v + 1) * 128 ^ i ≤ (128 * (v + 1)) * 128 ^ i := Nat.mul_le_mul_right _ (by omega)
            have h12 : (128 * (v + 1)) * 128 ^ i = (v + 1) * 128 ^ (i + 1) := by rw [hps, Nat.mul_comm 128 (v + 1), Nat.mul_assoc]
            omega
          · rw [sevens_great (by omega), hd, show (c % 128 + 128 * v) % 128 + 128 = c by omega, show (c % 128 + 128 * v) / 128 = v by omega, Nat.add_assoc, e4]
            rfl
    · rw [if_neg hl] at h; cases h
theorem unzig_zig {n : Int} : unzig (zig n) = n := by
  unfold zig unzig
  by_cases h : 0 ≤ n
  · rw [if_pos h, if_neg (by omega)]; omega
  · rw [if_neg h, if_pos (by omega)]; omega
theorem zig_unzig (u : Nat) : zig (unzig u) = u := by
  unfold unzig zig
  by_cases h : u % 2 = 1
  · rw [if_pos h, if_neg (by omega)]; omega
  · rw [if_neg h, if_pos (by omega)]; omega
theorem unzig_i64 {u : Nat} (h : u < 18446744073709551616) : I64 (unzig u) := by
  unfold unzig I64
  split <;> omega
/-- What number reads: the number, and the place behind it. -/
def readN (b : List Nat) (a : Nat) : Option (Int × Nat) := (rdn b a 10 0 0).map fun x => (unzig x.1, x.2)
theorem readN_put {b r : List Nat} {a : Nat} {n : Int} (hn : I64 n) (h : b.drop a = numB n ++ r) : readN b a = some (n, a + (numB n).length) := by
  unfold readN
  rw [rdn_complete b a r 10 0 (zig n) 0 rfl (by have := zig_lt hn; omega) (by omega) (by rw [Nat.add_zero]; exact h)]
  simp [unzig_zig, numB]
theorem readN_is {b : List Nat} (hO : Oct b) {a p : Nat} {n : Int} (h : readN b a = some (n, p)) : I64 n ∧ b.drop a = numB n ++ b.drop p ∧ a < p ∧ p ≤ b.length := by
  unfold readN at h
  cases hr : rdn b a 10 0 0 with
  | none => rw [hr] at h; cases h
  | some x =>
    obtain ⟨u, q⟩ := x
    rw [hr] at h
    simp at h
    obtain ⟨rfl, rfl⟩ := h
    obtain ⟨v, e1, e2, _, e4, e5, e6⟩ := rdn_sound b hO a 10 0 0 u q rfl hr
    have hu : u = v := by simpa using e1
    subst hu
    refine ⟨unzig_i64 (by simp at e2; omega), ?_, by simpa using e5, e6⟩
    unfold numB
    rw [zig_unzig]
    simpa using e4
theorem rdOut_read (b : List Nat) (a : Nat) : rdOut (rdn b a 10 0 0) = (match readN b a with | none => (0, -1) | some (n, p) => (n, (p : Int))) := by
  unfold readN
  cases rdn b a 10 0 0 with
  | none => rfl
  | some x => rfl
end Go.Proofs.Ytldceocbmmidmaa
