/-
  Bits turned in bytes, as plain lists; a record of which bits within 32 in a row were turned is none; rows of bytes of the call's own.
-/
import Derived.Test.YtmopipclheohcaaFr8
namespace Go.Proofs.Ytmopipclheohcaa
open Go.RowKit

theorem mul_pow_xor (a b n : Nat) : (a ^^^ b) * 2 ^ n = a * 2 ^ n ^^^ b * 2 ^ n := by
  apply Nat.eq_of_testBit_eq
  intro i
  rw [Nat.testBit_xor, Nat.testBit_mul_two_pow, Nat.testBit_mul_two_pow, Nat.testBit_mul_two_pow, Nat.testBit_xor]
  cases decide (n ≤ i) <;> simp
theorem byte_xor {x e : Nat} (hx : x < 256) (he : e < 8) : x ^^^ 2 ^ e < 256 :=
  Nat.xor_lt_two_pow (n := 8) hx (Nat.pow_lt_pow_right (by omega) he)
/-- One bit turned. -/
def flipL (l : List Nat) (j : Nat) : List Nat := l.set (j / 8) (l.getD (j / 8) 0 ^^^ 2 ^ (j % 8))
theorem flipL_length (l : List Nat) (j : Nat) : (flipL l j).length = l.length := by unfold flipL; rw [List.length_set]
theorem flipL_oct {l : List Nat} (h : Oct l) (j : Nat) : Oct (flipL l j) := by
  intro x hx
  unfold flipL at hx
  rcases List.mem_or_eq_of_mem_set hx with h1 | rfl
  · exact h x h1
  · exact byte_xor (getD_oct h _) (Nat.mod_lt _ (by omega))
theorem leN_set (l : List Nat) (h : Oct l) (i e : Nat) (hi : i < l.length) (he : e < 8) : leN (l.set i (l.getD i 0 ^^^ 2 ^ e)) = leN l ^^^ 2 ^ (8 * i + e) := by
  induction l generalizing i with
  | nil => simp at hi
  | cons x l ih =>
    have hx := h x List.mem_cons_self
    have hl : Oct l := fun y hy => h y (List.mem_cons_of_mem _ hy)
    cases i with
    | zero =>
      simp only [List.set_cons_zero, List.getD_cons_zero, leN, Nat.mul_zero, Nat.zero_add]
      rw [add_xor (byte_xor hx he), add_xor hx, Nat.xor_assoc, Nat.xor_assoc, Nat.xor_comm (2 ^ e)]
    | succ i =>
      simp only [List.set_cons_succ, List.getD_cons_succ, leN]
      rw [ih hl i (by simp at hi; omega), add_xor hx, add_xor hx, Nat.mul_comm 256 (leN l ^^^ _), show 256 = 2 ^ 8 from rfl, mul_pow_xor, ← Nat.pow_add, Nat.mul_comm (leN l), Nat.xor_assoc]
      congr 3
      omega
theorem leN_flip (l : List Nat) (h : Oct l) (j : Nat) (hj : j < 8 * l.length) : leN (flipL l j) = leN l ^^^ 2 ^ j := by
  unfold flipL
  rw [leN_set l h (j / 8) (j % 8) (by omega) (Nat.mod_lt _ (by omega))]
  congr 2
  omega
/-- The bits of m up to the i-th, from place k on, turned. -/
def flips (l : List Nat) (k m : Nat) : Nat → List Nat
  | 0 => l
  | i + 1 => if m / 2 ^ i % 2 = 1 then flipL (flips l k m i) (k + i) else flips l k m i
theorem flips_length (l : List Nat) (k m i : Nat) : (flips l k m i).length = l.length := by
  induction i with
  | zero => rfl
  | succ i ih => unfold flips; split; rw [flipL_length, ih]; exact ih
theorem flips_oct {l : List Nat} (h : Oct l) (k m i : Nat) : Oct (flips l k m i) := by
  induction i with
  | zero => exact h
  | succ i ih => unfold flips; split; exact flipL_oct ih _; exact ih
theorem mod_succ (m i : Nat) : m % 2 ^ (i + 1) = m % 2 ^ i + m / 2 ^ i % 2 * 2 ^ i := by
  rw [Nat.pow_succ, Nat.mod_mul, Nat.mul_comm (2 ^ i)]
theorem leN_flips (l : List Nat) (h : Oct l) (k m i : Nat) (hk : k + i ≤ 8 * l.length) : leN (flips l k m i) = leN l ^^^ (m % 2 ^ i) * 2 ^ k := by
  induction i with
  | zero => simp [flips, Nat.mod_one]
  | succ i ih =>
    have e := ih (by omega)
    rw [mod_succ]
    unfold flips
    split
    · rename_i h1
      rw [leN_flip _ (flips_oct h k m i) _ (by rw [flips_length]; omega), e, h1, Nat.one_mul, Nat.xor_assoc]
      congr 1
      have h2 := mul_xor 1 (Nat.mod_lt m (Nat.two_pow_pos i))
      rw [Nat.one_mul] at h2
      rw [h2, mul_pow_xor, ← Nat.pow_add, Nat.add_comm i]
    · rename_i h1
      rw [show m / 2 ^ i % 2 = 0 from by omega, Nat.zero_mul, Nat.add_zero]
      exact e
theorem flipL_low (l : List Nat) (j i : Nat) (h : 8 * (i + 1) ≤ j) : (flipL l j).getD i 0 = l.getD i 0 := by
  unfold flipL
  rw [List.getD_eq_getElem?_getD, List.getElem?_set_ne (by omega), List.getD_eq_getElem?_getD]
theorem flips_low (l : List Nat) (k m j i : Nat) (h : 8 * (i + 1) ≤ k) : (flips l k m j).getD i 0 = l.getD i 0 := by
  induction j with
  | zero => rfl
  | succ j ih => unfold flips; split; rw [flipL_low _ _ _ (by omega), ih]; exact ih
theorem stored_le (r : List Nat) (h : r.length = 4) : stored r = leN r := by
  match r, h with
  | [a, b, c, d], _ => simp [stored, leN]; omega
theorem crc_xor (l : List Nat) (h : Oct l) : crc l = 4294967295 ^^^ cfold 4294967295 l := by
  unfold crc; rw [ones_xor (cfold_lt l h (by omega))]
/-- A sum that fits tells one number of all the bytes. -/
theorem sum_fits (l : List Nat) (h : Oct l) (n : Nat) (hn : l.length = n + 4) (e : crc (l.take n) = stored (l.drop n)) : csteps (8 * n) (4294967295 ^^^ leN l) = 4294967295 := by
  have h1 : (l.take n).length = n := by rw [List.length_take]; omega
  have h2 := cfold_two (l.take n) (l.drop n) (h.take n) 4294967295
  rw [h1, List.take_append_drop] at h2
  rw [h2, ← stored_le _ (by rw [List.length_drop]; omega), ← e, crc_xor _ (h.take n), Nat.xor_comm 4294967295, ← Nat.xor_assoc, Nat.xor_self, Nat.zero_xor]
theorem stored_le4 (s : Nat) (h : s < 4294967296) : stored (le4 s) = s := by simp [stored, le4]; omega
theorem take_rec (l : List Nat) : (recL l).take (l.length + 2) = headL l := by
  unfold recL
  rw [← headL_length l]
  exact List.take_left
theorem drop_rec (l : List Nat) : (recL l).drop (l.length + 2) = le4 (crc (headL l)) := by
  unfold recL
  rw [← headL_length l]
  exact List.drop_left
theorem size_rec (l : List Nat) : sizeL (recL l) = l.length := by
  unfold sizeL recL headL
  simp
  omega
/-- A record with a burst of turned bits is none. -/
theorem burst_none (l : List Nat) (hl : Oct l) (hn : l.length ≤ 400) (k m : Nat) (hm : m < 4294967296) (h0 : m ≠ 0) (hk : 16 ≤ k) (hk2 : k + 32 ≤ 8 * (recL l).length) : nextL (flips (recL l) k m 32) = ([], 0, 13) := by
  have hlen := flips_length (recL l) k m 32
  have hrl := recL_length l
  have hs : sizeL (flips (recL l) k m 32) = l.length := by
    rw [← size_rec l]
    unfold sizeL
    rw [flips_low _ _ _ _ 0 (by omega), flips_low _ _ _ _ 1 (by omega)]
  have hO := oct_rec hl hn
  refine next_bad1 (by omega) (by omega) (by omega) ?_
  rw [hs]
  intro e
  have e1 := sum_fits _ (flips_oct hO k m 32) (l.length + 2) (by omega) e
  have e2 := sum_fits _ hO (l.length + 2) (by omega) (by rw [take_rec, drop_rec, stored_le4 _ (crc_lt _)])
  rw [leN_flips _ hO k m 32 (by omega), Nat.mod_eq_of_lt (show m < 2 ^ 32 from hm), ← Nat.xor_assoc, csteps_xor, e2] at e1
  have e3 : csteps (8 * (l.length + 2)) (m * 2 ^ k) = 0 := by
    have := congrArg (4294967295 ^^^ ·) e1
    simp only [← Nat.xor_assoc, Nat.xor_self, Nat.zero_xor] at this
    exact this
  exact burst_pos _ k m hm h0 e3
theorem recs_none {l : List Nat} (h : nextL l = ([], 0, 13)) : recs l = [] := by
  unfold recs
  exact recF_end (by rw [h]; simp)

/-- A row of bytes of the call's own, none frozen. -/
def ByK (w : World) (g : Nat) (l : List Nat) : Prop :=
  ∀ i, i < l.length → w.cell? ⟨g, i, none⟩ = some (byteV (l.getD i 0)) ∧ w.frozen? ⟨g, i, none⟩ = false
theorem ByK.below {w w' : World} {g : Nat} {l : List Nat} (h : ByK w g l) (hb : Below w.heap.size w w') : ByK w' g l := by
  obtain ⟨k1, k2⟩ := old_cells hb
  intro i hi
  obtain ⟨h1, h2⟩ := h i hi
  have hl := block_lt h1
  exact ⟨by rw [k1 _ _ hl, h1], by rw [k2 _ _ hl, h2]⟩
theorem ByK.set {w : World} {g : Nat} {l : List Nat} (h : ByK w g l) (j : Nat) (hj : j < l.length) (d : Nat) : ByK (w.setCell ⟨g, j, none⟩ (byteV d)) g (l.set j d) := by
  intro i hi
  rw [List.length_set] at hi
  obtain ⟨h1, h2⟩ := h i hi
  refine ⟨?_, by rw [World.frozen?_setCell]; exact h2⟩
  by_cases e : j = i
  · subst e
    rw [World.cell?_setCell_same _ _ _ h1, List.getD_eq_getElem?_getD, List.getElem?_set_self hj]; rfl
  · rw [World.cell?_setCell_other _ _ _ _ (by intro e2; injection e2 with _ e2; exact e e2), h1, List.getD_eq_getElem?_getD, List.getD_eq_getElem?_getD, List.getElem?_set_ne e]
theorem ByK.byts {w : World} {g : Nat} {l : List Nat} (h : ByK w g l) : Byts w (some ⟨g, 0, none⟩) l := by
  intro _
  refine ⟨g, 0, rfl, fun i hi => ?_⟩
  rw [Nat.zero_add]; exact (h i hi).1
theorem OwnB.row {w : World} {base : Nat} {v : Value} {l : List Nat} (h : OwnB w base v l) (h0 : 0 < l.length) : ∃ g c, v = .slice (some ⟨g, 0, none⟩) l.length c ∧ base ≤ g ∧ l.length ≤ c ∧ c ≤ 9223372036854775807 ∧ ByK w g l := by
  obtain ⟨A, c, e, hB, h1, h2, _, h4⟩ := h.form
  rcases h.2 with ⟨e2, h3⟩ | ⟨g, cap, cur, e2, hb, hc, _⟩
  · omega
  · rw [e] at e2; injection e2 with e3 e4 e5; subst e3
    refine ⟨g, c, e, hb, h1, h2, fun i hi => ⟨?_, ?_⟩⟩
    · obtain ⟨b, off, e6, hcc⟩ := hB h0
      injection e6 with e6; injection e6 with e7 e8; subst e7; subst e8
      have := hcc i hi
      rw [Nat.zero_add] at this
      exact this
    · simp [World.frozen?, hc]
end Go.Proofs.Ytmopipclheohcaa
