/-
  Worlds by flags, for drawn regions: a chain of operations that turn the world, each behind the one before. No program is named here.
-/
import Derived.Test.YtldceocbmmidmaaFlg
namespace Go.Proofs.Ytldceocbmmidmaa
open Go

/-- The operations ks turn the world, one behind the other: from Ws j to Ws (j + 1). -/
def FlC (ks : List Nat) (Ws : Nat → World) (L : Nat → Bool) (W : World) : Prop := ∃ m, m ≤ ks.length ∧ W = Ws m ∧ ∀ j, j < ks.length → (L (ks.getD j 0) = true ↔ j < m)
section
variable {ks : List Nat} {Ws : Nat → World} {L : Nat → Bool} {W : World}
theorem FlC.start : FlC ks Ws (fun _ => false) (Ws 0) := ⟨0, Nat.zero_le _, rfl, fun j _ => by simp⟩
theorem FlC.keep (h : FlC ks Ws L W) {i : Nat} (hi : i ∉ ks) : FlC ks Ws (upd L i true) W := by
  obtain ⟨m, h1, h2, h3⟩ := h
  refine ⟨m, h1, h2, fun j hj => ?_⟩
  rw [upd_ne _ _ (fun e => hi (by rw [← e, List.getD_eq_getElem?_getD, List.getElem?_eq_getElem hj]; exact List.getElem_mem hj))]
  exact h3 j hj
theorem FlC.one (h : FlC ks Ws L W) : ∃ m, m ≤ ks.length ∧ W = Ws m := by
  obtain ⟨m, h1, h2, _⟩ := h
  exact ⟨m, h1, h2⟩
theorem FlC.low (h : FlC ks Ws L W) {z : Nat} (hz : z < ks.length) (hL : L (ks.getD z 0) = false) : ∃ m, m ≤ z ∧ W = Ws m := by
  obtain ⟨m, h1, h2, h3⟩ := h
  refine ⟨m, ?_, h2⟩
  rcases Nat.lt_or_ge z m with h | h
  · rw [(h3 z hz).2 h] at hL; cases hL
  · exact h
theorem FlC.step (h : FlC ks Ws L W) (hn : ks.Nodup) {j : Nat} (hj : j < ks.length) (hL : L (ks.getD j 0) = false) (hp : j = 0 ∨ L (ks.getD (j - 1) 0) = true) : W = Ws j ∧ FlC ks Ws (upd L (ks.getD j 0) true) (Ws (j + 1)) := by
  obtain ⟨m, h1, h2, h3⟩ := h
  have hm : m = j := by
    have ha : ¬ j < m := fun h => by rw [(h3 j hj).2 h] at hL; cases hL
    rcases hp with rfl | hp
    · omega
    · have := (h3 (j - 1) (by omega)).1 hp
      omega
  subst hm
  refine ⟨h2, m + 1, by omega, rfl, fun i hi => ?_⟩
  by_cases e : i = m
  · subst e
    rw [upd_at]
    simp
  · rw [upd_ne, h3 i hi]
    · omega
    · intro he
      rw [List.getD_eq_getElem?_getD, List.getD_eq_getElem?_getD, List.getElem?_eq_getElem hi, List.getElem?_eq_getElem hj] at he
      have hpw := List.pairwise_iff_getElem.1 hn
      rcases Nat.lt_or_gt_of_ne e with h9 | h9
      · exact hpw i m hi hj h9 he
      · exact hpw m i hj hi h9 he.symm
theorem FlC.last (h : FlC ks Ws L W) {z : Nat} (hz : ks.length = z + 1) (hL : L (ks.getD z 0) = true) : W = Ws (z + 1) := by
  obtain ⟨m, h1, h2, h3⟩ := h
  have := (h3 z (by omega)).1 hL
  rw [h2, show m = z + 1 by omega]
end
/-- The last comes up behind all others. -/
def ZL (z : Nat) (L : Nat → Bool) : Prop := L z = true → ∀ j, j < z → L j = true
theorem ZL.start (z : Nat) : ZL z (fun _ => false) := fun h => by cases h
theorem ZL.keep {z i : Nat} {L : Nat → Bool} (h : ZL z L) (hi : i ≠ z) : ZL z (upd L i true) := fun hz j hj => by
  rw [upd_ne _ _ (Ne.symm hi)] at hz
  by_cases e : j = i
  · rw [e, upd_at]
  · rw [upd_ne _ _ e]; exact h hz j hj
theorem ZL.low {z i : Nat} {L : Nat → Bool} (h : ZL z L) (hi : i < z) (hL : L i = false) : L z = false := by
  cases hz : L z
  · rfl
  · rw [h hz i hi] at hL; cases hL
theorem ZL.last {z : Nat} {L : Nat → Bool} (h : ∀ j, j < z → L j = true) : ZL z (upd L z true) := fun _ j hj => by
  rw [upd_ne _ _ (by omega : j ≠ z)]
  exact h j hj
end Go.Proofs.Ytldceocbmmidmaa
