/-
  A cell of a thing in a list of the call's own is stored.
-/
import Derived.Test.YtjlhmiajklddiaaMls
namespace Go.Proofs.Ytjlhmiajklddiaa
set_option maxRecDepth 8000
open Go Go.RowKit
set_option linter.unusedVariables false

section
variable {α : Type} {enc : α → List Value} {t e : TypeId} {sz bts : Nat} {w w' : World} {base : Nat} {v : Value} {l : List α}
theorem flatMap_set (hlen : ∀ x, (enc x).length = sz) (x' : α) (u : Value) (j : Nat) (hj : j < sz) : ∀ (l : List α) (i : Nat) (hi : i < l.length), enc x' = (enc l[i]).set j u → (l.set i x').flatMap enc = (l.flatMap enc).set (i * sz + j) u := by
  intro l
  induction l with
  | nil => intro i hi; simp at hi
  | cons y l ih =>
    intro i hi hx
    cases i with
    | zero =>
      rw [List.set_cons_zero, List.flatMap_cons, List.flatMap_cons, Nat.zero_mul, Nat.zero_add, List.set_append_left _ _ (by rw [hlen]; exact hj)]
      rw [hx]; rfl
    | succ i =>
      rw [List.set_cons_succ, List.flatMap_cons, List.flatMap_cons, List.set_append_right _ _ (by rw [hlen, Nat.add_mul]; omega), hlen, show (i + 1) * sz + j - sz = i * sz + j by rw [Nat.add_mul]; omega]
      rw [ih i (by simpa using hi) (by simpa using hx)]
/-- One cell of one thing is stored. -/
theorem OwnL.setAt {g n c : Nat} (hlen : ∀ x, (enc x).length = sz) (h : OwnL enc e sz w base (.slice (some ⟨g, 0, none⟩) n c) l) (i j : Nat) (hi : i < l.length) (hj : j < sz) (x' : α) (u : Value) (hx : enc x' = (enc l[i]).set j u) : OwnL enc e sz (w.setCell ⟨g, i * sz + j, none⟩ u) base (.slice (some ⟨g, 0, none⟩) n c) (l.set i x') := by
  obtain ⟨h1, h2⟩ := h
  rcases h2 with ⟨e1, _⟩ | ⟨g', cap, cur, e1, hg, hgg, k1, k2, k3, k4⟩
  · cases e1
  · injection e1 with e1 e2 e3
    injection e1 with e1
    injection e1 with e1
    subst e1; subst e3
    have hfl := flatMap_set hlen x' u j hj l i hi hx
    refine ⟨by rw [hfl, List.length_set, List.length_set]; exact h1, .inr ⟨g, c, cur.set! (i * sz + j) u, ?_, hg, ?_, by rw [List.length_set]; exact k1, k2, by simp [k3], ?_⟩⟩
    · rw [List.length_set, e2]
    · obtain ⟨hlt, hk⟩ := Array.getElem?_eq_some_iff.1 hgg
      show (w.heap.modify g _)[g]? = _
      rw [Array.getElem?_eq_getElem (by rw [Array.size_modify]; exact hlt), Array.getElem_modify_self, hk]
      simp [Array.set!]
    · rw [List.length_set, hfl, ← k4]
      simp [Array.set!, List.take_set]
theorem OwnL.free {g n c : Nat} (h : OwnL enc e sz w base (.slice (some ⟨g, 0, none⟩) n c) l) (j : Nat) : w.frozen? ⟨g, j, none⟩ = false := by
  rcases h.2 with ⟨e1, _⟩ | ⟨g', cap, cur, e1, hg, hgg, _⟩
  · cases e1
  · injection e1 with e1 _ _
    injection e1 with e1
    injection e1 with e1
    subst e1
    simp [World.frozen?, hgg]
theorem OwnL.some (h : OwnL enc e sz w base v l) (hL : Lay enc t e sz bts) (h0 : 0 < l.length) : ∃ g c, v = .slice (some ⟨g, 0, none⟩) l.length c ∧ base ≤ g ∧ g < w.heap.size := by
  obtain ⟨A, c, e1, _, _, _, h4⟩ := h.form hL
  obtain ⟨g, rfl, h5, h6, _⟩ := h4 h0
  exact ⟨g, c, e1, h5, h6⟩
end
end Go.Proofs.Ytjlhmiajklddiaa
