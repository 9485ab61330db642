/-
  The walk of novationlaw8.WireNumbers.
-/
import Derived.Test.YtjkbnljjmbfmiaaDoorKnown8
import Derived.Test.YtjkbnljjmbfmiaaDoorSby
namespace Go.Proofs.YtjkbnljjmbfmiaaDoor
open Go Go.RowKit
set_option linter.unusedVariables false

/-- A line of a deposit. -/
def depL (a : Int) (X : List Nat) : List Nat := [100, 101, 112, 111, 115, 105, 116] ++ tailOf [dec a, X]
/-- A deposit. -/
def depE (a q : Int) : Ev := ⟨3, 0, a, 0, 0, 0, q, 0⟩
theorem depE_text (a q : Int) : textL (depE a q) = depL a (dec q) := rfl
theorem depE_right {a q : Int} (ha : 1 ≤ a ∧ a ≤ 24) (hq : 1 ≤ q ∧ q ≤ 9223372036854775807) : rightE (depE a q) = true := by
  rw [right_all (show (1 : Int) ≤ 3 ∧ (3 : Int) ≤ 22 from ⟨by decide, by decide⟩) (fun j hj => ?_)]
  · exact decide_eq_true rfl
  · have hj2 : j < 2 := hj
    rcases (by omega : j = 0 ∨ j = 1) with rfl | rfl
    · exact ⟨ha.1, ha.2⟩
    · exact ⟨hq.1, hq.2⟩
theorem depE_ok {a q : Int} (ha : 1 ≤ a ∧ a ≤ 24) (hq : 1 ≤ q ∧ q ≤ 9223372036854775807) : (depE a q).Ok := by
  constructor <;> (unfold I64 depE; simp) <;> omega
/-- Digits of a number from 1 on. -/
def Good (X : List Nat) : Prop := ∃ q : Int, 1 ≤ q ∧ q ≤ 9223372036854775807 ∧ X = dec q
theorem dep_none {a : Int} {X : List Nat} (h : ¬ Good X) : ∀ y : Ev, y.Ok → rightE y = true → textL y ≠ depL a X := by
  intro y _ hr ht
  have h1 := cut_text y
  have hsol : Solid ([100, 101, 112, 111, 115, 105, 116] : List Nat) := by unfold Solid; decide
  have h2 : cutB (depL a X) = [100, 101, 112, 111, 115, 105, 116] :: dec a :: cutB X := by
    have e : depL a X = [100, 101, 112, 111, 115, 105, 116] ++ 32 :: (dec a ++ 32 :: (X ++ [])) := rfl
    rw [e, cut_at hsol, cut_at (dec_solid a), List.append_nil]
  rw [ht, h2] at h1
  injection h1 with h3 h4
  have hk : (3 : Int) = y.kind := word_inj (by decide) (right_kinds hr) h3
  rw [← hk] at h4
  have h5 : dec a :: cutB X = [fieldL y 65, fieldL y 81] := h4
  injection h5 with _ h6
  have h7 : X = dec y.q := cut_one h6
  have h8 := right_inF hr (f := 81) (by rw [← hk]; decide)
  rw [← hk] at h8
  exact h ⟨y.q, h8.1, h8.2, h7⟩
theorem good_digs {X : List Nat} (h : Good X) : (∀ x ∈ X, 48 ≤ x ∧ x < 58) ∧ 1 ≤ X.length ∧ X.length ≤ 19 ∧ X.getD 0 0 ≠ 48 := by
  obtain ⟨q, h1, h2, rfl⟩ := h
  have e : dec q = digs q.natAbs := by unfold dec; rw [if_neg (by omega)]
  obtain ⟨c, r, h3, _, _, h4⟩ := digs_cons q.natAbs
  have h5 := digs_len 18 q.natAbs (by omega)
  rw [e]
  refine ⟨digs_oct _, by rw [h3]; simp, h5, ?_⟩
  rw [h3]
  exact h4 (by omega)
/-- What stands in the place of a number. -/
def badL (F : List Nat) (k : Nat) : List Nat := if k = 0 then 48 :: F else if k = 1 then 43 :: F else if k = 2 then 45 :: F else if k = 3 then F ++ [32] else if k = 4 then 32 :: F else if k = 5 then [57, 57, 57, 57, 57, 57, 57, 57, 57, 57, 57, 57, 57, 57, 57, 57, 57, 57, 57] ++ F else if k = 6 then F ++ [10] else []
theorem bad_bad {F : List Nat} (hF : 1 ≤ F.length) (k : Nat) : ¬ Good (badL F k) := by
  intro h
  obtain ⟨h1, h2, h3, h4⟩ := good_digs h
  unfold badL at h1 h2 h3 h4
  by_cases e0 : k = 0
  · rw [if_pos e0] at h4; exact h4 rfl
  rw [if_neg e0] at h1 h2 h3 h4
  by_cases e1 : k = 1
  · rw [if_pos e1] at h1; have := h1 43 (List.mem_cons_self ..); omega
  rw [if_neg e1] at h1 h2 h3 h4
  by_cases e2 : k = 2
  · rw [if_pos e2] at h1; have := h1 45 (List.mem_cons_self ..); omega
  rw [if_neg e2] at h1 h2 h3 h4
  by_cases e3 : k = 3
  · rw [if_pos e3] at h1; have := h1 32 (by simp); omega
  rw [if_neg e3] at h1 h2 h3 h4
  by_cases e4 : k = 4
  · rw [if_pos e4] at h1; have := h1 32 (List.mem_cons_self ..); omega
  rw [if_neg e4] at h1 h2 h3 h4
  by_cases e5 : k = 5
  · rw [if_pos e5, List.length_append] at h3; simp only [List.length_cons, List.length_nil] at h3; omega
  rw [if_neg e5] at h1 h2 h3 h4
  by_cases e6 : k = 6
  · rw [if_pos e6] at h1; have := h1 10 (by simp); omega
  rw [if_neg e6] at h2
  simp at h2
theorem bad_oct {F : List Nat} (hF : Oct F) (k : Nat) : Oct (badL F k) := by
  have h1 : Oct [57, 57, 57, 57, 57, 57, 57, 57, 57, 57, 57, 57, 57, 57, 57, 57, 57, 57, 57] := by unfold Oct; decide
  unfold badL
  repeat' split
  all_goals (intro x hx; simp only [List.mem_cons, List.mem_append, List.not_mem_nil, or_false] at hx)
  · rcases hx with rfl | hx; omega; exact hF x hx
  · rcases hx with rfl | hx; omega; exact hF x hx
  · rcases hx with rfl | hx; omega; exact hF x hx
  · rcases hx with hx | rfl; exact hF x hx; omega
  · rcases hx with rfl | hx; omega; exact hF x hx
  · rcases hx with hx | hx; omega; exact hF x hx
  · rcases hx with hx | rfl; exact hF x hx; omega
theorem bad_len (F : List Nat) (k : Nat) : (badL F k).length ≤ F.length + 19 := by
  unfold badL
  repeat' split
  all_goals (simp only [List.length_cons, List.length_append, List.length_nil]; omega)
theorem dep_oct {a : Int} {X : List Nat} (hX : Oct X) : Oct (depL a X) := by
  intro x hx
  rcases List.mem_append.1 hx with h | h
  · exact (show Oct [100, 101, 112, 111, 115, 105, 116] by unfold Oct; decide) x h
  · refine tail_oct ?_ x h
    intro y hy
    simp only [List.mem_cons, List.not_mem_nil, or_false] at hy
    rcases hy with rfl | rfl
    · exact dec_oct a
    · exact hX
end Go.Proofs.YtjkbnljjmbfmiaaDoor
