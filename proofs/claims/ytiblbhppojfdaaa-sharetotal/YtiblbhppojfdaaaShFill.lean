/-
  Plain lists: a row that is filled place by place. No program is named here.
-/
import Derived.Test.YtiblbhppojfdaaaShSpl
namespace Go.Proofs.Ytiblbhppojfdaaa
open Go.RowKit

/-- The first k of q; then 0. -/
def fillTo (q : List Int) (k : Nat) : List Int := (List.range q.length).map fun i => if i < k then q.getD i 0 else 0
theorem fillTo_length (q : List Int) (k : Nat) : (fillTo q k).length = q.length := by simp [fillTo]
theorem fillTo_getD (q : List Int) (k i : Nat) (h : i < q.length) : (fillTo q k).getD i 0 = if i < k then q.getD i 0 else 0 := by
  unfold fillTo
  rw [getD_map _ _ _ 0 (by simpa using h)]
  simp [List.getD_eq_getElem?_getD, h]
theorem fillTo_zero (q : List Int) (n : Nat) (hn : q.length = n) : List.replicate n 0 = fillTo q 0 := by
  subst hn
  apply ext_getD (by simp [fillTo])
  intro i hi
  rw [List.length_replicate] at hi
  rw [fillTo_getD q 0 i hi]
  simp [List.getD_eq_getElem?_getD, hi]
theorem fillTo_step (q : List Int) (k : Nat) (h : k < q.length) : (fillTo q k).set k (q.getD k 0) = fillTo q (k + 1) := by
  apply ext_getD (by simp [fillTo])
  intro i hi
  rw [List.length_set, fillTo_length] at hi
  rw [fillTo_getD q (k + 1) i hi]
  by_cases e : k = i
  · subst e
    rw [getD_set_same _ (by rw [fillTo_length]; exact h), if_pos (by omega)]
  · rw [getD_set_ne _ e, fillTo_getD q k i hi]
    by_cases h1 : i < k
    · rw [if_pos h1, if_pos (by omega)]
    · rw [if_neg h1, if_neg (by omega)]
theorem fillTo_skip (q : List Int) (k : Nat) (h0 : q.getD k 0 = 0) : fillTo q k = fillTo q (k + 1) := by
  apply ext_getD (by simp [fillTo])
  intro i hi
  rw [fillTo_length] at hi
  rw [fillTo_getD q k i hi, fillTo_getD q (k + 1) i hi]
  by_cases e : k = i
  · subst e
    rw [if_neg (by omega), if_pos (by omega), h0]
  · by_cases h1 : i < k
    · rw [if_pos h1, if_pos (by omega)]
    · rw [if_neg h1, if_neg (by omega)]
theorem fillTo_all (q : List Int) (k : Nat) (h : k = q.length) : fillTo q k = q := by
  subst h
  apply ext_getD (fillTo_length _ _)
  intro i hi
  rw [fillTo_length] at hi
  rw [fillTo_getD q _ i hi, if_pos hi]

theorem sum_zeros (n : Nat) : (List.replicate n (0 : Int)).sum = 0 := by
  induction n with
  | zero => rfl
  | succ n ih => rw [List.replicate_succ, List.sum_cons, ih]; rfl

theorem splitL_zero (w : List Int) : splitL 0 w = List.replicate w.length 0 := by
  have h : quo 0 w = List.replicate w.length 0 := by
    unfold quo
    simp only [Int.zero_mul, Int.zero_ediv]
    exact List.map_const' ..
  have h1 : lack 0 w = 0 := by unfold lack; rw [h]; rw [sum_zeros]; rfl
  unfold splitL
  rw [h1, h]
  exact bump_zero _ _

/-- The code of Split. -/
def splitC (t : Int) (w : List Int) : Int :=
  if decide (t < 0) || !(decide (w.length ≤ 64) && !(w.any fun x => decide (x < 0))) || (decide (0 < t) && !(w.any fun x => decide (0 < x))) then 1 else if fits w.sum then 0 else 2
/-- What Split hands back. -/
def splitV (t : Int) (w : List Int) : List Int := if splitC t w = 0 then splitL t w else []
theorem splitC_cases (t : Int) (w : List Int) : splitC t w = 0 ∨ splitC t w = 1 ∨ splitC t w = 2 := by
  unfold splitC
  split
  · simp
  · split <;> simp
end Go.Proofs.Ytiblbhppojfdaaa
