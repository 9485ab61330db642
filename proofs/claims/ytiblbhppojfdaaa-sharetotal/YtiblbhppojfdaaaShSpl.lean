/-
  Plain numbers: a total cut by weights. No program is named here.
-/
import Derived.Test.YtiblbhppojfdaaaShOrd
import Derived.Test.YtiblbhppojfdaaaNum
namespace Go.Proofs.Ytiblbhppojfdaaa
open Go.RowKit

/-- Quotients and rests of a total by weights. -/
def quo (t : Int) (w : List Int) : List Int := w.map fun x => t * x / w.sum
def rst (t : Int) (w : List Int) : List Int := w.map fun x => t * x % w.sum
/-- The units that rounding down leaves. -/
def lack (t : Int) (w : List Int) : Int := t - (quo t w).sum
/-- One unit more at the first j places of o. -/
def bump (q : List Int) (o : List Nat) (j : Nat) : List Int := (List.range q.length).map fun i => q.getD i 0 + if i ∈ o.take j then 1 else 0
def splitL (t : Int) (w : List Int) : List Int := bump (quo t w) (ordL (rst t w)) (lack t w).toNat

theorem quo_length (t : Int) (w : List Int) : (quo t w).length = w.length := by simp [quo]
theorem rst_length (t : Int) (w : List Int) : (rst t w).length = w.length := by simp [rst]
theorem quo_getD (t : Int) (w : List Int) (i : Nat) (h : i < w.length) : (quo t w).getD i 0 = t * w.getD i 0 / w.sum := getD_map w _ i 0 h
theorem rst_getD (t : Int) (w : List Int) (i : Nat) (h : i < w.length) : (rst t w).getD i 0 = t * w.getD i 0 % w.sum := getD_map w _ i 0 h
theorem bump_length (q : List Int) (o : List Nat) (j : Nat) : (bump q o j).length = q.length := by simp [bump]
theorem bump_getD (q : List Int) (o : List Nat) (j i : Nat) (h : i < q.length) : (bump q o j).getD i 0 = q.getD i 0 + if i ∈ o.take j then 1 else 0 := by
  unfold bump
  rw [getD_map _ _ _ 0 (by simpa using h)]
  simp [List.getD_eq_getElem?_getD, h]
theorem splitL_length (t : Int) (w : List Int) : (splitL t w).length = w.length := by unfold splitL; rw [bump_length, quo_length]
theorem bump_zero (q : List Int) (o : List Nat) : bump q o 0 = q := by
  apply ext_getD (bump_length _ _ _)
  intro i hi
  rw [bump_length] at hi
  rw [bump_getD _ _ _ _ hi]; simp
theorem take_getD {o : List Nat} {j : Nat} (h : j < o.length) : o.take (j + 1) = o.take j ++ [o.getD j 0] := by
  rw [List.take_succ_eq_append_getElem h, List.getD_eq_getElem?_getD, List.getElem?_eq_getElem h]; rfl
theorem notin_take {o : List Nat} (hn : o.Nodup) {j : Nat} (h : j < o.length) : o.getD j 0 ∉ o.take j := by
  have h2 : (o.take (j + 1)).Nodup := hn.sublist (List.take_sublist _ _)
  rw [take_getD h, List.nodup_append] at h2
  intro hm
  exact h2.2.2 _ hm _ (by simp) rfl
theorem bump_at (q : List Int) (o : List Nat) (hn : o.Nodup) (j : Nat) (h : j < o.length) (hq : o.getD j 0 < q.length) : (bump q o j).getD (o.getD j 0) 0 = q.getD (o.getD j 0) 0 := by
  rw [bump_getD _ _ _ _ hq, if_neg (notin_take hn h)]; omega
theorem bump_step (q : List Int) (o : List Nat) (j : Nat) (h : j < o.length) : (bump q o j).set (o.getD j 0) (q.getD (o.getD j 0) 0 + 1) = bump q o (j + 1) := by
  apply ext_getD (by simp [bump_length])
  intro i hi
  rw [List.length_set, bump_length] at hi
  rw [bump_getD _ _ _ _ hi, take_getD h]
  by_cases e : o.getD j 0 = i
  · rw [e, getD_set_same _ (by rw [bump_length]; exact hi), if_pos (by simp)]
  · rw [getD_set_ne _ e, bump_getD _ _ _ _ hi]
    by_cases h1 : i ∈ o.take j
    · rw [if_pos h1, if_pos (by simp [h1])]
    · rw [if_neg h1, if_neg (by simp only [List.mem_append, List.mem_singleton, not_or]; exact ⟨h1, fun e2 => e e2.symm⟩)]

theorem sum_take_nn (l : List Int) (hl : ∀ x ∈ l, 0 ≤ x) (k : Nat) : 0 ≤ (l.take k).sum := by
  induction l generalizing k with
  | nil => simp
  | cons x l ih =>
    cases k with
    | zero => simp
    | succ k =>
      have := ih (fun y hy => hl y (List.mem_cons_of_mem _ hy)) k
      have := hl x List.mem_cons_self
      simp only [List.take_succ_cons, List.sum_cons]
      omega
theorem sum_nn (l : List Int) (hl : ∀ x ∈ l, 0 ≤ x) : 0 ≤ l.sum := by
  have := sum_take_nn l hl l.length
  rwa [List.take_length] at this
theorem take_sum_le (l : List Int) (hl : ∀ x ∈ l, 0 ≤ x) (k : Nat) : (l.take k).sum ≤ l.sum := by
  have h1 : (l.take k).sum + (l.drop k).sum = l.sum := by rw [← List.sum_append, List.take_append_drop]
  have h2 := sum_nn (l.drop k) (fun x hx => hl x (List.mem_of_mem_drop hx))
  omega
theorem getD_le_sum (l : List Int) (hl : ∀ x ∈ l, 0 ≤ x) (i : Nat) (h : i < l.length) : l.getD i 0 ≤ l.sum := by
  have h1 := take_sum l i h
  have h2 := sum_take_nn l hl i
  have h3 := take_sum_le l hl (i + 1)
  omega

/-- Quotients and rests make the products. -/
theorem quo_rst (t : Int) (S : Int) (w : List Int) : S * (w.map fun x => t * x / S).sum + (w.map fun x => t * x % S).sum = t * w.sum := by
  induction w with
  | nil => simp
  | cons x w ih =>
    simp only [List.map_cons, List.sum_cons, Int.mul_add]
    have := Int.mul_ediv_add_emod (t * x) S
    omega
theorem rst_bound (t : Int) (S : Int) (hS : 0 < S) (w : List Int) : 0 ≤ (w.map fun x => t * x % S).sum ∧ (w.map fun x => t * x % S).sum ≤ S * w.length - w.length := by
  induction w with
  | nil => simp
  | cons x w ih =>
    simp only [List.map_cons, List.sum_cons, List.length_cons, Int.natCast_add, Int.mul_add]
    have h1 := Int.emod_nonneg (t * x) (Int.ne_of_gt hS)
    have h2 := Int.emod_lt_of_pos (t * x) hS
    omega
theorem quo_nn (t : Int) (w : List Int) (ht : 0 ≤ t) (hw : ∀ x ∈ w, 0 ≤ x) : ∀ x ∈ quo t w, 0 ≤ x := by
  intro x hx
  unfold quo at hx
  obtain ⟨y, hy, rfl⟩ := List.mem_map.1 hx
  exact Int.ediv_nonneg (Int.mul_nonneg ht (hw y hy)) (sum_nn w hw)
theorem quo_sum_le (t : Int) (w : List Int) (_ht : 0 ≤ t) (_hw : ∀ x ∈ w, 0 ≤ x) (hS : 0 < w.sum) : (quo t w).sum ≤ t := by
  have h1 := quo_rst t w.sum w
  have h2 := rst_bound t w.sum hS w
  have h3 : w.sum * (quo t w).sum ≤ w.sum * t := by
    rw [Int.mul_comm w.sum t]; unfold quo; omega
  exact Int.le_of_mul_le_mul_left h3 hS
theorem lack_range (t : Int) (w : List Int) (ht : 0 ≤ t) (hw : ∀ x ∈ w, 0 ≤ x) (hS : 0 < w.sum) : 0 ≤ lack t w ∧ lack t w < w.length := by
  have h0 := quo_sum_le t w ht hw hS
  refine ⟨by unfold lack; omega, ?_⟩
  have h1 := quo_rst t w.sum w
  have h2 := rst_bound t w.sum hS w
  have hn : 0 < w.length := by
    cases w with
    | nil => simp at hS
    | cons x w => simp
  have h3 : w.sum * lack t w < w.sum * w.length := by
    unfold lack quo
    rw [Int.mul_sub, Int.mul_comm w.sum t]
    omega
  exact Int.lt_of_mul_lt_mul_left h3 (Int.le_of_lt hS)
theorem quo_take (t : Int) (w : List Int) (ht : 0 ≤ t) (hw : ∀ x ∈ w, 0 ≤ x) (hS : 0 < w.sum) (k : Nat) : 0 ≤ ((quo t w).take k).sum ∧ ((quo t w).take k).sum ≤ t :=
  ⟨sum_take_nn _ (quo_nn t w ht hw) k, Int.le_trans (take_sum_le _ (quo_nn t w ht hw) k) (quo_sum_le t w ht hw hS)⟩
theorem quo_range (t : Int) (w : List Int) (ht : 0 ≤ t) (hw : ∀ x ∈ w, 0 ≤ x) (_hS : 0 < w.sum) (i : Nat) (h : i < w.length) : 0 ≤ (quo t w).getD i 0 ∧ (quo t w).getD i 0 ≤ t - lack t w := by
  have h1 := getD_le_sum _ (quo_nn t w ht hw) i (by rw [quo_length]; exact h)
  have h2 := quo_nn t w ht hw _ (getD_mem (l := quo t w) (i := i) (by rw [quo_length]; exact h))
  unfold lack
  omega
theorem pos_sum {w : List Int} (hw : ∀ x ∈ w, 0 ≤ x) (h : ∃ x ∈ w, 0 < x) : 0 < w.sum := by
  obtain ⟨x, hx, h0⟩ := h
  obtain ⟨i, hi, rfl⟩ := List.getElem_of_mem hx
  have := getD_le_sum w hw i hi
  rw [List.getD_eq_getElem?_getD, List.getElem?_eq_getElem hi] at this
  simp at this
  omega
end Go.Proofs.Ytiblbhppojfdaaa
