/-
  Plain numbers: what follows of a total cut by weights. No program is named here.
-/
import Derived.Test.YtiblbhppojfdaaaShFill
namespace Go.Proofs.Ytiblbhppojfdaaa
open Go.RowKit

/-- What stands at or ahead of a place among the first ones is among them. -/
theorem first_closed (l : List Int) (m i k : Nat) (hk : k < l.length) (h : leq l k i) (hi : i ∈ (ordL l).take m) : k ∈ (ordL l).take m := by
  have hs := ordTo_sorted l l.length
  have hko : k ∈ ordL l := (ordTo_perm l l.length).symm.subset (by simpa using hk)
  have e := List.take_append_drop m (ordL l)
  rw [← e, List.mem_append] at hko
  rcases hko with h1 | h1
  · exact h1
  · change (ordL l).Pairwise (leq l) at hs
    rw [← e, List.pairwise_append] at hs
    have := hs.2.2 i hi k h1
    rw [leq_anti l k i h this]
    exact hi

theorem map_sum_perm {l m : List Nat} (h : l.Perm m) (f : Nat → Int) : (l.map f).sum = (m.map f).sum := by
  induction h with
  | nil => rfl
  | cons x _ ih => simp [ih]
  | swap x y l => simp only [List.map_cons, List.sum_cons]; omega
  | trans _ _ ih1 ih2 => exact ih1.trans ih2
theorem range_sum (l : List Int) : ((List.range l.length).map fun i => l.getD i 0).sum = l.sum := by
  congr 1
  apply ext_getD (by simp)
  intro i hi
  have h : i < l.length := by simpa using hi
  rw [getD_map _ _ _ 0 (by simpa using h)]
  simp [List.getD_eq_getElem?_getD, h]
theorem sum_map_add {α : Type} (f g : α → Int) (l : List α) : (l.map fun i => f i + g i).sum = (l.map f).sum + (l.map g).sum := by
  induction l with
  | nil => rfl
  | cons x l ih => simp only [List.map_cons, List.sum_cons, ih]; omega
theorem sum_map_le {α : Type} (f g : α → Int) (l : List α) (h : ∀ x ∈ l, f x ≤ g x) : (l.map f).sum ≤ (l.map g).sum := by
  induction l with
  | nil => exact Int.le_refl _
  | cons x l ih =>
    have h1 := h x List.mem_cons_self
    have h2 := ih (fun y hy => h y (List.mem_cons_of_mem _ hy))
    simp only [List.map_cons, List.sum_cons]; omega
theorem sum_map_const {α : Type} (c : Int) (l : List α) : (l.map fun _ => c).sum = c * l.length := by
  induction l with
  | nil => simp
  | cons x l ih => simp only [List.map_cons, List.sum_cons, ih, List.length_cons, Int.natCast_add, Int.mul_add]; omega
/-- How many of the places up to n are among s. -/
theorem count_in (n : Nat) (s : List Nat) (hn : s.Nodup) (hs : ∀ i ∈ s, i < n) : ((List.range n).map fun i => if i ∈ s then (1 : Int) else 0).sum = s.length := by
  induction s generalizing n with
  | nil =>
    have := sum_map_const (α := Nat) 0 (List.range n)
    simpa using this
  | cons x s ih =>
    rw [List.nodup_cons] at hn
    have h1 := ih n hn.2 (fun i hi => hs i (List.mem_cons_of_mem _ hi))
    have e : ((List.range n).map fun i => if i ∈ x :: s then (1 : Int) else 0).sum = ((List.range n).map fun i => (if i ∈ s then (1 : Int) else 0) + (if i = x then 1 else 0)).sum := by
      congr 1
      apply List.map_congr_left
      intro i _
      by_cases h : i = x
      · subst h
        simp [hn.1]
      · simp [h]
    rw [e, sum_map_add, h1]
    have h2 : ∀ m, x < m → ((List.range m).map fun i => if i = x then (1 : Int) else 0).sum = 1 := by
      intro m
      induction m with
      | zero => intro h; omega
      | succ m ihm =>
        intro h
        rw [List.range_succ, List.map_append, List.sum_append]
        by_cases hm : x = m
        · subst hm
          have : ((List.range x).map fun i => if i = x then (1 : Int) else 0).sum = 0 := by
            have e2 : ((List.range x).map fun i => if i = x then (1 : Int) else 0) = (List.range x).map fun _ => 0 := by
              apply List.map_congr_left
              intro i hi
              have := List.mem_range.1 hi
              rw [if_neg (by omega)]
            rw [e2, sum_map_const]; simp
          rw [this]; simp
        · rw [ihm (by omega)]
          simp [show m ≠ x from fun e => hm e.symm]
    rw [h2 n (hs x List.mem_cons_self)]
    simp
theorem bump_sum (q : List Int) (o : List Nat) (j : Nat) (hn : o.Nodup) (ho : ∀ i ∈ o, i < q.length) (hj : j ≤ o.length) : (bump q o j).sum = q.sum + j := by
  unfold bump
  rw [sum_map_add, range_sum, count_in q.length (o.take j) (hn.sublist (List.take_sublist _ _)) (fun i hi => ho i (List.mem_of_mem_take hi)), List.length_take]
  omega

section
variable (t : Int) (w : List Int) (ht : 0 ≤ t) (hw : ∀ x ∈ w, 0 ≤ x) (hS : 0 < w.sum)
include ht hw hS
/-- Shares come to the total. -/
theorem splitL_sum : (splitL t w).sum = t := by
  have h := lack_range t w ht hw hS
  unfold splitL
  rw [bump_sum _ _ _ (ordL_nodup _) (fun i hi => by rw [quo_length, ← rst_length t w]; exact ordL_lt hi) (by rw [ordL_length, rst_length]; omega)]
  unfold lack at *
  omega
theorem splitL_getD (i : Nat) (h : i < w.length) : (splitL t w).getD i 0 = t * w.getD i 0 / w.sum + if i ∈ (ordL (rst t w)).take (lack t w).toNat then 1 else 0 := by
  have _ := hS; have _ := ht; have _ := hw
  unfold splitL
  rw [bump_getD _ _ _ _ (by rw [quo_length]; exact h), quo_getD _ _ _ h]
theorem splitL_nn : ∀ x ∈ splitL t w, 0 ≤ x := by
  intro x hx
  obtain ⟨i, hi, rfl⟩ := List.getElem_of_mem hx
  have h := splitL_getD t w ht hw hS i (by rwa [splitL_length] at hi)
  rw [List.getD_eq_getElem?_getD (l := splitL t w), List.getElem?_eq_getElem hi, Option.getD_some] at h
  have h2 := (quo_range t w ht hw hS i (by rwa [splitL_length] at hi)).1
  rw [quo_getD _ _ _ (by rwa [splitL_length] at hi)] at h2
  rw [h]
  split <;> omega
/-- A place that has a unit more has a rest. -/
theorem rest_pos (i : Nat) (hi : i ∈ (ordL (rst t w)).take (lack t w).toNat) : 0 < (rst t w).getD i 0 := by
  have hnn : ∀ k, 0 ≤ (rst t w).getD k 0 := by
    intro k
    by_cases h : k < w.length
    · rw [rst_getD _ _ _ h]; exact Int.emod_nonneg _ (by omega)
    · rw [List.getD_eq_getElem?_getD, List.getElem?_eq_none (by rw [rst_length]; omega)]; simp
  by_cases h0 : 0 < (rst t w).getD i 0
  · exact h0
  · exfalso
    have hz : (rst t w).getD i 0 = 0 := by have := hnn i; omega
    have hl := lack_range t w ht hw hS
    obtain ⟨m, hm⟩ := Int.eq_ofNat_of_zero_le hl.1
    rw [hm, Int.toNat_natCast] at hi
    obtain ⟨j, hj, hji⟩ := List.getElem_of_mem hi
    rw [List.length_take, ordL_length, rst_length] at hj
    have hjm : j < m := by omega
    -- behind the place j all rests are 0
    have hs : (ordL (rst t w)).Pairwise (leq (rst t w)) := ordTo_sorted _ _
    have e := List.take_append_drop j (ordL (rst t w))
    rw [← e, List.pairwise_append] at hs
    have hjo : j < (ordL (rst t w)).length := by rw [ordL_length, rst_length]; omega
    have hdr : (ordL (rst t w)).drop j = (ordL (rst t w))[j] :: (ordL (rst t w)).drop (j + 1) := List.drop_eq_getElem_cons hjo
    have hoj : (ordL (rst t w))[j] = i := by rw [← hji, List.getElem_take]
    have hzero : ∀ k ∈ (ordL (rst t w)).drop j, (rst t w).getD k 0 = 0 := by
      intro k hk
      rw [hdr, hoj] at hk hs
      rcases List.mem_cons.1 hk with rfl | hk
      · exact hz
      · have := (List.pairwise_cons.1 hs.2.1).1 k hk
        unfold leq at this
        have := hnn k
        omega
    have hsum : (rst t w).sum = (((ordL (rst t w)).take j).map fun k => (rst t w).getD k 0).sum := by
      rw [← range_sum, ← map_sum_perm (ordTo_perm (rst t w) (rst t w).length)]
      change ((ordL (rst t w)).map fun k => (rst t w).getD k 0).sum = _
      have e3 : ((ordL (rst t w)).map fun k => (rst t w).getD k 0) = (((ordL (rst t w)).take j).map fun k => (rst t w).getD k 0) ++ (((ordL (rst t w)).drop j).map fun k => (rst t w).getD k 0) := by
        rw [← List.map_append, e]
      have e4 : (((ordL (rst t w)).drop j).map fun k => (rst t w).getD k 0) = ((ordL (rst t w)).drop j).map fun _ => 0 := List.map_congr_left fun k hk => hzero k hk
      rw [e3, List.sum_append, e4, sum_map_const]
      simp
    have hle : (((ordL (rst t w)).take j).map fun k => (rst t w).getD k 0).sum ≤ (w.sum - 1) * j := by
      have h1 := sum_map_le (fun k => (rst t w).getD k 0) (fun _ => w.sum - 1) ((ordL (rst t w)).take j) (fun k hk => by
        have hk2 := ordL_lt (List.mem_of_mem_take hk)
        rw [rst_length] at hk2
        show (rst t w).getD k 0 ≤ w.sum - 1
        rw [rst_getD _ _ _ hk2]
        have := Int.emod_lt_of_pos (t * w.getD k 0) hS
        omega)
      rw [sum_map_const, List.length_take, Nat.min_eq_left (by omega)] at h1
      exact h1
    have hqr := quo_rst t w.sum w
    have hml : w.sum * m = (rst t w).sum := by
      rw [← hm]
      unfold lack quo rst
      rw [Int.mul_sub, Int.mul_comm w.sum t]
      omega
    have h5 : (w.sum - 1) * (j : Int) = w.sum * j - j := by rw [Int.sub_mul]; omega
    have h6 : w.sum * (j : Int) < w.sum * m := Int.mul_lt_mul_of_pos_left (by omega) hS
    omega
/-- Without a weight there is no share. -/
theorem splitL_none (i : Nat) (h : i < w.length) (hz : w.getD i 0 = 0) : (splitL t w).getD i 0 = 0 := by
  rw [splitL_getD t w ht hw hS i h, hz, if_neg]
  · simp
  · intro hi
    have := rest_pos t w ht hw hS i hi
    rw [rst_getD _ _ _ h, hz] at this
    simp at this
end
end Go.Proofs.Ytiblbhppojfdaaa
