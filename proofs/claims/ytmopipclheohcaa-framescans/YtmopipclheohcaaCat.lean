/-
  Records one behind the other, as lists: what is found in them, whole or cut off. No program is named here.
-/
import Derived.Test.YtmopipclheohcaaAllB
namespace Go.Proofs.Ytmopipclheohcaa
open Go.RowKit

theorem stored_app (s : Nat) (r : List Nat) (h : s < 4294967296) : stored (le4 s ++ r) = s := by simp [stored, le4]; omega
theorem size_app (x r : List Nat) : sizeL (recL x ++ r) = x.length := by
  unfold sizeL recL headL
  simp
  omega
theorem next_rec (x r : List Nat) (h : x.length ≤ 400) : nextL (recL x ++ r) = (x, x.length + 6, 0) := by
  have hs := size_app x r
  have hl : (recL x ++ r).length = x.length + 6 + r.length := by rw [List.length_append, recL_length]
  have hd : (recL x ++ r).drop 2 = x ++ (le4 (crc (headL x)) ++ r) := by simp [recL, headL]
  have h3 : crc ((recL x ++ r).take (sizeL (recL x ++ r) + 2)) = stored ((recL x ++ r).drop (sizeL (recL x ++ r) + 2)) := by
    rw [hs]
    unfold recL
    rw [List.append_assoc, ← headL_length x, List.take_left, List.drop_left, stored_app _ _ (crc_lt _)]
  rw [next_ok (by omega) (by omega) (by omega) h3, hs, hd, List.take_left]
theorem next_cut (x : List Nat) (h : x.length ≤ 400) (m : Nat) (hm : m < x.length + 6) : nextL ((recL x).take m) = ([], 0, 12) := by
  have hl : ((recL x).take m).length = m := by rw [List.length_take, recL_length]; omega
  by_cases h2 : m < 2
  · exact next_short0 (by omega)
  · have hs : sizeL ((recL x).take m) = x.length := by
      rw [← size_rec x]
      unfold sizeL
      rw [List.getD_eq_getElem?_getD, List.getD_eq_getElem?_getD, List.getElem?_take_of_lt (by omega), List.getElem?_take_of_lt (by omega), List.getD_eq_getElem?_getD, List.getD_eq_getElem?_getD]
    exact next_short1 (by omega) (by omega) (by omega)
/-- Where texts stand as records, and they. -/
def placesF : Nat → List (List Nat) → List (Nat × List Nat)
  | _, [] => []
  | p, x :: xs => (p, x) :: placesF (p + (x.length + 6)) xs
theorem catL_cons (x : List Nat) (xs : List (List Nat)) : catL (x :: xs) = recL x ++ catL xs := by simp [catL]
theorem catL_append (a b : List (List Nat)) : catL (a ++ b) = catL a ++ catL b := by simp [catL]
theorem placesF_append (p : Nat) (a b : List (List Nat)) : placesF p (a ++ b) = placesF p a ++ placesF (p + (catL a).length) b := by
  induction a generalizing p with
  | nil => simp [placesF, catL]
  | cons x a ih =>
    simp only [List.cons_append, placesF, ih, catL_cons, List.length_append, recL_length]
    rw [Nat.add_assoc]
theorem placesF_length (p : Nat) (a : List (List Nat)) : (placesF p a).length = a.length := by
  induction a generalizing p with
  | nil => rfl
  | cons x a ih => simp [placesF, ih]
theorem placesF_get (ls : List (List Nat)) (i : Nat) (hi : i < ls.length) : (placesF 0 ls)[i]? = some ((catL (ls.take i)).length, ls.getD i []) := by
  have h : ls = ls.take i ++ (ls.getD i [] :: ls.drop (i + 1)) := by
    rw [List.getD_eq_getElem?_getD, List.getElem?_eq_getElem hi]
    simp
  have hlen : (placesF 0 (ls.take i)).length = i := by rw [placesF_length, List.length_take]; omega
  generalize ls.getD i [] = x at *
  generalize hr : ls.drop (i + 1) = r at *
  generalize ht : ls.take i = t at *
  rw [h, placesF_append, Nat.zero_add, placesF, List.getElem?_append_right (by omega), hlen, Nat.sub_self]
  rfl
theorem recF_cat (ls : List (List Nat)) (hF : ∀ x ∈ ls, x.length ≤ 400) (r : List Nat) (f p : Nat) (hf : ls.length ≤ f) : recF f p (catL ls ++ r) = placesF p ls ++ recF (f - ls.length) (p + (catL ls).length) r := by
  induction ls generalizing f p with
  | nil => simp [placesF, catL]
  | cons x ls ih =>
    obtain ⟨f', rfl⟩ : ∃ f', f = f' + 1 := ⟨f - 1, by simp at hf; omega⟩
    have hn := next_rec x (catL ls ++ r) (hF x List.mem_cons_self)
    rw [catL_cons, List.append_assoc, recF_more (by rw [hn]), hn]
    simp only
    have hd : (recL x ++ (catL ls ++ r)).drop (x.length + 6) = catL ls ++ r := by rw [← recL_length x, List.drop_left]
    rw [hd, ih (fun y hy => hF y (List.mem_cons_of_mem _ hy)) f' _ (by simp at hf; omega)]
    simp only [placesF, List.cons_append, List.length_append, recL_length, List.length_cons, Nat.add_sub_add_right]
    rw [Nat.add_assoc p]
theorem recF_short (f p : Nat) (r : List Nat) (h : ¬ (nextL r).2.2 = 0) : recF f p r = [] := by
  cases f with
  | zero => rfl
  | succ f => exact recF_end h
theorem cat_long (ls : List (List Nat)) : 6 * ls.length ≤ (catL ls).length := by
  induction ls with
  | nil => simp
  | cons x ls ih => rw [catL_cons, List.length_append, recL_length, List.length_cons]; omega
theorem recs_cat (ls : List (List Nat)) (hF : ∀ x ∈ ls, x.length ≤ 400) (r : List Nat) (h : ¬ (nextL r).2.2 = 0) : recs (catL ls ++ r) = placesF 0 ls := by
  unfold recs
  rw [recF_cat ls hF r _ 0 (by have := cat_long ls; rw [List.length_append]; omega), recF_short _ _ r h, List.append_nil]
theorem whole_cat (ls : List (List Nat)) : wholeOf (placesF 0 ls) = (catL ls).length := by
  rcases List.eq_nil_or_concat ls with rfl | ⟨a, x, rfl⟩
  · rfl
  · rw [List.concat_eq_append, placesF_append, Nat.zero_add]
    simp only [placesF]
    rw [wholeOf_snoc, catL_append, List.length_append, catL_cons, List.length_append, recL_length]
    simp [catL]
    omega
theorem next_nil : ¬ (nextL []).2.2 = 0 := by rw [next_short0 (by simp)]; simp
theorem Fits.mem {ls : List (List Nat)} (h : Fits ls) : ∀ x ∈ ls, x.length ≤ 400 := by
  intro x hx
  obtain ⟨i, hi, rfl⟩ := List.getElem_of_mem hx
  have := h.2 i hi
  rwa [List.getD_eq_getElem?_getD, List.getElem?_eq_getElem hi] at this
theorem recs_all (ls : List (List Nat)) (h : Fits ls) : recs (catL ls) = placesF 0 ls := by
  have := recs_cat ls h.mem [] next_nil
  rwa [List.append_nil] at this
/-- What is left of records that are cut off: the whole ones, and a front of one. -/
theorem cut_cat (ls : List (List Nat)) (h : Fits ls) (n k : Nat) (hn : n ≤ (catL ls).length) (hk : k ≤ ls.length) (h1 : (catL (ls.take k)).length ≤ n) (h2 : k < ls.length → n < (catL (ls.take k)).length + (ls.getD k []).length + 6) :
    ∃ r, (catL ls).take n = catL (ls.take k) ++ r ∧ ((catL ls).take n).drop (catL (ls.take k)).length = r ∧ r.length = n - (catL (ls.take k)).length ∧ (nextL r).2.2 = 12 := by
  have e : catL ls = catL (ls.take k) ++ catL (ls.drop k) := by rw [← catL_append, List.take_append_drop]
  have e2 : (catL ls).take n = catL (ls.take k) ++ (catL (ls.drop k)).take (n - (catL (ls.take k)).length) := by
    rw [e, List.take_append, List.take_of_length_le h1]
  have hlen : (catL ls).length = (catL (ls.take k)).length + (catL (ls.drop k)).length := by rw [e, List.length_append]
  refine ⟨_, e2, by rw [e2, List.drop_left], by rw [List.length_take]; omega, ?_⟩
  by_cases hlt : k < ls.length
  · have hd : ls.drop k = ls.getD k [] :: ls.drop (k + 1) := by
      rw [List.getD_eq_getElem?_getD, List.getElem?_eq_getElem hlt]
      simp
    have h3 := h2 hlt
    have h4 := h.2 k hlt
    generalize ls.getD k [] = x at *
    rw [hd, catL_cons, List.take_append_of_le_length (by rw [recL_length]; omega), next_cut x h4 _ (by omega)]
  · have h0 : ls.drop k = [] := List.drop_eq_nil_of_le (by omega)
    rw [h0, show catL [] = [] from rfl, List.take_nil, next_short0 (by simp)]
end Go.Proofs.Ytmopipclheohcaa
