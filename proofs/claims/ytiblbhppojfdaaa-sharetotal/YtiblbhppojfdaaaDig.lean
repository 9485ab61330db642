/-
  Plain numbers by digits of 32 bits, the lowest first. No program is named here.
-/
import Derived.Test.YtiblbhppojfdaaaNum
import Derived.Test.YtiblbhppojfdaaaMem
namespace Go.Proofs.Ytiblbhppojfdaaa

/-- The number of some digits, with r above them. -/
def dapp : List Int → Int → Int
  | [], r => r
  | d :: l, r => d + 4294967296 * dapp l r
/-- The number of some digits. -/
def dval (l : List Int) : Int := dapp l 0
def Digs (l : List Int) : Prop := ∀ d ∈ l, 0 ≤ d ∧ d < 4294967296
/-- No nought at the upper end. -/
def Norm (l : List Int) : Prop := l = [] ∨ l.getD (l.length - 1) 0 ≠ 0

theorem dapp_snoc (l : List Int) (d r : Int) : dapp (l ++ [d]) r = dapp l (d + 4294967296 * r) := by
  induction l with
  | nil => rfl
  | cons x l ih => simp only [List.cons_append, dapp, ih]
theorem dval_cons (d : Int) (l : List Int) : dval (d :: l) = d + 4294967296 * dval l := rfl
theorem dval_nil : dval [] = 0 := rfl
theorem dval_drop (l : List Int) (i : Nat) : dval (l.drop i) = l.getD i 0 + 4294967296 * dval (l.drop (i + 1)) := by
  by_cases h : i < l.length
  · rw [List.drop_eq_getElem_cons h, dval_cons, List.getD_eq_getElem?_getD, List.getElem?_eq_getElem h]; rfl
  · rw [List.drop_eq_nil_of_le (by omega), List.drop_eq_nil_of_le (by omega), List.getD_eq_getElem?_getD, List.getElem?_eq_none (by omega)]; rfl
theorem dapp_take (l : List Int) (i : Nat) (h : i < l.length) (r : Int) : dapp (l.take (i + 1)) r = dapp (l.take i) (l.getD i 0 + 4294967296 * r) := by
  rw [List.take_succ_eq_append_getElem h, dapp_snoc, List.getD_eq_getElem?_getD, List.getElem?_eq_getElem h]; rfl
theorem dapp_split (l : List Int) (i : Nat) : dapp (l.take i) (dval (l.drop i)) = dval l := by
  induction i generalizing l with
  | zero => rfl
  | succ i ih =>
    cases l with
    | nil => rfl
    | cons x l => simp only [List.take_succ_cons, List.drop_succ_cons, dapp, ih, dval_cons]
theorem digs_nil : Digs [] := fun _ h => by simp at h
theorem digs_cons {d : Int} {l : List Int} (h : 0 ≤ d ∧ d < 4294967296) (hl : Digs l) : Digs (d :: l) := fun x hx => by
  rcases List.mem_cons.1 hx with rfl | hx
  · exact h
  · exact hl x hx
theorem digs_snoc {d : Int} {l : List Int} (hl : Digs l) (h : 0 ≤ d ∧ d < 4294967296) : Digs (l ++ [d]) := fun x hx => by
  rcases List.mem_append.1 hx with hx | hx
  · exact hl x hx
  · rw [List.mem_singleton] at hx; subst hx; exact h
theorem digs_getD {l : List Int} (hl : Digs l) (i : Nat) : 0 ≤ l.getD i 0 ∧ l.getD i 0 < 4294967296 := by
  by_cases h : i < l.length
  · rw [List.getD_eq_getElem?_getD, List.getElem?_eq_getElem h]; exact hl _ (List.getElem_mem h)
  · rw [List.getD_eq_getElem?_getD, List.getElem?_eq_none (by omega)]; simp
theorem digs_take {l : List Int} (hl : Digs l) (i : Nat) : Digs (l.take i) := fun x hx => hl x (List.mem_of_mem_take hx)
theorem digs_drop {l : List Int} (hl : Digs l) (i : Nat) : Digs (l.drop i) := fun x hx => hl x (List.mem_of_mem_drop hx)
theorem digs_set {l : List Int} (hl : Digs l) (i : Nat) {d : Int} (h : 0 ≤ d ∧ d < 4294967296) : Digs (l.set i d) := fun x hx => by
  rcases List.mem_or_eq_of_mem_set hx with hx | rfl
  · exact hl x hx
  · exact h
theorem dapp_nn {l : List Int} (hl : Digs l) {r : Int} (hr : 0 ≤ r) : 0 ≤ dapp l r := by
  induction l with
  | nil => exact hr
  | cons x l ih =>
    have h1 := hl x (List.mem_cons_self ..)
    have h2 := ih (fun y hy => hl y (List.mem_cons_of_mem _ hy))
    simp only [dapp]; omega
theorem dval_nn {l : List Int} (hl : Digs l) : 0 ≤ dval l := dapp_nn hl (Int.le_refl 0)
theorem dapp_neg {l : List Int} (hl : Digs l) {r : Int} (hr : r ≤ -1) : dapp l r ≤ -1 := by
  induction l with
  | nil => exact hr
  | cons x l ih =>
    have h1 := hl x (List.mem_cons_self ..)
    have h2 := ih (fun y hy => hl y (List.mem_cons_of_mem _ hy))
    simp only [dapp]; omega

/-- How many digits stay, of the first n. -/
def tl (l : List Int) : Nat → Nat
  | 0 => 0
  | n + 1 => if l.getD n 0 = 0 then tl l n else n + 1
theorem tl_le (l : List Int) (n : Nat) : tl l n ≤ n := by
  induction n with
  | zero => exact Nat.le_refl 0
  | succ n ih => simp only [tl]; split <;> omega
theorem tl_zeros (l : List Int) (n k : Nat) (h1 : tl l n ≤ k) (h2 : k < n) : l.getD k 0 = 0 := by
  induction n with
  | zero => omega
  | succ n ih =>
    simp only [tl] at h1
    split at h1
    · by_cases e : k = n
      · subst e; assumption
      · exact ih h1 (by omega)
    · omega
theorem tl_last (l : List Int) (n : Nat) (h : 0 < tl l n) : l.getD (tl l n - 1) 0 ≠ 0 := by
  induction n with
  | zero => simp [tl] at h
  | succ n ih =>
    simp only [tl] at h ⊢
    split
    · rename_i e; rw [if_pos e] at h; exact ih h
    · simpa using ‹_›
/-- The digits without noughts at the upper end. -/
def trimL (l : List Int) : List Int := l.take (tl l l.length)
theorem trimL_length (l : List Int) : (trimL l).length = tl l l.length := by
  unfold trimL; rw [List.length_take]; have := tl_le l l.length; omega
theorem trimL_norm (l : List Int) : Norm (trimL l) := by
  unfold Norm
  by_cases h : 0 < tl l l.length
  · right
    rw [trimL_length, trimL, List.getD_eq_getElem?_getD, List.getElem?_take_of_lt (by omega), ← List.getD_eq_getElem?_getD]
    exact tl_last l _ h
  · left
    exact List.eq_nil_of_length_eq_zero (by rw [trimL_length]; omega)
theorem dval_zeros (l : List Int) (h : ∀ i, l.getD i 0 = 0) : dval l = 0 := by
  induction l with
  | nil => rfl
  | cons x l ih =>
    have h0 := h 0
    have h1 := ih (fun i => by have := h (i + 1); simpa using this)
    simp at h0
    rw [dval_cons, h0, h1]; rfl
theorem dval_trim (l : List Int) : dval (trimL l) = dval l := by
  have h : dval (l.drop (tl l l.length)) = 0 := by
    apply dval_zeros
    intro i
    rw [List.getD_eq_getElem?_getD, List.getElem?_drop, ← List.getD_eq_getElem?_getD]
    by_cases e : tl l l.length + i < l.length
    · exact tl_zeros l _ _ (by omega) e
    · rw [List.getD_eq_getElem?_getD, List.getElem?_eq_none (by omega)]; rfl
  have h2 := dapp_split l (tl l l.length)
  rw [h] at h2
  exact h2
theorem digs_trim {l : List Int} (h : Digs l) : Digs (trimL l) := digs_take h _

theorem norm_tail {x : Int} {l : List Int} (h : Norm (x :: l)) : Norm l := by
  unfold Norm at h ⊢
  cases l with
  | nil => left; rfl
  | cons y l =>
    right
    rcases h with h | h
    · cases h
    · simpa using h
theorem dval_pos {l : List Int} (hl : Digs l) (hn : Norm l) (h0 : 0 < l.length) : 0 < dval l := by
  induction l with
  | nil => simp at h0
  | cons x l ih =>
    have h1 := hl x (List.mem_cons_self ..)
    have hl' : Digs l := fun y hy => hl y (List.mem_cons_of_mem _ hy)
    rw [dval_cons]
    by_cases e : 0 < l.length
    · have := ih hl' (norm_tail hn) e
      omega
    · obtain rfl : l = [] := List.eq_nil_of_length_eq_zero (by omega)
      rcases hn with hn | hn
      · cases hn
      · simp at hn
        rw [dval_nil]
        omega
theorem dval_short {a b : List Int} (ha : Digs a) (hb : Digs b) (hn : Norm b) (h : a.length < b.length) : dval a < dval b := by
  induction b generalizing a with
  | nil => simp at h
  | cons y b ih =>
    cases a with
    | nil => rw [dval_nil]; exact dval_pos hb hn (by simp)
    | cons x a =>
      have h1 := ha x (List.mem_cons_self ..)
      have h2 := hb y (List.mem_cons_self ..)
      have := ih (a := a) (fun z hz => ha z (List.mem_cons_of_mem _ hz)) (fun z hz => hb z (List.mem_cons_of_mem _ hz)) (norm_tail hn) (by simpa using h)
      rw [dval_cons, dval_cons]
      omega
theorem dval_top {a b : List Int} (ha : Digs a) (hb : Digs b) (k : Nat) (h : dval (a.drop k) < dval (b.drop k)) : dval a < dval b := by
  induction k with
  | zero => exact h
  | succ k ih =>
    apply ih
    have h1 := digs_getD ha k
    have h2 := digs_getD hb k
    rw [dval_drop a k, dval_drop b k]
    omega
theorem norm_zero {l : List Int} (hl : Digs l) (hn : Norm l) (h : dval l = 0) : l = [] := by
  by_cases e : 0 < l.length
  · have := dval_pos hl hn e; omega
  · exact List.eq_nil_of_length_eq_zero (by omega)
end Go.Proofs.Ytiblbhppojfdaaa
