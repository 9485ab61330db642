/-
  Long division bit by bit: plain numbers. No program is named here.
-/
import Derived.Test.YtiblbhppojfdaaaDig
namespace Go.Proofs.Ytiblbhppojfdaaa
open Go.RowKit

/-- The bits l, the lowest first, with r above them. -/
def bapp : List Int → Int → Int
  | [], r => r
  | b :: l, r => b + 2 * bapp l r
def Bits (l : List Int) : Prop := ∀ b ∈ l, b = 0 ∨ b = 1
theorem bapp_snoc (l : List Int) (d r : Int) : bapp (l ++ [d]) r = bapp l (d + 2 * r) := by
  induction l with
  | nil => rfl
  | cons x l ih => simp only [List.cons_append, bapp, ih]
theorem bits_nil : Bits [] := fun _ h => by simp at h
theorem bits_snoc {l : List Int} (h : Bits l) {d : Int} (hd : d = 0 ∨ d = 1) : Bits (l ++ [d]) := fun x hx => by
  rcases List.mem_append.1 hx with hx | hx
  · exact h x hx
  · rw [List.mem_singleton] at hx; subst hx; exact hd
theorem bits_at {l : List Int} (h : Bits l) (k : Nat) (hk : k < l.length) : l.getD k 0 = 0 ∨ l.getD k 0 = 1 := by
  rw [List.getD_eq_getElem?_getD, List.getElem?_eq_getElem hk]
  exact h _ (List.getElem_mem hk)
theorem bapp_drop (l : List Int) (k : Nat) (hk : k < l.length) : bapp (l.drop k) 0 = l.getD k 0 + 2 * bapp (l.drop (k + 1)) 0 := by
  rw [List.drop_eq_getElem_cons hk, List.getD_eq_getElem?_getD, List.getElem?_eq_getElem hk]
  rfl
theorem bapp_nn {l : List Int} (h : Bits l) : 0 ≤ bapp l 0 := by
  induction l with
  | nil => simp [bapp]
  | cons x l ih =>
    have h1 := ih (fun b hb => h b (List.mem_cons_of_mem _ hb))
    have h2 := h x (List.mem_cons_self)
    simp only [bapp]
    omega

/-- How great digits are. -/
theorem dval_lt {l : List Int} (h : Digs l) : dval l < 2 ^ (32 * l.length) := by
  induction l with
  | nil => simp [dval_nil]
  | cons x l ih =>
    have h1 := ih (fun d hd => h d (List.mem_cons_of_mem _ hd))
    have h2 := h x (List.mem_cons_self)
    rw [dval_cons, List.length_cons, show 32 * (l.length + 1) = 32 * l.length + 32 from by omega, Int.pow_add]
    have e : (2 : Int) ^ 32 = 4294967296 := by decide
    rw [e]
    generalize (2 : Int) ^ (32 * l.length) = p at *
    omega
theorem pow_half {x : Int} {k : Nat} (h : x < 2 ^ (k + 1)) : x / 2 < 2 ^ k := by
  rw [Int.pow_succ] at h
  generalize (2 : Int) ^ k = p at *
  omega
theorem pow_one {x : Int} {k : Nat} (h : x < 2 ^ k) (h1 : 1 ≤ x) : 1 ≤ k := by
  cases k with
  | zero => simp at h; omega
  | succ k => omega

/-- One bit more: quotient and rest. -/
theorem bit_less {T y b : Int} (hy : 0 < y) (hb : b = 0 ∨ b = 1) (h : T % y + T % y + b < y) : (b + 2 * T) / y = T / y + T / y ∧ (b + 2 * T) % y = T % y + T % y + b := by
  have h1 := Int.mul_ediv_add_emod T y
  have h2 := Int.emod_nonneg T (show y ≠ 0 by omega)
  refine (Int.ediv_emod_unique hy).2 ⟨?_, by omega, by omega⟩
  rw [Int.mul_add]
  generalize y * (T / y) = P at *
  omega
theorem bit_more {T y b : Int} (hy : 0 < y) (hb : b = 0 ∨ b = 1) (h : ¬ T % y + T % y + b < y) : (b + 2 * T) / y = T / y + T / y + 1 ∧ (b + 2 * T) % y = T % y + T % y + b - y := by
  have h1 := Int.mul_ediv_add_emod T y
  have h2 := Int.emod_lt_of_pos T hy
  refine (Int.ediv_emod_unique hy).2 ⟨?_, by omega, by omega⟩
  rw [Int.mul_add, Int.mul_add]
  generalize y * (T / y) = P at *
  omega
/-- Of a number below 0. -/
theorem neg_even {N y : Int} (hy : 0 < y) (h : N % y = 0) : -N / y = -(N / y) ∧ -N % y = N % y := by
  have h1 := Int.mul_ediv_add_emod N y
  refine (Int.ediv_emod_unique hy).2 ⟨?_, by omega, by omega⟩
  rw [Int.mul_neg]
  generalize y * (N / y) = P at *
  omega
theorem neg_odd {N y : Int} (hy : 0 < y) (h : N % y ≠ 0) : -N / y = -(N / y) - 1 ∧ -N % y = y - N % y := by
  have h1 := Int.mul_ediv_add_emod N y
  have h2 := Int.emod_nonneg N (show y ≠ 0 by omega)
  have h3 := Int.emod_lt_of_pos N hy
  refine (Int.ediv_emod_unique hy).2 ⟨?_, by omega, by omega⟩
  rw [Int.mul_sub, Int.mul_neg]
  generalize y * (N / y) = P at *
  omega
end Go.Proofs.Ytiblbhppojfdaaa
