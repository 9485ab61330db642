/-
  Plain lists: the places of numbers, the greatest first, of several alike the lesser place first. No program is named here.
-/
import Derived.Test.YtiblbhppojfdaaaSh0
namespace Go.Proofs.Ytiblbhppojfdaaa
open Go.RowKit

/-- Of two lists with the same members that rise by an order that parts them: one list. -/
theorem perm_unique {α : Type} {le : α → α → Prop} (anti : ∀ a b, le a b → le b a → a = b) : ∀ (l m : List α), l.Perm m → l.Pairwise le → m.Pairwise le → l = m := by
  intro l
  induction l with
  | nil => intro m h _ _; exact h.nil_eq
  | cons a l ih =>
    intro m h hl hm
    cases m with
    | nil => exact absurd h.length_eq (by simp)
    | cons b m =>
      rw [List.pairwise_cons] at hl hm
      have hab : a = b := by
        have h1 : a ∈ b :: m := h.subset List.mem_cons_self
        have h2 : b ∈ a :: l := h.symm.subset List.mem_cons_self
        rcases List.mem_cons.1 h1 with e | e
        · exact e
        · rcases List.mem_cons.1 h2 with e' | e'
          · exact e'.symm
          · exact anti _ _ (hl.1 _ e') (hm.1 _ e)
      subst hab
      rw [ih m ((List.perm_cons a).1 h) hl.2 hm.2]

/-- Place x stands at or ahead of place y. -/
def leq (l : List Int) (x y : Nat) : Prop := l.getD y 0 < l.getD x 0 ∨ (l.getD x 0 = l.getD y 0 ∧ x ≤ y)
instance leqDec (l : List Int) (x y : Nat) : Decidable (leq l x y) := by unfold leq; infer_instance
theorem leq_anti (l : List Int) (x y : Nat) (h1 : leq l x y) (h2 : leq l y x) : x = y := by unfold leq at *; omega
theorem leq_trans {l : List Int} {x y z : Nat} (h1 : leq l x y) (h2 : leq l y z) : leq l x z := by unfold leq at *; omega

/-- A place put in: behind all whose number is no less. -/
def ins (l : List Int) (i : Nat) : List Nat → List Nat
  | [] => [i]
  | k :: r => if l.getD i 0 ≤ l.getD k 0 then k :: ins l i r else i :: k :: r
def ordTo (l : List Int) : Nat → List Nat
  | 0 => []
  | n + 1 => ins l n (ordTo l n)
/-- The places of l in their order. -/
def ordL (l : List Int) : List Nat := ordTo l l.length

theorem ins_perm (l : List Int) (i : Nat) (r : List Nat) : (ins l i r).Perm (i :: r) := by
  induction r with
  | nil => exact List.Perm.refl _
  | cons k r ih =>
    unfold ins
    split
    · exact (ih.cons k).trans (List.Perm.swap _ _ _)
    · exact List.Perm.refl _
theorem ordTo_perm (l : List Int) (n : Nat) : (ordTo l n).Perm (List.range n) := by
  induction n with
  | zero => exact List.Perm.refl _
  | succ n ih =>
    rw [List.range_succ]
    exact ((ins_perm l n _).trans (ih.cons n)).trans (List.perm_append_singleton n _).symm
theorem ordTo_lt {l : List Int} {n k : Nat} (h : k ∈ ordTo l n) : k < n := by
  have := (ordTo_perm l n).subset h
  simpa using this
theorem ordTo_length (l : List Int) (n : Nat) : (ordTo l n).length = n := by
  have := (ordTo_perm l n).length_eq
  simpa using this
theorem ins_sorted (l : List Int) (i : Nat) : ∀ r : List Nat, (∀ k ∈ r, k < i) → r.Pairwise (leq l) → (ins l i r).Pairwise (leq l) := by
  intro r
  induction r with
  | nil => intro _ _; simp [ins]
  | cons k r ih =>
    intro hk hr
    rw [List.pairwise_cons] at hr
    unfold ins
    split
    · rename_i h
      rw [List.pairwise_cons]
      refine ⟨fun y hy => ?_, ih (fun y hy => hk y (List.mem_cons_of_mem _ hy)) hr.2⟩
      rcases List.mem_cons.1 ((ins_perm l i r).subset hy) with e | e
      · subst e
        have := hk k List.mem_cons_self
        unfold leq; omega
      · exact hr.1 y e
    · rename_i h
      have h1 : leq l i k := by unfold leq; omega
      rw [List.pairwise_cons]
      refine ⟨fun y hy => ?_, List.pairwise_cons.2 hr⟩
      rcases List.mem_cons.1 hy with e | e
      · subst e; exact h1
      · exact leq_trans h1 (hr.1 y e)
theorem ordTo_sorted (l : List Int) (n : Nat) : (ordTo l n).Pairwise (leq l) := by
  induction n with
  | zero => exact List.Pairwise.nil
  | succ n ih => exact ins_sorted l n _ (fun k hk => ordTo_lt hk) ih
theorem ordL_unique (l : List Int) (o : List Nat) (h1 : o.Perm (List.range l.length)) (h2 : o.Pairwise (leq l)) : o = ordL l :=
  perm_unique (leq_anti l) _ _ (h1.trans (ordTo_perm l _).symm) h2 (ordTo_sorted l _)
theorem ordL_length (l : List Int) : (ordL l).length = l.length := ordTo_length l _
theorem ordL_lt {l : List Int} {k : Nat} (h : k ∈ ordL l) : k < l.length := ordTo_lt h
theorem ordL_nodup (l : List Int) : (ordL l).Nodup := (ordTo_perm l _).symm.nodup List.nodup_range
/-- .. as numbers. -/
def ordI (l : List Int) : List Int := (ordL l).map fun (n : Nat) => (n : Int)
theorem ordI_length (l : List Int) : (ordI l).length = l.length := by simp [ordI, ordL_length]
theorem ordI_getD (l : List Int) (i : Nat) (h : i < l.length) : (ordI l).getD i 0 = ((ordL l).getD i 0 : Nat) := by
  unfold ordI; rw [getD_map _ _ _ 0 (by rw [ordL_length]; exact h)]
theorem ordL_getD_lt (l : List Int) (i : Nat) (h : i < l.length) : (ordL l).getD i 0 < l.length := by
  apply ordL_lt
  rw [List.getD_eq_getElem?_getD, List.getElem?_eq_getElem (by rw [ordL_length]; exact h)]; simp

/-- The places from 0 on, up to k; then 0. -/
def upTo (n k : Nat) : List Int := (List.range n).map fun i => if i < k then (i : Int) else 0
theorem upTo_length (n k : Nat) : (upTo n k).length = n := by simp [upTo]
theorem upTo_getD (n k i : Nat) (h : i < n) : (upTo n k).getD i 0 = if i < k then (i : Int) else 0 := by
  unfold upTo
  rw [getD_map _ _ _ 0 (by simpa using h)]
  simp [List.getD_eq_getElem?_getD, h]
theorem upTo_zero (n : Nat) : List.replicate n 0 = upTo n 0 := by
  apply ext_getD (by simp [upTo])
  intro i hi
  rw [List.length_replicate] at hi
  rw [upTo_getD n 0 i hi]
  simp [List.getD_eq_getElem?_getD, hi]
theorem upTo_step (n k : Nat) (h : k < n) : (upTo n k).set k (k : Int) = upTo n (k + 1) := by
  apply ext_getD (by simp [upTo])
  intro i hi
  rw [List.length_set, upTo_length] at hi
  rw [upTo_getD n (k + 1) i hi]
  by_cases e : k = i
  · subst e
    rw [getD_set_same _ (by rw [upTo_length]; exact h), if_pos (by omega)]
  · rw [getD_set_ne _ e, upTo_getD n k i hi]
    by_cases h1 : i < k
    · rw [if_pos h1, if_pos (by omega)]
    · rw [if_neg h1, if_neg (by omega)]
end Go.Proofs.Ytiblbhppojfdaaa
