/-
  The letters of fields. (No program is named here.)
-/
import Derived.Test.YtjkbnljjmbfmiaaDoorEv3
namespace Go.Proofs.YtjkbnljjmbfmiaaDoor
open Go Go.RowKit
set_option linter.unusedVariables false

/-- The letters of fields. -/
def letter (f : Nat) : Prop := f = 77 ∨ f = 65 ∨ f = 73 ∨ f = 83 ∨ f = 68 ∨ f = 81 ∨ f = 80
theorem fields_letters (k : Int) : ∀ f ∈ fieldsOf k, letter f := by
  unfold fieldsOf
  repeat' split
  all_goals (intro f hf; first | exact absurd hf List.not_mem_nil | (simp only [List.mem_cons, List.not_mem_nil, or_false] at hf; unfold letter; omega))
theorem fields_nodup (k : Int) : (fieldsOf k).Nodup := by
  unfold fieldsOf
  repeat' split
  all_goals decide
theorem val_with_same {f : Nat} (e : Ev) (n : Int) (h : letter f) : (e.with f n).val f = n := by
  rcases h with rfl | rfl | rfl | rfl | rfl | rfl | rfl <;> rfl
theorem val_with_other {f g : Nat} (e : Ev) (n : Int) (hf : letter f) (hg : letter g) (h : g ≠ f) : (e.with f n).val g = e.val g := by
  rcases hf with rfl | rfl | rfl | rfl | rfl | rfl | rfl <;> rcases hg with rfl | rfl | rfl | rfl | rfl | rfl | rfl <;> first | rfl | exact absurd rfl h
theorem kind_with (e : Ev) (f : Nat) (n : Int) : (e.with f n).kind = e.kind := by
  unfold Ev.with
  repeat' split
  all_goals rfl
end Go.Proofs.YtjkbnljjmbfmiaaDoor
