/-
  The walk of the reference's parts (practice for stage 8).
-/
import Derived.Test.YtjkbnljjmbfmiaaDoorWr4
import Derived.Test.YtjkbnljjmbfmiaaDoorOwnL
namespace Go.Proofs.YtjkbnljjmbfmiaaDoor
open Go Go.RowKit
set_option linter.unusedVariables false

/-- A string in a slice of strings. -/
def encS (l : List Nat) : List Value := [.string (bstr l)]
theorem lay_str : Lay encS 46 9 1 16 := by
  refine ⟨Tryd.underlying46, ?_, by omega, fun _ => rfl, fun x u hu => ?_⟩
  · have h : (Tryd.prog.info? 9).map (fun i => (i.zero, i.size, i.bytes)) = some (some (.string { data := #[] }), 1, 16) := by kernel_rfl
    obtain ⟨i, h1, h2, h3, h4⟩ := parts_of h
    exact ⟨i, _, h1, h2, h3, h4, rfl⟩
  · simp [encS] at hu
    subst hu; rfl
def OwnS (w : World) (base : Nat) (v : Value) (l : List (List Nat)) : Prop := OwnL encS 9 1 w base v l
end Go.Proofs.YtjkbnljjmbfmiaaDoor
