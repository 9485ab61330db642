/-
  WireNumbers at its arguments.
-/
import Derived.Test.YtjkbnljjmbfmiaaDoorLNumbers8
namespace Go.Proofs.YtjkbnljjmbfmiaaDoor
open Go Go.RowKit
set_option linter.unusedVariables false

theorem wnumbers_top (a0 a1 a2 : Int) (h0 : (Lit.int .u8 a0).wf = true) (h1 : (Lit.int .u64 a1).wf = true) (h2 : (Lit.int .u8 a2).wf = true) (w : World) (hw : Laid w) : Calls Tryd.prog 8 #[.int .u8 a0, .int .u64 a1, .int .u8 a2] w fun r w' => r = .returned (.bool true) ∧ Below w.heap.size w w' := by
  obtain ⟨g0, g1⟩ := wf_u8 h0
  obtain ⟨g2, g3⟩ := wf_u8 h2
  obtain ⟨e0, e1⟩ : 0 ≤ a1 ∧ a1 < 18446744073709551616 := by simp [Lit.wf, IntKind.min, IntKind.max, IntKind.bits, IntKind.signed] at h1; omega
  obtain ⟨ac, rfl⟩ : ∃ k : Nat, a0 = (k : Int) := ⟨a0.toNat, by omega⟩
  obtain ⟨Q, rfl⟩ : ∃ k : Nat, a1 = (k : Int) := ⟨a1.toNat, by omega⟩
  obtain ⟨hw8, rfl⟩ : ∃ k : Nat, a2 = (k : Int) := ⟨a2.toNat, by omega⟩
  exact wnumbers_walk ac Q hw8 (by omega) (by omega) (by omega) w hw
end Go.Proofs.YtjkbnljjmbfmiaaDoor
