/-
  Wides as arguments: a struct of two numbers by value, opened and shut.
-/
import Derived.Test.YtiblbhppojfdaaaRows
import Derived.Test.YtiblbhppojfdaaaWnum
import Derived.Lib.SmallJoins
import Derived.WalkKit
import Derived.OpenShut
namespace Go.Proofs.Ytiblbhppojfdaaa
open Go.Joins Go.ChangeShapes Go.WideShapes Go.RowKit Go.Deep

section
variable {H : Type} {enc : TypeId × Value → H} {w : World} {base : Nat} {spare : Nat → Bool} {hld : Bool}
set_option maxRecDepth 100000 in
theorem open_wide {r : Reach} {b0 : Nat} {v : Value} {d : DataW H} {p : List MemPlace} (hv : Value.okWide Try.prog w r b0 24 v) (h : DataW.Trod enc Try.prog w base spare hld 24 v d p) :
    ∃ hi lo : Int, v = .agg #[.int .i64 hi, .int .u64 lo] ∧ d = .agg [.lit (.int .i64 hi), .lit (.int .u64 lo)] ∧ p = [] ∧ (Lit.int .i64 hi).wf = true ∧ (Lit.int .u64 lo).wf = true := by
  obtain ⟨v0, v1, y0, y1, n, rfl, rfl, rfl, h0, h1⟩ := open_agg2 Try.underlying24 (by kernel_rfl) (by kernel_rfl) hv h
  obtain ⟨a, e0, rfl, w0⟩ := DataW.trod_int Try.underlying2 h0
  obtain ⟨b, e1, rfl, w1⟩ := DataW.trod_int Try.underlying22 h1
  simp only [List.cons.injEq, and_true] at e0 e1
  subst e0 e1
  exact ⟨a, b, rfl, rfl, rfl, w0, w1⟩
set_option maxRecDepth 100000 in
theorem shut_wide {hi lo : Int} (w0 : (Lit.int .i64 hi).wf = true) (w1 : (Lit.int .u64 lo).wf = true) :
    DataW.Trod enc Try.prog w base spare hld 24 (.agg #[.int .i64 hi, .int .u64 lo]) (.agg [.lit (.int .i64 hi), .lit (.int .u64 lo)]) [] :=
  shut_agg2 (y0 := (.lit (.int .i64 hi), [])) (y1 := (.lit (.int .u64 lo), [])) Try.underlying24 (by kernel_rfl) (by kernel_rfl)
    (field_of_Trod (shut_int Try.underlying2 w0) rfl) (field_of_Trod (shut_int Try.underlying22 w1) rfl)
end
end Go.Proofs.Ytiblbhppojfdaaa
