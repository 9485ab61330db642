/-
  The walk of novationlaw5.TapeNone.
-/
import Derived.Test.YtcpimdafpmdjnaaKnown5
namespace Go.Proofs.Ytcpimdafpmdjnaa
open Go Go.RowKit
set_option linter.unusedVariables false

set_option maxRecDepth 100000 in
set_option maxHeartbeats 2000000 in
theorem none_walk (A : Value) (n : Int) (w : World) : Calls Try.prog 7 #[A, .int .i64 n] w fun e W' => e = .returned (.bool true) ∧ Below w.heap.size w W' := by
  have C := Lib.hid (known_any w)
  go_enter Try.func7, Try.ntmps7
  go_wp2_with (first
    | (go_at_call 8; refine C.out.mono ?_; rintro e w1 ⟨rfl, hb⟩; have HB := Lib.hid hb; clear hb)
    | (go_at_call 21; (with_reducible refine (none_read _).mono ?_); rintro e _ ⟨rfl, rfl⟩)
    | (go_at_call 16; (with_reducible refine (none_arm _ _ _).mono ?_); rintro e _ ⟨rfl, rfl⟩)
    | (go_at_call 20; (with_reducible refine (none_wake _).mono ?_); rintro e _ ⟨rfl, rfl⟩)
    | (go_at_call 17; (with_reducible refine (none_append _ _).mono ?_); rintro e _ ⟨rfl, rfl⟩)
    | (go_at_call 19; (with_reducible refine (none_cut _ _).mono ?_); rintro e _ ⟨rfl, rfl⟩)
    | (go_at_call 22; (with_reducible refine (none_Len _).mono ?_); rintro e _ ⟨rfl, rfl⟩)
    | (go_at_call 23; (with_reducible refine (none_Room _).mono ?_); rintro e _ ⟨rfl, rfl⟩)
    | (go_at_call 18; (with_reducible refine (none_down _).mono ?_); rintro e _ ⟨rfl, rfl⟩)
    | (go_at_call 14; (with_reducible refine (none_copy _).mono ?_); rintro e _ ⟨rfl, rfl⟩))
  go_ret
  exact ⟨rfl, HB.out⟩
end Go.Proofs.Ytcpimdafpmdjnaa
