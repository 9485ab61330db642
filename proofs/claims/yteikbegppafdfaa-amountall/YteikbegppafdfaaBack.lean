/-
  The walks of the laws AmountBack and AmountOrder.
-/
import Derived.Test.YteikbegppafdfaaKnown1
namespace Go.Proofs.Yteikbegppafdfaa
open Go.RowKit

theorem wf_i64 {a : Int} (h : (Lit.int .i64 a).wf = true) : I64 a := by
  unfold I64; simpa [Lit.wf, IntKind.min, IntKind.max, IntKind.signed, IntKind.bits] using h

set_option maxHeartbeats 400000 in
theorem back_walk (a b : Int) (w0 : (Lit.int .i64 a).wf = true) (w1 : (Lit.int .i64 b).wf = true) (w : World) :
    Calls Try.prog 5 #[.int .i64 a, .int .i64 b] w fun e w' => e = .returned (.bool true) ∧ Below w.heap.size w w' := by
  have ha := wf_i64 w0
  have hb := wf_i64 w1
  have k1 : I64 1 := by unfold I64; omega
  have k2 : I64 (-1) := by unfold I64; omega
  have c0 := Lib.hid known_any
  have c1 := Lib.hid (add_any a b ha hb)
  have c3 := Lib.hid (mul_any a 1 ha k1)
  have c4 := Lib.hid (mul_any a (-1) ha k2)
  have c5 := Lib.hid (neg_any a ha)
  rw [Int.mul_one, held_of ha, fits_of ha] at c3
  rw [show a * -1 = -a from by omega] at c4
  by_cases h : I64 (a + b)
  · have c2 := Lib.hid (sub_any (a + b) b h hb)
    rw [Int.add_sub_cancel, held_of ha, fits_of ha] at c2
    rw [held_of h, fits_of h] at c1
    clear ha hb k1 k2 h w0 w1
    go_enter Try.func5, Try.ntmps5
    go_wp2_with (first
      | (go_at_call 7; refine (c0.out _).mono ?_; rintro e w1 ⟨rfl, hw1⟩)
      | (go_at_call 9; refine (c1.out _).mono ?_; rintro e w' ⟨rfl, rfl⟩)
      | (go_at_call 10; refine (c2.out _).mono ?_; rintro e w' ⟨rfl, rfl⟩)
      | (go_at_call 12; refine (c5.out _).mono ?_; rintro e w' ⟨rfl, rfl⟩)
      | (go_at_call 11; first | ((with_reducible refine (c3.out _).mono ?_); rintro e w' ⟨rfl, rfl⟩) | ((with_reducible refine (c4.out _).mono ?_); rintro e w' ⟨rfl, rfl⟩)))
    go_ret
    exact ⟨rfl, hw1⟩
  · rw [held_not h, fits_not h] at c1
    clear ha hb k1 k2 h w0 w1
    go_enter Try.func5, Try.ntmps5
    go_wp2_with (first
      | (go_at_call 7; refine (c0.out _).mono ?_; rintro e w1 ⟨rfl, hw1⟩)
      | (go_at_call 9; refine (c1.out _).mono ?_; rintro e w' ⟨rfl, rfl⟩)
      | (go_at_call 12; refine (c5.out _).mono ?_; rintro e w' ⟨rfl, rfl⟩)
      | (go_at_call 11; first | ((with_reducible refine (c3.out _).mono ?_); rintro e w' ⟨rfl, rfl⟩) | ((with_reducible refine (c4.out _).mono ?_); rintro e w' ⟨rfl, rfl⟩)))
    go_ret
    exact ⟨rfl, hw1⟩
end Go.Proofs.Yteikbegppafdfaa
