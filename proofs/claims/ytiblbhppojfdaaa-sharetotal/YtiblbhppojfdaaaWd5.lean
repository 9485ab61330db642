/-
  The walks of package wide's opposite, size, signed.
-/
import Derived.Test.YtiblbhppojfdaaaWd4
import Derived.Lib.Mul64
import Derived.Laws.Bits64b
namespace Go.Proofs.Ytiblbhppojfdaaa
open Go.RowKit

set_option maxRecDepth 8000 in
set_option maxHeartbeats 400000 in
theorem size_any (a : Int) (ha : I64 a) (w : World) :
    Calls Try.prog 38 #[.int .i64 a] w fun e w' => e = .returned (.int .u64 (a.natAbs : Int)) ∧ w = w' := by
  unfold I64 at ha
  by_cases h : a < 0
  · go_enter Try.func38, Try.ntmps38
    go_wp2
    go_ret
    refine ⟨ret_int ?_, rfl⟩
    rw [IntKind.wrap_u64, IntKind.wrap_u64]
    omega
  · go_enter Try.func38, Try.ntmps38
    go_wp2
    go_ret
    refine ⟨ret_int ?_, rfl⟩
    omega

set_option maxRecDepth 8000 in
set_option maxHeartbeats 1000000 in
/-- bits.Mul64: the product in two words. -/
theorem bits_mul64 (x y : Nat) (hx : x < 18446744073709551616) (hy : y < 18446744073709551616) (w : World) :
    Calls Try.prog 39 #[.int .u64 x, .int .u64 y] w fun e w' => e = .returned (.tuple #[.int .u64 ((x * y / 18446744073709551616 : Nat) : Int), .int .u64 ((x * y % 18446744073709551616 : Nat) : Int)]) ∧ w = w' := by
  obtain ⟨k1, k2, k3, k4⟩ := Lib.mul64_hi x y hx hy
  have k5 := Lib.half_mul_le (a := x / 4294967296) (b := y / 4294967296) (by omega) (by omega)
  have k6 := Lib.half_mul_le (a := x / 4294967296) (b := y % 4294967296) (by omega) (by omega)
  have k7 := Lib.half_mul_le (a := x % 4294967296) (b := y / 4294967296) (by omega) (by omega)
  have m1 : x / 4294967296 * (y / 4294967296) < 18446744073709551616 := by omega
  have m2 : x / 4294967296 * (y % 4294967296) < 18446744073709551616 := by omega
  have m3 : x % 4294967296 * (y / 4294967296) < 18446744073709551616 := by omega
  have m4 : x / 4294967296 * (y / 4294967296) + (x / 4294967296 * (y % 4294967296) + x % 4294967296 * (y % 4294967296) / 4294967296) / 4294967296 < 18446744073709551616 := by omega
  have m5 : x / 4294967296 * (y / 4294967296) + (x / 4294967296 * (y % 4294967296) + x % 4294967296 * (y % 4294967296) / 4294967296) / 4294967296 + ((x / 4294967296 * (y % 4294967296) + x % 4294967296 * (y % 4294967296) / 4294967296) % 4294967296 + x % 4294967296 * (y / 4294967296)) / 4294967296 < 18446744073709551616 := by omega
  go_enter Try.func39, Try.ntmps39
  go_wp2
  simp only [mask32 x hx, mask32 y hy, divN, mulN, addN, wrapN _ k1, wrapN _ m2, wrapN _ k2, mask32 _ k2, wrapN _ m3, wrapN _ k3, wrapN _ m1, wrapN _ m4, wrapN _ m5, wrapM (x * y)]
  rw [k4]
  go_ret2
  exact ⟨rfl, rfl⟩
theorem abs_mul (a b : Int) : ((a.natAbs * b.natAbs : Nat) : Int) = if decide (a < 0) == decide (b < 0) then a * b else -(a * b) := by
  rw [← Int.natAbs_mul]
  have h1 : a < 0 → b < 0 → 0 < a * b := fun x y => Int.mul_pos_of_neg_of_neg x y
  have h2 : 0 ≤ a → 0 ≤ b → 0 ≤ a * b := fun x y => Int.mul_nonneg x y
  have h3 : a < 0 → 0 ≤ b → a * b ≤ 0 := fun x y => Int.mul_nonpos_of_nonpos_of_nonneg (by omega) y
  have h4 : 0 ≤ a → b < 0 → a * b ≤ 0 := fun x y => Int.mul_nonpos_of_nonneg_of_nonpos x (by omega)
  generalize a * b = p at *
  by_cases ha : a < 0 <;> by_cases hb : b < 0 <;> simp [ha, hb] <;> omega


theorem ret_uu {a b c d : Int} (h : a = b) (h' : c = d) : Ending.returned (.tuple #[.int .u64 a, .int .u64 c]) = .returned (.tuple #[.int .u64 b, .int .u64 d]) := by rw [h, h']

set_option maxRecDepth 8000 in
set_option maxHeartbeats 400000 in
theorem opp_any (hi lo : Int) (h0 : 0 ≤ hi) (h1 : hi ≤ 18446744073709551615) (l0 : 0 ≤ lo) (l1 : lo ≤ 18446744073709551615) (w : World) :
    Calls Try.prog 62 #[.int .u64 hi, .int .u64 lo] w fun e w' => e = .returned (.tuple #[.int .u64 (lo64 (0 - hi - brw 0 lo 0)), .int .u64 (lo64 (0 - lo))]) ∧ w = w' := by
  have hc := brw_range 0 lo 0
  have A1 := Lib.hid (bits_sub64_0 0 lo (by omega) l0 l1)
  have A2 := Lib.hid (bits_sub64 0 hi (brw 0 lo 0) (by omega) h0 h1 hc.1 hc.2)
  generalize lo64 (0 - hi - brw 0 lo 0) = x at *
  generalize lo64 (0 - lo) = y at *
  generalize brw 0 hi (brw 0 lo 0) = z at *
  generalize brw 0 lo 0 = c at *
  go_enter Try.func62, Try.ntmps62
  go_wp2_with (simp only [A1.out, A2.out])
  go_ret2
  exact ⟨rfl, rfl⟩

theorem size_up {n : Int} (hn : W128 n) (h : n < 0) : lo64 (0 - lo64 (up64 n) - brw 0 (lo64 n) 0) = up64 (-n) ∧ lo64 (0 - lo64 n) = lo64 (-n) := by
  unfold W128 at hn
  unfold brw
  split
  all_goals
    unfold lo64 at *
    unfold up64
    omega

set_option maxRecDepth 8000 in
set_option maxHeartbeats 400000 in
theorem wsize_any (n : Int) (hn : W128 n) (w : World) :
    Calls Try.prog 37 #[.agg #[.int .i64 (up64 (n)), .int .u64 (lo64 (n))]] w fun e w' => e = .returned (.tuple #[.int .u64 (up64 (n.natAbs : Int)), .int .u64 (lo64 (n.natAbs : Int))]) ∧ Below w.heap.size w w' := by
  have hu := up_neg n
  have HB := Lib.hid (show Below w.heap.size w (w.alloc (.cells #[.int .i64 (up64 n), .int .u64 (lo64 n)] 24)) from ((Below.refl _ _).alloc (Nat.le_refl _) _))
  by_cases h : n < 0
  · rw [abs_neg h]
    have h' : up64 n < 0 := hu.2 h
    have C := opp_any (lo64 (up64 n)) (lo64 n) (lo64_nn _) (lo64_le _) (lo64_nn _) (lo64_le _)
    rw [(size_up hn h).1, (size_up hn h).2] at C
    have CC := Lib.hid C
    have u1 := wrapu (up64 n)
    generalize up64 (-n) = sh at *
    generalize lo64 (-n) = sl at *
    generalize lo64 (up64 n) = un at *
    generalize up64 n = nh at *
    generalize lo64 n = nl at *
    clear hu hn h C
    go_enter Try.func37, Try.ntmps37
    go_wp2_with (go_at_call 62; refine (CC.out _).mono ?_; rintro e w' ⟨rfl, rfl⟩)
    go_ret2
    exact ⟨rfl, HB.out⟩
  · rw [abs_pos h]
    have h' : ¬ up64 n < 0 := fun x => h (hu.1 x)
    have u1 : IntKind.u64.wrap (up64 n) = up64 n := by
      rw [wrapu]; unfold W128 at hn; unfold lo64 up64; omega
    generalize up64 n = nh at *
    generalize lo64 n = nl at *
    clear hu hn h
    go_enter Try.func37, Try.ntmps37
    go_wp2
    go_quiet (fail)
    go_wp2
    go_ret2
    exact ⟨rfl, below_drewN HB.out _⟩
end Go.Proofs.Ytiblbhppojfdaaa
