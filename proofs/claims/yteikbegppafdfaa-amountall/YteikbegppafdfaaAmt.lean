/-
  The walks of package amount's calls of one or two numbers.
-/
import Derived.Test.YteikbegppafdfaaRows
import Derived.Test.YteikbegppafdfaaNum
import Derived.WalkKit
import Derived.WalkSpells
import Derived.WalkLawsBesides
import Derived.Lib.Hide
import Derived.Lib.Mul64
import Derived.Laws.Bits64b
import Derived.Laws.Externs
namespace Go.Proofs.Yteikbegppafdfaa
open Go.RowKit

set_option maxHeartbeats 400000 in
theorem add_any (a b : Int) (ha : I64 a) (hb : I64 b) (w : World) :
    Calls Try.prog 9 #[.int .i64 a, .int .i64 b] w fun e w' => e = .returned (.tuple #[.int .i64 (held (a + b)), .bool (fits (a + b))]) ∧ w = w' := by
  unfold I64 at ha hb
  by_cases h : I64 (a + b)
  · rw [held_of h, fits_of h]
    unfold I64 at h
    have ht : (!(decide (a + b < a) == decide (b < 0))) = false := by
      by_cases hb0 : b < 0 <;> simp [hb0] <;> omega
    go_enter Try.func9, Try.ntmps9
    go_wp2
    go_ret2
    exact ⟨rfl, rfl⟩
  · rw [held_not h, fits_not h]
    unfold I64 at h
    have ht : (!(decide (wrap64 (a + b) < a) == decide (b < 0))) = true := by
      unfold wrap64
      by_cases hb0 : b < 0 <;> simp [hb0] <;> omega
    go_enter Try.func9, Try.ntmps9
    go_wp2
    go_ret2
    exact ⟨rfl, rfl⟩

set_option maxHeartbeats 400000 in
theorem sub_any (a b : Int) (ha : I64 a) (hb : I64 b) (w : World) :
    Calls Try.prog 10 #[.int .i64 a, .int .i64 b] w fun e w' => e = .returned (.tuple #[.int .i64 (held (a - b)), .bool (fits (a - b))]) ∧ w = w' := by
  unfold I64 at ha hb
  by_cases h : I64 (a - b)
  · rw [held_of h, fits_of h]
    unfold I64 at h
    have ht : (!(decide (a < a - b) == decide (b < 0))) = false := by
      by_cases hb0 : b < 0 <;> simp [hb0] <;> omega
    go_enter Try.func10, Try.ntmps10
    go_wp2
    go_ret2
    exact ⟨rfl, rfl⟩
  · rw [held_not h, fits_not h]
    unfold I64 at h
    have ht : (!(decide (a < wrap64 (a - b)) == decide (b < 0))) = true := by
      unfold wrap64
      by_cases hb0 : b < 0 <;> simp [hb0] <;> omega
    go_enter Try.func10, Try.ntmps10
    go_wp2
    go_ret2
    exact ⟨rfl, rfl⟩

set_option maxHeartbeats 400000 in
theorem neg_any (a : Int) (ha : I64 a) (w : World) :
    Calls Try.prog 12 #[.int .i64 a] w fun e w' => e = .returned (.tuple #[.int .i64 (held (-a)), .bool (fits (-a))]) ∧ w = w' := by
  have h0 : I64 0 := by unfold I64; omega
  have c := sub_any 0 a h0 ha w
  rw [Int.zero_sub] at c
  have C := Lib.hid c
  clear c
  go_enter Try.func12, Try.ntmps12
  go_wp2_with (go_at_call 10; refine C.out.mono ?_; rintro e w' ⟨rfl, rfl⟩)
  go_ret2
  exact ⟨rfl, rfl⟩

set_option maxHeartbeats 400000 in
theorem size_any (a : Int) (ha : I64 a) (w : World) :
    Calls Try.prog 18 #[.int .i64 a] w fun e w' => e = .returned (.int .u64 (a.natAbs : Int)) ∧ w = w' := by
  unfold I64 at ha
  by_cases h : a < 0
  · go_enter Try.func18, Try.ntmps18
    go_wp2
    go_ret
    refine ⟨ret_int ?_, rfl⟩
    rw [IntKind.wrap_u64, IntKind.wrap_u64]
    omega
  · go_enter Try.func18, Try.ntmps18
    go_wp2
    go_ret
    refine ⟨ret_int ?_, rfl⟩
    omega

set_option maxHeartbeats 400000 in
theorem signed_no (a : Int) (ha : 0 ≤ a ∧ a ≤ 18446744073709551615) (w : World) :
    Calls Try.prog 25 #[.int .u64 a, .bool false] w fun e w' => e = .returned (.tuple #[.int .i64 (held a), .bool (fits a)]) ∧ w = w' := by
  by_cases h : I64 a
  · rw [held_of h, fits_of h]
    unfold I64 at h
    go_enter Try.func25, Try.ntmps25
    go_wp2
    go_ret2
    exact ⟨rfl, rfl⟩
  · rw [held_not h, fits_not h]
    unfold I64 at h
    go_enter Try.func25, Try.ntmps25
    go_wp2
    go_ret2
    exact ⟨rfl, rfl⟩
set_option maxHeartbeats 400000 in
theorem signed_yes (a : Int) (ha : 0 ≤ a ∧ a ≤ 18446744073709551615) (w : World) :
    Calls Try.prog 25 #[.int .u64 a, .bool true] w fun e w' => e = .returned (.tuple #[.int .i64 (held (-a)), .bool (fits (-a))]) ∧ w = w' := by
  by_cases h : I64 (-a)
  · rw [held_of h, fits_of h]
    unfold I64 at h
    have h' : a ≤ 9223372036854775808 := by omega
    go_enter Try.func25, Try.ntmps25
    go_wp2
    go_ret2
    refine ⟨ret_two ?_ rfl, rfl⟩
    unfold wrap64
    omega
  · rw [held_not h, fits_not h]
    unfold I64 at h
    have h' : 9223372036854775808 < a := by omega
    go_enter Try.func25, Try.ntmps25
    go_wp2
    go_ret2
    exact ⟨rfl, rfl⟩

theorem bits_add64 (x y c : Int) (hx : 0 ≤ x) (hy : 0 ≤ y) (hc0 : 0 ≤ c) (hc : c ≤ 1) (w : World) : (callFunc 31 #[.int .u64 x, .int .u64 y, .int .u64 c]).run Try.prog w =
    .ok (.value (.tuple #[.int .u64 (lo64 (x + y + c)), .int .u64 (up64 (x + y + c))])) w := by
  rw [run_callFunc_extern Try.func31 (by kernel_rfl) (by kernel_rfl) (by kernel_rfl) (e := add64Entry) (by kernel_rfl), run_add64 x y c hx hy hc0 hc]
  rfl

theorem bits_add64_0 (x y : Int) (hx : 0 ≤ x) (hy : 0 ≤ y) (w : World) : (callFunc 31 #[.int .u64 x, .int .u64 y, .int .u64 0]).run Try.prog w =
    .ok (.value (.tuple #[.int .u64 (lo64 (x + y)), .int .u64 (up64 (x + y))])) w := by
  have h := bits_add64 x y 0 hx hy (by omega) (by omega) w
  rwa [Int.add_zero] at h

theorem mask32 (a : Nat) (ha : a < 18446744073709551616) : bits .and .u64 (a : Int) 4294967295 = ((a % 4294967296 : Nat) : Int) := by
  have h := bits_and_u64_nat a 4294967295 ha (by omega)
  rw [show a &&& 4294967295 = a % 4294967296 from Nat.and_two_pow_sub_one_eq_mod a 32] at h
  exact h
theorem divN (a : Nat) : (a : Int) / 4294967296 = ((a / 4294967296 : Nat) : Int) := by omega
theorem mulN (a b : Nat) : (a : Int) * (b : Int) = ((a * b : Nat) : Int) := (Int.natCast_mul a b).symm
theorem addN (a b : Nat) : (a : Int) + (b : Int) = ((a + b : Nat) : Int) := (Int.natCast_add a b).symm
theorem wrapN (a : Nat) (ha : a < 18446744073709551616) : IntKind.u64.wrap (a : Int) = (a : Int) := by rw [IntKind.wrap_u64]; omega
theorem wrapM (a : Nat) : IntKind.u64.wrap (a : Int) = ((a % 18446744073709551616 : Nat) : Int) := by rw [IntKind.wrap_u64]; omega

set_option maxHeartbeats 1000000 in
/-- bits.Mul64: the product in two words. -/
theorem bits_mul64 (x y : Nat) (hx : x < 18446744073709551616) (hy : y < 18446744073709551616) (w : World) :
    Calls Try.prog 24 #[.int .u64 x, .int .u64 y] w fun e w' => e = .returned (.tuple #[.int .u64 ((x * y / 18446744073709551616 : Nat) : Int), .int .u64 ((x * y % 18446744073709551616 : Nat) : Int)]) ∧ w = w' := by
  obtain ⟨k1, k2, k3, k4⟩ := Lib.mul64_hi x y hx hy
  have k5 := Lib.half_mul_le (a := x / 4294967296) (b := y / 4294967296) (by omega) (by omega)
  have k6 := Lib.half_mul_le (a := x / 4294967296) (b := y % 4294967296) (by omega) (by omega)
  have k7 := Lib.half_mul_le (a := x % 4294967296) (b := y / 4294967296) (by omega) (by omega)
  have m1 : x / 4294967296 * (y / 4294967296) < 18446744073709551616 := by omega
  have m2 : x / 4294967296 * (y % 4294967296) < 18446744073709551616 := by omega
  have m3 : x % 4294967296 * (y / 4294967296) < 18446744073709551616 := by omega
  have m4 : x / 4294967296 * (y / 4294967296) + (x / 4294967296 * (y % 4294967296) + x % 4294967296 * (y % 4294967296) / 4294967296) / 4294967296 < 18446744073709551616 := by omega
  have m5 : x / 4294967296 * (y / 4294967296) + (x / 4294967296 * (y % 4294967296) + x % 4294967296 * (y % 4294967296) / 4294967296) / 4294967296 + ((x / 4294967296 * (y % 4294967296) + x % 4294967296 * (y % 4294967296) / 4294967296) % 4294967296 + x % 4294967296 * (y / 4294967296)) / 4294967296 < 18446744073709551616 := by omega
  go_enter Try.func24, Try.ntmps24
  go_wp2
  simp only [mask32 x hx, mask32 y hy, divN, mulN, addN, wrapN _ k1, wrapN _ m2, wrapN _ k2, mask32 _ k2, wrapN _ m3, wrapN _ k3, wrapN _ m1, wrapN _ m4, wrapN _ m5, wrapM (x * y)]
  rw [k4]
  go_ret2
  exact ⟨rfl, rfl⟩
end Go.Proofs.Yteikbegppafdfaa
