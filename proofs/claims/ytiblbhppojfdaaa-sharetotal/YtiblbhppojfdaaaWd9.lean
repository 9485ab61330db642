/-
  The walks of package wide's divide, mirror, Div.
-/
import Derived.Test.YtiblbhppojfdaaaWd4
import Derived.Test.YtiblbhppojfdaaaDiv3
namespace Go.Proofs.Ytiblbhppojfdaaa
open Go.RowKit

theorem div64_any (hi lo y : Nat) (hh : hi < y) (hl : lo < 18446744073709551616) (hy : y < 9223372036854775808) (w : World) :
    Calls Try.prog 75 #[.int .u64 hi, .int .u64 lo, .int .u64 y] w fun e w' => e = .returned (.tuple #[.int .u64 (((hi * 18446744073709551616 + lo) / y : Nat) : Int), .int .u64 (((hi * 18446744073709551616 + lo) % y : Nat) : Int)]) ∧ Below w.heap.size w w' := by
  by_cases h : hi = 0
  · subst h
    have := div64_zero lo y hl (by omega) (by omega) w
    rw [show 0 * 18446744073709551616 + lo = lo from by omega]
    exact this
  · exact div64_some hi lo y hh (by omega) hl hy w

theorem not_i64 (x : Int) (h : I64 x) : bits .xor .i64 (-1) x = -1 - x := by
  unfold I64 at h
  show IntKind.i64.wrap ((BitVec.ofInt 64 (-1) ^^^ BitVec.ofInt 64 x).toNat : Int) = _
  have h1 : BitVec.ofInt 64 (-1) = BitVec.allOnes 64 := by decide
  rw [h1, BitVec.allOnes_xor, BitVec.toNat_not, BitVec.toNat_ofInt, IntKind.wrap_i64]
  omega
theorem not_u64 (x : Int) (h0 : 0 ≤ x) (h1 : x ≤ 18446744073709551615) : bits .xor .u64 IntKind.u64.max x = 18446744073709551615 - x := by
  show IntKind.u64.wrap ((BitVec.ofInt 64 IntKind.u64.max ^^^ BitVec.ofInt 64 x).toNat : Int) = _
  have h1 : BitVec.ofInt 64 IntKind.u64.max = BitVec.allOnes 64 := by decide
  rw [h1, BitVec.allOnes_xor, BitVec.toNat_not, BitVec.toNat_ofInt, IntKind.wrap_u64]
  omega

set_option maxRecDepth 8000 in
set_option maxHeartbeats 400000 in
theorem mirror_any (n : Int) (hn : W128 n) (w : World) :
    Calls Try.prog 60 #[.agg #[.int .i64 (up64 (n)), .int .u64 (lo64 (n))]] w fun e w' => e = .returned (.agg #[.int .i64 (up64 (-1 - n)), .int .u64 (lo64 (-1 - n))]) ∧ Below w.heap.size w w' := by
  have e1 : up64 (-1 - n) = -1 - up64 n := by unfold up64; omega
  have e2 : lo64 (-1 - n) = 18446744073709551615 - lo64 n := by unfold lo64; omega
  rw [e1, e2]
  have n1 := not_i64 _ (up_i64 hn)
  have n2 := not_u64 _ (lo64_nn n) (lo64_le n)
  generalize up64 n = nh at *
  generalize lo64 n = nl at *
  have HB := Lib.hid (show ∀ o1 o2, Below w.heap.size w ((w.alloc o1).alloc o2) from fun _ _ => ((Below.refl _ _).alloc (Nat.le_refl _) _).alloc (by simp) _)
  clear e1 e2
  go_enter Try.func60, Try.ntmps60
  go_wp2
  refine bodyPost_ret (v := .agg #[.int .i64 (-1 - nh), .int .u64 (18446744073709551615 - nl)]) (by simp [results, Try.results60, go_sem]) rfl ⟨rfl, HB.out _ _⟩

theorem div_hi (N d : Nat) (hd : 0 < d) : (N / 18446744073709551616 % d * 18446744073709551616 + N % 18446744073709551616) / d = N / d % 18446744073709551616 ∧ (N / 18446744073709551616 % d * 18446744073709551616 + N % 18446744073709551616) % d = N % d ∧ N / 18446744073709551616 / d = N / d / 18446744073709551616 := by
  have h1 := Nat.div_add_mod N 18446744073709551616
  have h2 := Nat.div_add_mod (N / 18446744073709551616) d
  have hlt := Nat.mod_lt (N / 18446744073709551616) hd
  have hml := Nat.mod_lt N (show 18446744073709551616 > 0 by omega)
  have e3 : N / 18446744073709551616 / d = N / d / 18446744073709551616 := by rw [Nat.div_div_eq_div_mul, Nat.div_div_eq_div_mul, Nat.mul_comm]
  generalize N / 18446744073709551616 = U at *
  generalize N % 18446744073709551616 = L at *
  generalize hQ : U / d = Q at *
  generalize U % d = R at *
  have key : N = d * (Q * 18446744073709551616) + (R * 18446744073709551616 + L) := by
    rw [← Nat.mul_assoc]
    generalize d * Q = P at *
    omega
  have hsm : (R * 18446744073709551616 + L) / d < 18446744073709551616 := by
    rw [Nat.div_lt_iff_lt_mul hd]
    have : (R + 1) * 18446744073709551616 ≤ d * 18446744073709551616 := Nat.mul_le_mul_right _ hlt
    rw [Nat.mul_comm 18446744073709551616 d]
    omega
  refine ⟨?_, ?_, e3⟩
  · rw [key, Nat.mul_add_div hd]
    obtain ⟨t, ht⟩ : ∃ t, (R * 18446744073709551616 + L) / d = t := ⟨_, rfl⟩
    rw [ht] at hsm ⊢
    omega
  · rw [key, Nat.mul_add_mod]

theorem nat_words (N : Nat) : up64 (N : Int) = ((N / 18446744073709551616 : Nat) : Int) ∧ lo64 (N : Int) = ((N % 18446744073709551616 : Nat) : Int) := by
  unfold up64 lo64
  omega

set_option maxRecDepth 8000 in
set_option maxHeartbeats 400000 in
theorem divide_any (N d : Nat) (hN : N < 170141183460469231731687303715884105728) (hd : 0 < d) (hd1 : d < 9223372036854775808) (w : World) :
    Calls Try.prog 59 #[.agg #[.int .i64 (up64 ((N : Int))), .int .u64 (lo64 ((N : Int)))], .int .u64 d] w fun e w' => e = .returned (.tuple #[.agg #[.int .i64 (up64 (((N / d : Nat) : Int))), .int .u64 (lo64 (((N / d : Nat) : Int)))], .int .u64 ((N % d : Nat) : Int)]) ∧ Below w.heap.size w w' := by
  obtain ⟨k1, k2, k3⟩ := div_hi N d hd
  have hU : N / 18446744073709551616 < 9223372036854775808 := by omega
  have hL : N % 18446744073709551616 < 18446744073709551616 := by omega
  have c1 := div64_any 0 (N / 18446744073709551616) d hd (by omega) hd1
  have c2 := div64_any (N / 18446744073709551616 % d) (N % 18446744073709551616) d (Nat.mod_lt _ hd) hL hd1
  rw [k1, k2] at c2
  rw [show 0 * 18446744073709551616 + N / 18446744073709551616 = N / 18446744073709551616 from by omega, k3, show ((0 : Nat) : Int) = 0 from rfl] at c1
  obtain ⟨w1, w2⟩ := nat_words N
  obtain ⟨w3, w4⟩ := nat_words (N / d)
  rw [w1, w2, w3, w4]
  have hq : N / d / 18446744073709551616 < 9223372036854775808 := by rw [← k3]; exact Nat.lt_of_le_of_lt (Nat.div_le_self _ _) hU
  clear k1 k2 k3 w1 w2 w3 w4 hN hd hd1 hL
  generalize N / 18446744073709551616 % d = R at *
  generalize N / 18446744073709551616 = U at *
  generalize N % 18446744073709551616 = L at *
  generalize N / d / 18446744073709551616 = qh at *
  generalize N / d % 18446744073709551616 = ql at *
  generalize N % d = r at *
  have C1 := Lib.hid c1
  have C2 := Lib.hid c2
  clear c1 c2
  have HT := Lib.hid (TwoW.new w (.int .i64 U) (.int .u64 L) (.int .i64 0) (.int .u64 0) 24)
  go_enter Try.func59, Try.ntmps59
  go_wp2_with (go_at_call 75; first | ((with_reducible refine (C1.out _).mono ?_); rintro e w1 ⟨rfl, hb1⟩; have HS := Lib.hid (HT.out.below hb1); clear hb1; obtain ⟨g0, g1, g2, g3⟩ := HS.out.four) | ((with_reducible refine (C2.out _).mono ?_); rintro e w2 ⟨rfl, hb2⟩; have HS2 := Lib.hid (HS.out.below hb2); clear hb2; obtain ⟨k1, k2, k3, k4⟩ := HS2.out.2.1))
  obtain ⟨p0, p1⟩ := HS2.out.2.1.put (.int .i64 qh) (.int .u64 ql)
  refine bodyPost_ret (v := .tuple #[.agg #[.int .i64 qh, .int .u64 ql], .int .u64 r]) (by simp [results, Try.results59, go_sem, p0, p1]) rfl ⟨rfl, below_two HS2.out.2.2 (by omega) _ _⟩
end Go.Proofs.Ytiblbhppojfdaaa
