/-
  The walk of package wide's Times.
-/
import Derived.Test.YtiblbhppojfdaaaWd6
namespace Go.Proofs.Ytiblbhppojfdaaa
open Go.RowKit

/-- A product of 128 bits by 64, by its words: P = q words above p. -/
theorem tm_small {p q : Nat} (h : 18446744073709551616 * q + p < 340282366920938463463374607431768211456) :
    q / 18446744073709551616 = 0 ∧ up64 (((p / 18446744073709551616 : Nat) : Int) + ((q % 18446744073709551616 : Nat) : Int)) = 0 ∧
      lo64 (((p / 18446744073709551616 : Nat) : Int) + ((q % 18446744073709551616 : Nat) : Int)) = up64 ((18446744073709551616 * q + p : Nat) : Int) ∧ ((p % 18446744073709551616 : Nat) : Int) = lo64 ((18446744073709551616 * q + p : Nat) : Int) := by
  unfold up64 lo64
  omega
theorem tm_large {p q : Nat} (h : ¬ 18446744073709551616 * q + p < 340282366920938463463374607431768211456) :
    ¬ (q / 18446744073709551616 = 0 ∧ up64 (((p / 18446744073709551616 : Nat) : Int) + ((q % 18446744073709551616 : Nat) : Int)) = 0) := by
  unfold up64
  omega
theorem tm_prod (X f : Nat) : X * f = 18446744073709551616 * (X / 18446744073709551616 * f) + X % 18446744073709551616 * f := by
  have h := Nat.div_add_mod X 18446744073709551616
  calc X * f = (18446744073709551616 * (X / 18446744073709551616) + X % 18446744073709551616) * f := by rw [h]
    _ = _ := by rw [Nat.add_mul, Nat.mul_assoc]
theorem w128_nat {a : Int} (h : W128 a) : a.natAbs ≤ 170141183460469231731687303715884105728 := by unfold W128 at h; omega

/-- What stands in memory: the number's box, the result's struct. -/
theorem TwoW.two {w w1 : World} {u0 u1 v0 v1 : Value} (h : TwoW w u0 u1 v0 v1 w1) : w1.cell? ⟨w.heap.size, 0, none⟩ = some u0 ∧ w1.cell? ⟨w.heap.size, 1, none⟩ = some u1 := ⟨h.1.1, h.1.2.1⟩

set_option maxRecDepth 8000 in
set_option maxHeartbeats 1000000 in
theorem wtimes_any (n k : Int) (hn : W128 n) (hk : I64 k) (w : World) :
    Calls Try.prog 11 #[.agg #[.int .i64 (up64 (n)), .int .u64 (lo64 (n))], .int .i64 k] w fun e w' => e = .returned (.tuple #[.agg #[.int .i64 (up64 (wheld (n * k))), .int .u64 (lo64 (wheld (n * k)))], .bool (wfits (n * k))]) ∧ Below w.heap.size w w' := by
  have hab := abs_mul n k
  have c1 := Lib.hid (wsize_any n hn)
  have c2 := Lib.hid (size_any k hk)
  have hx := w128_nat hn
  have hy := i64_nat hk
  have hun : decide (up64 n < 0) = decide (n < 0) := by
    by_cases h : n < 0
    · rw [decide_eq_true h, decide_eq_true ((up_neg n).2 h)]
    · rw [decide_eq_false h, decide_eq_false (fun x => h ((up_neg n).1 x))]
  generalize n.natAbs = X at *
  generalize k.natAbs = f at *
  rw [up_nat, lo_nat] at c1
  have c3 := Lib.hid (bits_mul64 (X % 18446744073709551616) f (by omega) (by omega))
  have c4 := Lib.hid (bits_mul64 (X / 18446744073709551616) f (by omega) (by omega))
  rw [tm_prod] at hab
  have hns : X / 18446744073709551616 < 18446744073709551616 := by omega
  generalize X % 18446744073709551616 * f = p at *
  generalize X / 18446744073709551616 * f = q at *
  have c5 := Lib.hid (bits_add64_0 ((p / 18446744073709551616 : Nat) : Int) ((q % 18446744073709551616 : Nat) : Int) (by omega) (by omega))
  have HT := Lib.hid (TwoW.new w (.int .i64 (up64 n)) (.int .u64 (lo64 n)) (.int .i64 0) (.int .u64 0) 24)
  have z1 : up64 0 = 0 := rfl
  have z2 : lo64 0 = 0 := rfl
  rw [← hun] at hab
  by_cases h : 18446744073709551616 * q + p < 340282366920938463463374607431768211456
  · obtain ⟨t1, t2, t3, t4⟩ := tm_small h
    rw [t2, t3] at c5
    rw [t1] at c4
    rw [t4] at c3
    generalize hP : 18446744073709551616 * q + p = P at *
    by_cases hs : decide (up64 n < 0) == decide (k < 0)
    · rw [if_pos hs] at hab
      have c6 := wsigned_no (P : Int) (by omega) (by omega)
      rw [hab] at c6
      have C6 := Lib.hid c6
      rw [hab] at c3 c5
      have hs' : (!(decide (up64 n < 0) == decide (k < 0))) = false := by rw [hs]; rfl
      generalize up64 (wheld (n * k)) = sh at *
      generalize lo64 (wheld (n * k)) = sl at *
      generalize wfits (n * k) = ok at *
      generalize up64 (n * k) = mh at *
      generalize lo64 (n * k) = ml at *
      generalize up64 n = nh at *
      generalize lo64 n = nl at *
      generalize p / 18446744073709551616 = ph at *
      generalize q % 18446744073709551616 = qm at *
      generalize X / 18446744073709551616 = xh at *
      generalize X % 18446744073709551616 = xl at *
      clear hab hs hn hk hx hy c6 h hP t1 t2 t3 t4 hun hns z1 z2
      go_enter Try.func11, Try.ntmps11
      go_wp2_with (first
        | (go_at_call 37; refine (c1.out _).mono ?_; rintro e w1 ⟨rfl, hb1⟩; have HS := Lib.hid (HT.out.below hb1); clear hb1; obtain ⟨g0, g1⟩ := HS.out.two)
        | (go_at_call 38; refine (c2.out _).mono ?_; rintro e w' ⟨rfl, rfl⟩)
        | (go_at_call 39; first | ((with_reducible refine (c3.out _).mono ?_); rintro e w' ⟨rfl, rfl⟩) | ((with_reducible refine (c4.out _).mono ?_); rintro e w' ⟨rfl, rfl⟩))
        | simp only [c5.out]
        | (go_at_call 40; refine (C6.out _).mono ?_; rintro e w2 ⟨rfl, hb2⟩; have HS2 := Lib.hid (HS.out.below hb2); clear hb2; obtain ⟨k1, k2, k3, k4⟩ := HS2.out.2.1))
      obtain ⟨p0, p1⟩ := HS2.out.2.1.put (.int .i64 sh) (.int .u64 sl)
      refine bodyPost_ret (v := .tuple #[.agg #[.int .i64 sh, .int .u64 sl], .bool ok]) (by simp [results, Try.results11, go_sem, p0, p1]) rfl ⟨rfl, below_two HS2.out.2.2 (by omega) _ _⟩
    · rw [if_neg hs] at hab
      have hab' : n * k = -(P : Int) := by omega
      have c6 := wsigned_yes (P : Int) (by omega) (by omega)
      rw [← hab'] at c6
      have C6 := Lib.hid c6
      have hs' : (!(decide (up64 n < 0) == decide (k < 0))) = true := by simpa using hs
      generalize up64 (wheld (n * k)) = sh at *
      generalize lo64 (wheld (n * k)) = sl at *
      generalize wfits (n * k) = ok at *
      generalize up64 (P : Int) = mh at *
      generalize lo64 (P : Int) = ml at *
      generalize up64 n = nh at *
      generalize lo64 n = nl at *
      generalize p / 18446744073709551616 = ph at *
      generalize q % 18446744073709551616 = qm at *
      generalize X / 18446744073709551616 = xh at *
      generalize X % 18446744073709551616 = xl at *
      clear hab hs hn hk hx hy c6 h hP t1 t2 t3 t4 hun hns z1 z2 hab'
      go_enter Try.func11, Try.ntmps11
      go_wp2_with (first
        | (go_at_call 37; refine (c1.out _).mono ?_; rintro e w1 ⟨rfl, hb1⟩; have HS := Lib.hid (HT.out.below hb1); clear hb1; obtain ⟨g0, g1⟩ := HS.out.two)
        | (go_at_call 38; refine (c2.out _).mono ?_; rintro e w' ⟨rfl, rfl⟩)
        | (go_at_call 39; first | ((with_reducible refine (c3.out _).mono ?_); rintro e w' ⟨rfl, rfl⟩) | ((with_reducible refine (c4.out _).mono ?_); rintro e w' ⟨rfl, rfl⟩))
        | simp only [c5.out]
        | (go_at_call 40; refine (C6.out _).mono ?_; rintro e w2 ⟨rfl, hb2⟩; have HS2 := Lib.hid (HS.out.below hb2); clear hb2; obtain ⟨k1, k2, k3, k4⟩ := HS2.out.2.1))
      obtain ⟨p0, p1⟩ := HS2.out.2.1.put (.int .i64 sh) (.int .u64 sl)
      refine bodyPost_ret (v := .tuple #[.agg #[.int .i64 sh, .int .u64 sl], .bool ok]) (by simp [results, Try.results11, go_sem, p0, p1]) rfl ⟨rfl, below_two HS2.out.2.2 (by omega) _ _⟩
  · have t := tm_large h
    have hno : ¬ W128 (n * k) := by
      unfold W128
      split at hab <;> omega
    have F := Lib.hid (show Ending.returned (.tuple #[.agg #[.int .i64 (up64 (0)), .int .u64 (lo64 (0))], .bool false]) = .returned (.tuple #[.agg #[.int .i64 (up64 (wheld (n * k))), .int .u64 (lo64 (wheld (n * k)))], .bool (wfits (n * k))]) from ret_wide (wheld_not hno).symm (wfits_not hno).symm)
    rw [z1, z2] at F
    by_cases ht : q / 18446744073709551616 = 0
    · have hc : (up64 (((p / 18446744073709551616 : Nat) : Int) + ((q % 18446744073709551616 : Nat) : Int)) != 0) = true := by rw [bne_iff_ne]; exact fun x => t ⟨ht, x⟩
      rw [ht] at c4
      generalize up64 (((p / 18446744073709551616 : Nat) : Int) + ((q % 18446744073709551616 : Nat) : Int)) = ca at *
      generalize lo64 (((p / 18446744073709551616 : Nat) : Int) + ((q % 18446744073709551616 : Nat) : Int)) = mh at *
      generalize up64 n = nh at *
      generalize lo64 n = nl at *
      generalize p / 18446744073709551616 = ph at *
      generalize q % 18446744073709551616 = qm at *
      generalize X / 18446744073709551616 = xh at *
      generalize X % 18446744073709551616 = xl at *
      clear hab hn hk hx hy h t ht hno hun hns z1 z2
      go_enter Try.func11, Try.ntmps11
      go_wp2_with (first
        | (go_at_call 37; refine (c1.out _).mono ?_; rintro e w1 ⟨rfl, hb1⟩; have HS := Lib.hid (HT.out.below hb1); clear hb1; obtain ⟨g0, g1⟩ := HS.out.two; obtain ⟨k1, k2, k3, k4⟩ := HS.out.2.1)
        | (go_at_call 38; refine (c2.out _).mono ?_; rintro e w' ⟨rfl, rfl⟩)
        | (go_at_call 39; first | ((with_reducible refine (c3.out _).mono ?_); rintro e w' ⟨rfl, rfl⟩) | ((with_reducible refine (c4.out _).mono ?_); rintro e w' ⟨rfl, rfl⟩))
        | simp only [c5.out])
      obtain ⟨p0, p1⟩ := HS.out.2.1.put (.int .i64 0) (.int .u64 0)
      refine bodyPost_ret (v := .tuple #[.agg #[.int .i64 0, .int .u64 0], .bool false]) (by simp [results, Try.results11, go_sem, p0, p1]) rfl ⟨F.out, below_two HS.out.2.2 (by omega) _ _⟩
    · have hc : (((q / 18446744073709551616 : Nat) : Int) != 0) = true := by rw [bne_iff_ne]; omega
      generalize up64 (((p / 18446744073709551616 : Nat) : Int) + ((q % 18446744073709551616 : Nat) : Int)) = ca at *
      generalize lo64 (((p / 18446744073709551616 : Nat) : Int) + ((q % 18446744073709551616 : Nat) : Int)) = mh at *
      generalize up64 n = nh at *
      generalize lo64 n = nl at *
      generalize p / 18446744073709551616 = ph at *
      generalize q % 18446744073709551616 = qm at *
      generalize q / 18446744073709551616 = qh at *
      generalize X / 18446744073709551616 = xh at *
      generalize X % 18446744073709551616 = xl at *
      clear hab hn hk hx hy h t ht hno hun hns z1 z2
      go_enter Try.func11, Try.ntmps11
      go_wp2_with (first
        | (go_at_call 37; refine (c1.out _).mono ?_; rintro e w1 ⟨rfl, hb1⟩; have HS := Lib.hid (HT.out.below hb1); clear hb1; obtain ⟨g0, g1⟩ := HS.out.two; obtain ⟨k1, k2, k3, k4⟩ := HS.out.2.1)
        | (go_at_call 38; refine (c2.out _).mono ?_; rintro e w' ⟨rfl, rfl⟩)
        | (go_at_call 39; first | ((with_reducible refine (c3.out _).mono ?_); rintro e w' ⟨rfl, rfl⟩) | ((with_reducible refine (c4.out _).mono ?_); rintro e w' ⟨rfl, rfl⟩))
        | simp only [c5.out])
      obtain ⟨p0, p1⟩ := HS.out.2.1.put (.int .i64 0) (.int .u64 0)
      refine bodyPost_ret (v := .tuple #[.agg #[.int .i64 0, .int .u64 0], .bool false]) (by simp [results, Try.results11, go_sem, p0, p1]) rfl ⟨F.out, below_two HS.out.2.2 (by omega) _ _⟩
end Go.Proofs.Ytiblbhppojfdaaa
