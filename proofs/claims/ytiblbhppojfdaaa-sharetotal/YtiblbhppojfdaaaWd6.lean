/-
  The walks of package wide's signed, Mul, Times.
-/
import Derived.Test.YtiblbhppojfdaaaWd5
namespace Go.Proofs.Ytiblbhppojfdaaa
open Go.RowKit

/-- The words of a size, signed. -/
theorem sg_no_up (M : Int) : wrap64 (up64 M) = up64 (wrap128 M) ∧ lo64 M = lo64 (wrap128 M) := by unfold wrap64 up64 wrap128 lo64; omega
theorem sg_yes_up (M : Int) : wrap64 (lo64 (0 - up64 M - brw 0 (lo64 M) 0)) = up64 (wrap128 (-M)) ∧ lo64 (0 - lo64 M) = lo64 (wrap128 (-M)) := by
  unfold brw
  split
  all_goals
    unfold lo64 at *
    unfold up64 wrap128 wrap64
    omega

set_option maxRecDepth 8000 in
set_option maxHeartbeats 400000 in
theorem wsigned_no (M : Int) (h0 : 0 ≤ M) (h1 : M < 340282366920938463463374607431768211456) (w : World) :
    Calls Try.prog 40 #[.int .u64 (up64 M), .int .u64 (lo64 M), .bool false] w fun e w' => e = .returned (.tuple #[.agg #[.int .i64 (up64 (wheld M)), .int .u64 (lo64 (wheld M))], .bool (wfits M)]) ∧ Below w.heap.size w w' := by
  obtain ⟨hu, hl⟩ := sg_no_up M
  have z1 : up64 0 = 0 := rfl
  have z2 : lo64 0 = 0 := rfl
  have hup : 0 ≤ up64 M ∧ up64 M ≤ 18446744073709551615 := by unfold up64; omega
  have HB := Lib.hid (show ∀ o1 o2, Below w.heap.size w ((w.alloc o1).alloc o2) from fun _ _ => ((Below.refl _ _).alloc (Nat.le_refl _) _).alloc (by simp) _)
  by_cases h : W128 M
  · have e1 : ¬ up64 (wrap128 M) < 0 := by rw [up_neg, wrap128_of h]; omega
    have F := Lib.hid (show Ending.returned (.tuple #[.agg #[.int .i64 (up64 (wrap128 M)), .int .u64 (lo64 (wrap128 M))], .bool true]) = .returned (.tuple #[.agg #[.int .i64 (up64 (wheld M)), .int .u64 (lo64 (wheld M))], .bool (wfits M)]) from ret_wide ((wrap128_of h).trans (wheld_of h).symm) (wfits_of h).symm)
    rw [hl]
    generalize up64 (wrap128 M) = sh at *
    generalize lo64 (wrap128 M) = sl at *
    generalize up64 M = mh at *
    generalize lo64 M = ml at *
    clear h h0 h1 z1 z2 hl
    go_enter Try.func40, Try.ntmps40
    go_wp2
    refine bodyPost_ret (v := .tuple #[.agg #[.int .i64 sh, .int .u64 sl], .bool true]) (by simp [results, Try.results40, go_sem]) rfl ⟨F.out, HB.out _ _⟩
  · have e1 : up64 (wrap128 M) < 0 := by rw [up_neg]; unfold W128 at h; unfold wrap128; omega
    have F := Lib.hid (show Ending.returned (.tuple #[.agg #[.int .i64 (up64 (0)), .int .u64 (lo64 (0))], .bool false]) = .returned (.tuple #[.agg #[.int .i64 (up64 (wheld M)), .int .u64 (lo64 (wheld M))], .bool (wfits M)]) from ret_wide (wheld_not h).symm (wfits_not h).symm)
    rw [z1, z2] at F
    rw [hl]
    have e2 : (up64 (wrap128 M) == 0) = false := by rw [beq_eq_false_iff_ne]; omega
    generalize up64 (wrap128 M) = sh at *
    generalize lo64 (wrap128 M) = sl at *
    generalize up64 M = mh at *
    generalize lo64 M = ml at *
    clear h h0 h1 z1 z2 hl
    go_enter Try.func40, Try.ntmps40
    go_wp2
    refine bodyPost_ret (v := .tuple #[.agg #[.int .i64 0, .int .u64 0], .bool false]) (by simp [results, Try.results40, go_sem]) rfl ⟨F.out, HB.out _ _⟩
theorem up_le {M : Int} (h0 : 0 ≤ M) (h1 : M < 340282366920938463463374607431768211456) : 0 ≤ up64 M ∧ up64 M ≤ 18446744073709551615 := by unfold up64; omega

set_option maxRecDepth 8000 in
set_option maxHeartbeats 400000 in
theorem wsigned_yes (M : Int) (h0 : 0 ≤ M) (h1 : M < 340282366920938463463374607431768211456) (w : World) :
    Calls Try.prog 40 #[.int .u64 (up64 M), .int .u64 (lo64 M), .bool true] w fun e w' => e = .returned (.tuple #[.agg #[.int .i64 (up64 (wheld (-M))), .int .u64 (lo64 (wheld (-M)))], .bool (wfits (-M))]) ∧ Below w.heap.size w w' := by
  obtain ⟨hu, hl⟩ := sg_yes_up M
  have z1 : up64 0 = 0 := rfl
  have z2 : lo64 0 = 0 := rfl
  have hup := up_le h0 h1
  have k1 := lo64_nn (0 - up64 M - brw 0 (lo64 M) 0)
  have k2 := lo64_le (0 - up64 M - brw 0 (lo64 M) 0)
  have C := opp_any (up64 M) (lo64 M) hup.1 hup.2 (lo64_nn _) (lo64_le _)
  rw [hl] at C
  have CC := Lib.hid C
  have HB := Lib.hid (show ∀ o1 o2, Below w.heap.size w ((w.alloc o1).alloc o2) from fun _ _ => ((Below.refl _ _).alloc (Nat.le_refl _) _).alloc (by simp) _)
  generalize lo64 (0 - up64 M - brw 0 (lo64 M) 0) = oh at *
  clear C hl
  by_cases h : W128 (-M)
  · have F := Lib.hid (show Ending.returned (.tuple #[.agg #[.int .i64 (up64 (wrap128 (-M))), .int .u64 (lo64 (wrap128 (-M)))], .bool true]) = .returned (.tuple #[.agg #[.int .i64 (up64 (wheld (-M))), .int .u64 (lo64 (wheld (-M)))], .bool (wfits (-M))]) from ret_wide ((wrap128_of h).trans (wheld_of h).symm) (wfits_of h).symm)
    by_cases hz : M = 0
    · subst hz
      have y1 : up64 (wrap128 (-0)) = 0 := rfl
      have y2 : lo64 (wrap128 (-0)) = 0 := rfl
      rw [y1, y2] at F
      rw [y2] at CC
      rw [y1] at hu
      rw [z1, z2] at CC ⊢
      clear h h0 h1 z1 z2 hup y1 y2
      go_enter Try.func40, Try.ntmps40
      go_wp2_with (go_at_call 62; refine (CC.out _).mono ?_; rintro e w' ⟨rfl, rfl⟩)
      refine bodyPost_ret (v := .tuple #[.agg #[.int .i64 0, .int .u64 0], .bool true]) (by simp [results, Try.results40, go_sem]) rfl ⟨F.out, HB.out _ _⟩
    · have e1 : up64 (wrap128 (-M)) < 0 := by rw [up_neg, wrap128_of h]; omega
      generalize up64 (wrap128 (-M)) = sh at *
      generalize lo64 (wrap128 (-M)) = sl at *
      generalize up64 M = mh at *
      generalize lo64 M = ml at *
      clear h h0 h1 z1 z2 hz
      go_enter Try.func40, Try.ntmps40
      go_wp2_with (go_at_call 62; refine (CC.out _).mono ?_; rintro e w' ⟨rfl, rfl⟩)
      refine bodyPost_ret (v := .tuple #[.agg #[.int .i64 sh, .int .u64 sl], .bool true]) (by simp [results, Try.results40, go_sem]) rfl ⟨F.out, HB.out _ _⟩
  · have e1 : ¬ up64 (wrap128 (-M)) < 0 := by rw [up_neg]; unfold W128 at h; unfold wrap128; omega
    have F := Lib.hid (show Ending.returned (.tuple #[.agg #[.int .i64 (up64 (0)), .int .u64 (lo64 (0))], .bool false]) = .returned (.tuple #[.agg #[.int .i64 (up64 (wheld (-M))), .int .u64 (lo64 (wheld (-M)))], .bool (wfits (-M))]) from ret_wide (wheld_not h).symm (wfits_not h).symm)
    rw [z1, z2] at F
    have e2 : ¬ (up64 (wrap128 (-M)) = 0 ∧ lo64 (wrap128 (-M)) = 0) := by
      rintro ⟨x, y⟩
      have := up_lo (wrap128 (-M))
      rw [x, y] at this
      unfold W128 at h; unfold wrap128 at this; omega
    by_cases e3 : up64 (wrap128 (-M)) = 0
    · have e4 : (lo64 (wrap128 (-M)) == 0) = false := by rw [beq_eq_false_iff_ne]; exact fun y => e2 ⟨e3, y⟩
      rw [e3] at hu
      generalize lo64 (wrap128 (-M)) = sl at *
      generalize up64 M = mh at *
      generalize lo64 M = ml at *
      clear h h0 h1 z1 z2 e1 e2 e3
      go_enter Try.func40, Try.ntmps40
      go_wp2_with (go_at_call 62; refine (CC.out _).mono ?_; rintro e w' ⟨rfl, rfl⟩)
      refine bodyPost_ret (v := .tuple #[.agg #[.int .i64 0, .int .u64 0], .bool false]) (by simp [results, Try.results40, go_sem]) rfl ⟨F.out, HB.out _ _⟩
    · have e4 : (up64 (wrap128 (-M)) == 0) = false := by rw [beq_eq_false_iff_ne]; exact e3
      have e5 : (!decide (up64 (wrap128 (-M)) < 0)) = true := by rw [decide_eq_false e1]; rfl
      generalize up64 (wrap128 (-M)) = sh at *
      generalize lo64 (wrap128 (-M)) = sl at *
      generalize up64 M = mh at *
      generalize lo64 M = ml at *
      clear h h0 h1 z1 z2 e1 e2 e3
      go_enter Try.func40, Try.ntmps40
      go_wp2_with (go_at_call 62; refine (CC.out _).mono ?_; rintro e w' ⟨rfl, rfl⟩)
      refine bodyPost_ret (v := .tuple #[.agg #[.int .i64 0, .int .u64 0], .bool false]) (by simp [results, Try.results40, go_sem]) rfl ⟨F.out, HB.out _ _⟩

theorem up_nat (X : Nat) : up64 (X : Int) = ((X / 18446744073709551616 : Nat) : Int) := by unfold up64; omega
theorem lo_nat (X : Nat) : lo64 (X : Int) = ((X % 18446744073709551616 : Nat) : Int) := by unfold lo64; omega
theorem i64_nat {a : Int} (h : I64 a) : a.natAbs ≤ 9223372036854775808 := by unfold I64 at h; omega

set_option maxRecDepth 8000 in
set_option maxHeartbeats 400000 in
theorem wmul_any (a b : Int) (ha : I64 a) (hb : I64 b) (w : World) :
    Calls Try.prog 21 #[.int .i64 a, .int .i64 b] w fun e w' => e = .returned (.agg #[.int .i64 (up64 (a * b)), .int .u64 (lo64 (a * b))]) ∧ Below w.heap.size w w' := by
  have hab := abs_mul a b
  have c1 := Lib.hid (size_any a ha)
  have c2 := Lib.hid (size_any b hb)
  have hx := i64_nat ha
  have hy := i64_nat hb
  unfold I64 at ha hb
  generalize a.natAbs = x at *
  generalize b.natAbs = y at *
  have c3 := Lib.hid (bits_mul64 x y (by omega) (by omega))
  have hp : x * y ≤ 9223372036854775808 * 9223372036854775808 := Nat.mul_le_mul hx hy
  generalize x * y = p at *
  rw [← up_nat, ← lo_nat] at c3
  have hfit : W128 (a * b) := by
    unfold W128
    split at hab <;> omega
  have HB := Lib.hid (show Below w.heap.size w (w.alloc (.cells #[.int .i64 0, .int .u64 0] 24)) from ((Below.refl _ _).alloc (Nat.le_refl _) _))
  have HX := Lib.hid (Box2.new w (.int .i64 0) (.int .u64 0) 24 _ rfl)
  by_cases hs : decide (a < 0) == decide (b < 0)
  · rw [if_pos hs] at hab
    have c4 := wsigned_no (p : Int) (by omega) (by omega)
    rw [hab, wheld_of hfit, wfits_of hfit, ← hab] at c4
    rw [← hab]
    have C4 := Lib.hid c4
    have hs' : (!(decide (a < 0) == decide (b < 0))) = false := by rw [hs]; rfl
    generalize up64 (p : Int) = sh at *
    generalize lo64 (p : Int) = sl at *
    clear hab hs ha hb hx hy c4 hp hfit
    go_enter Try.func21, Try.ntmps21
    go_wp2_with (first | (go_at_call 38; first | ((with_reducible refine (c1.out _).mono ?_); rintro e w' ⟨rfl, rfl⟩) | ((with_reducible refine (c2.out _).mono ?_); rintro e w' ⟨rfl, rfl⟩)) | (go_at_call 39; refine (c3.out _).mono ?_; rintro e w' ⟨rfl, rfl⟩) | (go_at_call 40; refine (C4.out _).mono ?_; rintro e w1 ⟨rfl, hb1⟩; have HS := Lib.hid (HX.out.below hb1); have HB1 := Lib.hid (HB.out.trans (hb1.mono HB.out.size)); obtain ⟨g0, g1, f0, f1⟩ := (HX.out.below hb1).alloc (.cells #[.int .i64 sh, .int .u64 sl] 24); clear hb1))
    obtain ⟨p0, p1⟩ := (HS.out.alloc (.cells #[.int .i64 sh, .int .u64 sl] 24)).put (.int .i64 sh) (.int .u64 sl)
    refine bodyPost_ret (v := .agg #[.int .i64 sh, .int .u64 sl]) (by simp [results, Try.results21, go_sem, p0, p1]) rfl ⟨rfl, below_two (HB1.out.alloc HB1.out.size _) (by omega) _ _⟩
  · rw [if_neg hs] at hab
    have hab' : a * b = -(p : Int) := by omega
    have c4 := wsigned_yes (p : Int) (by omega) (by omega)
    rw [← hab', wheld_of hfit, wfits_of hfit] at c4
    have C4 := Lib.hid c4
    have hs' : (!(decide (a < 0) == decide (b < 0))) = true := by simpa using hs
    generalize up64 (p : Int) = mh at *
    generalize lo64 (p : Int) = ml at *
    generalize up64 (a * b) = sh at *
    generalize lo64 (a * b) = sl at *
    clear hab hs ha hb hx hy c4 hp hfit hab'
    go_enter Try.func21, Try.ntmps21
    go_wp2_with (first | (go_at_call 38; first | ((with_reducible refine (c1.out _).mono ?_); rintro e w' ⟨rfl, rfl⟩) | ((with_reducible refine (c2.out _).mono ?_); rintro e w' ⟨rfl, rfl⟩)) | (go_at_call 39; refine (c3.out _).mono ?_; rintro e w' ⟨rfl, rfl⟩) | (go_at_call 40; refine (C4.out _).mono ?_; rintro e w1 ⟨rfl, hb1⟩; have HS := Lib.hid (HX.out.below hb1); have HB1 := Lib.hid (HB.out.trans (hb1.mono HB.out.size)); obtain ⟨g0, g1, f0, f1⟩ := (HX.out.below hb1).alloc (.cells #[.int .i64 sh, .int .u64 sl] 24); clear hb1))
    obtain ⟨p0, p1⟩ := (HS.out.alloc (.cells #[.int .i64 sh, .int .u64 sl] 24)).put (.int .i64 sh) (.int .u64 sl)
    refine bodyPost_ret (v := .agg #[.int .i64 sh, .int .u64 sl]) (by simp [results, Try.results21, go_sem, p0, p1]) rfl ⟨rfl, below_two (HB1.out.alloc HB1.out.size _) (by omega) _ _⟩
end Go.Proofs.Ytiblbhppojfdaaa
