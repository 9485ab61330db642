/-
  The walks of the reference's quotient of any numbers, of a Wide's number, and of the helper that holds a Wide against a number.
-/
import Derived.Test.YtiblbhppojfdaaaOv1
import Derived.Test.YtiblbhppojfdaaaWd4
namespace Go.Proofs.Ytiblbhppojfdaaa
open Go.RowKit

/-- Quotient and rest, told with what they leave. -/
theorem over_told (va vd : Value) (x y : Int) (n m : Nat) (w : World) (hx : BigV w va x n) (hy : BigV w vd y m) (hy0 : 0 < y) (hn : n ≤ 1000000) (hm : m ≤ 1000000) :
    Calls Try.prog 63 #[va, vd] w fun e w' => ∃ (nq : Bool) (Q : Option Addr) (lq cq : Nat) (nr : Bool) (R : Option Addr) (lr cr : Nat), e = .returned (.tuple #[.agg #[.bool nq, .slice Q lq cq], .agg #[.bool nr, .slice R lr cr]]) ∧ BigV w' (.agg #[.bool nq, .slice Q lq cq]) (x / y) (32 * n * 8 + m + 8) ∧ BigV w' (.agg #[.bool nr, .slice R lr cr]) (x % y) (32 * n * 8 + m + 8) ∧ Below w.heap.size w w' := by
  obtain ⟨na, A, a, ca, rfl, _, _, a3, a4, a5, a6, _, rfl⟩ := hx
  obtain ⟨nd, D, ld, cd, rfl⟩ := hy.form
  refine (over_walk na nd A D a ca ld cd n m y w a3 a4 a5 a6 hy hy0 hn hm).mono ?_
  rintro e w' ⟨vq, vr, rfl, hq, hr, hb⟩
  obtain ⟨nq, Q, lq, cq, rfl⟩ := hq.form
  obtain ⟨nr, R, lr, cr, rfl⟩ := hr.form
  exact ⟨nq, Q, lq, cq, nr, R, lr, cr, rfl, hq, hr, hb⟩
theorem times_told (va vb : Value) (x y : Int) (n : Nat) (w : World) (hx : BigV w va x n) (hy : BigV w vb y n) (hn : n ≤ 100000000000) :
    Calls Try.prog 19 #[va, vb] w fun e w1 => ∃ (ng : Bool) (A1 : Option Addr) (n1 c1 : Nat), e = .returned (.agg #[.bool ng, .slice A1 n1 c1]) ∧ BigV w1 (.agg #[.bool ng, .slice A1 n1 c1]) (x * y) (2 * n + 1) ∧ Below w.heap.size w w1 := by
  refine (times_any va vb x y n w hx hy hn).mono ?_
  rintro e w1 ⟨v, rfl, hV, hb⟩
  obtain ⟨ng, A1, n1, c1, rfl⟩ := hV.form
  exact ⟨ng, A1, n1, c1, rfl, hV, hb⟩
theorem made_told (A : Option Addr) (l : List Int) (c : Nat) (w : World) (hr : Ints w .u64 A l) (hd : Digs l) (hlc : l.length ≤ c) (hn : c ≤ 9223372036854775807) :
    Calls Try.prog 33 #[.bool false, .slice A l.length c] w fun e w1 => ∃ (ng : Bool) (A1 : Option Addr) (n1 c1 : Nat), e = .returned (.agg #[.bool ng, .slice A1 n1 c1]) ∧ BigV w1 (.agg #[.bool ng, .slice A1 n1 c1]) (dval l) l.length ∧ Below w.heap.size w w1 := by
  refine (made_any false A l c w hr hd hlc hn).mono ?_
  rintro e w1 ⟨v, rfl, hV, hb⟩
  obtain ⟨ng, A1, n1, c1, rfl⟩ := hV.form
  exact ⟨ng, A1, n1, c1, rfl, by simpa using hV, hb⟩
theorem two64_digs : Digs [0, 0, 1] := digs_cons (by omega) (digs_cons (by omega) (digs_cons (by omega) digs_nil))
theorem two64_val : dval [0, 0, 1] = 18446744073709551616 := by decide
/-- 2^64, as the reference makes it. -/
theorem two64_told (w : World) (A : Option Addr) (hr : Ints w .u64 A [0, 0, 1]) :
    Calls Try.prog 33 #[.bool false, .slice A 3 3] w fun e w1 => ∃ (ng : Bool) (A1 : Option Addr) (n1 c1 : Nat), e = .returned (.agg #[.bool ng, .slice A1 n1 c1]) ∧ BigV w1 (.agg #[.bool ng, .slice A1 n1 c1]) 18446744073709551616 3 ∧ Below w.heap.size w w1 := by
  have h := made_told A [0, 0, 1] 3 w hr two64_digs (by simp) (by simp)
  rw [two64_val] at h
  exact h
theorem word_told (u : Int) (h0 : 0 ≤ u) (h1 : u ≤ 18446744073709551615) (w : World) (A : Option Addr) (c : Nat) (hr : Ints w .u64 A (trimL [u % 4294967296, u / 4294967296])) (hlc : (trimL [u % 4294967296, u / 4294967296]).length ≤ c) (hn : c ≤ 9223372036854775807) :
    Calls Try.prog 33 #[.bool false, .slice A (trimL [u % 4294967296, u / 4294967296]).length c] w fun e w1 => ∃ (ng : Bool) (A1 : Option Addr) (n1 c1 : Nat), e = .returned (.agg #[.bool ng, .slice A1 n1 c1]) ∧ BigV w1 (.agg #[.bool ng, .slice A1 n1 c1]) u 2 ∧ Below w.heap.size w w1 := by
  have h := made_told A _ c w hr (digs_trim (size_digs u h0 (by omega))) hlc hn
  rw [dval_trim, size_val] at h
  refine h.mono ?_
  rintro e w1 ⟨ng, A1, n1, c1, rfl, hV, hb⟩
  exact ⟨ng, A1, n1, c1, rfl, hV.more (by rw [trimL_length]; exact tl_le _ _), hb⟩

set_option maxRecDepth 100000 in
set_option maxHeartbeats 1000000 in
theorem rwide_walk (x : Int) (hx : W128 x) (w : World) :
    Calls Try.prog 6 #[.agg #[.int .i64 (up64 (x)), .int .u64 (lo64 (x))]] w fun e w1 => ∃ (ng : Bool) (A1 : Option Addr) (n1 c1 : Nat), e = .returned (.agg #[.bool ng, .slice A1 n1 c1]) ∧ BigV w1 (.agg #[.bool ng, .slice A1 n1 c1]) x 8 ∧ Below w.heap.size w w1 := by
  have CW := Lib.hid (whole_told (up64 x) (up_i64 hx))
  have CS := Lib.hid (size_u64 (lo64 x) (lo64_nn x) (by have := lo64_le x; omega))
  have CM := Lib.hid (fun W A c => word_told (lo64 x) (lo64_nn x) (lo64_le x) W A c)
  have HX := Lib.hid (up_lo x)
  have l1 := lo64_nn x
  have l2 := lo64_le x
  generalize up64 x = xh at *
  generalize lo64 x = xl at *
  have HT0 : Hid (TwoW w (.int .i64 xh) (.int .u64 xl) (.bool false) (.slice none 0 0) ((w.alloc (.cells #[.int .i64 xh, .int .u64 xl] 24)).alloc (.cells #[.bool false, .slice none 0 0] 28))) :=
    Lib.hid ⟨(Box2.new w _ _ _ _ rfl).alloc _, Box2.new _ _ _ _ _ (by simp), ((Below.refl _ _).alloc (Nat.le_refl _) _).alloc (by simp) _⟩
  go_enter Try.func6, Try.ntmps6
  go_wp2_with (first
    | (go_at_call 20; refine (CW.out _).mono ?_; rintro e w1 ⟨ng, A1, n1, c1, rfl, hV, hb⟩; have HT1 := Lib.hid (HT0.out.below hb); have HV1 := Lib.hid hV; clear hV hb)
    | (go_at_call 33; refine (two64_told _ _ (by exact ints_new _ .u64 [0, 0, 1] _ _ rfl _ rfl)).mono ?_; rintro e w2 ⟨ng2, A2, n2, c2, rfl, hV, hb⟩; have HT2 := Lib.hid ((HT1.out.alloc _).below hb); have HV2 := Lib.hid hV; have HV12 := Lib.hid ((HV1.out.below ((Below.refl _ _).alloc (Nat.le_refl _) _)).below hb); clear hV hb)
    | (go_at_call 19; refine (times_told _ _ _ _ 3 _ (HV12.out.more (by omega)) HV2.out (by omega)).mono ?_; rintro e w3 ⟨ng3, A3, n3, c3, rfl, hV, hb⟩; have HT3 := Lib.hid (HT2.out.below hb); have HV3 := Lib.hid hV; clear hV hb))
  have HT4 := Lib.hid ((HT3.out.alloc (.cells #[.bool ng3, .slice A3 n3 c3] 28)).drew)
  have HB4 := Lib.hid ((Box2.new w3 (.bool ng3) (.slice A3 n3 c3) 28 _ rfl).drew)
  have HV4 := Lib.hid ((HV3.out.below ((Below.refl _ _).alloc (Nat.le_refl _) (.cells #[.bool ng3, .slice A3 n3 c3] 28))).below (Below.refl _ _).drew)
  clear HT0 HT1 HT2 HT3 HV1 HV2 HV12 HV3
  refine wp_region_loads (fun w' => w'.cell? ⟨w.heap.size, 1, none⟩ = some (.int .u64 xl) ∧ w'.cell? ⟨w3.heap.size, 0, none⟩ = some (.bool ng3) ∧ w'.cell? ⟨w3.heap.size, 1, none⟩ = some (.slice A3 n3 c3)) [0, 1, 2] [3, 4, 5] 6 (by kernel_rfl) [_, _, _] [_, _, _] rfl rfl (by kernel_rfl) ⟨HT4.out.1.2.1, HB4.out.1, HB4.out.2.1⟩ ?_
  refine ⟨.agg #[.bool ng3, .slice A3 n3 c3], .inl ⟨rfl, fun w' ⟨s0, s1, s2⟩ => by go_simp⟩, ?_⟩
  refine ⟨.pointer (some ⟨w.heap.size, 1, none⟩), .inl ⟨rfl, fun w' ⟨s0, s1, s2⟩ => by go_simp⟩, ?_⟩
  refine ⟨.int .u64 xl, .inl ⟨rfl, fun w' ⟨s0, s1, s2⟩ => by go_simp⟩, ?_⟩
  simp only [wpLoads, wpCallsL]
  go_wp2_with (go_at_call 34; refine (CS.out _).mono ?_; rintro e w5 ⟨A5, c5, rfl, k1, k2, hI, hb⟩; replace HT4 := Lib.hid (HT4.out.below hb); replace HB4 := Lib.hid (HB4.out.below hb); replace HV4 := Lib.hid (HV4.out.below hb); have HI5 := Lib.hid hI; clear hI hb)
  refine ⟨⟨HT4.out.1.2.1, HB4.out.1, HB4.out.2.1⟩, ?_⟩
  dsimp only
  go_wp2_with (go_at_call 33; refine (CM.out _ _ _ HI5.out k1 k2).mono ?_; rintro e w6 ⟨ng6, A6, n6, c6, rfl, hV, hb⟩; replace HT4 := Lib.hid (HT4.out.below hb); replace HB4 := Lib.hid (HB4.out.below hb); replace HV4 := Lib.hid (HV4.out.below hb); have HV6 := Lib.hid hV; clear hV hb)
  refine ⟨⟨HT4.out.1.2.1, HB4.out.1, HB4.out.2.1⟩, ?_⟩
  dsimp only
  go_wp2_with (go_at_call 15; refine (plus_told _ _ _ _ 7 _ HV4.out (HV6.out.more (by omega)) (by omega)).mono ?_; rintro e w7 ⟨ng7, A7, n7, c7, rfl, hV, hb⟩; replace HT4 := Lib.hid (HT4.out.below hb); replace HB4 := Lib.hid (HB4.out.below hb); have HV7 := Lib.hid hV; clear hV hb)
  refine ⟨⟨HT4.out.1.2.1, HB4.out.1, HB4.out.2.1⟩, ?_⟩
  dsimp only
  obtain ⟨g0, g1, f0, f1⟩ := HT4.out.2.1
  go_wp2
  refine NoPanic.normal ?_
  go_wp2
  obtain ⟨p0, p1⟩ := HT4.out.2.1.put (.bool ng7) (.slice A7 n7 c7)
  refine bodyPost_ret (v := .agg #[.bool ng7, .slice A7 n7 c7]) (by simp [results, Try.results6, go_sem, p0, p1]) rfl ?_
  have hv := HX.out
  refine ⟨_, _, _, _, rfl, ?_, below_two HT4.out.2.2 (by omega) _ _⟩
  have := big_set2 HT4.out.2.1 (.bool ng7) (.slice A7 n7 c7) HV7.out
  rw [show xh * 18446744073709551616 + xl = x from by omega] at this
  exact this
end Go.Proofs.Ytiblbhppojfdaaa
