/-
  The walk of package wide's Div.
-/
import Derived.Test.YtiblbhppojfdaaaWd9
namespace Go.Proofs.Ytiblbhppojfdaaa
open Go.RowKit

theorem floor_neg (n : Int) (M D : Nat) (hD : 0 < D) (hM : -1 - n = (M : Int)) : n / (D : Int) = -1 - ((M / D : Nat) : Int) ∧ n % (D : Int) = (D : Int) - 1 - ((M % D : Nat) : Int) := by
  have h := Nat.div_add_mod M D
  have hl := Nat.mod_lt M hD
  refine (Int.ediv_emod_unique (by omega)).2 ⟨?_, by omega, by omega⟩
  have h' : (D : Int) * ((M / D : Nat) : Int) + ((M % D : Nat) : Int) = (M : Int) := by rw [← Int.natCast_mul, ← Int.natCast_add, h]
  rw [Int.mul_sub]
  generalize (D : Int) * ((M / D : Nat) : Int) = P at *
  omega

set_option maxRecDepth 8000 in
set_option maxHeartbeats 400000 in
theorem wdiv_none (n d : Int) (hd : d < 1) (w : World) :
    Calls Try.prog 31 #[.agg #[.int .i64 (up64 (n)), .int .u64 (lo64 (n))], .int .i64 d] w fun e w' => e = .returned (.tuple #[.agg #[.int .i64 0, .int .u64 0], .int .i64 0, .bool false]) ∧ Below w.heap.size w w' := by
  generalize up64 n = nh at *
  generalize lo64 n = nl at *
  have HB := Lib.hid (show ∀ o1 o2, Below w.heap.size w ((w.alloc o1).alloc o2) from fun _ _ => ((Below.refl _ _).alloc (Nat.le_refl _) _).alloc (by simp) _)
  go_enter Try.func31, Try.ntmps31
  go_wp2
  refine bodyPost_ret (v := .tuple #[.agg #[.int .i64 0, .int .u64 0], .int .i64 0, .bool false]) (by simp [results, Try.results31, go_sem]) rfl ⟨rfl, HB.out _ _⟩

theorem ret_div {n m r t : Int} (h : n = m) (h' : r = t) : Ending.returned (.tuple #[.agg #[.int .i64 (up64 (n)), .int .u64 (lo64 (n))], .int .i64 r, .bool true]) = .returned (.tuple #[.agg #[.int .i64 (up64 (m)), .int .u64 (lo64 (m))], .int .i64 t, .bool true]) := by rw [h, h']

set_option maxRecDepth 8000 in
set_option maxHeartbeats 1000000 in
theorem wdiv_any (n d : Int) (hn : W128 n) (hd : 1 ≤ d) (hd1 : I64 d) (w : World) :
    Calls Try.prog 31 #[.agg #[.int .i64 (up64 (n)), .int .u64 (lo64 (n))], .int .i64 d] w fun e w' => e = .returned (.tuple #[.agg #[.int .i64 (up64 (n / d)), .int .u64 (lo64 (n / d))], .int .i64 (n % d), .bool true]) ∧ Below w.heap.size w w' := by
  unfold I64 at hd1
  obtain ⟨D, rfl⟩ := Int.eq_ofNat_of_zero_le (show 0 ≤ d by omega)
  have hu := up_neg n
  by_cases h : n < 0
  · have h' : ¬ 0 ≤ up64 n := by have := hu.2 h; omega
    obtain ⟨M, hM⟩ := Int.eq_ofNat_of_zero_le (show 0 ≤ -1 - n by omega)
    obtain ⟨f1, f2⟩ := floor_neg n M D (by omega) hM
    have c1 := mirror_any n hn
    rw [hM] at c1
    have hw' : ∀ t : Nat, t ≤ M → W128 (t : Int) := by
      intro t ht
      unfold W128 at hn ⊢
      omega
    have hw := hw' _ (Nat.div_le_self M D)
    have c2 := divide_any M D (by unfold W128 at hn; omega) (by omega) (by omega)
    have c3 := mirror_any ((M / D : Nat) : Int) hw
    rw [← f1] at c3
    rw [f2]
    have hr := Nat.mod_lt M (show 0 < D by omega)
    have C1 := Lib.hid c1
    have C2 := Lib.hid c2
    have C3 := Lib.hid c3
    clear f1 f2 c1 c2 c3 hw hw' hn hM h hu
    generalize up64 (n / (D : Int)) = sh at *
    generalize lo64 (n / (D : Int)) = sl at *
    generalize up64 ((M / D : Nat) : Int) = qh at *
    generalize lo64 ((M / D : Nat) : Int) = ql at *
    generalize M % D = r at *
    generalize up64 (M : Int) = mh at *
    generalize lo64 (M : Int) = ml at *
    generalize up64 n = nh at *
    generalize lo64 n = nl at *
    have HT := Lib.hid (TwoW.new w (.int .i64 nh) (.int .u64 nl) (.int .i64 0) (.int .u64 0) 24)
    go_enter Try.func31, Try.ntmps31
    go_wp2_with (first
      | (go_at_call 60; first
        | ((with_reducible refine (C1.out _).mono ?_); rintro e w1 ⟨rfl, hb1⟩; have HS1 := Lib.hid (HT.out.below hb1); clear hb1)
        | ((with_reducible refine (C3.out _).mono ?_); rintro e w3 ⟨rfl, hb3⟩; have HS3 := Lib.hid ((HS2.out.alloc _).below hb3); clear hb3; obtain ⟨k1, k2, k3, k4⟩ := HS3.out.2.1))
      | (go_at_call 59; refine (C2.out _).mono ?_; rintro e w2 ⟨rfl, hb2⟩; have HS2 := Lib.hid (HS1.out.below hb2); clear hb2))
    obtain ⟨p0, p1⟩ := HS3.out.2.1.put (.int .i64 sh) (.int .u64 sl)
    refine bodyPost_ret (v := .tuple #[.agg #[.int .i64 sh, .int .u64 sl], .int .i64 ((D : Int) - 1 - (r : Int)), .bool true]) (by simp [results, Try.results31, go_sem, p0, p1]) rfl ⟨rfl, below_two HS3.out.2.2 (by omega) _ _⟩
  · have h' : 0 ≤ up64 n := by
      have : ¬ up64 n < 0 := fun x => h (hu.1 x)
      omega
    obtain ⟨N, rfl⟩ := Int.eq_ofNat_of_zero_le (show 0 ≤ n by omega)
    have c2 := divide_any N D (by unfold W128 at hn; omega) (by omega) (by omega)
    have hr := Nat.mod_lt N (show 0 < D by omega)
    have C2 := Lib.hid c2
    have F := Lib.hid (show Ending.returned (.tuple #[.agg #[.int .i64 (up64 (((N / D : Nat) : Int))), .int .u64 (lo64 (((N / D : Nat) : Int)))], .int .i64 ((N % D : Nat) : Int), .bool true]) = .returned (.tuple #[.agg #[.int .i64 (up64 ((N : Int) / (D : Int))), .int .u64 (lo64 ((N : Int) / (D : Int)))], .int .i64 ((N : Int) % (D : Int)), .bool true]) from ret_div rfl rfl)
    clear c2 hn h hu
    generalize up64 ((N / D : Nat) : Int) = qh at *
    generalize lo64 ((N / D : Nat) : Int) = ql at *
    generalize N % D = r at *
    generalize up64 (N : Int) = nh at *
    generalize lo64 (N : Int) = nl at *
    have HT := Lib.hid (TwoW.new w (.int .i64 nh) (.int .u64 nl) (.int .i64 0) (.int .u64 0) 24)
    go_enter Try.func31, Try.ntmps31
    go_wp2_with (go_at_call 59; refine (C2.out _).mono ?_; rintro e w2 ⟨rfl, hb2⟩; have HS2 := Lib.hid (HT.out.below hb2); clear hb2; obtain ⟨k1, k2, k3, k4⟩ := (HS2.out.alloc (.cells #[.int .i64 qh, .int .u64 ql] 24)).2.1)
    obtain ⟨p0, p1⟩ := (HS2.out.alloc (.cells #[.int .i64 qh, .int .u64 ql] 24)).2.1.put (.int .i64 qh) (.int .u64 ql)
    refine bodyPost_ret (v := .tuple #[.agg #[.int .i64 qh, .int .u64 ql], .int .i64 r, .bool true]) (by simp [results, Try.results31, go_sem, p0, p1]) rfl ⟨F.out, below_two (HS2.out.alloc _).2.2 (by omega) _ _⟩
end Go.Proofs.Ytiblbhppojfdaaa
