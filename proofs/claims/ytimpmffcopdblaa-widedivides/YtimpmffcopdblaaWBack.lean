/-
  The walk of the law WideBack.
-/
import Derived.Test.YtimpmffcopdblaaOrders
namespace Go.Proofs.Ytimpmffcopdblaa
open Go.RowKit

theorem Kn.hd {w W : World} {b : Nat} {u v : Value} {l : List (Nat × Value × Value)} (h : Kn w ((b, u, v) :: l) W) : W.cell? ⟨b, 0, none⟩ = some u ∧ W.cell? ⟨b, 1, none⟩ = some v := ⟨h.1.1, h.1.2.1⟩
theorem Kn.hd_set {w W : World} {b c : Nat} {z0 z1 u v v0 v1 : Value} {l : List (Nat × Value × Value)} (h : Kn w ((b, z0, z1) :: (c, u, v) :: l) W) (hne : c ≠ b) :
    ((W.setCell ⟨b, 0, none⟩ v0).setCell ⟨b, 1, none⟩ v1).cell? ⟨c, 0, none⟩ = some u ∧ ((W.setCell ⟨b, 0, none⟩ v0).setCell ⟨b, 1, none⟩ v1).cell? ⟨c, 1, none⟩ = some v := by
  have k := ((h.2.1.other (fun e => hne e.symm) 0 v0).other (fun e => hne e.symm) 1 v1)
  exact ⟨k.1, k.2.1⟩
/-- A store into the newest of two. -/
theorem Kn.store2 {w W : World} {b c : Nat} {z0 z1 u0 u1 : Value} (h : Kn w [(b, z0, z1), (c, u0, u1)] W) (hne : c ≠ b) (hb : w.heap.size ≤ b) (v0 v1 : Value) :
    Kn w [(b, v0, v1), (c, u0, u1)] ((W.setCell ⟨b, 0, none⟩ v0).setCell ⟨b, 1, none⟩ v1) :=
  ⟨h.1.set v0 v1, (h.2.1.other (fun e => hne e.symm) _ _).other (fun e => hne e.symm) _ _, below_two h.2.2 hb _ _⟩
theorem floor_facts (n d : Int) (hd : 1 ≤ d) : n / d * d + n % d = n ∧ 0 ≤ n % d ∧ n % d < d ∧ (0 ≤ n → 0 ≤ n / d * d ∧ n / d * d ≤ n) ∧ n / d * d ≤ n := by
  have h1 : d * (n / d) + n % d = n := Int.mul_ediv_add_emod n d
  rw [Int.mul_comm] at h1
  have h2 := Int.emod_nonneg n (show d ≠ 0 by omega)
  have h3 := Int.emod_lt_of_pos n (show 0 < d by omega)
  refine ⟨h1, h2, h3, fun h => ⟨Int.mul_nonneg (Int.ediv_nonneg h (by omega)) (by omega), by omega⟩, by omega⟩
theorem w128_div {n d : Int} (hn : W128 n) (hd : 1 ≤ d) : W128 (n / d) := by
  unfold W128 at *
  constructor
  · exact (Int.le_ediv_iff_mul_le (by omega)).2 (by omega)
  · have := Int.ediv_lt_of_lt_mul (a := n) (b := 170141183460469231731687303715884105728) (c := d) (by omega) (by omega)
    omega
theorem Kn.one_new (w : World) (u1 v1 : Value) (t : TypeId) : Kn w [(w.heap.size, u1, v1)] (w.alloc (.cells #[u1, v1] t)) := by
  have h : Kn w [] w := Below.refl _ _
  exact h.push u1 v1 t

set_option maxRecDepth 100000 in
set_option maxHeartbeats 1000000 in
theorem back_none (n d : Int) (hd : d < 1) (w : World) :
    Calls Try.prog 6 #[.agg #[.int .i64 (up64 (n)), .int .u64 (lo64 (n))], .int .i64 d] w fun e w' => e = .returned (.bool true) ∧ Below w.heap.size w w' := by
  have c0 := Lib.hid known_any
  have c1 := Lib.hid (wdiv_none n d hd)
  generalize up64 n = nh at *
  generalize lo64 n = nl at *
  have K0 := Lib.hid (Kn.one_new w (.int .i64 nh) (.int .u64 nl) 24)
  go_enter Try.func6, Try.ntmps6
  go_wp2_with (first
    | (go_at_call 9; refine (c0.out _).mono ?_; rintro e w1 ⟨rfl, hb⟩; have K1 := Lib.hid (K0.out.below hb); clear hb; obtain ⟨g0, g1, g2, g3⟩ := K1.out.1)
    | (go_at_call 32; refine (c1.out _).mono ?_; rintro e w2 ⟨rfl, hb⟩; have K2 := Lib.hid ((K1.out.below hb).alloc (.cells #[.int .i64 0, .int .u64 0] 24)); clear hb))
  go_ret
  exact ⟨by simp, K2.out.old⟩

set_option maxRecDepth 100000 in
set_option maxHeartbeats 2000000 in
theorem back_some (n d : Int) (hn : W128 n) (hd : 1 ≤ d) (hd1 : I64 d) (w : World) :
    Calls Try.prog 6 #[.agg #[.int .i64 (up64 (n)), .int .u64 (lo64 (n))], .int .i64 d] w fun e w' => e = .returned (.bool true) ∧ Below w.heap.size w w' := by
  obtain ⟨f1, f2, f3, f4, f5⟩ := floor_facts n d hd
  have hr : I64 (n % d) := by unfold I64 at hd1 ⊢; omega
  have hq := w128_div hn hd
  have c0 := Lib.hid known_any
  have c1 := Lib.hid (wdiv_any n d hn hd hd1)
  have c2 := wtimes_any (n / d) d hq hd1
  have c3 := Lib.hid (of_any (n % d) hr)
  have c5 := Lib.hid (wsign_any n)
  have hsg : 0 ≤ cmp3 n 0 → 0 ≤ n := fun h => by have := cmp3_lt n 0; omega
  by_cases he : W128 (n / d * d)
  · have c4 := wadd_any (n / d * d) (n % d) he (w128_i64 hr)
    rw [f1, wheld_of hn, wfits_of hn] at c4
    rw [wheld_of he, wfits_of he] at c2
    have C2 := Lib.hid c2
    have C4 := Lib.hid c4
    clear c2 c4 hn hq hr f1 f4 f5 he hsg
    unfold I64 at hd1
    generalize cmp3 n 0 = sg at *
    generalize up64 (n / d * d) = ph at *
    generalize lo64 (n / d * d) = pl at *
    generalize up64 (n % d) = rh at *
    generalize lo64 (n % d) = rl at *
    generalize n % d = r at *
    generalize up64 (n / d) = qh at *
    generalize lo64 (n / d) = ql at *
    generalize up64 n = nh at *
    generalize lo64 n = nl at *
    have K0 := Lib.hid (Kn.one_new w (.int .i64 nh) (.int .u64 nl) 24)
    go_enter Try.func6, Try.ntmps6
    go_upto_region 7 with (first
      | (go_at_call 9; refine (c0.out _).mono ?_; rintro e w1 ⟨rfl, hb⟩; have K1 := Lib.hid (K0.out.below hb); clear hb; obtain ⟨g0, g1, g2, g3⟩ := K1.out.1)
      | (go_at_call 32; refine (c1.out _).mono ?_; rintro e wdiv ⟨rfl, hb⟩; have K2 := Lib.hid ((K1.out.below hb).push (.int .i64 qh) (.int .u64 ql) 24); clear hb)
      | (go_at_call 15; refine (C2.out _).mono ?_; rintro e wtim ⟨rfl, hb⟩; have K3 := Lib.hid ((K2.out.below hb).push (.int .i64 ph) (.int .u64 pl) 24).drew; clear hb))
    go_cut [10, 11] (fun q f wx => ∃ bz, q = .pointer (some ⟨bz, 0, none⟩) ∧ f = .bool true ∧ Hid (Kn w [(bz, .int .i64 nh, .int .u64 nl), (w.heap.size, .int .i64 nh, .int .u64 nl)] wx))
    case first =>
      have hlt : wtim.heap.size < ((wtim.alloc (.cells #[.int .i64 ph, .int .u64 pl] 24)).drew).heap.size := K3.out.1.lt
      have hlw : w.heap.size < ((wtim.alloc (.cells #[.int .i64 ph, .int .u64 pl] 24)).drew).heap.size := K3.out.2.2.1.lt
      have hlw' : w.heap.size < wtim.heap.size + 1 := by simpa using hlw
      go_region_held3 (fun w' => w'.cell? ⟨wtim.heap.size, 0, none⟩ = some (.int .i64 ph) ∧ w'.cell? ⟨wtim.heap.size, 1, none⟩ = some (.int .u64 pl))
        (first | exact K3.out.hd | exact (K3.out.alloc _).hd | exact K4.out.hd | exact K4.out.2.hd | exact (K4.out.alloc _).hd | exact K5.out.hd | exact K5.out.2.hd | exact (K5.out.alloc _).hd | exact K5.out.hd_set (by omega))
        (first
          | (go_at_call 26; refine (c3.out _).mono ?_; rintro e wof ⟨rfl, hb⟩; (first | have k4 := (K3.out.below hb) | have k4 := ((K3.out.push _ _ _).below hb)); clear hb; have hlo := k4.1.lt; have hlo2 := k4.2.1.lt; have hlo3 := k4.2.2.1.lt; (try simp at k4); have K4 := Lib.hid k4; clear k4)
          | (go_at_call 11; refine (C4.out _).mono ?_; rintro e wadd ⟨rfl, hb⟩; (first | have K5 := Lib.hid (K4.out.below hb) | have K5 := Lib.hid ((K4.out.push _ _ _).below hb)); clear hb; obtain ⟨i1, i2, i3, i4⟩ := K5.out.1))
      all_goals
        go_wp2
        go_meet
        first
          | exact ⟨_, rfl, rfl, Lib.hid (K5.out.2.2.push (.int .i64 nh) (.int .u64 nl) 24)⟩
          | exact ⟨_, rfl, rfl, Lib.hid (Kn.store2 ⟨K5.out.1, K5.out.2.2.2⟩ (by omega) (by omega) (.int .i64 nh) (.int .u64 nl))⟩
    case rest =>
      obtain ⟨bz, rfl, rfl, K⟩ := hcut
      obtain ⟨⟨i1, i2, _, _⟩, ⟨i3, i4, _, _⟩, _⟩ := K.out
      by_cases hs : 0 ≤ sg
      · go_wp2_with (go_at_call 27; refine (c5.out _).mono ?_; rintro e wsg ⟨rfl, hb⟩; have K6 := Lib.hid (K.out.below hb); clear hb; obtain ⟨⟨i1, i2, _, _⟩, ⟨i3, i4, _, _⟩, _⟩ := K6.out)
        go_ret
        exact ⟨rfl, K6.out.old⟩
      · go_wp2_with (go_at_call 27; refine (c5.out _).mono ?_; rintro e wsg ⟨rfl, hb⟩; have K6 := Lib.hid (K.out.below hb); clear hb; obtain ⟨⟨i1, i2, _, _⟩, ⟨i3, i4, _, _⟩, _⟩ := K6.out)
        go_ret
        exact ⟨rfl, K6.out.old⟩
  · have hneg : ¬ 0 ≤ cmp3 n 0 := fun h => he (by
      obtain ⟨k1, k2⟩ := f4 (hsg h)
      unfold W128 at hn ⊢
      omega)
    have c4 := wadd_any 0 (n % d) w128_zero (w128_i64 hr)
    rw [Int.zero_add, wheld_of (w128_i64 hr), wfits_of (w128_i64 hr)] at c4
    rw [wheld_not he, wfits_not he] at c2
    have C2 := Lib.hid c2
    have C4 := Lib.hid c4
    clear c2 c4 hn hq hr f1 f4 f5 he hsg
    unfold I64 at hd1
    generalize cmp3 n 0 = sg at *
    generalize up64 0 = ph at *
    generalize lo64 0 = pl at *
    generalize up64 (n % d) = rh at *
    generalize lo64 (n % d) = rl at *
    generalize n % d = r at *
    generalize up64 (n / d) = qh at *
    generalize lo64 (n / d) = ql at *
    generalize up64 n = nh at *
    generalize lo64 n = nl at *
    have K0 := Lib.hid (Kn.one_new w (.int .i64 nh) (.int .u64 nl) 24)
    go_enter Try.func6, Try.ntmps6
    go_upto_region 7 with (first
      | (go_at_call 9; refine (c0.out _).mono ?_; rintro e w1 ⟨rfl, hb⟩; have K1 := Lib.hid (K0.out.below hb); clear hb; obtain ⟨g0, g1, g2, g3⟩ := K1.out.1)
      | (go_at_call 32; refine (c1.out _).mono ?_; rintro e wdiv ⟨rfl, hb⟩; have K2 := Lib.hid ((K1.out.below hb).push (.int .i64 qh) (.int .u64 ql) 24); clear hb)
      | (go_at_call 15; refine (C2.out _).mono ?_; rintro e wtim ⟨rfl, hb⟩; have K3 := Lib.hid ((K2.out.below hb).push (.int .i64 ph) (.int .u64 pl) 24).drew; clear hb))
    go_cut [10, 11] (fun q f wx => ∃ bz, q = .pointer (some ⟨bz, 0, none⟩) ∧ f = .bool true ∧ Hid (Kn w [(bz, .int .i64 rh, .int .u64 rl), (w.heap.size, .int .i64 nh, .int .u64 nl)] wx))
    case first =>
      have hlt : wtim.heap.size < ((wtim.alloc (.cells #[.int .i64 ph, .int .u64 pl] 24)).drew).heap.size := K3.out.1.lt
      have hlw : w.heap.size < ((wtim.alloc (.cells #[.int .i64 ph, .int .u64 pl] 24)).drew).heap.size := K3.out.2.2.1.lt
      have hlw' : w.heap.size < wtim.heap.size + 1 := by simpa using hlw
      go_region_held3 (fun w' => w'.cell? ⟨wtim.heap.size, 0, none⟩ = some (.int .i64 ph) ∧ w'.cell? ⟨wtim.heap.size, 1, none⟩ = some (.int .u64 pl))
        (first | exact K3.out.hd | exact (K3.out.alloc _).hd | exact K4.out.hd | exact K4.out.2.hd | exact (K4.out.alloc _).hd | exact K5.out.hd | exact K5.out.2.hd | exact (K5.out.alloc _).hd | exact K5.out.hd_set (by omega))
        (first
          | (go_at_call 26; refine (c3.out _).mono ?_; rintro e wof ⟨rfl, hb⟩; (first | have k4 := (K3.out.below hb) | have k4 := ((K3.out.push _ _ _).below hb)); clear hb; have hlo := k4.1.lt; have hlo2 := k4.2.1.lt; have hlo3 := k4.2.2.1.lt; (try simp at k4); have K4 := Lib.hid k4; clear k4)
          | (go_at_call 11; refine (C4.out _).mono ?_; rintro e wadd ⟨rfl, hb⟩; (first | have K5 := Lib.hid (K4.out.below hb) | have K5 := Lib.hid ((K4.out.push _ _ _).below hb)); clear hb; obtain ⟨i1, i2, i3, i4⟩ := K5.out.1))
      all_goals
        go_wp2
        go_meet
        first
          | exact ⟨_, rfl, rfl, Lib.hid (K5.out.2.2.push (.int .i64 rh) (.int .u64 rl) 24)⟩
          | exact ⟨_, rfl, rfl, Lib.hid (Kn.store2 ⟨K5.out.1, K5.out.2.2.2⟩ (by omega) (by omega) (.int .i64 rh) (.int .u64 rl))⟩
    case rest =>
      obtain ⟨bz, rfl, rfl, K⟩ := hcut
      obtain ⟨⟨i1, i2, _, _⟩, ⟨i3, i4, _, _⟩, _⟩ := K.out
      go_wp2_with (go_at_call 27; refine (c5.out _).mono ?_; rintro e wsg ⟨rfl, hb⟩; have K6 := Lib.hid (K.out.below hb); clear hb; obtain ⟨⟨i1, i2, _, _⟩, ⟨i3, i4, _, _⟩, _⟩ := K6.out)
      go_ret
      exact ⟨rfl, K6.out.old⟩

theorem back_walk (n d : Int) (hn : W128 n) (hd : I64 d) (w : World) :
    Calls Try.prog 6 #[.agg #[.int .i64 (up64 (n)), .int .u64 (lo64 (n))], .int .i64 d] w fun e w' => e = .returned (.bool true) ∧ Below w.heap.size w w' := by
  by_cases h : d < 1
  · exact back_none n d h w
  · exact back_some n d hn (by omega) hd w
end Go.Proofs.Ytimpmffcopdblaa
