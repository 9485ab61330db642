/-
  The walk of the law WideDivides.
-/
import Derived.Test.YtimpmffcopdblaaWBack
import Derived.Test.YtimpmffcopdblaaOv2
namespace Go.Proofs.Ytimpmffcopdblaa
open Go.RowKit

set_option maxRecDepth 100000 in
set_option maxHeartbeats 1000000 in
theorem divides_none (n d : Int) (hd : d < 1) (w : World) :
    Calls Try.prog 5 #[.agg #[.int .i64 (up64 (n)), .int .u64 (lo64 (n))], .int .i64 d] w fun e w' => e = .returned (.bool true) ∧ Below w.heap.size w w' := by
  have c0 := Lib.hid known_any
  have c1 := Lib.hid (wdiv_none n d hd)
  generalize up64 n = nh at *
  generalize lo64 n = nl at *
  have K0 := Lib.hid (Kn.one_new w (.int .i64 nh) (.int .u64 nl) 24)
  go_enter Try.func5, Try.ntmps5
  go_wp2_with (first
    | (go_at_call 9; refine (c0.out _).mono ?_; rintro e w1 ⟨rfl, hb⟩; have K1 := Lib.hid (K0.out.below hb); clear hb; obtain ⟨g0, g1, g2, g3⟩ := K1.out.1)
    | (go_at_call 32; refine (c1.out _).mono ?_; rintro e w2 ⟨rfl, hb⟩; have K2 := Lib.hid ((K1.out.below hb).alloc (.cells #[.int .i64 0, .int .u64 0] 24)); clear hb))
  go_ret
  exact ⟨rfl, K2.out.old⟩

theorem Kn.four {w W : World} {b1 b2 b3 b4 : Nat} {u1 v1 u2 v2 u3 v3 u4 v4 : Value} (h : Kn w [(b1, u1, v1), (b2, u2, v2), (b3, u3, v3), (b4, u4, v4)] W) :
    W.cell? ⟨b1, 0, none⟩ = some u1 ∧ W.cell? ⟨b1, 1, none⟩ = some v1 ∧ W.cell? ⟨b2, 0, none⟩ = some u2 ∧ W.cell? ⟨b2, 1, none⟩ = some v2 ∧ W.cell? ⟨b3, 0, none⟩ = some u3 ∧ W.cell? ⟨b3, 1, none⟩ = some v3 := by
  obtain ⟨⟨a1, c1, _, _⟩, ⟨a2, c2, _, _⟩, ⟨a3, c3, _, _⟩, _⟩ := h
  exact ⟨a1, c1, a2, c2, a3, c3⟩

set_option maxRecDepth 100000 in
set_option maxHeartbeats 2000000 in
theorem divides_some (n d : Int) (hn : W128 n) (hd : 1 ≤ d) (hd1 : I64 d) (w : World) :
    Calls Try.prog 5 #[.agg #[.int .i64 (up64 (n)), .int .u64 (lo64 (n))], .int .i64 d] w fun e w' => e = .returned (.bool true) ∧ Below w.heap.size w w' := by
  obtain ⟨_, f2, f3, _, _⟩ := floor_facts n d hd
  have hr : I64 (n % d) := by unfold I64 at hd1 ⊢; omega
  have c0 := Lib.hid known_any
  have c1 := Lib.hid (wdiv_any n d hn hd hd1)
  have c2 := Lib.hid (rwide_walk n hn)
  have c3 := Lib.hid (whole_told d hd1)
  have c4 := Lib.hid (whole_told (n % d) hr)
  have c5 : Hid (∀ W va vd, BigV W va n 8 → BigV W vd d 2 → Calls Try.prog 33 #[va, vd] W fun e w' => ∃ (nq : Bool) (Q : Option Addr) (lq cq : Nat) (nr : Bool) (R : Option Addr) (lr cr : Nat), e = .returned (.tuple #[.agg #[.bool nq, .slice Q lq cq], .agg #[.bool nr, .slice R lr cr]]) ∧ BigV w' (.agg #[.bool nq, .slice Q lq cq]) (n / d) 2058 ∧ BigV w' (.agg #[.bool nr, .slice R lr cr]) (n % d) 2058 ∧ Below W.heap.size W w') := Lib.hid fun W va vd h1 h2 => over_told va vd n d 8 2 W h1 h2 (by omega) (by omega) (by omega)
  have c6 := Lib.hid (fun vb W => hwide_walk (n / d) (w128_div hn hd) vb 2058 (by omega) (by omega) W)
  have hz : ord3 (n % d) (n % d) = 0 := by unfold ord3; rw [if_neg (by omega), if_neg (by omega)]
  have c7 : Hid (∀ W va vb, BigV W va (n % d) 2058 → BigV W vb (n % d) 2058 → Calls Try.prog 30 #[va, vb] W fun e w' => e = .returned (.int .i64 0) ∧ Below W.heap.size W w') := Lib.hid fun W va vb h1 h2 => by
    have := rcmp_any va vb _ _ 2058 W h1 h2 (by omega)
    rw [hz] at this
    exact this
  clear hn hr hz f2 f3
  unfold I64 at hd1
  generalize up64 (n / d) = qh at *
  generalize lo64 (n / d) = ql at *
  generalize up64 n = nh at *
  generalize lo64 n = nl at *
  generalize hR : n % d = r at *
  have K0 := Lib.hid (Kn.one_new w (.int .i64 nh) (.int .u64 nl) 24)
  go_enter Try.func5, Try.ntmps5
  go_wp2_with (first
    | (go_at_call 9; refine (c0.out _).mono ?_; rintro e w1 ⟨rfl, hb⟩; have K1 := Lib.hid (K0.out.below hb); clear hb; obtain ⟨g0, g1, g2, g3⟩ := K1.out.1)
    | (go_at_call 32; refine (c1.out _).mono ?_; rintro e wdiv ⟨rfl, hb⟩; have K2 := Lib.hid ((K1.out.below hb).push (.int .i64 qh) (.int .u64 ql) 24); clear hb; obtain ⟨i0, i1, i2, i3⟩ := K2.out.2.1)
    | (go_at_call 10; refine (c2.out _).mono ?_; rintro e w3 ⟨ng3, A3, n3, a3, rfl, hV, hb⟩; have K3 := Lib.hid (K2.out.below hb); have HV3 := Lib.hid hV; clear hV hb)
    | (go_at_call 24; refine (c3.out _).mono ?_; rintro e w4 ⟨ng4, A4, n4, a4, rfl, hV, hb⟩; have K4 := Lib.hid (K3.out.below hb); have HV34 := Lib.hid (HV3.out.below hb); have HV4 := Lib.hid hV; clear hV hb)
    | (go_at_call 33; refine (c5.out _ _ _ HV34.out HV4.out).mono ?_; rintro e w5 ⟨nq, Q, lq, cq, nr, R, lr, cr, rfl, hVq, hVr, hb⟩; have K5 := Lib.hid ((((K4.out.below hb).push (.bool nq) (.slice Q lq cq) 28).push (.bool nr) (.slice R lr cr) 28).drew); have HVq := Lib.hid (hVq.below (((Below.refl _ _).alloc (Nat.le_refl _) (.cells #[.bool nq, .slice Q lq cq] 28)).alloc (by simp) (.cells #[.bool nr, .slice R lr cr] 28)).drew); have HVr := Lib.hid (hVr.below (((Below.refl _ _).alloc (Nat.le_refl _) (.cells #[.bool nq, .slice Q lq cq] 28)).alloc (by simp) (.cells #[.bool nr, .slice R lr cr] 28)).drew); clear hVq hVr hb))
  have K6 : Hid (Kn w [(w5.heap.size + 1, .bool nr, .slice R lr cr), (w5.heap.size, .bool nq, .slice Q lq cq), (wdiv.heap.size, .int .i64 qh, .int .u64 ql), (w.heap.size, .int .i64 nh, .int .u64 nl)] ((w5.alloc (.cells #[.bool nq, .slice Q lq cq] 28)).alloc (.cells #[.bool nr, .slice R lr cr] 28)).drew) := Lib.hid (by have := K5.out; simpa using this)
  clear K0 K1 K2 K3 K4 K5
  go_region_held3 (fun w' => w'.cell? ⟨w5.heap.size + 1, 0, none⟩ = some (.bool nr) ∧ w'.cell? ⟨w5.heap.size + 1, 1, none⟩ = some (.slice R lr cr) ∧ w'.cell? ⟨w5.heap.size, 0, none⟩ = some (.bool nq) ∧ w'.cell? ⟨w5.heap.size, 1, none⟩ = some (.slice Q lq cq) ∧ w'.cell? ⟨wdiv.heap.size, 0, none⟩ = some (.int .i64 qh) ∧ w'.cell? ⟨wdiv.heap.size, 1, none⟩ = some (.int .u64 ql))
    (first | exact K6.out.four)
    (first
      | (go_at_call 34; refine (c6.out _ _ HVq.out).mono ?_; rintro e wa ⟨rfl, hb⟩; replace K6 := Lib.hid (K6.out.below hb); replace HVr := Lib.hid (HVr.out.below hb); clear hb)
      | (go_at_call 24; refine (c4.out _).mono ?_; rintro e wb ⟨ng7, A7, n7, a7, rfl, hV, hb⟩; replace K6 := Lib.hid (K6.out.below hb); replace HVr := Lib.hid (HVr.out.below hb); have HV7 := Lib.hid (hV.more (show 2 ≤ 2058 by omega)); clear hV hb)
      | (go_at_call 30; refine (c7.out _ _ _ HV7.out HVr.out).mono ?_; rintro e wd ⟨rfl, hb⟩; replace K6 := Lib.hid (K6.out.below hb); clear hb))
  all_goals
    go_wp2
    go_ret
    exact ⟨rfl, K6.out.old⟩

theorem divides_walk (n d : Int) (hn : W128 n) (hd : I64 d) (w : World) :
    Calls Try.prog 5 #[.agg #[.int .i64 (up64 (n)), .int .u64 (lo64 (n))], .int .i64 d] w fun e w' => e = .returned (.bool true) ∧ Below w.heap.size w w' := by
  by_cases h : d < 1
  · exact divides_none n d h w
  · exact divides_some n d hn (by omega) hd w
end Go.Proofs.Ytimpmffcopdblaa
