/-
  The walk of novationlaw7.PlanAll.
-/
import Derived.Test.YtldceocbmmidmaaKnown7
namespace Go.Proofs.Ytldceocbmmidmaa
open Go Go.RowKit
set_option linter.unusedVariables false

/-- A slice of these numbers. -/
def SpP.nat (l : List Nat) : SpP := ⟨fun v W => ∃ A c, v = .slice A l.length c ∧ Ints W .i64 A (l.map Int.ofNat), fun _ _ _ hb h => by obtain ⟨A, c, e, h⟩ := h; exact ⟨A, c, e, h.below hb⟩⟩
set_option maxRecDepth 100000 in
set_option maxHeartbeats 16000000 in
theorem pall_walk (p q : Cfg) (ok : CfgI p) (A B : Option Addr) (n m c d : Nat) (x : Int) (w : World) (hn : n = p.insts.length) (hm : m = q.insts.length) (hI : InsM w A p.insts) (hJ : InsM w B q.insts) :
    Calls Try.prog 3 #[p.v (.slice A n c), q.v (.slice B m d), .int .i64 x] w fun e w' => e = .returned (.bool true) ∧ Below w.heap.size w w' := by
  have hb1 : Below w.heap.size w (w.alloc (.cells #[.slice A n c, .int .i64 p.skin, .int .i64 p.times, .int .i64 p.port, .int .i64 p.bid, .int .i64 p.lot, .int .i64 p.hedge] 24)) := (Below.refl _ _).alloc (Nat.le_refl _) _
  have HB0 : Hid (Below w.heap.size w ((w.alloc (.cells #[.slice A n c, .int .i64 p.skin, .int .i64 p.times, .int .i64 p.port, .int .i64 p.bid, .int .i64 p.lot, .int .i64 p.hedge] 24)).alloc (.cells #[.slice B m d, .int .i64 q.skin, .int .i64 q.times, .int .i64 q.port, .int .i64 q.bid, .int .i64 q.lot, .int .i64 q.hedge] 24))) := Lib.hid (hb1.alloc hb1.size _)
  have HC0 : Hid (CfAt ((w.alloc (.cells #[.slice A n c, .int .i64 p.skin, .int .i64 p.times, .int .i64 p.port, .int .i64 p.bid, .int .i64 p.lot, .int .i64 p.hedge] 24)).alloc (.cells #[.slice B m d, .int .i64 q.skin, .int .i64 q.times, .int .i64 q.port, .int .i64 q.bid, .int .i64 q.lot, .int .i64 q.hedge] 24)) w.heap.size p (.slice A n c)) := Lib.hid (CfAt.keep (Rec.new w _ (p.cells (.slice A n c)) _ rfl) ((Below.refl _ _).alloc (Nat.le_refl _) _))
  have HD0 : Hid (CfAt ((w.alloc (.cells #[.slice A n c, .int .i64 p.skin, .int .i64 p.times, .int .i64 p.port, .int .i64 p.bid, .int .i64 p.lot, .int .i64 p.hedge] 24)).alloc (.cells #[.slice B m d, .int .i64 q.skin, .int .i64 q.times, .int .i64 q.port, .int .i64 q.bid, .int .i64 q.lot, .int .i64 q.hedge] 24)) (w.heap.size + 1) q (.slice B m d)) := Lib.hid (Rec.new _ _ (q.cells (.slice B m d)) _ (by simp))
  have CK := Lib.hid (fun W => known_any W)
  have HI := Lib.hid hI
  have HJ := Lib.hid hJ
  have CP : Hid (∀ W, Below w.heap.size w W → Calls Try.prog 9 #[p.v (.slice A n c)] W (BytesK7 W (putP p).1 (putP p).2)) := Lib.hid (fun W h => pputplan_any p ok A n c W hn (hI.below h))
  have CQ : Hid (∀ W, Below w.heap.size w W → Calls Try.prog 10 #[p.v (.slice A n c)] W (BytesK7 W (putP p).1 (putP p).2)) := Lib.hid (fun W h => rputplan_any p ok A n c W hn (hI.below h))
  have CR : Hid (∀ W, Below w.heap.size w W → Calls Try.prog 11 #[p.v (.slice A n c)] W fun r w' => r = .returned (.bool (planOk p)) ∧ Below W.heap.size W w') := Lib.hid (fun W h => pright_any p A n c W hn (hI.below h))
  have CT : Hid (∀ W, Below w.heap.size w W → Calls Try.prog 12 #[p.v (.slice A n c)] W fun r w' => r = .returned (.bool (planOk p)) ∧ Below W.heap.size W w') := Lib.hid (fun W h => rplan_any p A n c W hn (hI.below h))
  have CB : Hid (∀ W, Below w.heap.size w W → Calls Try.prog 16 #[p.v (.slice A n c), .int .i64 x] W (NatsN W (buckP p x))) := Lib.hid (fun W h => pbuck_any p x A n c W hn (hI.below h))
  have CC : Hid (∀ W, Below w.heap.size w W → Calls Try.prog 17 #[p.v (.slice A n c), .int .i64 x] W (NatsN W (buckP p x))) := Lib.hid (fun W h => rbuck_any p x A n c W hn (hI.below h))
  by_cases h20 : 20 < n
  · unfold Cfg.v
    clear hn hm hI hJ hb1 CP CQ CR CT CB CC
    go_enter Try.func3, Try.ntmps3
    go_wp2_with (go_at_call 8; refine (CK.out _).mono ?_; rintro e w1 ⟨rfl, hb⟩; have HB := Lib.hid (HB0.out.trans (hb.mono HB0.out.size)); have HC1 := Lib.hid (CfAt.keep HC0.out hb); obtain ⟨a0, a1, a2, a3, a4, a5, a6⟩ := HC1.out.reads; clear hb)
    go_ret
    exact ⟨rfl, HB.out⟩
  by_cases hm20 : 20 < m
  · unfold Cfg.v
    clear hn hm hI hJ hb1 CP CQ CR CT CB CC
    go_enter Try.func3, Try.ntmps3
    go_wp2_with (go_at_call 8; refine (CK.out _).mono ?_; rintro e w1 ⟨rfl, hb⟩; have HB := Lib.hid (HB0.out.trans (hb.mono HB0.out.size)); have HC1 := Lib.hid (CfAt.keep HC0.out hb); have HD1 := Lib.hid (CfAt.keep HD0.out hb); obtain ⟨a0, a1, a2, a3, a4, a5, a6⟩ := HC1.out.reads; obtain ⟨b0, b1, b2, b3, b4, b5, b6⟩ := HD1.out.reads; clear hb)
    go_ret
    exact ⟨rfl, HB.out⟩
  have CS : Hid (∀ W, Below w.heap.size w W → Calls Try.prog 13 #[p.v (.slice A n c), q.v (.slice B m d)] W fun r w' => r = .returned (.bool (decide (p = q))) ∧ Below W.heap.size W w') := Lib.hid (fun W h => psame_any p q A B n m c d W hn hm (hI.below h) (hJ.below h) (by omega))
  have CU : Hid (∀ W, Below w.heap.size w W → Calls Try.prog 14 #[p.v (.slice A n c), q.v (.slice B m d)] W fun r w' => r = .returned (.bool (decide (p = q))) ∧ Below W.heap.size W w') := Lib.hid (fun W h => rsame_any p q A B n m c d W hn hm (hI.below h) (hJ.below h) (by omega))
  have CV : Hid (∀ W, Below w.heap.size w W → Calls Try.prog 13 #[p.v (.slice A n c), p.v (.slice A n c)] W fun r w' => r = .returned (.bool true) ∧ Below W.heap.size W w') := Lib.hid (fun W h => by
    have := psame_any p p A A n n c c W hn hn (hI.below h) (hI.below h) (by omega)
    rw [decide_eq_true (rfl : p = p)] at this
    exact this)
  have hbl : (buckP p x).length ≤ 1000000000 := by
    have h1 := buck_len p.insts x p.insts.length
    unfold buckP
    split
    · omega
    · simp
  have CN : Hid (∀ A1 c1 A2 c2 W, Ints W .i64 A1 ((buckP p x).map Int.ofNat) → Ints W .i64 A2 ((buckP p x).map Int.ofNat) → Calls Try.prog 15 #[.slice A1 (buckP p x).length c1, .slice A2 (buckP p x).length c2] W fun r w' => r = .returned (.bool true) ∧ Below W.heap.size W w') := Lib.hid (fun A1 c1 A2 c2 W h1 h2 => by
    have := nums_any A1 A2 _ _ (buckP p x).length (buckP p x).length c1 c2 W (by rw [List.length_map]) (by rw [List.length_map]) h1 h2 hbl
    rw [decide_eq_true rfl] at this
    exact this)
  obtain ⟨LN, hLN⟩ : ∃ LN, LN = buckP p x := ⟨_, rfl⟩
  obtain ⟨LP, hLP⟩ : ∃ LP, LP = (putP p).1 := ⟨_, rfl⟩
  obtain ⟨k, hk⟩ : ∃ k, k = (putP p).2 := ⟨_, rfl⟩
  obtain ⟨R, hR⟩ : ∃ R, R = planOk p := ⟨_, rfl⟩
  obtain ⟨D, hD⟩ : ∃ D, D = decide (p = q) := ⟨_, rfl⟩
  rw [← hLN] at CB CC CN
  rw [← hLP, ← hk] at CP CQ
  rw [← hR] at CR CT
  rw [← hD] at CS CU
  have hRR : (R == R) = true := by simp
  have hDD : (D == D) = true := by simp
  have hkk : (k == k) = true := by simp
  clear hn hm hI hJ hb1 hbl hLN hLP hk hR hD ok
  unfold Cfg.v at CP CQ CR CT CB CC CS CU CV
  unfold Cfg.v
  go_enter Try.func3, Try.ntmps3
  go_wp2_with (first
    | (go_at_call 8; (with_reducible refine (CK.out _).mono ?_); rintro e w1 ⟨rfl, hb⟩; have HB := Lib.hid (HB0.out.trans (hb.mono HB0.out.size)); have HC1 := Lib.hid (CfAt.keep HC0.out hb); have HD1 := Lib.hid (CfAt.keep HD0.out hb); obtain ⟨a0, a1, a2, a3, a4, a5, a6⟩ := HC1.out.reads; obtain ⟨b0, b1, b2, b3, b4, b5, b6⟩ := HD1.out.reads; clear hb)
    | (go_at_call 9; (with_reducible refine (CP.out _ HB.out).mono ?_); rintro r w2 ⟨v2, rfl, ho2, hb⟩; obtain ⟨A2, c2, rfl, hy2, _⟩ := OwnB.form ho2; obtain ⟨n2, hn2⟩ : ∃ n2, n2 = LP.length := ⟨_, rfl⟩; rw [← hn2]; have HN2 := Lib.hid hn2; have HY2 := Lib.hid hy2; have HB2 := Lib.hid (HB.out.trans (hb.mono HB.out.size)); have HC2 := Lib.hid (CfAt.keep HC1.out hb); have HD2 := Lib.hid (CfAt.keep HD1.out hb); obtain ⟨d0, d1, d2, d3, d4, d5, d6⟩ := HC2.out.reads; clear hb ho2 hy2 hn2)
    | (go_at_call 10; (with_reducible refine (CQ.out _ HB2.out).mono ?_); rintro r w3 ⟨v3, rfl, ho3, hb⟩; obtain ⟨A3, c3, rfl, hy3, _⟩ := OwnB.form ho3; rw [← HN2.out]; have HY3 := Lib.hid hy3; have HB3 := Lib.hid (HB2.out.trans (hb.mono HB2.out.size)); have HC3 := Lib.hid (CfAt.keep HC2.out hb); have HD3 := Lib.hid (CfAt.keep HD2.out hb); have HY2' := Lib.hid (HY2.out.below hb); clear hb ho3 hy3))
  obtain ⟨S, hS⟩ : ∃ S, S = bstr LP := ⟨_, rfl⟩
  have HV2 : Hid (∀ W, Below w3.heap.size w3 W → (convert 26 9 (.slice A2 n2 c2)).run Try.prog W = .ok (.string S) W) := Lib.hid (fun W h => by rw [hS]; exact run_bstr W A2 LP n2 c2 HN2.out (HY2'.out.below h))
  have HV3 : Hid (∀ W, Below w3.heap.size w3 W → (convert 26 9 (.slice A3 n2 c3)).run Try.prog W = .ok (.string S) W) := Lib.hid (fun W h => by rw [hS]; exact run_bstr W A3 LP n2 c3 HN2.out (HY3.out.below h))
  have FA : Hid (∀ W, Below w3.heap.size w3 W → CfAt W w.heap.size p (.slice A n c)) := Lib.hid (fun W h => CfAt.keep HC3.out h)
  have FB : Hid (∀ W, Below w3.heap.size w3 W → CfAt W (w.heap.size + 1) q (.slice B m d)) := Lib.hid (fun W h => CfAt.keep HD3.out h)
  have UP : Hid (∀ W, Below w3.heap.size w3 W → Below w.heap.size w W) := Lib.hid (fun W h => HB3.out.trans (h.mono HB3.out.size))
  clear hS HC0 HC1 HC2 HC3 HD0 HD1 HD2 HD3 HB0 HB HB2 HB3 HY2 HY2' HY3 CK CP CQ a0 a1 a2 a3 a4 a5 a6 b0 b1 b2 b3 b4 b5 b6 d0 d1 d2 d3 d4 d5 d6 h20 hm20
  refine wp_region_dag [33, 34, 35, 36, 37, 38, 39, 40, 41, 42, 43, 44, 45, 46, 47, 48, 49, 50, 51, 52, 53, 54, 55, 56, 57, 58, 59, 60, 61, 62, 63, 64, 65, 66, 67, 68, 69, 70, 71, 72, 6] (fun W W' => Below W.heap.size W W') (fun W => Below w3.heap.size w3 W) (spAt [.val (.agg #[.slice A n c, .int .i64 p.skin, .int .i64 p.times, .int .i64 p.port, .int .i64 p.bid, .int .i64 p.lot, .int .i64 p.hedge]), .val (.bool R), .val (.agg #[.slice A n c, .int .i64 p.skin, .int .i64 p.times, .int .i64 p.port, .int .i64 p.bid, .int .i64 p.lot, .int .i64 p.hedge]), .val (.bool R), .val (.bool true), .val (.bool true), .val (.agg #[.slice A n c, .int .i64 p.skin, .int .i64 p.times, .int .i64 p.port, .int .i64 p.bid, .int .i64 p.lot, .int .i64 p.hedge]), .val (.agg #[.slice B m d, .int .i64 q.skin, .int .i64 q.times, .int .i64 q.port, .int .i64 q.bid, .int .i64 q.lot, .int .i64 q.hedge]), .val (.bool D), .val (.agg #[.slice A n c, .int .i64 p.skin, .int .i64 p.times, .int .i64 p.port, .int .i64 p.bid, .int .i64 p.lot, .int .i64 p.hedge]), .val (.agg #[.slice B m d, .int .i64 q.skin, .int .i64 q.times, .int .i64 q.port, .int .i64 q.bid, .int .i64 q.lot, .int .i64 q.hedge]), .val (.bool D), .val (.bool true), .val (.bool true), .val (.bool true), .val (.agg #[.slice A n c, .int .i64 p.skin, .int .i64 p.times, .int .i64 p.port, .int .i64 p.bid, .int .i64 p.lot, .int .i64 p.hedge]), .val (.agg #[.slice A n c, .int .i64 p.skin, .int .i64 p.times, .int .i64 p.port, .int .i64 p.bid, .int .i64 p.lot, .int .i64 p.hedge]), .val (.bool true), .val (.bool true), .val (.bool true), .val (.int .i64 k), .val (.int .i64 k), .val (.bool true), .val (.bool true), .val (.bool true), .val (.slice A2 n2 c2), .val (.string S), .val (.slice A3 n2 c3), .val (.string S), .val (.bool true), .val (.bool true), .val (.bool true), .val (.agg #[.slice A n c, .int .i64 p.skin, .int .i64 p.times, .int .i64 p.port, .int .i64 p.bid, .int .i64 p.lot, .int .i64 p.hedge]), .val (.int .i64 x), (SpP.nat LN), .val (.agg #[.slice A n c, .int .i64 p.skin, .int .i64 p.times, .int .i64 p.port, .int .i64 p.bid, .int .i64 p.lot, .int .i64 p.hedge]), .val (.int .i64 x), (SpP.nat LN), .val (.bool true), .val (.bool true), .val (.bool true)]) rfl rfl rfl rfl (spAt_st _) ((Below.refl _ _).drew) ⟨?_, ?_, ?_, ?_, ?_, ?_, ?_, ?_, ?_, ?_, ?_, ?_, ?_, ?_, ?_, ?_, ?_, ?_, ?_, ?_, ?_, ?_, ?_, ?_, ?_, ?_, ?_, ?_, ?_, ?_, ?_, ?_, ?_, ?_, ?_, ?_, ?_, ?_, ?_, ?_, ?_, trivial⟩ ?_
  · intro a W K ho hW hpre hK
    rw [if_pos (wanted_none rfl)]
    have e0 : a.tmps.getD 3 undef = .pointer (some ⟨w.heap.size, 0, none⟩) := ho.slot 3 (by decide)
    obtain ⟨q0, q1, q2, q3, q4, q5, q6⟩ := (FA.out W hW).reads
    go_simp
    exact hK _ _ (Below.refl _ _) hW rfl
  · intro a W K ho hW hpre hK
    rw [if_pos (wanted_none rfl)]
    have e0 : a.tmps.getD 33 undef = .agg #[.slice A n c, .int .i64 p.skin, .int .i64 p.times, .int .i64 p.port, .int .i64 p.bid, .int .i64 p.lot, .int .i64 p.hedge] := hpre ⟨0, .data⟩ (by simp) rfl _ rfl
    go_simp
    refine (CR.out _ (UP.out W hW)).mono ?_
    rintro e w5 ⟨rfl, hb5⟩
    exact hK _ _ hb5 (hW.trans (hb5.mono hW.size)) rfl
  · intro a W K ho hW hpre hK
    rw [if_pos (wanted_none rfl)]
    have e0 : a.tmps.getD 3 undef = .pointer (some ⟨w.heap.size, 0, none⟩) := ho.slot 3 (by decide)
    obtain ⟨q0, q1, q2, q3, q4, q5, q6⟩ := (FA.out W hW).reads
    go_simp
    exact hK _ _ (Below.refl _ _) hW rfl
  · intro a W K ho hW hpre hK
    rw [if_pos (wanted_none rfl)]
    have e0 : a.tmps.getD 35 undef = .agg #[.slice A n c, .int .i64 p.skin, .int .i64 p.times, .int .i64 p.port, .int .i64 p.bid, .int .i64 p.lot, .int .i64 p.hedge] := hpre ⟨2, .data⟩ (by simp) rfl _ rfl
    go_simp
    refine (CT.out _ (UP.out W hW)).mono ?_
    rintro e w5 ⟨rfl, hb5⟩
    exact hK _ _ hb5 (hW.trans (hb5.mono hW.size)) rfl
  · intro a W K ho hW hpre hK
    rw [if_pos (wanted_none rfl)]
    have e0 : a.tmps.getD 34 undef = .bool R := hpre ⟨1, .data⟩ (by simp) rfl _ rfl
    have e1 : a.tmps.getD 36 undef = .bool R := hpre ⟨3, .data⟩ (by simp) rfl _ rfl
    go_simp
    exact hK _ _ (Below.refl _ _) hW rfl
  · intro a W K ho hW hpre hK
    rw [if_pos (wanted_none rfl)]
    have e0 : a.tmps.getD 37 undef = .bool true := hpre ⟨4, .data⟩ (by simp) rfl _ rfl
    go_simp
    exact hK _ _ (Below.refl _ _) hW rfl
  · intro a W K ho hW hpre hK
    have eg : a.tmps.getD 38 undef = .bool true := hpre ⟨5, .guard⟩ (by simp) rfl _ rfl
    rw [if_pos (wanted_at ho rfl rfl rfl (Nat.le_of_ble_eq_true rfl) eg)]
    clear eg
    have e0 : a.tmps.getD 3 undef = .pointer (some ⟨w.heap.size, 0, none⟩) := ho.slot 3 (by decide)
    obtain ⟨q0, q1, q2, q3, q4, q5, q6⟩ := (FA.out W hW).reads
    go_simp
    exact hK _ _ (Below.refl _ _) hW rfl
  · intro a W K ho hW hpre hK
    have eg : a.tmps.getD 38 undef = .bool true := hpre ⟨5, .guard⟩ (by simp) rfl _ rfl
    rw [if_pos (wanted_at ho rfl rfl rfl (Nat.le_of_ble_eq_true rfl) eg)]
    clear eg
    have e0 : a.tmps.getD 4 undef = .pointer (some ⟨w.heap.size + 1, 0, none⟩) := ho.slot 4 (by decide)
    obtain ⟨q0, q1, q2, q3, q4, q5, q6⟩ := (FB.out W hW).reads
    go_simp
    exact hK _ _ (Below.refl _ _) hW rfl
  · intro a W K ho hW hpre hK
    have eg : a.tmps.getD 38 undef = .bool true := hpre ⟨5, .guard⟩ (by simp) rfl _ rfl
    rw [if_pos (wanted_at ho rfl rfl rfl (Nat.le_of_ble_eq_true rfl) eg)]
    clear eg
    have e0 : a.tmps.getD 39 undef = .agg #[.slice A n c, .int .i64 p.skin, .int .i64 p.times, .int .i64 p.port, .int .i64 p.bid, .int .i64 p.lot, .int .i64 p.hedge] := hpre ⟨6, .data⟩ (by simp) rfl _ rfl
    have e1 : a.tmps.getD 40 undef = .agg #[.slice B m d, .int .i64 q.skin, .int .i64 q.times, .int .i64 q.port, .int .i64 q.bid, .int .i64 q.lot, .int .i64 q.hedge] := hpre ⟨7, .data⟩ (by simp) rfl _ rfl
    go_simp
    refine (CS.out _ (UP.out W hW)).mono ?_
    rintro e w5 ⟨rfl, hb5⟩
    exact hK _ _ hb5 (hW.trans (hb5.mono hW.size)) rfl
  · intro a W K ho hW hpre hK
    have eg : a.tmps.getD 38 undef = .bool true := hpre ⟨5, .guard⟩ (by simp) rfl _ rfl
    rw [if_pos (wanted_at ho rfl rfl rfl (Nat.le_of_ble_eq_true rfl) eg)]
    clear eg
    have e0 : a.tmps.getD 3 undef = .pointer (some ⟨w.heap.size, 0, none⟩) := ho.slot 3 (by decide)
    obtain ⟨q0, q1, q2, q3, q4, q5, q6⟩ := (FA.out W hW).reads
    go_simp
    exact hK _ _ (Below.refl _ _) hW rfl
  · intro a W K ho hW hpre hK
    have eg : a.tmps.getD 38 undef = .bool true := hpre ⟨5, .guard⟩ (by simp) rfl _ rfl
    rw [if_pos (wanted_at ho rfl rfl rfl (Nat.le_of_ble_eq_true rfl) eg)]
    clear eg
    have e0 : a.tmps.getD 4 undef = .pointer (some ⟨w.heap.size + 1, 0, none⟩) := ho.slot 4 (by decide)
    obtain ⟨q0, q1, q2, q3, q4, q5, q6⟩ := (FB.out W hW).reads
    go_simp
    exact hK _ _ (Below.refl _ _) hW rfl
  · intro a W K ho hW hpre hK
    have eg : a.tmps.getD 38 undef = .bool true := hpre ⟨5, .guard⟩ (by simp) rfl _ rfl
    rw [if_pos (wanted_at ho rfl rfl rfl (Nat.le_of_ble_eq_true rfl) eg)]
    clear eg
    have e0 : a.tmps.getD 42 undef = .agg #[.slice A n c, .int .i64 p.skin, .int .i64 p.times, .int .i64 p.port, .int .i64 p.bid, .int .i64 p.lot, .int .i64 p.hedge] := hpre ⟨9, .data⟩ (by simp) rfl _ rfl
    have e1 : a.tmps.getD 43 undef = .agg #[.slice B m d, .int .i64 q.skin, .int .i64 q.times, .int .i64 q.port, .int .i64 q.bid, .int .i64 q.lot, .int .i64 q.hedge] := hpre ⟨10, .data⟩ (by simp) rfl _ rfl
    go_simp
    refine (CU.out _ (UP.out W hW)).mono ?_
    rintro e w5 ⟨rfl, hb5⟩
    exact hK _ _ hb5 (hW.trans (hb5.mono hW.size)) rfl
  · intro a W K ho hW hpre hK
    have eg : a.tmps.getD 38 undef = .bool true := hpre ⟨5, .guard⟩ (by simp) rfl _ rfl
    rw [if_pos (wanted_at ho rfl rfl rfl (Nat.le_of_ble_eq_true rfl) eg)]
    clear eg
    have e0 : a.tmps.getD 41 undef = .bool D := hpre ⟨8, .data⟩ (by simp) rfl _ rfl
    have e1 : a.tmps.getD 44 undef = .bool D := hpre ⟨11, .data⟩ (by simp) rfl _ rfl
    go_simp
    exact hK _ _ (Below.refl _ _) hW rfl
  · intro a W K ho hW hpre hK
    rw [if_pos (wanted_none rfl)]
    have e0 : a.tmps.getD 38 undef = .bool true := hpre ⟨5, .data⟩ (by simp) rfl _ rfl
    have e1 : a.tmps.getD 45 undef = .bool true := hpre ⟨12, .data⟩ (by simp) rfl _ rfl
    go_simp
    exact hK _ _ (Below.refl _ _) hW rfl
  · intro a W K ho hW hpre hK
    rw [if_pos (wanted_none rfl)]
    have e0 : a.tmps.getD 46 undef = .bool true := hpre ⟨13, .data⟩ (by simp) rfl _ rfl
    go_simp
    exact hK _ _ (Below.refl _ _) hW rfl
  · intro a W K ho hW hpre hK
    have eg : a.tmps.getD 47 undef = .bool true := hpre ⟨14, .guard⟩ (by simp) rfl _ rfl
    rw [if_pos (wanted_at ho rfl rfl rfl (Nat.le_of_ble_eq_true rfl) eg)]
    clear eg
    have e0 : a.tmps.getD 3 undef = .pointer (some ⟨w.heap.size, 0, none⟩) := ho.slot 3 (by decide)
    obtain ⟨q0, q1, q2, q3, q4, q5, q6⟩ := (FA.out W hW).reads
    go_simp
    exact hK _ _ (Below.refl _ _) hW rfl
  · intro a W K ho hW hpre hK
    have eg : a.tmps.getD 47 undef = .bool true := hpre ⟨14, .guard⟩ (by simp) rfl _ rfl
    rw [if_pos (wanted_at ho rfl rfl rfl (Nat.le_of_ble_eq_true rfl) eg)]
    clear eg
    have e0 : a.tmps.getD 3 undef = .pointer (some ⟨w.heap.size, 0, none⟩) := ho.slot 3 (by decide)
    obtain ⟨q0, q1, q2, q3, q4, q5, q6⟩ := (FA.out W hW).reads
    go_simp
    exact hK _ _ (Below.refl _ _) hW rfl
  · intro a W K ho hW hpre hK
    have eg : a.tmps.getD 47 undef = .bool true := hpre ⟨14, .guard⟩ (by simp) rfl _ rfl
    rw [if_pos (wanted_at ho rfl rfl rfl (Nat.le_of_ble_eq_true rfl) eg)]
    clear eg
    have e0 : a.tmps.getD 48 undef = .agg #[.slice A n c, .int .i64 p.skin, .int .i64 p.times, .int .i64 p.port, .int .i64 p.bid, .int .i64 p.lot, .int .i64 p.hedge] := hpre ⟨15, .data⟩ (by simp) rfl _ rfl
    have e1 : a.tmps.getD 49 undef = .agg #[.slice A n c, .int .i64 p.skin, .int .i64 p.times, .int .i64 p.port, .int .i64 p.bid, .int .i64 p.lot, .int .i64 p.hedge] := hpre ⟨16, .data⟩ (by simp) rfl _ rfl
    go_simp
    refine (CV.out _ (UP.out W hW)).mono ?_
    rintro e w5 ⟨rfl, hb5⟩
    exact hK _ _ hb5 (hW.trans (hb5.mono hW.size)) rfl
  · intro a W K ho hW hpre hK
    rw [if_pos (wanted_none rfl)]
    have e0 : a.tmps.getD 47 undef = .bool true := hpre ⟨14, .data⟩ (by simp) rfl _ rfl
    have e1 : a.tmps.getD 50 undef = .bool true := hpre ⟨17, .data⟩ (by simp) rfl _ rfl
    go_simp
    exact hK _ _ (Below.refl _ _) hW rfl
  · intro a W K ho hW hpre hK
    rw [if_pos (wanted_none rfl)]
    have e0 : a.tmps.getD 51 undef = .bool true := hpre ⟨18, .data⟩ (by simp) rfl _ rfl
    go_simp
    exact hK _ _ (Below.refl _ _) hW rfl
  · intro a W K ho hW hpre hK
    have eg : a.tmps.getD 52 undef = .bool true := hpre ⟨19, .guard⟩ (by simp) rfl _ rfl
    rw [if_pos (wanted_at ho rfl rfl rfl (Nat.le_of_ble_eq_true rfl) eg)]
    clear eg
    have e0 : a.tmps.getD 8 undef = .int .i64 k := ho.slot 8 (by decide)
    go_simp
    exact hK _ _ (Below.refl _ _) hW rfl
  · intro a W K ho hW hpre hK
    have eg : a.tmps.getD 52 undef = .bool true := hpre ⟨19, .guard⟩ (by simp) rfl _ rfl
    rw [if_pos (wanted_at ho rfl rfl rfl (Nat.le_of_ble_eq_true rfl) eg)]
    clear eg
    have e0 : a.tmps.getD 10 undef = .int .i64 k := ho.slot 10 (by decide)
    go_simp
    exact hK _ _ (Below.refl _ _) hW rfl
  · intro a W K ho hW hpre hK
    have eg : a.tmps.getD 52 undef = .bool true := hpre ⟨19, .guard⟩ (by simp) rfl _ rfl
    rw [if_pos (wanted_at ho rfl rfl rfl (Nat.le_of_ble_eq_true rfl) eg)]
    clear eg
    have e0 : a.tmps.getD 53 undef = .int .i64 k := hpre ⟨20, .data⟩ (by simp) rfl _ rfl
    have e1 : a.tmps.getD 54 undef = .int .i64 k := hpre ⟨21, .data⟩ (by simp) rfl _ rfl
    go_simp
    exact hK _ _ (Below.refl _ _) hW rfl
  · intro a W K ho hW hpre hK
    rw [if_pos (wanted_none rfl)]
    have e0 : a.tmps.getD 52 undef = .bool true := hpre ⟨19, .data⟩ (by simp) rfl _ rfl
    have e1 : a.tmps.getD 55 undef = .bool true := hpre ⟨22, .data⟩ (by simp) rfl _ rfl
    go_simp
    exact hK _ _ (Below.refl _ _) hW rfl
  · intro a W K ho hW hpre hK
    rw [if_pos (wanted_none rfl)]
    have e0 : a.tmps.getD 56 undef = .bool true := hpre ⟨23, .data⟩ (by simp) rfl _ rfl
    go_simp
    exact hK _ _ (Below.refl _ _) hW rfl
  · intro a W K ho hW hpre hK
    have eg : a.tmps.getD 57 undef = .bool true := hpre ⟨24, .guard⟩ (by simp) rfl _ rfl
    rw [if_pos (wanted_at ho rfl rfl rfl (Nat.le_of_ble_eq_true rfl) eg)]
    clear eg
    have e0 : a.tmps.getD 7 undef = .slice A2 n2 c2 := ho.slot 7 (by decide)
    go_simp
    exact hK _ _ (Below.refl _ _) hW rfl
  · intro a W K ho hW hpre hK
    have eg : a.tmps.getD 57 undef = .bool true := hpre ⟨24, .guard⟩ (by simp) rfl _ rfl
    rw [if_pos (wanted_at ho rfl rfl rfl (Nat.le_of_ble_eq_true rfl) eg)]
    clear eg
    have e0 : a.tmps.getD 58 undef = .slice A2 n2 c2 := hpre ⟨25, .data⟩ (by simp) rfl _ rfl
    have hc := HV2.out W hW
    go_simp
    exact hK _ _ (Below.refl _ _) hW rfl
  · intro a W K ho hW hpre hK
    have eg : a.tmps.getD 57 undef = .bool true := hpre ⟨24, .guard⟩ (by simp) rfl _ rfl
    rw [if_pos (wanted_at ho rfl rfl rfl (Nat.le_of_ble_eq_true rfl) eg)]
    clear eg
    have e0 : a.tmps.getD 9 undef = .slice A3 n2 c3 := ho.slot 9 (by decide)
    go_simp
    exact hK _ _ (Below.refl _ _) hW rfl
  · intro a W K ho hW hpre hK
    have eg : a.tmps.getD 57 undef = .bool true := hpre ⟨24, .guard⟩ (by simp) rfl _ rfl
    rw [if_pos (wanted_at ho rfl rfl rfl (Nat.le_of_ble_eq_true rfl) eg)]
    clear eg
    have e0 : a.tmps.getD 60 undef = .slice A3 n2 c3 := hpre ⟨27, .data⟩ (by simp) rfl _ rfl
    have hc := HV3.out W hW
    go_simp
    exact hK _ _ (Below.refl _ _) hW rfl
  · intro a W K ho hW hpre hK
    have eg : a.tmps.getD 57 undef = .bool true := hpre ⟨24, .guard⟩ (by simp) rfl _ rfl
    rw [if_pos (wanted_at ho rfl rfl rfl (Nat.le_of_ble_eq_true rfl) eg)]
    clear eg
    have e0 : a.tmps.getD 59 undef = .string S := hpre ⟨26, .data⟩ (by simp) rfl _ rfl
    have e1 : a.tmps.getD 61 undef = .string S := hpre ⟨28, .data⟩ (by simp) rfl _ rfl
    go_simp
    exact hK _ _ (Below.refl _ _) hW rfl
  · intro a W K ho hW hpre hK
    rw [if_pos (wanted_none rfl)]
    have e0 : a.tmps.getD 57 undef = .bool true := hpre ⟨24, .data⟩ (by simp) rfl _ rfl
    have e1 : a.tmps.getD 62 undef = .bool true := hpre ⟨29, .data⟩ (by simp) rfl _ rfl
    go_simp
    exact hK _ _ (Below.refl _ _) hW rfl
  · intro a W K ho hW hpre hK
    rw [if_pos (wanted_none rfl)]
    have e0 : a.tmps.getD 63 undef = .bool true := hpre ⟨30, .data⟩ (by simp) rfl _ rfl
    go_simp
    exact hK _ _ (Below.refl _ _) hW rfl
  · intro a W K ho hW hpre hK
    have eg : a.tmps.getD 64 undef = .bool true := hpre ⟨31, .guard⟩ (by simp) rfl _ rfl
    rw [if_pos (wanted_at ho rfl rfl rfl (Nat.le_of_ble_eq_true rfl) eg)]
    clear eg
    have e0 : a.tmps.getD 3 undef = .pointer (some ⟨w.heap.size, 0, none⟩) := ho.slot 3 (by decide)
    obtain ⟨q0, q1, q2, q3, q4, q5, q6⟩ := (FA.out W hW).reads
    go_simp
    exact hK _ _ (Below.refl _ _) hW rfl
  · intro a W K ho hW hpre hK
    have eg : a.tmps.getD 64 undef = .bool true := hpre ⟨31, .guard⟩ (by simp) rfl _ rfl
    rw [if_pos (wanted_at ho rfl rfl rfl (Nat.le_of_ble_eq_true rfl) eg)]
    clear eg
    have e0 : a.tmps.getD 2 undef = .int .i64 x := ho.slot 2 (by decide)
    go_simp
    exact hK _ _ (Below.refl _ _) hW rfl
  · intro a W K ho hW hpre hK
    have eg : a.tmps.getD 64 undef = .bool true := hpre ⟨31, .guard⟩ (by simp) rfl _ rfl
    rw [if_pos (wanted_at ho rfl rfl rfl (Nat.le_of_ble_eq_true rfl) eg)]
    clear eg
    have e0 : a.tmps.getD 65 undef = .agg #[.slice A n c, .int .i64 p.skin, .int .i64 p.times, .int .i64 p.port, .int .i64 p.bid, .int .i64 p.lot, .int .i64 p.hedge] := hpre ⟨32, .data⟩ (by simp) rfl _ rfl
    have e1 : a.tmps.getD 66 undef = .int .i64 x := hpre ⟨33, .data⟩ (by simp) rfl _ rfl
    go_simp
    refine (CB.out _ (UP.out W hW)).mono ?_
    rintro e w5 ⟨v5, rfl, ho5, hb5⟩
    exact hK _ _ hb5 (hW.trans (hb5.mono hW.size)) (ownN_ints ho5)
  · intro a W K ho hW hpre hK
    have eg : a.tmps.getD 64 undef = .bool true := hpre ⟨31, .guard⟩ (by simp) rfl _ rfl
    rw [if_pos (wanted_at ho rfl rfl rfl (Nat.le_of_ble_eq_true rfl) eg)]
    clear eg
    have e0 : a.tmps.getD 3 undef = .pointer (some ⟨w.heap.size, 0, none⟩) := ho.slot 3 (by decide)
    obtain ⟨q0, q1, q2, q3, q4, q5, q6⟩ := (FA.out W hW).reads
    go_simp
    exact hK _ _ (Below.refl _ _) hW rfl
  · intro a W K ho hW hpre hK
    have eg : a.tmps.getD 64 undef = .bool true := hpre ⟨31, .guard⟩ (by simp) rfl _ rfl
    rw [if_pos (wanted_at ho rfl rfl rfl (Nat.le_of_ble_eq_true rfl) eg)]
    clear eg
    have e0 : a.tmps.getD 2 undef = .int .i64 x := ho.slot 2 (by decide)
    go_simp
    exact hK _ _ (Below.refl _ _) hW rfl
  · intro a W K ho hW hpre hK
    have eg : a.tmps.getD 64 undef = .bool true := hpre ⟨31, .guard⟩ (by simp) rfl _ rfl
    rw [if_pos (wanted_at ho rfl rfl rfl (Nat.le_of_ble_eq_true rfl) eg)]
    clear eg
    have e0 : a.tmps.getD 68 undef = .agg #[.slice A n c, .int .i64 p.skin, .int .i64 p.times, .int .i64 p.port, .int .i64 p.bid, .int .i64 p.lot, .int .i64 p.hedge] := hpre ⟨35, .data⟩ (by simp) rfl _ rfl
    have e1 : a.tmps.getD 69 undef = .int .i64 x := hpre ⟨36, .data⟩ (by simp) rfl _ rfl
    go_simp
    refine (CC.out _ (UP.out W hW)).mono ?_
    rintro e w5 ⟨v5, rfl, ho5, hb5⟩
    exact hK _ _ hb5 (hW.trans (hb5.mono hW.size)) (ownN_ints ho5)
  · intro a W K ho hW hpre hK
    have eg : a.tmps.getD 64 undef = .bool true := hpre ⟨31, .guard⟩ (by simp) rfl _ rfl
    rw [if_pos (wanted_at ho rfl rfl rfl (Nat.le_of_ble_eq_true rfl) eg)]
    clear eg
    have e0 : ((SpP.nat LN)).p (a.tmps.getD 67 undef) W := hpre ⟨34, .data⟩ (by simp) rfl _ rfl
    have e1 : ((SpP.nat LN)).p (a.tmps.getD 70 undef) W := hpre ⟨37, .data⟩ (by simp) rfl _ rfl
    obtain ⟨A1, c1, e0x, h1⟩ := e0
    obtain ⟨A4, c4, e1x, h4⟩ := e1
    go_simp
    refine (CN.out A1 c1 A4 c4 W h1 h4).mono ?_
    rintro e w5 ⟨rfl, hb5⟩
    exact hK _ _ hb5 (hW.trans (hb5.mono hW.size)) rfl
  · intro a W K ho hW hpre hK
    rw [if_pos (wanted_none rfl)]
    have e0 : a.tmps.getD 64 undef = .bool true := hpre ⟨31, .data⟩ (by simp) rfl _ rfl
    have e1 : a.tmps.getD 71 undef = .bool true := hpre ⟨38, .data⟩ (by simp) rfl _ rfl
    go_simp
    exact hK _ _ (Below.refl _ _) hW rfl
  · intro a W K ho hW hpre hK
    rw [if_pos (wanted_none rfl)]
    have e0 : a.tmps.getD 72 undef = .bool true := hpre ⟨39, .data⟩ (by simp) rfl _ rfl
    go_simp
    exact hK _ _ (Below.refl _ _) hW rfl
  · intro a W ho hW hall
    have e8 : a.tmps.getD 6 undef = .bool true := hall 40 _ rfl
    have hdf : a.defers = [] := ho.defers
    have HW := Lib.hid (UP.out W hW)
    clear hall hW ho
    rename_i hKK
    refine hKK _ _ ?_
    refine wp_ret ?_
    refine bodyPost_ret (v := .bool true) ?_ hdf ⟨rfl, HW.out⟩
    rw [results_tmp rfl, e8]
end Go.Proofs.Ytldceocbmmidmaa
