/-
  The walk of novationlaw6.EventBack.
-/
import Derived.Test.YtincelegepafcaaDk10
import Derived.Test.YtincelegepafcaaKnown6
namespace Go.Proofs.Ytincelegepafcaa
open Go Go.RowKit
set_option linter.unusedVariables false

set_option maxRecDepth 100000 in
set_option maxHeartbeats 4000000 in
theorem eback_walk (A : Option Addr) (l : List Int) (c n : Nat) (hk : n = l.length) (w : World) (hn : Nums w A l) : Calls Try.prog 6 #[.slice A n c] w fun r w' => r = .returned (.bool true) ∧ Below w.heap.size w w' := by
  have CK := Lib.hid (known_any w)
  have CO := Lib.hid (fun W (h : Below w.heap.size w W) => deck_of w W A l c n hk hn h)
  clear hn hk
  go_enter Try.func6, Try.ntmps6
  go_wp2_with (first
    | (go_at_call 9; (with_reducible refine CK.out.mono ?_); rintro r w1 ⟨rfl, hb1⟩; have HB1 := Lib.hid hb1; clear hb1)
    | (go_at_call 16; (with_reducible refine (CO.out _ HB1.out).mono ?_); rintro r w2 ⟨rfl, hd2⟩; have HD2 := Lib.hid hd2; clear hd2)
    | (go_at_call 18; (with_reducible refine (deck_config w _ A l c _ 0 HD2.out (by omega)).mono ?_); rintro r w3 ⟨cf, v, rfl, hcf, ho3, hd3, ht3⟩; have HC3 := Lib.hid (CfgIn.of hcf ho3 hd3); have HD3 := Lib.hid hd3; clear ho3 hd3 ht3)
    | (go_at_call 17; (with_reducible refine (deck_event w _ A l c _ (0 + 60) HD3.out (by omega) cf v HC3.out).mono ?_); rintro r w4 ⟨e, rfl, hok, hrt, hd4, ht4⟩; have HB4 := Lib.hid hd4.below; obtain ⟨L, KK, n5, hpe, hro, hob, hn5, hps, hL, hz, hKe, hK22⟩ := drawn_facts hok hrt; have CP := Lib.hid (fun W => pput_any e hok W); rw [hpe] at CP; dsimp only at CP; have HRO := Lib.hid hro; have HOB := Lib.hid hob; have HZ := Lib.hid hz; have HN5 := Lib.hid hn5; clear hd4 ht4 HD3 HC3 hok hrt hpe hro hob hn5 hz; unfold Ev.v at CP ⊢; have H4 : Hid (EvAt (w4.alloc (.cells #[.int .i64 e.kind, .int .i64 e.member, .int .i64 e.acc, .int .i64 e.inst, .int .i64 e.side, .int .i64 e.id, .int .i64 e.q, .int .i64 e.p] 23)) w4.heap.size e) := (Lib.hid (Rec.new w4 _ e.cells _ rfl)); have HB4' : Hid (Below w.heap.size w (w4.alloc (.cells #[.int .i64 e.kind, .int .i64 e.member, .int .i64 e.acc, .int .i64 e.inst, .int .i64 e.side, .int .i64 e.id, .int .i64 e.q, .int .i64 e.p] 23))) := (Lib.hid (HB4.out.alloc HB4.out.size _)))
    | (go_at_call 10; (with_reducible refine (CP.out _).mono ?_); rintro r w5 ⟨v5, rfl, ho5, hb5⟩; have H5 := Lib.hid (H4.out.keep hb5); have HB5 := Lib.hid (HB4'.out.trans (hb5.mono HB4'.out.size)); (obtain ⟨A5, c5, rfl, hy5, hc5, hj5⟩ := ho5.form); have HY5 := Lib.hid hy5; have CR := Lib.hid (pread_any A5 L c5 w5 hy5 HOB.out (by rw [← HN5.out]; omega) hc5); rw [HRO.out] at CR; unfold EvC at CR; dsimp only at CR; unfold Ev.v at CR; rw [← HN5.out] at CR ⊢; clear ho5 hb5 hy5 hc5 hj5)
    | (go_at_call 20; (with_reducible refine CR.out.mono ?_); rintro r w6 ⟨rfl, hb6⟩; have H6 := Lib.hid (H5.out.keep hb6); have HB6 := Lib.hid (HB5.out.trans (hb6.mono HB5.out.size)); have HY6 := Lib.hid (HY5.out.below hb6); clear hb6))
  have H7 : Hid (EvAt (w6.alloc (.cells #[.int .i64 e.kind, .int .i64 e.member, .int .i64 e.acc, .int .i64 e.inst, .int .i64 e.side, .int .i64 e.id, .int .i64 e.q, .int .i64 e.p] 23)) w6.heap.size e) := Lib.hid (Rec.new w6 _ e.cells _ rfl)
  have H7' : Hid (EvAt (w6.alloc (.cells #[.int .i64 e.kind, .int .i64 e.member, .int .i64 e.acc, .int .i64 e.inst, .int .i64 e.side, .int .i64 e.id, .int .i64 e.q, .int .i64 e.p] 23)) w4.heap.size e) := Lib.hid (H6.out.keep ((Below.refl _ _).alloc (Nat.le_refl _) _))
  have HB7 : Hid (Below w.heap.size w (w6.alloc (.cells #[.int .i64 e.kind, .int .i64 e.member, .int .i64 e.acc, .int .i64 e.inst, .int .i64 e.side, .int .i64 e.id, .int .i64 e.q, .int .i64 e.p] 23))) := Lib.hid (HB6.out.alloc HB6.out.size _)
  have HY7 : Hid (Byts (w6.alloc (.cells #[.int .i64 e.kind, .int .i64 e.member, .int .i64 e.acc, .int .i64 e.inst, .int .i64 e.side, .int .i64 e.id, .int .i64 e.q, .int .i64 e.p] 23)) A5 L) := Lib.hid (HY6.out.below ((Below.refl _ _).alloc (Nat.le_refl _) _))
  obtain ⟨bb, off, rfl, hj7⟩ := HY7.out (by rw [← HN5.out]; exact hps)
  have FE : Hid (∀ W, Below (w6.alloc (.cells #[.int .i64 e.kind, .int .i64 e.member, .int .i64 e.acc, .int .i64 e.inst, .int .i64 e.side, .int .i64 e.id, .int .i64 e.q, .int .i64 e.p] 23)).heap.size (w6.alloc (.cells #[.int .i64 e.kind, .int .i64 e.member, .int .i64 e.acc, .int .i64 e.inst, .int .i64 e.side, .int .i64 e.id, .int .i64 e.q, .int .i64 e.p] 23)) W → EvAt W w6.heap.size e ∧ EvAt W w4.heap.size e ∧ W.cell? ⟨bb, off, none⟩ = some (.int .u8 (KK : Int))) := Lib.hid (fun W hW => ⟨H7.out.keep hW, H7'.out.keep hW, by
    obtain ⟨b', o', e', hc⟩ := (HY7.out.below hW).zero (by rw [← HN5.out]; exact hps)
    injection e' with e'; injection e' with e1 e2; subst e1; subst e2
    rw [HZ.out] at hc
    exact hc⟩)
  have heq : ∀ W : World, (binOp .eql 23 (.agg #[.int .i64 e.kind, .int .i64 e.member, .int .i64 e.acc, .int .i64 e.inst, .int .i64 e.side, .int .i64 e.id, .int .i64 e.q, .int .i64 e.p]) (.agg #[.int .i64 e.kind, .int .i64 e.member, .int .i64 e.acc, .int .i64 e.inst, .int .i64 e.side, .int .i64 e.id, .int .i64 e.q, .int .i64 e.p])).run Try.prog W = .ok (.bool true) W := fun W => by
    have := run_ev_eq e e W
    unfold Ev.v at this
    rw [this]; simp
  have HEQ := Lib.hid heq
  clear hj7 heq H4 HB4 HB4' CP CR H5 HB5 HY5 H6 HB6 HY6 H7 H7' HY7 CK CO HD2 HB1
  refine wp_region_dag [27, 28, 29, 30, 31, 32, 33, 34, 35, 36, 37, 38, 39, 40, 41, 42, 43, 44, 45, 46, 47, 48, 49, 50, 51, 2] (fun W W' => Below W.heap.size W W') (fun W => Below (w6.alloc (.cells #[.int .i64 e.kind, .int .i64 e.member, .int .i64 e.acc, .int .i64 e.inst, .int .i64 e.side, .int .i64 e.id, .int .i64 e.q, .int .i64 e.p] 23)).heap.size (w6.alloc (.cells #[.int .i64 e.kind, .int .i64 e.member, .int .i64 e.acc, .int .i64 e.inst, .int .i64 e.side, .int .i64 e.id, .int .i64 e.q, .int .i64 e.p] 23)) W) (spAt [.val (.int .i64 0), .val (.bool true), .val (.bool true), .val (.int .i64 0), .val (.bool true), .val (.bool true), .val (.bool true), .val (.agg #[.int .i64 e.kind, .int .i64 e.member, .int .i64 e.acc, .int .i64 e.inst, .int .i64 e.side, .int .i64 e.id, .int .i64 e.q, .int .i64 e.p]), .val (.agg #[.int .i64 e.kind, .int .i64 e.member, .int .i64 e.acc, .int .i64 e.inst, .int .i64 e.side, .int .i64 e.id, .int .i64 e.q, .int .i64 e.p]), .val (.bool true), .val (.bool true), .val (.bool true), .val (.slice (some ⟨bb, off, none⟩) n5 c5), .val (.int .i64 (n5 : Int)), .val (.bool true), .val (.bool true), .val (.bool true), .val (.slice (some ⟨bb, off, none⟩) n5 c5), .val (.pointer (some ⟨bb, off, none⟩)), .val (.int .u8 e.kind), .val (.int .i64 e.kind), .val (.pointer (some ⟨w4.heap.size, 0, none⟩)), .val (.int .i64 e.kind), .val (.bool true), .val (.bool true), .val (.bool true)]) rfl rfl rfl rfl (spAt_st _) ((Below.refl _ _).drew) ⟨?_, ?_, ?_, ?_, ?_, ?_, ?_, ?_, ?_, ?_, ?_, ?_, ?_, ?_, ?_, ?_, ?_, ?_, ?_, ?_, ?_, ?_, ?_, ?_, ?_, ?_, trivial⟩ ?_
  · intro a W K ho hW hpre hK
    rw [if_pos (wanted_none rfl)]
    have e0 : a.tmps.getD 6 undef = .int .i64 0 := ho.slot 6 (by decide)
    go_simp
    exact hK _ _ (Below.refl _ _) hW rfl
  · intro a W K ho hW hpre hK
    rw [if_pos (wanted_none rfl)]
    have e0 : a.tmps.getD 27 undef = .int .i64 0 := hpre ⟨0, .data⟩ (by simp) rfl _ rfl
    go_simp
    exact hK _ _ (Below.refl _ _) hW rfl
  · intro a W K ho hW hpre hK
    rw [if_pos (wanted_none rfl)]
    have e0 : a.tmps.getD 28 undef = .bool true := hpre ⟨1, .data⟩ (by simp) rfl _ rfl
    go_simp
    exact hK _ _ (Below.refl _ _) hW rfl
  · intro a W K ho hW hpre hK
    have eg : a.tmps.getD 29 undef = .bool true := hpre ⟨2, .guard⟩ (by simp) rfl _ rfl
    rw [if_pos (wanted_at ho rfl rfl rfl (Nat.le_of_ble_eq_true rfl) eg)]
    clear eg
    have e0 : a.tmps.getD 8 undef = .int .i64 0 := ho.slot 8 (by decide)
    go_simp
    exact hK _ _ (Below.refl _ _) hW rfl
  · intro a W K ho hW hpre hK
    have eg : a.tmps.getD 29 undef = .bool true := hpre ⟨2, .guard⟩ (by simp) rfl _ rfl
    rw [if_pos (wanted_at ho rfl rfl rfl (Nat.le_of_ble_eq_true rfl) eg)]
    clear eg
    have e0 : a.tmps.getD 30 undef = .int .i64 0 := hpre ⟨3, .data⟩ (by simp) rfl _ rfl
    go_simp
    exact hK _ _ (Below.refl _ _) hW rfl
  · intro a W K ho hW hpre hK
    rw [if_pos (wanted_none rfl)]
    have e0 : a.tmps.getD 29 undef = .bool true := hpre ⟨2, .data⟩ (by simp) rfl _ rfl
    have e1 : a.tmps.getD 31 undef = .bool true := hpre ⟨4, .data⟩ (by simp) rfl _ rfl
    go_simp
    exact hK _ _ (Below.refl _ _) hW rfl
  · intro a W K ho hW hpre hK
    rw [if_pos (wanted_none rfl)]
    have e0 : a.tmps.getD 32 undef = .bool true := hpre ⟨5, .data⟩ (by simp) rfl _ rfl
    go_simp
    exact hK _ _ (Below.refl _ _) hW rfl
  · intro a W K ho hW hpre hK
    have eg : a.tmps.getD 33 undef = .bool true := hpre ⟨6, .guard⟩ (by simp) rfl _ rfl
    rw [if_pos (wanted_at ho rfl rfl rfl (Nat.le_of_ble_eq_true rfl) eg)]
    clear eg
    have e0 : a.tmps.getD 7 undef = .pointer (some ⟨w6.heap.size, 0, none⟩) := ho.slot 7 (by decide)
    obtain ⟨c0, c1, c2, c3, c4, c5, c6, c7⟩ := (FE.out W hW).1.reads
    go_simp
    exact hK _ _ (Below.refl _ _) hW rfl
  · intro a W K ho hW hpre hK
    have eg : a.tmps.getD 33 undef = .bool true := hpre ⟨6, .guard⟩ (by simp) rfl _ rfl
    rw [if_pos (wanted_at ho rfl rfl rfl (Nat.le_of_ble_eq_true rfl) eg)]
    clear eg
    have e0 : a.tmps.getD 4 undef = .pointer (some ⟨w4.heap.size, 0, none⟩) := ho.slot 4 (by decide)
    obtain ⟨c0, c1, c2, c3, c4, c5, c6, c7⟩ := (FE.out W hW).2.1.reads
    go_simp
    exact hK _ _ (Below.refl _ _) hW rfl
  · intro a W K ho hW hpre hK
    have eg : a.tmps.getD 33 undef = .bool true := hpre ⟨6, .guard⟩ (by simp) rfl _ rfl
    rw [if_pos (wanted_at ho rfl rfl rfl (Nat.le_of_ble_eq_true rfl) eg)]
    clear eg
    have e0 : a.tmps.getD 34 undef = .agg #[.int .i64 e.kind, .int .i64 e.member, .int .i64 e.acc, .int .i64 e.inst, .int .i64 e.side, .int .i64 e.id, .int .i64 e.q, .int .i64 e.p] := hpre ⟨7, .data⟩ (by simp) rfl _ rfl
    have e1 : a.tmps.getD 35 undef = .agg #[.int .i64 e.kind, .int .i64 e.member, .int .i64 e.acc, .int .i64 e.inst, .int .i64 e.side, .int .i64 e.id, .int .i64 e.q, .int .i64 e.p] := hpre ⟨8, .data⟩ (by simp) rfl _ rfl
    have hq := HEQ.out W
    go_simp
    exact hK _ _ (Below.refl _ _) hW rfl
  · intro a W K ho hW hpre hK
    rw [if_pos (wanted_none rfl)]
    have e0 : a.tmps.getD 33 undef = .bool true := hpre ⟨6, .data⟩ (by simp) rfl _ rfl
    have e1 : a.tmps.getD 36 undef = .bool true := hpre ⟨9, .data⟩ (by simp) rfl _ rfl
    go_simp
    exact hK _ _ (Below.refl _ _) hW rfl
  · intro a W K ho hW hpre hK
    rw [if_pos (wanted_none rfl)]
    have e0 : a.tmps.getD 37 undef = .bool true := hpre ⟨10, .data⟩ (by simp) rfl _ rfl
    go_simp
    exact hK _ _ (Below.refl _ _) hW rfl
  · intro a W K ho hW hpre hK
    have eg : a.tmps.getD 38 undef = .bool true := hpre ⟨11, .guard⟩ (by simp) rfl _ rfl
    rw [if_pos (wanted_at ho rfl rfl rfl (Nat.le_of_ble_eq_true rfl) eg)]
    clear eg
    have e0 : a.tmps.getD 5 undef = .slice (some ⟨bb, off, none⟩) n5 c5 := ho.slot 5 (by decide)
    go_simp
    exact hK _ _ (Below.refl _ _) hW rfl
  · intro a W K ho hW hpre hK
    have eg : a.tmps.getD 38 undef = .bool true := hpre ⟨11, .guard⟩ (by simp) rfl _ rfl
    rw [if_pos (wanted_at ho rfl rfl rfl (Nat.le_of_ble_eq_true rfl) eg)]
    clear eg
    have e0 : a.tmps.getD 39 undef = .slice (some ⟨bb, off, none⟩) n5 c5 := hpre ⟨12, .data⟩ (by simp) rfl _ rfl
    go_simp
    exact hK _ _ (Below.refl _ _) hW rfl
  · intro a W K ho hW hpre hK
    have eg : a.tmps.getD 38 undef = .bool true := hpre ⟨11, .guard⟩ (by simp) rfl _ rfl
    rw [if_pos (wanted_at ho rfl rfl rfl (Nat.le_of_ble_eq_true rfl) eg)]
    clear eg
    have e0 : a.tmps.getD 40 undef = .int .i64 (n5 : Int) := hpre ⟨13, .data⟩ (by simp) rfl _ rfl
    have hp : (0 : Int) < (n5 : Int) := by omega
    have hd : decide ((0 : Int) < (n5 : Int)) = true := decide_eq_true hp
    go_simp
    exact hK _ _ (Below.refl _ _) hW (by first | rfl | (show Value.bool _ = Value.bool true; first | (simp; done) | (simp; omega) | (congr 1)))
  · intro a W K ho hW hpre hK
    rw [if_pos (wanted_none rfl)]
    have e0 : a.tmps.getD 38 undef = .bool true := hpre ⟨11, .data⟩ (by simp) rfl _ rfl
    have e1 : a.tmps.getD 41 undef = .bool true := hpre ⟨14, .data⟩ (by simp) rfl _ rfl
    go_simp
    exact hK _ _ (Below.refl _ _) hW rfl
  · intro a W K ho hW hpre hK
    rw [if_pos (wanted_none rfl)]
    have e0 : a.tmps.getD 42 undef = .bool true := hpre ⟨15, .data⟩ (by simp) rfl _ rfl
    go_simp
    exact hK _ _ (Below.refl _ _) hW rfl
  · intro a W K ho hW hpre hK
    have eg : a.tmps.getD 43 undef = .bool true := hpre ⟨16, .guard⟩ (by simp) rfl _ rfl
    rw [if_pos (wanted_at ho rfl rfl rfl (Nat.le_of_ble_eq_true rfl) eg)]
    clear eg
    have e0 : a.tmps.getD 5 undef = .slice (some ⟨bb, off, none⟩) n5 c5 := ho.slot 5 (by decide)
    go_simp
    exact hK _ _ (Below.refl _ _) hW rfl
  · intro a W K ho hW hpre hK
    have eg : a.tmps.getD 43 undef = .bool true := hpre ⟨16, .guard⟩ (by simp) rfl _ rfl
    rw [if_pos (wanted_at ho rfl rfl rfl (Nat.le_of_ble_eq_true rfl) eg)]
    clear eg
    have e0 : a.tmps.getD 44 undef = .slice (some ⟨bb, off, none⟩) n5 c5 := hpre ⟨17, .data⟩ (by simp) rfl _ rfl
    go_simp
    exact hK _ _ (Below.refl _ _) hW rfl
  · intro a W K ho hW hpre hK
    have eg : a.tmps.getD 43 undef = .bool true := hpre ⟨16, .guard⟩ (by simp) rfl _ rfl
    rw [if_pos (wanted_at ho rfl rfl rfl (Nat.le_of_ble_eq_true rfl) eg)]
    clear eg
    have e0 : a.tmps.getD 45 undef = .pointer (some ⟨bb, off, none⟩) := hpre ⟨18, .data⟩ (by simp) rfl _ rfl
    have hc := (FE.out W hW).2.2
    go_simp
    exact hK _ _ (Below.refl _ _) hW rfl
  · intro a W K ho hW hpre hK
    have eg : a.tmps.getD 43 undef = .bool true := hpre ⟨16, .guard⟩ (by simp) rfl _ rfl
    rw [if_pos (wanted_at ho rfl rfl rfl (Nat.le_of_ble_eq_true rfl) eg)]
    clear eg
    have e0 : a.tmps.getD 46 undef = .int .u8 e.kind := hpre ⟨19, .data⟩ (by simp) rfl _ rfl
    have hw : IntKind.i64.wrap e.kind = e.kind := wrap_id (by unfold I64; omega)
    go_simp
    exact hK _ _ (Below.refl _ _) hW rfl
  · intro a W K ho hW hpre hK
    have eg : a.tmps.getD 43 undef = .bool true := hpre ⟨16, .guard⟩ (by simp) rfl _ rfl
    rw [if_pos (wanted_at ho rfl rfl rfl (Nat.le_of_ble_eq_true rfl) eg)]
    clear eg
    have e0 : a.tmps.getD 4 undef = .pointer (some ⟨w4.heap.size, 0, none⟩) := ho.slot 4 (by decide)
    go_simp
    exact hK _ _ (Below.refl _ _) hW rfl
  · intro a W K ho hW hpre hK
    have eg : a.tmps.getD 43 undef = .bool true := hpre ⟨16, .guard⟩ (by simp) rfl _ rfl
    rw [if_pos (wanted_at ho rfl rfl rfl (Nat.le_of_ble_eq_true rfl) eg)]
    clear eg
    have e0 : a.tmps.getD 48 undef = .pointer (some ⟨w4.heap.size, 0, none⟩) := hpre ⟨21, .data⟩ (by simp) rfl _ rfl
    obtain ⟨c0, _⟩ := (FE.out W hW).2.1.reads
    go_simp
    exact hK _ _ (Below.refl _ _) hW rfl
  · intro a W K ho hW hpre hK
    have eg : a.tmps.getD 43 undef = .bool true := hpre ⟨16, .guard⟩ (by simp) rfl _ rfl
    rw [if_pos (wanted_at ho rfl rfl rfl (Nat.le_of_ble_eq_true rfl) eg)]
    clear eg
    have e0 : a.tmps.getD 47 undef = .int .i64 e.kind := hpre ⟨20, .data⟩ (by simp) rfl _ rfl
    have e1 : a.tmps.getD 49 undef = .int .i64 e.kind := hpre ⟨22, .data⟩ (by simp) rfl _ rfl
    go_simp
    exact hK _ _ (Below.refl _ _) hW rfl
  · intro a W K ho hW hpre hK
    rw [if_pos (wanted_none rfl)]
    have e0 : a.tmps.getD 43 undef = .bool true := hpre ⟨16, .data⟩ (by simp) rfl _ rfl
    have e1 : a.tmps.getD 50 undef = .bool true := hpre ⟨23, .data⟩ (by simp) rfl _ rfl
    go_simp
    exact hK _ _ (Below.refl _ _) hW rfl
  · intro a W K ho hW hpre hK
    rw [if_pos (wanted_none rfl)]
    have e0 : a.tmps.getD 51 undef = .bool true := hpre ⟨24, .data⟩ (by simp) rfl _ rfl
    go_simp
    exact hK _ _ (Below.refl _ _) hW rfl
  · intro a W ho hW hall
    have e8 : a.tmps.getD 2 undef = .bool true := hall 25 _ rfl
    have hdf : a.defers = [] := ho.defers
    have HW := Lib.hid (HB7.out.trans (hW.mono HB7.out.size))
    clear hall hW ho
    rename_i hKK
    refine hKK _ _ ?_
    refine wp_ret ?_
    refine bodyPost_ret (v := .bool true) ?_ hdf ⟨rfl, HW.out⟩
    rw [results_tmp rfl, e8]
end Go.Proofs.Ytincelegepafcaa
