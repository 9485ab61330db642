/-
  The walk of novationlaw8.WireTexts.
-/
import Derived.Test.YtjkbnljjmbfmiaaDoorDk10
import Derived.Test.YtjkbnljjmbfmiaaDoorKnown8
import Derived.Test.YtjkbnljjmbfmiaaDoorRt1
namespace Go.Proofs.YtjkbnljjmbfmiaaDoor
open Go Go.RowKit
set_option linter.unusedVariables false

theorem Nums.belowN {w w' : World} {A : Option Addr} {l : List Int} (h : Nums w A l) (hb : Below w.heap.size w w') : Nums w' A l := ⟨h.ints.below hb, h.u64, h.len⟩
/-- What both tell of an event. -/
theorem text_both (e : Ev) (ok : e.Ok) (w : World) (hw : Laid w) : ∃ (s : ByteArray) (c : Int), (∀ W, Below w.heap.size w W → Calls Tryd.prog 13 #[e.v] W fun r w' => r = .returned (.tuple #[.string s, .int .i64 c]) ∧ Below W.heap.size W w') ∧ (∀ W, Calls Tryd.prog 14 #[e.v] W fun r w' => r = .returned (.tuple #[.string s, .int .i64 c]) ∧ Below W.heap.size W w') := by
  cases hr : rightE e with
  | false => exact ⟨bstr [], 1, fun W _ => wtext_no e hr W, fun W => rtext_no e hr W⟩
  | true => exact ⟨bstr (textL e), 0, fun W hW => wtext_yes e ok hr W (hw.keep hW), fun W => rtext_yes e ok hr W⟩
set_option maxRecDepth 100000 in
set_option maxHeartbeats 8000000 in
theorem wtexts_walk (e : Ev) (ok : e.Ok) (kind : Int) (A : Option Addr) (l : List Int) (c n : Nat) (hk : n = l.length) (w0 : World) (hn : Nums w0 A l) (hw : Laid w0) : Calls Tryd.prog 3 #[e.v, .int .i64 kind, .slice A n c] w0 fun r w' => r = .returned (.bool true) ∧ Below w0.heap.size w0 w' := by
  have HB00 := Lib.hid ((Below.refl w0.heap.size w0).alloc (Nat.le_refl _) (.cells e.cells.toArray 23))
  have HE00 : Hid (EvAt (w0.alloc (.cells e.cells.toArray 23)) w0.heap.size e) := Lib.hid (Rec.new w0 _ e.cells _ rfl)
  obtain ⟨w, hwz⟩ : ∃ w, w = w0.alloc (.cells e.cells.toArray 23) := ⟨_, rfl⟩
  rw [← hwz] at HB00 HE00
  have HLW := Lib.hid (hw.keep HB00.out)
  have hnw := hn.belowN HB00.out
  have CK := Lib.hid (known8 w HLW.out)
  have CO := Lib.hid (fun W (h : Below w.heap.size w W) => deck_of w W A l c n hk hnw h)
  obtain ⟨S1, cE, CT0, CR0⟩ := text_both e ok w HLW.out
  have CT := Lib.hid CT0
  have CR := Lib.hid CR0
  obtain ⟨q0, hq0⟩ : ∃ q, q = w0.heap.size := ⟨_, rfl⟩
  have hqe : Hid (w0.alloc (.cells #[.int .i64 e.kind, .int .i64 e.member, .int .i64 e.acc, .int .i64 e.inst, .int .i64 e.side, .int .i64 e.id, .int .i64 e.q, .int .i64 e.p] 23) = w) := Lib.hid hwz.symm
  rw [← hq0] at HE00
  have HQ := Lib.hid hq0
  unfold Ev.v at CT CR
  clear hn hk hw hnw CT0 CR0 ok hwz hq0
  unfold Ev.v
  go_enter Tryd.func3, Tryd.ntmps3
  go_wp2_with (first
    | (go_at_call 9; rw [hqe.out, ← HQ.out]; (with_reducible refine CK.out.mono ?_); rintro r w1 ⟨rfl, hb1⟩; have HB1 := Lib.hid hb1; clear hb1 CK)
    | (go_at_call 10; (with_reducible refine (CO.out _ HB1.out).mono ?_); rintro r w2 ⟨rfl, hd2⟩; have HD2 := Lib.hid hd2; clear hd2 CO)
    | (go_at_call 12; (with_reducible refine (deck_config w _ A l c _ 0 HD2.out (by omega)).mono ?_); rintro r w3 ⟨cf, v, rfl, hcf, ho3, hd3, ht3⟩; have HC3 := Lib.hid (CfgIn.of hcf ho3 hd3); have HD3 := Lib.hid hd3; clear ho3 hd3 ht3)
    | (go_at_call 11; (with_reducible refine (deck_event w _ A l c _ (0 + 60) HD3.out (by omega) cf v HC3.out).mono ?_); rintro r w4 ⟨x, rfl, hok, hrt, hd4, ht4⟩; simp only [Ev.v]; have HB4a := Lib.hid hd4.below; have HB4 := Lib.hid (HB4a.out.alloc HB4a.out.size (.cells x.cells.toArray 23)); have CX := Lib.hid (fun W (h : Below w.heap.size w W) => wtext_yes x hok hrt W (HLW.out.keep h)); have CY := Lib.hid (fun W => rtext_yes x hok hrt W); have C5 := Lib.hid (fun W => wword_any x.kind W); have C6 := Lib.hid (fun W => word_any x.kind W); unfold TextK at CX; unfold RTextK at CY; have H4 : Hid (EvAt (w4.alloc (.cells x.cells.toArray 23)) w4.heap.size x) := (Lib.hid (Rec.new w4 _ x.cells _ rfl)); have HE4 := Lib.hid (HE00.out.keep HB4.out); (obtain ⟨c0, c1, c2, c3, c4, c5, c6, c7⟩ := HE4.out.reads); (obtain ⟨S2, hS2⟩ : ∃ z, z = bstr (textL x) := ⟨_, rfl⟩); rw [← hS2] at CX CY; (obtain ⟨K2, hK2⟩ : ∃ z, z = bstr (wordOf x.kind) := ⟨_, rfl⟩); rw [← hK2] at C5 C6; simp only [Ev.v, Ev.cells] at CX CY HB4 H4 c0 c1 c2 c3 c4 c5 c6 c7; clear hd4 ht4 HD3 HC3 hok hrt hS2 hK2 HD2)
    | (go_at_call 13; (with_reducible refine (CX.out _ HB6.out).mono ?_); rintro r w7 ⟨rfl, hb7⟩; have HB7 := Lib.hid (HB6.out.trans (hb7.mono HB6.out.size)); have H7 := Lib.hid (H6.out.keep hb7); (obtain ⟨c0, c1, c2, c3, c4, c5, c6, c7⟩ := H7.out.reads); clear hb7 HB6 H6)
    | (go_at_call 14; (with_reducible refine (CY.out _).mono ?_); rintro r w8 ⟨rfl, hb8⟩; have HB8 := Lib.hid (HB7.out.trans (hb8.mono HB7.out.size)); have H8 := Lib.hid (H7.out.keep hb8); clear hb8)
    | (go_at_call 13; (with_reducible refine (CT.out _ HB4.out).mono ?_); rintro r w5 ⟨rfl, hb5⟩; have HB5 := Lib.hid (HB4.out.trans (hb5.mono HB4.out.size)); have H5 := Lib.hid (H4.out.keep hb5); have HE5 := Lib.hid (HE4.out.keep hb5); clear c0 c1 c2 c3 c4 c5 c6 c7; (obtain ⟨c0, c1, c2, c3, c4, c5, c6, c7⟩ := HE5.out.reads); clear hb5)
    | (go_at_call 14; (with_reducible refine (CR.out _).mono ?_); rintro r w6 ⟨rfl, hb6⟩; have HB6 := Lib.hid (HB5.out.trans (hb6.mono HB5.out.size)); have H6 := Lib.hid (H5.out.keep hb6); clear c0 c1 c2 c3 c4 c5 c6 c7; (obtain ⟨c0, c1, c2, c3, c4, c5, c6, c7⟩ := H6.out.reads); clear hb6 HE5 H5 HB5))
  clear c0 c1 c2 c3 c4 c5 c6 c7
  generalize w4.heap.size = b8 at *
  have FE : Hid (∀ W, Below w8.heap.size w8 W → EvAt W b8 x) := Lib.hid (fun W hW => H8.out.keep hW)
  have C3 := Lib.hid (fun W => wword_any kind W)
  have C4 := Lib.hid (fun W => word_any kind W)
  generalize bstr (wordOf kind) = K1 at *
  refine wp_region_dag [45, 46, 47, 48, 49, 50, 51, 52, 53, 54, 55, 56, 57, 58, 59, 60, 61, 62, 63, 64, 65, 66, 67, 68, 69, 70, 71, 72, 73, 74, 75, 76, 77, 78, 6] (fun W W' => Below W.heap.size W W') (fun W => Below w8.heap.size w8 W) (spAt [.val (.string S1), .val (.string S1), .val (.bool true), .val (.bool true), .val (.int .i64 cE), .val (.int .i64 cE), .val (.bool true), .val (.bool true), .val (.bool true), .val (.string S2), .val (.string S2), .val (.bool true), .val (.bool true), .val (.bool true), .val (.int .i64 0), .val (.int .i64 0), .val (.bool true), .val (.bool true), .val (.bool true), .val (.int .i64 kind), .val (.string K1), .val (.int .i64 kind), .val (.string K1), .val (.bool true), .val (.bool true), .val (.bool true), .val (.pointer (some ⟨b8, 0, none⟩)), .val (.int .i64 x.kind), .val (.string K2), .val (.pointer (some ⟨b8, 0, none⟩)), .val (.int .i64 x.kind), .val (.string K2), .val (.bool true), .val (.bool true), .val (.bool true)]) rfl rfl rfl rfl (spAt_st _) ((Below.refl _ _).drew) ⟨?_, ?_, ?_, ?_, ?_, ?_, ?_, ?_, ?_, ?_, ?_, ?_, ?_, ?_, ?_, ?_, ?_, ?_, ?_, ?_, ?_, ?_, ?_, ?_, ?_, ?_, ?_, ?_, ?_, ?_, ?_, ?_, ?_, ?_, ?_, trivial⟩ ?_
  · intro a W K ho hW hpre hK
    rw [if_pos (wanted_none rfl)]
    have e0 : a.tmps.getD 9 undef = .string S1 := ho.slot 9 (by decide)
    go_simp
    exact hK _ _ (Below.refl _ _) hW rfl
  · intro a W K ho hW hpre hK
    rw [if_pos (wanted_none rfl)]
    have e0 : a.tmps.getD 11 undef = .string S1 := ho.slot 11 (by decide)
    go_simp
    exact hK _ _ (Below.refl _ _) hW rfl
  · intro a W K ho hW hpre hK
    rw [if_pos (wanted_none rfl)]
    have e0 : a.tmps.getD 45 undef = .string S1 := hpre ⟨0, .data⟩ (by simp) rfl _ rfl
    have e1 : a.tmps.getD 46 undef = .string S1 := hpre ⟨1, .data⟩ (by simp) rfl _ rfl
    go_simp
    exact hK _ _ (Below.refl _ _) hW rfl
  · intro a W K ho hW hpre hK
    rw [if_pos (wanted_none rfl)]
    have e0 : a.tmps.getD 47 undef = .bool true := hpre ⟨2, .data⟩ (by simp) rfl _ rfl
    go_simp
    exact hK _ _ (Below.refl _ _) hW rfl
  · intro a W K ho hW hpre hK
    have eg : a.tmps.getD 48 undef = .bool true := hpre ⟨3, .guard⟩ (by simp) rfl _ rfl
    rw [if_pos (wanted_at ho rfl rfl rfl (Nat.le_of_ble_eq_true rfl) eg)]
    clear eg
    have e0 : a.tmps.getD 10 undef = .int .i64 cE := ho.slot 10 (by decide)
    go_simp
    exact hK _ _ (Below.refl _ _) hW rfl
  · intro a W K ho hW hpre hK
    have eg : a.tmps.getD 48 undef = .bool true := hpre ⟨3, .guard⟩ (by simp) rfl _ rfl
    rw [if_pos (wanted_at ho rfl rfl rfl (Nat.le_of_ble_eq_true rfl) eg)]
    clear eg
    have e0 : a.tmps.getD 12 undef = .int .i64 cE := ho.slot 12 (by decide)
    go_simp
    exact hK _ _ (Below.refl _ _) hW rfl
  · intro a W K ho hW hpre hK
    have eg : a.tmps.getD 48 undef = .bool true := hpre ⟨3, .guard⟩ (by simp) rfl _ rfl
    rw [if_pos (wanted_at ho rfl rfl rfl (Nat.le_of_ble_eq_true rfl) eg)]
    clear eg
    have e0 : a.tmps.getD 49 undef = .int .i64 cE := hpre ⟨4, .data⟩ (by simp) rfl _ rfl
    have e1 : a.tmps.getD 50 undef = .int .i64 cE := hpre ⟨5, .data⟩ (by simp) rfl _ rfl
    go_simp
    exact hK _ _ (Below.refl _ _) hW rfl
  · intro a W K ho hW hpre hK
    rw [if_pos (wanted_none rfl)]
    have e0 : a.tmps.getD 48 undef = .bool true := hpre ⟨3, .data⟩ (by simp) rfl _ rfl
    have e1 : a.tmps.getD 51 undef = .bool true := hpre ⟨6, .data⟩ (by simp) rfl _ rfl
    go_simp
    exact hK _ _ (Below.refl _ _) hW rfl
  · intro a W K ho hW hpre hK
    rw [if_pos (wanted_none rfl)]
    have e0 : a.tmps.getD 52 undef = .bool true := hpre ⟨7, .data⟩ (by simp) rfl _ rfl
    go_simp
    exact hK _ _ (Below.refl _ _) hW rfl
  · intro a W K ho hW hpre hK
    have eg : a.tmps.getD 53 undef = .bool true := hpre ⟨8, .guard⟩ (by simp) rfl _ rfl
    rw [if_pos (wanted_at ho rfl rfl rfl (Nat.le_of_ble_eq_true rfl) eg)]
    clear eg
    have e0 : a.tmps.getD 13 undef = .string S2 := ho.slot 13 (by decide)
    go_simp
    exact hK _ _ (Below.refl _ _) hW rfl
  · intro a W K ho hW hpre hK
    have eg : a.tmps.getD 53 undef = .bool true := hpre ⟨8, .guard⟩ (by simp) rfl _ rfl
    rw [if_pos (wanted_at ho rfl rfl rfl (Nat.le_of_ble_eq_true rfl) eg)]
    clear eg
    have e0 : a.tmps.getD 15 undef = .string S2 := ho.slot 15 (by decide)
    go_simp
    exact hK _ _ (Below.refl _ _) hW rfl
  · intro a W K ho hW hpre hK
    have eg : a.tmps.getD 53 undef = .bool true := hpre ⟨8, .guard⟩ (by simp) rfl _ rfl
    rw [if_pos (wanted_at ho rfl rfl rfl (Nat.le_of_ble_eq_true rfl) eg)]
    clear eg
    have e0 : a.tmps.getD 54 undef = .string S2 := hpre ⟨9, .data⟩ (by simp) rfl _ rfl
    have e1 : a.tmps.getD 55 undef = .string S2 := hpre ⟨10, .data⟩ (by simp) rfl _ rfl
    go_simp
    exact hK _ _ (Below.refl _ _) hW rfl
  · intro a W K ho hW hpre hK
    rw [if_pos (wanted_none rfl)]
    have e0 : a.tmps.getD 53 undef = .bool true := hpre ⟨8, .data⟩ (by simp) rfl _ rfl
    have e1 : a.tmps.getD 56 undef = .bool true := hpre ⟨11, .data⟩ (by simp) rfl _ rfl
    go_simp
    exact hK _ _ (Below.refl _ _) hW rfl
  · intro a W K ho hW hpre hK
    rw [if_pos (wanted_none rfl)]
    have e0 : a.tmps.getD 57 undef = .bool true := hpre ⟨12, .data⟩ (by simp) rfl _ rfl
    go_simp
    exact hK _ _ (Below.refl _ _) hW rfl
  · intro a W K ho hW hpre hK
    have eg : a.tmps.getD 58 undef = .bool true := hpre ⟨13, .guard⟩ (by simp) rfl _ rfl
    rw [if_pos (wanted_at ho rfl rfl rfl (Nat.le_of_ble_eq_true rfl) eg)]
    clear eg
    have e0 : a.tmps.getD 14 undef = .int .i64 0 := ho.slot 14 (by decide)
    go_simp
    exact hK _ _ (Below.refl _ _) hW rfl
  · intro a W K ho hW hpre hK
    have eg : a.tmps.getD 58 undef = .bool true := hpre ⟨13, .guard⟩ (by simp) rfl _ rfl
    rw [if_pos (wanted_at ho rfl rfl rfl (Nat.le_of_ble_eq_true rfl) eg)]
    clear eg
    have e0 : a.tmps.getD 16 undef = .int .i64 0 := ho.slot 16 (by decide)
    go_simp
    exact hK _ _ (Below.refl _ _) hW rfl
  · intro a W K ho hW hpre hK
    have eg : a.tmps.getD 58 undef = .bool true := hpre ⟨13, .guard⟩ (by simp) rfl _ rfl
    rw [if_pos (wanted_at ho rfl rfl rfl (Nat.le_of_ble_eq_true rfl) eg)]
    clear eg
    have e0 : a.tmps.getD 59 undef = .int .i64 0 := hpre ⟨14, .data⟩ (by simp) rfl _ rfl
    have e1 : a.tmps.getD 60 undef = .int .i64 0 := hpre ⟨15, .data⟩ (by simp) rfl _ rfl
    go_simp
    exact hK _ _ (Below.refl _ _) hW rfl
  · intro a W K ho hW hpre hK
    rw [if_pos (wanted_none rfl)]
    have e0 : a.tmps.getD 58 undef = .bool true := hpre ⟨13, .data⟩ (by simp) rfl _ rfl
    have e1 : a.tmps.getD 61 undef = .bool true := hpre ⟨16, .data⟩ (by simp) rfl _ rfl
    go_simp
    exact hK _ _ (Below.refl _ _) hW rfl
  · intro a W K ho hW hpre hK
    rw [if_pos (wanted_none rfl)]
    have e0 : a.tmps.getD 62 undef = .bool true := hpre ⟨17, .data⟩ (by simp) rfl _ rfl
    go_simp
    exact hK _ _ (Below.refl _ _) hW rfl
  · intro a W K ho hW hpre hK
    have eg : a.tmps.getD 63 undef = .bool true := hpre ⟨18, .guard⟩ (by simp) rfl _ rfl
    rw [if_pos (wanted_at ho rfl rfl rfl (Nat.le_of_ble_eq_true rfl) eg)]
    clear eg
    have e0 : a.tmps.getD 1 undef = .int .i64 kind := ho.slot 1 (by decide)
    go_simp
    exact hK _ _ (Below.refl _ _) hW rfl
  · intro a W K ho hW hpre hK
    have eg : a.tmps.getD 63 undef = .bool true := hpre ⟨18, .guard⟩ (by simp) rfl _ rfl
    rw [if_pos (wanted_at ho rfl rfl rfl (Nat.le_of_ble_eq_true rfl) eg)]
    clear eg
    have e0 : a.tmps.getD 64 undef = .int .i64 kind := hpre ⟨19, .data⟩ (by simp) rfl _ rfl
    go_simp
    (with_reducible refine (C3.out _).mono ?_)
    rintro r w9 ⟨rfl, hb9⟩
    exact hK _ _ hb9 (hW.trans (hb9.mono hW.size)) rfl
  · intro a W K ho hW hpre hK
    have eg : a.tmps.getD 63 undef = .bool true := hpre ⟨18, .guard⟩ (by simp) rfl _ rfl
    rw [if_pos (wanted_at ho rfl rfl rfl (Nat.le_of_ble_eq_true rfl) eg)]
    clear eg
    have e0 : a.tmps.getD 1 undef = .int .i64 kind := ho.slot 1 (by decide)
    go_simp
    exact hK _ _ (Below.refl _ _) hW rfl
  · intro a W K ho hW hpre hK
    have eg : a.tmps.getD 63 undef = .bool true := hpre ⟨18, .guard⟩ (by simp) rfl _ rfl
    rw [if_pos (wanted_at ho rfl rfl rfl (Nat.le_of_ble_eq_true rfl) eg)]
    clear eg
    have e0 : a.tmps.getD 66 undef = .int .i64 kind := hpre ⟨21, .data⟩ (by simp) rfl _ rfl
    go_simp
    (with_reducible refine (C4.out _).mono ?_)
    rintro r w9 ⟨rfl, hb9⟩
    exact hK _ _ hb9 (hW.trans (hb9.mono hW.size)) rfl
  · intro a W K ho hW hpre hK
    have eg : a.tmps.getD 63 undef = .bool true := hpre ⟨18, .guard⟩ (by simp) rfl _ rfl
    rw [if_pos (wanted_at ho rfl rfl rfl (Nat.le_of_ble_eq_true rfl) eg)]
    clear eg
    have e0 : a.tmps.getD 65 undef = .string K1 := hpre ⟨20, .data⟩ (by simp) rfl _ rfl
    have e1 : a.tmps.getD 67 undef = .string K1 := hpre ⟨22, .data⟩ (by simp) rfl _ rfl
    go_simp
    exact hK _ _ (Below.refl _ _) hW rfl
  · intro a W K ho hW hpre hK
    rw [if_pos (wanted_none rfl)]
    have e0 : a.tmps.getD 63 undef = .bool true := hpre ⟨18, .data⟩ (by simp) rfl _ rfl
    have e1 : a.tmps.getD 68 undef = .bool true := hpre ⟨23, .data⟩ (by simp) rfl _ rfl
    go_simp
    exact hK _ _ (Below.refl _ _) hW rfl
  · intro a W K ho hW hpre hK
    rw [if_pos (wanted_none rfl)]
    have e0 : a.tmps.getD 69 undef = .bool true := hpre ⟨24, .data⟩ (by simp) rfl _ rfl
    go_simp
    exact hK _ _ (Below.refl _ _) hW rfl
  · intro a W K ho hW hpre hK
    have eg : a.tmps.getD 70 undef = .bool true := hpre ⟨25, .guard⟩ (by simp) rfl _ rfl
    rw [if_pos (wanted_at ho rfl rfl rfl (Nat.le_of_ble_eq_true rfl) eg)]
    clear eg
    have e0 : a.tmps.getD 8 undef = .pointer (some ⟨b8, 0, none⟩) := ho.slot 8 (by decide)
    go_simp
    exact hK _ _ (Below.refl _ _) hW rfl
  · intro a W K ho hW hpre hK
    have eg : a.tmps.getD 70 undef = .bool true := hpre ⟨25, .guard⟩ (by simp) rfl _ rfl
    rw [if_pos (wanted_at ho rfl rfl rfl (Nat.le_of_ble_eq_true rfl) eg)]
    clear eg
    have e0 : a.tmps.getD 71 undef = .pointer (some ⟨b8, 0, none⟩) := hpre ⟨26, .data⟩ (by simp) rfl _ rfl
    have c0 := (FE.out W hW).reads.1
    go_simp
    exact hK _ _ (Below.refl _ _) hW rfl
  · intro a W K ho hW hpre hK
    have eg : a.tmps.getD 70 undef = .bool true := hpre ⟨25, .guard⟩ (by simp) rfl _ rfl
    rw [if_pos (wanted_at ho rfl rfl rfl (Nat.le_of_ble_eq_true rfl) eg)]
    clear eg
    have e0 : a.tmps.getD 72 undef = .int .i64 x.kind := hpre ⟨27, .data⟩ (by simp) rfl _ rfl
    go_simp
    (with_reducible refine (C5.out _).mono ?_)
    rintro r w9 ⟨rfl, hb9⟩
    exact hK _ _ hb9 (hW.trans (hb9.mono hW.size)) rfl
  · intro a W K ho hW hpre hK
    have eg : a.tmps.getD 70 undef = .bool true := hpre ⟨25, .guard⟩ (by simp) rfl _ rfl
    rw [if_pos (wanted_at ho rfl rfl rfl (Nat.le_of_ble_eq_true rfl) eg)]
    clear eg
    have e0 : a.tmps.getD 8 undef = .pointer (some ⟨b8, 0, none⟩) := ho.slot 8 (by decide)
    go_simp
    exact hK _ _ (Below.refl _ _) hW rfl
  · intro a W K ho hW hpre hK
    have eg : a.tmps.getD 70 undef = .bool true := hpre ⟨25, .guard⟩ (by simp) rfl _ rfl
    rw [if_pos (wanted_at ho rfl rfl rfl (Nat.le_of_ble_eq_true rfl) eg)]
    clear eg
    have e0 : a.tmps.getD 74 undef = .pointer (some ⟨b8, 0, none⟩) := hpre ⟨29, .data⟩ (by simp) rfl _ rfl
    have c0 := (FE.out W hW).reads.1
    go_simp
    exact hK _ _ (Below.refl _ _) hW rfl
  · intro a W K ho hW hpre hK
    have eg : a.tmps.getD 70 undef = .bool true := hpre ⟨25, .guard⟩ (by simp) rfl _ rfl
    rw [if_pos (wanted_at ho rfl rfl rfl (Nat.le_of_ble_eq_true rfl) eg)]
    clear eg
    have e0 : a.tmps.getD 75 undef = .int .i64 x.kind := hpre ⟨30, .data⟩ (by simp) rfl _ rfl
    go_simp
    (with_reducible refine (C6.out _).mono ?_)
    rintro r w9 ⟨rfl, hb9⟩
    exact hK _ _ hb9 (hW.trans (hb9.mono hW.size)) rfl
  · intro a W K ho hW hpre hK
    have eg : a.tmps.getD 70 undef = .bool true := hpre ⟨25, .guard⟩ (by simp) rfl _ rfl
    rw [if_pos (wanted_at ho rfl rfl rfl (Nat.le_of_ble_eq_true rfl) eg)]
    clear eg
    have e0 : a.tmps.getD 73 undef = .string K2 := hpre ⟨28, .data⟩ (by simp) rfl _ rfl
    have e1 : a.tmps.getD 76 undef = .string K2 := hpre ⟨31, .data⟩ (by simp) rfl _ rfl
    go_simp
    exact hK _ _ (Below.refl _ _) hW rfl
  · intro a W K ho hW hpre hK
    rw [if_pos (wanted_none rfl)]
    have e0 : a.tmps.getD 70 undef = .bool true := hpre ⟨25, .data⟩ (by simp) rfl _ rfl
    have e1 : a.tmps.getD 77 undef = .bool true := hpre ⟨32, .data⟩ (by simp) rfl _ rfl
    go_simp
    exact hK _ _ (Below.refl _ _) hW rfl
  · intro a W K ho hW hpre hK
    rw [if_pos (wanted_none rfl)]
    have e0 : a.tmps.getD 78 undef = .bool true := hpre ⟨33, .data⟩ (by simp) rfl _ rfl
    go_simp
    exact hK _ _ (Below.refl _ _) hW rfl
  · intro a W ho hW hall
    have e8 : a.tmps.getD 6 undef = .bool true := hall 34 _ rfl
    have hdf : a.defers = [] := ho.defers
    have HW := Lib.hid ((HB00.out.trans (HB8.out.mono HB00.out.size)).trans (hW.mono (HB00.out.trans (HB8.out.mono HB00.out.size)).size))
    clear hall hW ho
    rename_i hKK
    refine hKK _ _ ?_
    refine wp_ret ?_
    refine bodyPost_ret (v := .bool true) ?_ hdf ⟨rfl, HW.out⟩
    rw [results_tmp rfl, e8]
end Go.Proofs.YtjkbnljjmbfmiaaDoor
