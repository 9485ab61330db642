/-
  The walk of novationlaw6.EventDrawn.
-/
import Derived.Test.YtincelegepafcaaDk10
import Derived.Test.YtincelegepafcaaLPuts6
namespace Go.Proofs.Ytincelegepafcaa
open Go Go.RowKit
set_option linter.unusedVariables false

set_option maxRecDepth 100000 in
set_option maxHeartbeats 8000000 in
theorem edrawn_walk (A : Option Addr) (l : List Int) (c n : Nat) (hk : n = l.length) (f x : Int) (hf : 0 ≤ f ∧ f ≤ 255) (hx : I64 x) (w : World) (hn : Nums w A l) : Calls Try.prog 4 #[.slice A n c, .int .u8 f, .int .i64 x] w fun r w' => r = .returned (.bool true) ∧ Below w.heap.size w w' := by
  have CK := Lib.hid (known_any w)
  have CO := Lib.hid (fun W (h : Below w.heap.size w W) => deck_of w W A l c n hk hn h)
  have CE := Lib.hid (fun e ok y W => eputs_any e ok y W)
  obtain ⟨q, hq⟩ : ∃ q : Int, q = f % 8 := ⟨_, rfl⟩
  have hr8 : f.tmod 8 = q := by rw [Int.tmod_eq_emod_of_nonneg hf.1, ← hq]
  have hq8 : 0 ≤ q ∧ q < 8 := by omega
  have HX := Lib.hid hx
  clear hn hk hf hq hx
  go_enter Try.func4, Try.ntmps4
  go_wp2_with (first
    | (go_at_call 9; (with_reducible refine CK.out.mono ?_); rintro r w1 ⟨rfl, hb1⟩; have HB1 := Lib.hid hb1; clear hb1)
    | (go_at_call 16; (with_reducible refine (CO.out _ HB1.out).mono ?_); rintro r w2 ⟨rfl, hd2⟩; have HD2 := Lib.hid hd2; clear hd2)
    | (go_at_call 18; (with_reducible refine (deck_config w _ A l c _ 0 HD2.out (by omega)).mono ?_); rintro r w3 ⟨cf, v, rfl, hcf, ho3, hd3, ht3⟩; have HC3 := Lib.hid (CfgIn.of hcf ho3 hd3); have HD3 := Lib.hid hd3; clear ho3 hd3 ht3)
    | (go_at_call 17; (with_reducible refine (deck_event w _ A l c _ (0 + 60) HD3.out (by omega) cf v HC3.out).mono ?_); rintro r w4 ⟨e, rfl, hok, hrt, hd4, ht4⟩; have HB4 := Lib.hid hd4.below; have HOK := Lib.hid hok; have CE1 := Lib.hid (fun W => eputs_any e hok e.kind W); have CR := Lib.hid (fun W => pright_any e W); rw [hrt] at CR; clear hd4 ht4 HD3 HC3 hok hrt; unfold Ev.v at CE1 CR ⊢; have H4 : Hid (EvAt (w4.alloc (.cells #[.int .i64 e.kind, .int .i64 e.member, .int .i64 e.acc, .int .i64 e.inst, .int .i64 e.side, .int .i64 e.id, .int .i64 e.q, .int .i64 e.p] 23)) w4.heap.size e) := (Lib.hid (Rec.new w4 _ e.cells _ rfl)); have HB4' : Hid (Below w.heap.size w (w4.alloc (.cells #[.int .i64 e.kind, .int .i64 e.member, .int .i64 e.acc, .int .i64 e.inst, .int .i64 e.side, .int .i64 e.id, .int .i64 e.q, .int .i64 e.p] 23))) := (Lib.hid (HB4.out.alloc HB4.out.size _)))
    | (go_at_call 3; (with_reducible refine (CE1.out _).mono ?_); rintro r w5 ⟨rfl, hb5⟩; have H5 := Lib.hid (H4.out.keep hb5); have HB5 := Lib.hid (HB4'.out.trans (hb5.mono HB4'.out.size)); obtain ⟨d0, d1, d2, d3, d4, d5, d6, d7⟩ := H5.out.reads; clear hb5)
    | (go_at_call 12; (with_reducible refine (CR.out _).mono ?_); rintro r w6 ⟨rfl, hb6⟩; clear d0 d1 d2 d3 d4 d5 d6 d7; have H6 := Lib.hid (H5.out.keep hb6); have HB6 := Lib.hid (HB5.out.trans (hb6.mono HB5.out.size)); obtain ⟨c0, c1, c2, c3, c4, c5, c6, c7⟩ := H6.out.reads; have fz0 := Rec.frozen H6.out 0; have fz1 := Rec.frozen H6.out 1; have fz2 := Rec.frozen H6.out 2; have fz3 := Rec.frozen H6.out 3; have fz4 := Rec.frozen H6.out 4; have fz5 := Rec.frozen H6.out 5; have fz6 := Rec.frozen H6.out 6; have fz7 := Rec.frozen H6.out 7; (have hw4 : w.heap.size ≤ w4.heap.size := HB4.out.size); clear hb6 CK CO CE1 CR HD2 HB1 HB4 HB4' H4 HB5 H5; rcases (by omega : q = 0 ∨ q = 1 ∨ q = 2 ∨ q = 3 ∨ q = 4 ∨ q = 5 ∨ q = 6 ∨ q = 7) with rfl | rfl | rfl | rfl | rfl | rfl | rfl | rfl))
  · have CE2 := Lib.hid (fun W => CE.out { e with kind := x } ⟨HX.out, HOK.out.member, HOK.out.acc, HOK.out.inst, HOK.out.side, HOK.out.id, HOK.out.q, HOK.out.p⟩ x W)
    unfold Ev.v at CE2
    dsimp only at CE2
    have HB7 : Hid (Below w.heap.size w (w6.setCell ⟨w4.heap.size, 0, none⟩ (.int .i64 x))) := Lib.hid (HB6.out.setCell (p := ⟨w4.heap.size, 0, none⟩) hw4 _)
    clear CE
    go_wp2_with (go_at_call 3; (with_reducible refine (CE2.out _).mono ?_); rintro r w7 ⟨rfl, hb7⟩; have HB8 := Lib.hid (HB7.out.trans (hb7.mono HB7.out.size)); clear hb7)
    go_ret
    exact ⟨rfl, HB8.out⟩
  · have CE2 := Lib.hid (fun W => CE.out { e with member := x } ⟨HOK.out.kind, HX.out, HOK.out.acc, HOK.out.inst, HOK.out.side, HOK.out.id, HOK.out.q, HOK.out.p⟩ x W)
    unfold Ev.v at CE2
    dsimp only at CE2
    have HB7 : Hid (Below w.heap.size w (w6.setCell ⟨w4.heap.size, 1, none⟩ (.int .i64 x))) := Lib.hid (HB6.out.setCell (p := ⟨w4.heap.size, 1, none⟩) hw4 _)
    clear CE
    go_wp2_with (go_at_call 3; (with_reducible refine (CE2.out _).mono ?_); rintro r w7 ⟨rfl, hb7⟩; have HB8 := Lib.hid (HB7.out.trans (hb7.mono HB7.out.size)); clear hb7)
    go_ret
    exact ⟨rfl, HB8.out⟩
  · have CE2 := Lib.hid (fun W => CE.out { e with acc := x } ⟨HOK.out.kind, HOK.out.member, HX.out, HOK.out.inst, HOK.out.side, HOK.out.id, HOK.out.q, HOK.out.p⟩ x W)
    unfold Ev.v at CE2
    dsimp only at CE2
    have HB7 : Hid (Below w.heap.size w (w6.setCell ⟨w4.heap.size, 2, none⟩ (.int .i64 x))) := Lib.hid (HB6.out.setCell (p := ⟨w4.heap.size, 2, none⟩) hw4 _)
    clear CE
    go_wp2_with (go_at_call 3; (with_reducible refine (CE2.out _).mono ?_); rintro r w7 ⟨rfl, hb7⟩; have HB8 := Lib.hid (HB7.out.trans (hb7.mono HB7.out.size)); clear hb7)
    go_ret
    exact ⟨rfl, HB8.out⟩
  · have CE2 := Lib.hid (fun W => CE.out { e with inst := x } ⟨HOK.out.kind, HOK.out.member, HOK.out.acc, HX.out, HOK.out.side, HOK.out.id, HOK.out.q, HOK.out.p⟩ x W)
    unfold Ev.v at CE2
    dsimp only at CE2
    have HB7 : Hid (Below w.heap.size w (w6.setCell ⟨w4.heap.size, 3, none⟩ (.int .i64 x))) := Lib.hid (HB6.out.setCell (p := ⟨w4.heap.size, 3, none⟩) hw4 _)
    clear CE
    go_wp2_with (go_at_call 3; (with_reducible refine (CE2.out _).mono ?_); rintro r w7 ⟨rfl, hb7⟩; have HB8 := Lib.hid (HB7.out.trans (hb7.mono HB7.out.size)); clear hb7)
    go_ret
    exact ⟨rfl, HB8.out⟩
  · have CE2 := Lib.hid (fun W => CE.out { e with side := x } ⟨HOK.out.kind, HOK.out.member, HOK.out.acc, HOK.out.inst, HX.out, HOK.out.id, HOK.out.q, HOK.out.p⟩ x W)
    unfold Ev.v at CE2
    dsimp only at CE2
    have HB7 : Hid (Below w.heap.size w (w6.setCell ⟨w4.heap.size, 4, none⟩ (.int .i64 x))) := Lib.hid (HB6.out.setCell (p := ⟨w4.heap.size, 4, none⟩) hw4 _)
    clear CE
    go_wp2_with (go_at_call 3; (with_reducible refine (CE2.out _).mono ?_); rintro r w7 ⟨rfl, hb7⟩; have HB8 := Lib.hid (HB7.out.trans (hb7.mono HB7.out.size)); clear hb7)
    go_ret
    exact ⟨rfl, HB8.out⟩
  · have CE2 := Lib.hid (fun W => CE.out { e with id := x } ⟨HOK.out.kind, HOK.out.member, HOK.out.acc, HOK.out.inst, HOK.out.side, HX.out, HOK.out.q, HOK.out.p⟩ x W)
    unfold Ev.v at CE2
    dsimp only at CE2
    have HB7 : Hid (Below w.heap.size w (w6.setCell ⟨w4.heap.size, 5, none⟩ (.int .i64 x))) := Lib.hid (HB6.out.setCell (p := ⟨w4.heap.size, 5, none⟩) hw4 _)
    clear CE
    go_wp2_with (go_at_call 3; (with_reducible refine (CE2.out _).mono ?_); rintro r w7 ⟨rfl, hb7⟩; have HB8 := Lib.hid (HB7.out.trans (hb7.mono HB7.out.size)); clear hb7)
    go_ret
    exact ⟨rfl, HB8.out⟩
  · have CE2 := Lib.hid (fun W => CE.out { e with q := x } ⟨HOK.out.kind, HOK.out.member, HOK.out.acc, HOK.out.inst, HOK.out.side, HOK.out.id, HX.out, HOK.out.p⟩ x W)
    unfold Ev.v at CE2
    dsimp only at CE2
    have HB7 : Hid (Below w.heap.size w (w6.setCell ⟨w4.heap.size, 6, none⟩ (.int .i64 x))) := Lib.hid (HB6.out.setCell (p := ⟨w4.heap.size, 6, none⟩) hw4 _)
    clear CE
    go_wp2_with (go_at_call 3; (with_reducible refine (CE2.out _).mono ?_); rintro r w7 ⟨rfl, hb7⟩; have HB8 := Lib.hid (HB7.out.trans (hb7.mono HB7.out.size)); clear hb7)
    go_ret
    exact ⟨rfl, HB8.out⟩
  · have CE2 := Lib.hid (fun W => CE.out { e with p := x } ⟨HOK.out.kind, HOK.out.member, HOK.out.acc, HOK.out.inst, HOK.out.side, HOK.out.id, HOK.out.q, HX.out⟩ x W)
    unfold Ev.v at CE2
    dsimp only at CE2
    have HB7 : Hid (Below w.heap.size w (w6.setCell ⟨w4.heap.size, 7, none⟩ (.int .i64 x))) := Lib.hid (HB6.out.setCell (p := ⟨w4.heap.size, 7, none⟩) hw4 _)
    clear CE
    go_wp2_with (go_at_call 3; (with_reducible refine (CE2.out _).mono ?_); rintro r w7 ⟨rfl, hb7⟩; have HB8 := Lib.hid (HB7.out.trans (hb7.mono HB7.out.size)); clear hb7)
    go_ret
    exact ⟨rfl, HB8.out⟩
end Go.Proofs.Ytincelegepafcaa
