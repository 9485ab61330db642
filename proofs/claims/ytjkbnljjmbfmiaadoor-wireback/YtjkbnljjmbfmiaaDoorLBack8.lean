/-
  The walk of novationlaw8.WireBack.
-/
import Derived.Test.YtjkbnljjmbfmiaaDoorDk10
import Derived.Test.YtjkbnljjmbfmiaaDoorKnown8
import Derived.Test.YtjkbnljjmbfmiaaDoorSby
namespace Go.Proofs.YtjkbnljjmbfmiaaDoor
open Go Go.RowKit
set_option linter.unusedVariables false

set_option maxRecDepth 100000 in
set_option maxHeartbeats 4000000 in
theorem wback_walk (A : Option Addr) (l : List Int) (c n : Nat) (hk : n = l.length) (w : World) (hn : Nums w A l) (hw : Laid w) : Calls Tryd.prog 5 #[.slice A n c] w fun r w' => r = .returned (.bool true) ∧ Below w.heap.size w w' := by
  have CK := Lib.hid (known8 w hw)
  have CO := Lib.hid (fun W (h : Below w.heap.size w W) => deck_of w W A l c n hk hn h)
  have HLW := Lib.hid hw
  clear hn hk hw
  go_enter Tryd.func5, Tryd.ntmps5
  go_wp2_with (first
    | (go_at_call 19; (with_reducible refine (CR.out _).mono ?_); rintro r w7 ⟨rfl, hb7⟩; have HB7 := Lib.hid (HB6'.out.trans (hb7.mono HB6'.out.size)); clear hb7)
    | (go_at_call 18; (with_reducible refine CP.out.mono ?_); rintro r w6 ⟨rfl, hb6⟩; have H6 := Lib.hid ((H5.out.keep hb6).keep ((Below.refl _ w6).alloc (Nat.le_refl _) (.cells e.cells.toArray 23))); have HB6 := Lib.hid (HB5.out.trans (hb6.mono HB5.out.size)); have HB6' := Lib.hid (HB6.out.alloc HB6.out.size (.cells e.cells.toArray 23)); have HX6 : Hid (EvAt (w6.alloc (.cells e.cells.toArray 23)) w6.heap.size e) := (Lib.hid (Rec.new w6 _ e.cells _ rfl)); (obtain ⟨c0, c1, c2, c3, c4, c5, c6, c7⟩ := H6.out.reads); (obtain ⟨d0, d1, d2, d3, d4, d5, d6, d7⟩ := HX6.out.reads); simp only [Ev.cells] at c0 c1 c2 c3 c4 c5 c6 c7 d0 d1 d2 d3 d4 d5 d6 d7 HB6'; have heq := run_ev_eq e e; simp only [Ev.v, decide_true] at heq; clear hb6 CP)
    | (go_at_call 13; (with_reducible refine CT.out.mono ?_); rintro r w5 ⟨rfl, hb5⟩; (obtain ⟨n5, hn5⟩ : ∃ z, z = (textL e).length := ⟨_, rfl⟩); have hn114 : n5 ≤ 114 := (by rw [hn5]; exact text_len HOK.out); have hd120 : decide ((n5 : Int) ≤ 120) = true := decide_eq_true (by omega); (obtain ⟨c5, W5, hcv, hbl, hy, _⟩ := run_sbytes w5 (textL e) (text_oct e) n5 hn5); have hsz : (bstr (textL e)).size = n5 := (by rw [bstr_size, hn5]); have HB5a := Lib.hid (HB4.out.trans (hb5.mono HB4.out.size)); have HB5 := Lib.hid (HB5a.out.trans (hbl.mono HB5a.out.size)); have H5 := Lib.hid ((H4.out.keep hb5).keep hbl); have CP : Hid (Calls Tryd.prog 18 #[.slice (some ⟨w5.heap.size, 0, none⟩) n5 c5] W5 fun r w' => r = .returned (.tuple #[.agg #[.int .i64 e.kind, .int .i64 e.member, .int .i64 e.acc, .int .i64 e.inst, .int .i64 e.side, .int .i64 e.id, .int .i64 e.q, .int .i64 e.p], .int .i64 0]) ∧ Below W5.heap.size W5 w') := (Lib.hid ((wparse_any _ (textL e) n5 c5 W5 hn5 hy (text_oct e) (by omega) (HLW.out.keep HB5.out)).mono (fun r w' ⟨x, cc, e1, e2, e3⟩ => by obtain ⟨rfl, rfl⟩ := parsed_one e2 (.inl ⟨HOK.out, HRT.out, rfl, rfl⟩); exact ⟨e1, e3⟩))); generalize bstr (textL e) = T at *; clear hb5 hbl hy hn5 CT)
    | (go_at_call 9; (with_reducible refine CK.out.mono ?_); rintro r w1 ⟨rfl, hb1⟩; have HB1 := Lib.hid hb1; clear hb1)
    | (go_at_call 10; (with_reducible refine (CO.out _ HB1.out).mono ?_); rintro r w2 ⟨rfl, hd2⟩; have HD2 := Lib.hid hd2; clear hd2)
    | (go_at_call 12; (with_reducible refine (deck_config w _ A l c _ 0 HD2.out (by omega)).mono ?_); rintro r w3 ⟨cf, v, rfl, hcf, ho3, hd3, ht3⟩; have HC3 := Lib.hid (CfgIn.of hcf ho3 hd3); have HD3 := Lib.hid hd3; clear ho3 hd3 ht3)
    | (go_at_call 11; (with_reducible refine (deck_event w _ A l c _ (0 + 60) HD3.out (by omega) cf v HC3.out).mono ?_); rintro r w4 ⟨e, rfl, hok, hrt, hd4, ht4⟩; simp only [Ev.v]; have HB4a := Lib.hid hd4.below; have HB4 := Lib.hid (HB4a.out.alloc HB4a.out.size (.cells e.cells.toArray 23)); have HOK := Lib.hid hok; have HRT := Lib.hid hrt; have CT := Lib.hid (wtext_yes e hok hrt (w4.alloc (.cells e.cells.toArray 23)) (HLW.out.keep HB4.out)); have CR := Lib.hid (fun W => pright_any e W); rw [hrt] at CR; unfold TextK at CT; have H4 : Hid (EvAt (w4.alloc (.cells e.cells.toArray 23)) w4.heap.size e) := (Lib.hid (Rec.new w4 _ e.cells _ rfl)); simp only [Ev.v, Ev.cells] at CT CR HB4 H4; clear hd4 ht4 HD3 HC3 hok hrt))
  go_ret
  exact ⟨rfl, HB7.out⟩
end Go.Proofs.YtjkbnljjmbfmiaaDoor
