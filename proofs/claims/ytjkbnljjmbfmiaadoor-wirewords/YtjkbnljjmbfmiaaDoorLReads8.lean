/-
  The walks of novationlaw8's reads and WireParses.
-/
import Derived.Test.YtjkbnljjmbfmiaaDoorKnown8
import Derived.Test.YtjkbnljjmbfmiaaDoorRt4
namespace Go.Proofs.YtjkbnljjmbfmiaaDoor
open Go Go.RowKit
set_option linter.unusedVariables false

set_option maxRecDepth 8000 in
set_option maxHeartbeats 4000000 in
theorem reads_any (A : Option Addr) (b : List Nat) (n c : Nat) (w : World) (hn : n = b.length) (hB : Byts w A b) (hO : Oct b) (hl : n ≤ 1000000000000) (hw : Laid w) : Calls Tryd.prog 17 #[.slice A n c] w fun r w' => r = .returned (.bool true) ∧ Below w.heap.size w w' := by
  have C1 := Lib.hid (wparse_any A b n c w hn hB hO hl hw)
  have C2 : Hid (∀ W, Below w.heap.size w W → Calls Tryd.prog 33 #[.slice A n c] W (RParseK b W)) := Lib.hid (fun W hW => rparse_any A b n c W hn (hB.below hW) hO hl)
  clear hn hB hO hw
  go_enter Tryd.func17, Tryd.ntmps17
  go_wp2_with (first
    | (go_at_call 33; (with_reducible refine (C2.out _ HB1.out).mono ?_); rintro r w2 ⟨y, d, rfl, hq, hb2⟩; (obtain ⟨rfl, rfl⟩ := parsed_one HP.out hq); simp only [Ev.v]; have HB2 := Lib.hid (HB1.out.trans (hb2.mono HB1.out.size)); have HB3 := Lib.hid (HB2.out.alloc HB2.out.size (.cells x.cells.toArray 23)); have HE3 := Lib.hid ((HE1.out.keep hb2).keep ((Below.refl _ w2).alloc (Nat.le_refl _) (.cells x.cells.toArray 23))); (obtain ⟨d0, d1, d2, d3, d4, d5, d6, d7⟩ := HE3.out.reads); simp only [Ev.cells] at d0 d1 d2 d3 d4 d5 d6 d7 HB3; have heq := run_ev_eq x x; simp only [Ev.v, decide_true] at heq; clear hb2 hq)
    | (go_at_call 18; (with_reducible refine C1.out.mono ?_); rintro r w1 ⟨x, c1, rfl, hp, hb1⟩; simp only [Ev.v]; have HP := Lib.hid hp; have HB1 := Lib.hid (hb1.alloc hb1.size (.cells x.cells.toArray 23)); have HE1 : Hid (EvAt (w1.alloc (.cells x.cells.toArray 23)) w1.heap.size x) := Lib.hid (Rec.new w1 _ x.cells _ rfl); simp only [Ev.cells] at HB1 HE1; clear hp hb1 C1))
  go_ret
  exact ⟨rfl, HB3.out⟩
set_option maxRecDepth 8000 in
set_option maxHeartbeats 1000000 in
theorem wparses_walk (A : Option Addr) (b : List Nat) (n c : Nat) (w : World) (hn : n = b.length) (hB : Byts w A b) (hO : Oct b) (hw : Laid w) : Calls Tryd.prog 4 #[.slice A n c] w fun r w' => r = .returned (.bool true) ∧ Below w.heap.size w w' := by
  have C1 := Lib.hid (known8 w hw)
  by_cases h : n ≤ 300
  · have hd : decide (300 < (n : Int)) = false := decide_eq_false (by omega)
    have C2 : Hid (∀ W, Below w.heap.size w W → Calls Tryd.prog 17 #[.slice A n c] W fun r w' => r = .returned (.bool true) ∧ Below W.heap.size W w') := Lib.hid (fun W hW => reads_any A b n c W hn (hB.below hW) hO (by omega) (hw.keep hW))
    clear hn hB hO hw h
    go_enter Tryd.func4, Tryd.ntmps4
    go_wp2_with (first
      | (go_at_call 9; (with_reducible refine C1.out.mono ?_); rintro r w1 ⟨rfl, hb1⟩; have HB1 := Lib.hid hb1; clear hb1)
      | (go_at_call 17; (with_reducible refine (C2.out _ HB1.out).mono ?_); rintro r w2 ⟨rfl, hb2⟩; have HB2 := Lib.hid (HB1.out.trans (hb2.mono HB1.out.size)); clear hb2))
    go_ret
    exact ⟨rfl, HB2.out⟩
  · have hd : decide (300 < (n : Int)) = true := decide_eq_true (by omega)
    clear hn hB hO hw h
    go_enter Tryd.func4, Tryd.ntmps4
    go_wp2_with (go_at_call 9; (with_reducible refine C1.out.mono ?_); rintro r w1 ⟨rfl, hb1⟩; have HB1 := Lib.hid hb1; clear hb1)
    go_ret
    exact ⟨rfl, HB1.out⟩
end Go.Proofs.YtjkbnljjmbfmiaaDoor
