/-
  The walk of novationlaw8's known.
-/
import Derived.Test.YtjkbnljjmbfmiaaDoorWp7
namespace Go.Proofs.YtjkbnljjmbfmiaaDoor
open Go Go.RowKit
set_option linter.unusedVariables false

def evK : Ev := ⟨7, 0, 3, 0, 1, 0, 10, 250⟩
theorem evK_ok : evK.Ok := by constructor <;> (unfold I64 evK; simp)
theorem evK_right : rightE evK = true := by decide
theorem digs250 : digs 250 = [50, 53, 48] := by rw [digs_great (by omega), digs_great (by omega), digs_small (by omega)]; rfl
theorem digs10 : digs 10 = [49, 48] := by rw [digs_great (by omega), digs_small (by omega)]; rfl
theorem evK_text : textL evK = [111, 114, 100, 101, 114, 32, 51, 32, 48, 32, 98, 117, 121, 32, 49, 48, 32, 50, 53, 48] := by
  have h3 : dec 3 = [51] := by rw [show dec 3 = digs 3 from rfl, digs_small (by omega)]
  have h0 : dec 0 = [48] := by rw [show dec 0 = digs 0 from rfl, digs_small (by omega)]
  have h10 : dec 10 = [49, 48] := by rw [show dec 10 = digs 10 from rfl, digs10]
  have h250 : dec 250 = [50, 53, 48] := by rw [show dec 250 = digs 250 from rfl, digs250]
  have e : textL evK = wordOf 7 ++ tailOf [dec 3, dec 0, sideOf 7 1, dec 10, dec 250] := rfl
  rw [e, h3, h0, h10, h250]
  decide
theorem two_blanks : ∀ y : Ev, y.Ok → rightE y = true → textL y ≠ [111, 114, 100, 101, 114, 32, 32, 51, 32, 48, 32, 98, 117, 121, 32, 49, 48, 32, 50, 53, 48] := by
  intro y _ hr ht
  have h1 := cut_text y
  rw [ht] at h1
  have h2 : cutB [111, 114, 100, 101, 114, 32, 32, 51, 32, 48, 32, 98, 117, 121, 32, 49, 48, 32, 50, 53, 48] = [wordOf 7, [], [51], [48], [98, 117, 121], [49, 48], [50, 53, 48]] := by decide
  rw [h2] at h1
  injection h1 with h3 h4
  have hk := word_inj (by decide) (right_kinds hr) h3
  rw [← hk] at h4
  have h5 := congrArg List.length h4
  rw [List.length_map] at h5
  exact absurd h5 (by decide)
set_option maxRecDepth 100000 in
set_option maxHeartbeats 8000000 in
theorem known8 (w : World) (hw : Laid w) : Calls Tryd.prog 9 #[] w fun r w' => r = .returned (.bool true) ∧ Below w.heap.size w w' := by
  have HB0 : Hid (Below w.heap.size w (w.alloc (.cells #[.int .i64 7, .int .i64 0, .int .i64 3, .int .i64 0, .int .i64 1, .int .i64 0, .int .i64 10, .int .i64 250] 23))) := Lib.hid ((Below.refl _ _).alloc (Nat.le_refl _) _)
  have HE0 : Hid (EvAt (w.alloc (.cells #[.int .i64 7, .int .i64 0, .int .i64 3, .int .i64 0, .int .i64 1, .int .i64 0, .int .i64 10, .int .i64 250] 23)) w.heap.size evK) := Lib.hid (Rec.new w _ evK.cells _ rfl)
  have CT : Hid (∀ W, Below w.heap.size w W → Calls Tryd.prog 13 #[.agg #[.int .i64 7, .int .i64 0, .int .i64 3, .int .i64 0, .int .i64 1, .int .i64 0, .int .i64 10, .int .i64 250]] W fun r w' => r = .returned (.tuple #[.string { data := #[111, 114, 100, 101, 114, 32, 51, 32, 48, 32, 98, 117, 121, 32, 49, 48, 32, 50, 53, 48] }, .int .i64 0]) ∧ Below W.heap.size W w') := Lib.hid (fun W hW => by
    have := wtext_yes evK evK_ok evK_right W (hw.keep hW)
    rw [evK_text] at this
    exact this)
  have CZ : Hid (∀ W, Calls Tryd.prog 13 #[.agg #[.int .i64 0, .int .i64 0, .int .i64 0, .int .i64 0, .int .i64 0, .int .i64 0, .int .i64 0, .int .i64 0]] W fun r w' => r = .returned (.tuple #[.string { data := #[] }, .int .i64 1]) ∧ Below W.heap.size W w') := Lib.hid (fun W => wtext_no Ev.zero (by decide) W)
  have CP1 : Hid (∀ W, Below w.heap.size w W → ∀ A, Byts W A [111, 114, 100, 101, 114, 32, 51, 32, 48, 32, 98, 117, 121, 32, 49, 48, 32, 50, 53, 48] → Calls Tryd.prog 18 #[.slice A 20 20] W fun r w' => r = .returned (.tuple #[.agg #[.int .i64 7, .int .i64 0, .int .i64 3, .int .i64 0, .int .i64 1, .int .i64 0, .int .i64 10, .int .i64 250], .int .i64 0]) ∧ Below W.heap.size W w') := Lib.hid (fun W hW A hA => by
    refine (wparse_any A [111, 114, 100, 101, 114, 32, 51, 32, 48, 32, 98, 117, 121, 32, 49, 48, 32, 50, 53, 48] 20 20 W rfl hA (by unfold Oct; decide) (by omega) (hw.keep hW)).mono ?_
    rintro r w' ⟨x, c, rfl, hp, hb⟩
    obtain ⟨rfl, rfl⟩ := parsed_one hp (.inl ⟨evK_ok, evK_right, evK_text, rfl⟩)
    exact ⟨rfl, hb⟩)
  have CP2 : Hid (∀ W, Below w.heap.size w W → ∀ A, Byts W A [111, 114, 100, 101, 114, 32, 32, 51, 32, 48, 32, 98, 117, 121, 32, 49, 48, 32, 50, 53, 48] → Calls Tryd.prog 18 #[.slice A 21 21] W fun r w' => r = .returned (.tuple #[.agg #[.int .i64 0, .int .i64 0, .int .i64 0, .int .i64 0, .int .i64 0, .int .i64 0, .int .i64 0, .int .i64 0], .int .i64 1]) ∧ Below W.heap.size W w') := Lib.hid (fun W hW A hA => by
    refine (wparse_any A [111, 114, 100, 101, 114, 32, 32, 51, 32, 48, 32, 98, 117, 121, 32, 49, 48, 32, 50, 53, 48] 21 21 W rfl hA (by unfold Oct; decide) (by omega) (hw.keep hW)).mono ?_
    rintro r w' ⟨x, c, rfl, hp, hb⟩
    obtain ⟨rfl, rfl⟩ := parsed_one hp (.inr ⟨rfl, rfl, two_blanks⟩)
    exact ⟨rfl, hb⟩)
  have CW : Hid (∀ W, Calls Tryd.prog 15 #[.int .i64 22] W fun r w' => r = .returned (.string { data := #[112, 97, 121] }) ∧ Below W.heap.size W w') := Lib.hid (fun W => wword_any 22 W)
  have CV : Hid (∀ W, Calls Tryd.prog 15 #[.int .i64 0] W fun r w' => r = .returned (.string { data := #[] }) ∧ Below W.heap.size W w') := Lib.hid (fun W => wword_any 0 W)
  have heq : ∀ W : World, (binOp .eql 23 (.agg #[.int .i64 7, .int .i64 0, .int .i64 3, .int .i64 0, .int .i64 1, .int .i64 0, .int .i64 10, .int .i64 250]) (.agg #[.int .i64 7, .int .i64 0, .int .i64 3, .int .i64 0, .int .i64 1, .int .i64 0, .int .i64 10, .int .i64 250])).run Tryd.prog W = .ok (.bool true) W := fun W => by
    have := run_ev_eq evK evK W
    rw [decide_eq_true rfl] at this
    exact this
  clear hw
  go_enter Tryd.func9, Tryd.ntmps9
  go_wp2_with (first
    | (go_at_call 15; (with_reducible refine (CV.out _).mono ?_); rintro r w6 ⟨rfl, hb6⟩; have HB6 := Lib.hid (HB5.out.trans (hb6.mono HB5.out.size)); clear hb6)
    | (go_at_call 15; (with_reducible refine (CW.out _).mono ?_); rintro r w5 ⟨rfl, hb5⟩; have HB5 := Lib.hid (HB4.out.trans (hb5.mono HB4.out.size)); clear hb5)
    | (go_at_call 13; (with_reducible refine (CZ.out _).mono ?_); rintro r w4 ⟨rfl, hb4⟩; have HB4 := Lib.hid (HB3.out.trans (hb4.mono HB3.out.size)); have KE0 := Lib.hid ((JE0.out).keep hb4); have KE1 := Lib.hid ((JE1.out).keep hb4); (obtain ⟨c0, c1, c2, c3, c4, c5, c6, c7⟩ := KE0.out.reads); (obtain ⟨d0, d1, d2, d3, d4, d5, d6, d7⟩ := KE1.out.reads); simp only [evK] at c0 c1 c2 c3 c4 c5 c6 c7 d0 d1 d2 d3 d4 d5 d6 d7; clear hb4)
    | (go_at_call 18; (with_reducible refine (CP2.out _ HBL2.out _ HY2.out).mono ?_); rintro r w3 ⟨rfl, hb3⟩; have JE0 := Lib.hid ((IE0.out.keep hb3).keep ((Below.refl _ w3).alloc (Nat.le_refl _) (.cells #[.int .i64 0, .int .i64 0, .int .i64 0, .int .i64 0, .int .i64 0, .int .i64 0, .int .i64 0, .int .i64 0] 23))); have JE1 := Lib.hid ((IE1.out.keep hb3).keep ((Below.refl _ w3).alloc (Nat.le_refl _) (.cells #[.int .i64 0, .int .i64 0, .int .i64 0, .int .i64 0, .int .i64 0, .int .i64 0, .int .i64 0, .int .i64 0] 23))); have HB3a := Lib.hid (HBL2.out.trans (hb3.mono HBL2.out.size)); have HB3 := Lib.hid (HB3a.out.alloc HB3a.out.size (.cells #[.int .i64 0, .int .i64 0, .int .i64 0, .int .i64 0, .int .i64 0, .int .i64 0, .int .i64 0, .int .i64 0] 23)); clear hb3 HY2)
    | (go_at_call 18; (with_reducible refine (CP1.out _ HBL1.out _ HY1.out).mono ?_); rintro r w2 ⟨rfl, hb2⟩; have HB2a := Lib.hid (HBL1.out.trans (hb2.mono HBL1.out.size)); have HB2 := Lib.hid (HB2a.out.alloc HB2a.out.size (.cells #[.int .i64 7, .int .i64 0, .int .i64 3, .int .i64 0, .int .i64 1, .int .i64 0, .int .i64 10, .int .i64 250] 23)); (obtain ⟨W2, hcv2, hbl2, hy2⟩ := lit_bytes (w2.alloc (.cells #[.int .i64 7, .int .i64 0, .int .i64 3, .int .i64 0, .int .i64 1, .int .i64 0, .int .i64 10, .int .i64 250] 23)) #[.int .u8 111, .int .u8 114, .int .u8 100, .int .u8 101, .int .u8 114, .int .u8 32, .int .u8 32, .int .u8 51, .int .u8 32, .int .u8 48, .int .u8 32, .int .u8 98, .int .u8 117, .int .u8 121, .int .u8 32, .int .u8 49, .int .u8 48, .int .u8 32, .int .u8 50, .int .u8 53, .int .u8 48] [111, 114, 100, 101, 114, 32, 32, 51, 32, 48, 32, 98, 117, 121, 32, 49, 48, 32, 50, 53, 48] rfl 21 21); rw [show (w2.alloc (.cells #[.int .i64 7, .int .i64 0, .int .i64 3, .int .i64 0, .int .i64 1, .int .i64 0, .int .i64 10, .int .i64 250] 23)).heap.size = w2.heap.size + 1 from by simp] at hcv2 hy2; have HY2 := Lib.hid hy2; have HBL2 := Lib.hid (HB2.out.trans (hbl2.mono HB2.out.size)); have IE0 := Lib.hid (((FE0.out.keep hb2).keep ((Below.refl _ w2).alloc (Nat.le_refl _) (.cells #[.int .i64 7, .int .i64 0, .int .i64 3, .int .i64 0, .int .i64 1, .int .i64 0, .int .i64 10, .int .i64 250] 23))).keep hbl2); have IE1 : Hid (EvAt W2 w2.heap.size evK) := Lib.hid (EvAt.keep (show EvAt (w2.alloc (.cells #[.int .i64 7, .int .i64 0, .int .i64 3, .int .i64 0, .int .i64 1, .int .i64 0, .int .i64 10, .int .i64 250] 23)) w2.heap.size evK from Rec.new w2 _ evK.cells _ rfl) hbl2); clear hb2 hbl2 hy2 HY1)
    | (go_at_call 13; (with_reducible refine (CT.out _ HB0.out).mono ?_); rintro r w1 ⟨rfl, hb1⟩; have HB1 := Lib.hid (HB0.out.trans (hb1.mono HB0.out.size)); (obtain ⟨W1, hcv1, hbl1, hy1⟩ := lit_bytes w1 #[.int .u8 111, .int .u8 114, .int .u8 100, .int .u8 101, .int .u8 114, .int .u8 32, .int .u8 51, .int .u8 32, .int .u8 48, .int .u8 32, .int .u8 98, .int .u8 117, .int .u8 121, .int .u8 32, .int .u8 49, .int .u8 48, .int .u8 32, .int .u8 50, .int .u8 53, .int .u8 48] [111, 114, 100, 101, 114, 32, 51, 32, 48, 32, 98, 117, 121, 32, 49, 48, 32, 50, 53, 48] rfl 20 20); have HY1 := Lib.hid hy1; have HBL1 := Lib.hid (HB1.out.trans (hbl1.mono HB1.out.size)); have FE0 := Lib.hid ((HE0.out.keep hb1).keep hbl1); clear hb1 hbl1 hy1))
  go_ret
  exact ⟨rfl, HB6.out⟩
end Go.Proofs.YtjkbnljjmbfmiaaDoor
