/-
  The walk of wire's Parse.
-/
import Derived.Test.YtjkbnljjmbfmiaaDoorWp6
namespace Go.Proofs.YtjkbnljjmbfmiaaDoor
open Go Go.RowKit
set_option linter.unusedVariables false

/-- What Parse answers. -/
def ParseR (b : List Nat) (w : World) (r : Ending) (w' : World) : Prop := ∃ x c, r = .returned (.tuple #[x.v, .int .i64 c]) ∧ Parsed b x c ∧ Below w.heap.size w w'
theorem parsed_none {b : List Nat} (h : ∀ y : Ev, y.Ok → rightE y = true → textL y ≠ b) : Parsed b Ev.zero 1 := Or.inr ⟨rfl, rfl, h⟩
set_option maxRecDepth 8000 in
set_option maxHeartbeats 8000000 in
theorem wparse_any (A : Option Addr) (b : List Nat) (n c : Nat) (w : World) (hn : n = b.length) (hB : Byts w A b) (hO : Oct b) (hl : n ≤ 1000000000000) (hw : Laid w) : Calls Tryd.prog 18 #[.slice A n c] w (ParseR b w) := by
  have HB00 := Lib.hid ((Below.refl w.heap.size w).alloc (Nat.le_refl _) (.cells Ev.zero.cells.toArray 23))
  have HR0 : Hid (EvAt (w.alloc (.cells Ev.zero.cells.toArray 23)) w.heap.size Ev.zero) := Lib.hid (Rec.new w _ Ev.zero.cells _ rfl)
  by_cases h120 : n ≤ 120
  · have hd : decide (120 < (n : Int)) = false := decide_eq_false (by omega)
    have hst := run_bstr (w.alloc (.cells Ev.zero.cells.toArray 23)) A b n c hn (hB.below HB00.out)
    have CW := Lib.hid (wwords_any b hO (by omega) (w.alloc (.cells Ev.zero.cells.toArray 23)))
    have HBS := Lib.hid (fun x : Ev => beq_str (text_oct x) hO)
    obtain ⟨ws, hws⟩ : ∃ ws, ws = cutB b := ⟨_, rfl⟩
    have HG : Hid (∀ y : Ev, y.Ok → rightE y = true → textL y = b → IsLine ws y) := Lib.hid (fun y o r t => by rw [hws]; exact line_of o r t)
    have HWO : Hid (∀ i, i < ws.length → Oct (ws.getD i [])) := Lib.hid (fun i hi => by rw [List.getD_eq_getElem?_getD, List.getElem?_eq_getElem hi]; exact cut_oct hO _ (by rw [← hws]; exact List.getElem_mem hi))
    have HWL : Hid (∀ i, i < ws.length → (ws.getD i []).length ≤ 1000000) := Lib.hid (fun i hi => by
      have := (cut_bound b).1 (ws.getD i []) (by rw [← hws, List.getD_eq_getElem?_getD, List.getElem?_eq_getElem hi]; exact List.getElem_mem hi)
      omega)
    have HWC : Hid (0 < ws.length ∧ ws.length ≤ 121) := Lib.hid ⟨by rw [hws]; exact List.length_pos_iff.2 (cut_ne b), by rw [hws]; have := (cut_bound b).2; omega⟩
    rw [← hws] at CW
    have HLW := Lib.hid hw
    obtain ⟨S, hS⟩ : ∃ S, S = bstr b := ⟨_, rfl⟩
    rw [← hS] at CW hst HBS
    clear hws hB hO hw hS hn
    simp only [Ev.cells, Ev.zero] at hst CW
    go_enter Tryd.func18, Tryd.ntmps18
    go_wp2_with (first
      | (go_at_call 35; (with_reducible refine CW.out.mono ?_); rintro r w1 ⟨v, rfl, hv, hb1⟩; (obtain ⟨g, cg, rfl, hcg, _, hsg⟩ := own_strs hv HWC.out.1); have HB1 := Lib.hid (HB00.out.trans (hb1.mono HB00.out.size)); have HR1 := Lib.hid (HR0.out.keep hb1); (obtain ⟨L, hL⟩ : ∃ L, L = ws.length := ⟨_, rfl⟩); rw [← hL] at hcg; have CM := Lib.hid (wmeant_any ws g cg L hL (by rw [hL]; exact HWC.out.1) hcg (by have := HWC.out.2; omega) (by rw [hL]; exact HWO.out) (by rw [hL]; exact HWL.out) w1 hsg (HLW.out.keep HB1.out)); rw [← hL]; clear hv hb1 hsg CW hL)
      | (go_at_call 34; (with_reducible refine CM.out.mono ?_); rintro r w2 ⟨x, ok, rfl, hxo, hxy, hb2⟩; simp only [Ev.v]; have HB2 := Lib.hid (HB1.out.trans (hb2.mono HB1.out.size)); have HR2 := Lib.hid (HR1.out.keep hb2); have HXO := Lib.hid hxo; have HXY := Lib.hid hxy; clear hxo hxy hb2 CM; have HE3 : Hid (EvAt (w2.alloc (.cells x.cells.toArray 23)) w2.heap.size x) := Lib.hid (Rec.new w2 _ _ _ rfl); have HR3 := Lib.hid (HR2.out.keep ((Below.refl _ w2).alloc (Nat.le_refl _) (.cells x.cells.toArray 23))); have HB3 := Lib.hid (HB2.out.alloc HB2.out.size (.cells x.cells.toArray 23)); simp only [Ev.cells] at HB3; (obtain ⟨c0, c1, c2, c3, c4, c5, c6, c7⟩ := HR3.out.reads); have fz0 := Rec.frozen HR3.out 0; have fz1 := Rec.frozen HR3.out 1; have fz2 := Rec.frozen HR3.out 2; have fz3 := Rec.frozen HR3.out 3; have fz4 := Rec.frozen HR3.out 4; have fz5 := Rec.frozen HR3.out 5; have fz6 := Rec.frozen HR3.out 6; have fz7 := Rec.frozen HR3.out 7; simp only [Ev.cells, Ev.zero] at c0 c1 c2 c3 c4 c5 c6 c7 fz0 fz1 fz2 fz3 fz4 fz5 fz6 fz7; cases ok))
    · have HPZ := Lib.hid (put_at HR3.out Ev.zero)
      obtain ⟨g0, g1, g2, g3, g4, g5, g6, g7⟩ := HPZ.out.reads
      simp only [putE, Ev.zero, Ev.cells] at g0 g1 g2 g3 g4 g5 g6 g7
      refine bodyPost_ret (v := .tuple #[Ev.zero.v, .int .i64 1]) (by simp [results, Tryd.results18, go_sem, Ev.v, Ev.zero, g0, g1, g2, g3, g4, g5, g6, g7]) rfl ⟨Ev.zero, 1, rfl, parsed_none (fun y o r t => absurd (HXY.out y (HG.out y o r t)).1 (by simp)), ?_⟩
      exact put_below HB3.out (Nat.le_refl _) Ev.zero
    · clear c0 c1 c2 c3 c4 c5 c6 c7 fz0 fz1 fz2 fz3 fz4 fz5 fz6 fz7
      cases hr : rightE x with
      | false =>
        have CT := Lib.hid (fun W => wtext_no x hr W)
        have HNO : Hid (∀ y : Ev, y.Ok → rightE y = true → textL y ≠ b) := Lib.hid (fun y o r t => by
          have := (HXY.out y (HG.out y o r t)).2
          rw [this, r] at hr
          cases hr)
        unfold Ev.v at CT
        unfold TextK at CT
        go_wp2_with (go_at_call 13; (with_reducible refine (CT.out _).mono ?_); rintro r w4 ⟨rfl, hb4⟩; have HB4 := Lib.hid (HB3.out.trans (hb4.mono HB3.out.size)); have HR4 := Lib.hid (HR3.out.keep hb4); (obtain ⟨c0, c1, c2, c3, c4, c5, c6, c7⟩ := HR4.out.reads); have fz0 := Rec.frozen HR4.out 0; have fz1 := Rec.frozen HR4.out 1; have fz2 := Rec.frozen HR4.out 2; have fz3 := Rec.frozen HR4.out 3; have fz4 := Rec.frozen HR4.out 4; have fz5 := Rec.frozen HR4.out 5; have fz6 := Rec.frozen HR4.out 6; have fz7 := Rec.frozen HR4.out 7; clear hb4)
        have HPZ := Lib.hid (put_at HR4.out Ev.zero)
        obtain ⟨g0, g1, g2, g3, g4, g5, g6, g7⟩ := HPZ.out.reads
        simp only [putE, Ev.zero] at g0 g1 g2 g3 g4 g5 g6 g7
        refine bodyPost_ret (v := .tuple #[Ev.zero.v, .int .i64 1]) (by simp [results, Tryd.results18, go_sem, Ev.v, Ev.zero, g0, g1, g2, g3, g4, g5, g6, g7]) rfl ⟨Ev.zero, 1, rfl, parsed_none HNO.out, ?_⟩
        exact put_below HB4.out (Nat.le_refl _) Ev.zero
      | true =>
        have CT : Hid (∀ W, Below w.heap.size w W → Calls Tryd.prog 13 #[x.v] W (TextK W (textL x) 0)) := Lib.hid (fun W hW => wtext_yes x HXO.out hr W (HLW.out.keep hW))
        have HR := Lib.hid hr
        have hq := HBS.out x
        unfold Ev.v at CT
        unfold TextK at CT
        by_cases ht : textL x = b
        · rw [decide_eq_true ht] at hq
          have HT := Lib.hid ht
          generalize bstr (textL x) = T at *
          clear hr ht
          go_wp2_with (go_at_call 13; (with_reducible refine (CT.out _ HB3.out).mono ?_); rintro r w4 ⟨rfl, hb4⟩; have HB4 := Lib.hid (HB3.out.trans (hb4.mono HB3.out.size)); have HR4 := Lib.hid (HR3.out.keep hb4); have HE4 := Lib.hid (HE3.out.keep hb4); (obtain ⟨c0, c1, c2, c3, c4, c5, c6, c7⟩ := HR4.out.reads); (obtain ⟨d0, d1, d2, d3, d4, d5, d6, d7⟩ := HE4.out.reads); have fz0 := Rec.frozen HR4.out 0; have fz1 := Rec.frozen HR4.out 1; have fz2 := Rec.frozen HR4.out 2; have fz3 := Rec.frozen HR4.out 3; have fz4 := Rec.frozen HR4.out 4; have fz5 := Rec.frozen HR4.out 5; have fz6 := Rec.frozen HR4.out 6; have fz7 := Rec.frozen HR4.out 7; clear hb4)
          have HPX := Lib.hid (put_at HR4.out x)
          obtain ⟨g0, g1, g2, g3, g4, g5, g6, g7⟩ := HPX.out.reads
          simp only [putE] at g0 g1 g2 g3 g4 g5 g6 g7
          refine bodyPost_ret (v := .tuple #[x.v, .int .i64 0]) (by simp [results, Tryd.results18, go_sem, Ev.v, g0, g1, g2, g3, g4, g5, g6, g7]) rfl ⟨x, 0, rfl, Or.inl ⟨HXO.out, HR.out, HT.out, rfl⟩, ?_⟩
          exact put_below HB4.out (Nat.le_refl _) x
        · rw [decide_eq_false ht] at hq
          have HNO : Hid (∀ y : Ev, y.Ok → rightE y = true → textL y ≠ b) := Lib.hid (fun y o r t => by
            have := (HXY.out y (HG.out y o r t)).2
            rw [this] at ht
            exact ht t)
          generalize bstr (textL x) = T at *
          clear hr ht
          go_wp2_with (go_at_call 13; (with_reducible refine (CT.out _ HB3.out).mono ?_); rintro r w4 ⟨rfl, hb4⟩; have HB4 := Lib.hid (HB3.out.trans (hb4.mono HB3.out.size)); have HR4 := Lib.hid (HR3.out.keep hb4); (obtain ⟨c0, c1, c2, c3, c4, c5, c6, c7⟩ := HR4.out.reads); have fz0 := Rec.frozen HR4.out 0; have fz1 := Rec.frozen HR4.out 1; have fz2 := Rec.frozen HR4.out 2; have fz3 := Rec.frozen HR4.out 3; have fz4 := Rec.frozen HR4.out 4; have fz5 := Rec.frozen HR4.out 5; have fz6 := Rec.frozen HR4.out 6; have fz7 := Rec.frozen HR4.out 7; clear hb4)
          have HPZ := Lib.hid (put_at HR4.out Ev.zero)
          obtain ⟨g0, g1, g2, g3, g4, g5, g6, g7⟩ := HPZ.out.reads
          simp only [putE, Ev.zero] at g0 g1 g2 g3 g4 g5 g6 g7
          refine bodyPost_ret (v := .tuple #[Ev.zero.v, .int .i64 1]) (by simp [results, Tryd.results18, go_sem, Ev.v, Ev.zero, g0, g1, g2, g3, g4, g5, g6, g7]) rfl ⟨Ev.zero, 1, rfl, parsed_none HNO.out, ?_⟩
          exact put_below HB4.out (Nat.le_refl _) Ev.zero
  · have hd : decide (120 < (n : Int)) = true := decide_eq_true (by omega)
    have HNO : Hid (∀ y : Ev, y.Ok → rightE y = true → textL y ≠ b) := Lib.hid (fun y o r t => by
      have := text_len o
      rw [t] at this
      omega)
    clear hn hB hO hw
    go_enter Tryd.func18, Tryd.ntmps18
    go_wp2
    refine bodyPost_ret (v := .tuple #[Ev.zero.v, .int .i64 1]) (by simp [results, Tryd.results18, go_sem, Ev.v, Ev.zero]) rfl ⟨Ev.zero, 1, rfl, parsed_none HNO.out, HB00.out⟩
end Go.Proofs.YtjkbnljjmbfmiaaDoor
