import Derived.Test.YtmpipjangbedkaaGreatMJw5
import Derived.Test.YtmpipjangbedkaaGreatMJv9
/-
  The walk of the program's journal.Open.
-/
namespace Go.Proofs.YtmpipjangbedkaaGreat
set_option maxRecDepth 8000
open Go Go.RowKit
set_option linter.unusedVariables false

/-- A tape opened by the program. -/
def Tp.jopen (t : Tp) : Tp × Cfg × List Ev × Int :=
  if t.down then (t, Cfg.zero, [], 15) else
  if wholeOf (recs t.all) < t.all.length then
    (if (t.cut (wholeOf (recs t.all))).2 = 0 then ((t.cut (wholeOf (recs t.all))).1, openL t.all) else ((t.cut (wholeOf (recs t.all))).1, Cfg.zero, [], (t.cut (wholeOf (recs t.all))).2))
  else (t, openL t.all)
theorem cont_whole {L : List Nat} (hO : Oct L) : contL (L.take (wholeOf (recs L))) = contL L := by unfold contL; rw [(recs_whole hO).1]
set_option maxRecDepth 100000 in
set_option maxHeartbeats 8000000 in
theorem jopen_down (w : World) (base b : Nat) (v : Value) (t : Tp) (h : TapeAt false w base b v t) (hd : t.down = true) :
    Calls Tryz.prog 20 #[.pointer (some ⟨b, 0, none⟩)] w (OpenC false w base b v t.jopen) := by
  rw [show t.jopen = (t, Cfg.zero, [], 15) from by unfold Tp.jopen; rw [hd]; rfl]
  have HB0 : Hid (Below w.heap.size w (w.alloc (.cells (Cfg.zero.cells (.slice none 0 0)).toArray 31))) := Lib.hid ((Below.refl _ _).alloc (Nat.le_refl _) _)
  have HR0 : Hid (CfAt (w.alloc (.cells (Cfg.zero.cells (.slice none 0 0)).toArray 31)) w.heap.size Cfg.zero (.slice none 0 0)) := Lib.hid (Rec.new w _ (Cfg.zero.cells (.slice none 0 0)) _ rfl)
  have hcr := read_any _ base b v t (h.keep HB0.out)
  rw [show t.readL = ([], 15) from by unfold Tp.readL; rw [hd]; rfl] at hcr
  have CR := Lib.hid hcr
  simp only [Cfg.cells, Cfg.zero] at CR
  have H := Lib.hid h
  clear hcr h hd
  go_enter Tryz.func20, Tryz.ntmps20
  go_wp2_with (go_at_call 27; (with_reducible refine CR.out.mono ?_); rintro e w1 ⟨x, rfl, hx, hb1⟩; have HB1 := Lib.hid (HB0.out.trans (hb1.mono HB0.out.size)); have HR1 := Lib.hid (CfAt.keep HR0.out hb1); obtain ⟨d0, d1, d2, d3, d4, d5, d6⟩ := HR1.out.reads; simp only [Cfg.zero] at d0 d1 d2 d3 d4 d5 d6; have fz0 := Rec.frozen HR1.out 0; have fz1 := Rec.frozen HR1.out 1; have fz2 := Rec.frozen HR1.out 2; have fz3 := Rec.frozen HR1.out 3; have fz4 := Rec.frozen HR1.out 4; have fz5 := Rec.frozen HR1.out 5; have fz6 := Rec.frozen HR1.out 6; have hlt9 := Rec.lt HR1.out; clear hx hb1)
  have hPB := putC_below HB1.out (Nat.le_refl _) (.slice none 0 0) Cfg.zero
  obtain ⟨g0, g1, g2, g3, g4, g5, g6⟩ := (putC_at HR1.out (.slice none 0 0) Cfg.zero).reads
  simp only [putC, Cfg.zero] at g0 g1 g2 g3 g4 g5 g6
  simp only [putC, Cfg.zero] at hPB
  refine bodyPost_ret (v := .tuple #[.agg #[.slice none 0 0, .int .i64 0, .int .i64 0, .int .i64 0, .int .i64 0, .int .i64 0, .int .i64 0], .slice none 0 0, .int .i64 15]) (by simp [results, Tryz.results20, go_sem, g0, g1, g2, g3, g4, g5, g6]) rfl ?_
  exact openC_none (went_below H.out hPB)
set_option maxRecDepth 100000 in
set_option maxHeartbeats 8000000 in
theorem jopen_no_none (w : World) (base b : Nat) (v : Value) (t : Tp) (h : TapeAt false w base b v t) (hd : t.down = false) (hw : ¬ wholeOf (recs t.all) < t.all.length) (hr : recs t.all = []) :
    Calls Tryz.prog 20 #[.pointer (some ⟨b, 0, none⟩)] w (OpenC false w base b v t.jopen) := by
  rw [show t.jopen = (t, Cfg.zero, [], 3) from by unfold Tp.jopen openL; rw [hd, if_neg (by decide), if_neg hw, if_pos hr]]
  have HB0 : Hid (Below w.heap.size w (w.alloc (.cells (Cfg.zero.cells (.slice none 0 0)).toArray 31))) := Lib.hid ((Below.refl _ _).alloc (Nat.le_refl _) _)
  have HR0 : Hid (CfAt (w.alloc (.cells (Cfg.zero.cells (.slice none 0 0)).toArray 31)) w.heap.size Cfg.zero (.slice none 0 0)) := Lib.hid (Rec.new w _ (Cfg.zero.cells (.slice none 0 0)) _ rfl)
  have hcr := read_any _ base b v t (h.keep HB0.out)
  rw [show t.readL = (t.all, 0) from by unfold Tp.readL; rw [hd]; rfl] at hcr
  have CR := Lib.hid hcr
  simp only [Cfg.cells, Cfg.zero] at CR
  have H := Lib.hid h
  have HO : Hid (Oct t.all ∧ t.all.length ≤ 1048576) := Lib.hid ⟨h.ok.oct, by have h1 := h.ok.len; have h2 := h.ok.room; omega⟩
  have HF : Hid (∀ k, foot b v k → k < w.heap.size) := Lib.hid (fun k hk => (h.lt hk).2)
  have hwl := (recs_whole HO.out.1).2
  have hz : wholeOf (recs t.all) = 0 := whole_zero.2 hr
  obtain ⟨m, hm⟩ : ∃ m, m = wholeOf (recs t.all) := ⟨_, rfl⟩
  have HM := Lib.hid hm
  rw [← hm] at hw hwl hz
  have CW := Lib.hid (fun (A : Option Addr) (c : Nat) (W : World) (hB : Byts W A t.all) => whole_any A t.all c W hB HO.out.1 (by have := HO.out.2; omega))
  rw [← HM.out] at CW
  subst hz
  have hw1 : decide ((((0 : Nat) : Nat) : Int) < (t.all.length : Int)) = false := decide_eq_false (by omega)
  clear hm hcr h hd hr
  go_enter Tryz.func20, Tryz.ntmps20
  go_wp2_with (first
    | (go_at_call 27; (with_reducible refine CR.out.mono ?_); rintro e w1 ⟨x, rfl, hx, hb1⟩; obtain ⟨A, c, rfl, hA, hAc, hcm, hA0, hlow⟩ := OwnB.form hx; have HB1 := Lib.hid (HB0.out.trans (hb1.mono HB0.out.size)); have HR1 := Lib.hid (CfAt.keep HR0.out hb1); have HA1 := Lib.hid hA; have CW1 := Lib.hid (CW.out A c w1 hA); have HLW : Hid (∀ W W', Byts W A t.all → Touch (foot b v) W W' → Byts W' A t.all) := Lib.hid (fun W W' hB ht => hB.touch ht (fun bb off e _ hf => by have h1 := hlow bb off none e; have h2 := HF.out bb hf; simp at h1; omega)); clear hx hb1 hA hlow)
    | (go_at_call 49; (with_reducible refine CW1.out.mono ?_); rintro e w2 ⟨rfl, hb2⟩; have HA2 := Lib.hid (HA1.out.below hb2); have HB2 := Lib.hid (HB1.out.trans (hb2.mono HB1.out.size)); have HR2 := Lib.hid (CfAt.keep HR1.out hb2); obtain ⟨d0, d1, d2, d3, d4, d5, d6⟩ := HR2.out.reads; simp only [Cfg.zero] at d0 d1 d2 d3 d4 d5 d6; have fz0 := Rec.frozen HR2.out 0; have fz1 := Rec.frozen HR2.out 1; have fz2 := Rec.frozen HR2.out 2; have fz3 := Rec.frozen HR2.out 3; have fz4 := Rec.frozen HR2.out 4; have fz5 := Rec.frozen HR2.out 5; have fz6 := Rec.frozen HR2.out 6; have hlt9 := Rec.lt HR2.out; clear hb2))
  have hPB := putC_below HB2.out (Nat.le_refl _) (.slice none 0 0) Cfg.zero
  have hF := went_below H.out hPB
  obtain ⟨g0, g1, g2, g3, g4, g5, g6⟩ := (putC_at HR2.out (.slice none 0 0) Cfg.zero).reads
  simp only [putC, Cfg.zero] at g0 g1 g2 g3 g4 g5 g6
  simp only [putC, Cfg.zero] at hF
  refine bodyPost_ret (v := .tuple #[.agg #[.slice none 0 0, .int .i64 0, .int .i64 0, .int .i64 0, .int .i64 0, .int .i64 0, .int .i64 0], .slice none 0 0, .int .i64 3]) (by simp [results, Tryz.results20, go_sem, g0, g1, g2, g3, g4, g5, g6]) rfl ?_
  skip
  exact openC_none hF
set_option maxRecDepth 100000 in
set_option maxHeartbeats 8000000 in
theorem jopen_no_cont (w : World) (base b : Nat) (v : Value) (t : Tp) (h : TapeAt false w base b v t) (hd : t.down = false) (hw : ¬ wholeOf (recs t.all) < t.all.length) (hr : recs t.all ≠ []) :
    Calls Tryz.prog 20 #[.pointer (some ⟨b, 0, none⟩)] w (OpenC false w base b v t.jopen) := by
  rw [show t.jopen = (t, contL t.all) from by unfold Tp.jopen; rw [hd, if_neg (by decide), if_neg hw, cont_open hr]]
  have HB0 : Hid (Below w.heap.size w (w.alloc (.cells (Cfg.zero.cells (.slice none 0 0)).toArray 31))) := Lib.hid ((Below.refl _ _).alloc (Nat.le_refl _) _)
  have HR0 : Hid (CfAt (w.alloc (.cells (Cfg.zero.cells (.slice none 0 0)).toArray 31)) w.heap.size Cfg.zero (.slice none 0 0)) := Lib.hid (Rec.new w _ (Cfg.zero.cells (.slice none 0 0)) _ rfl)
  have hcr := read_any _ base b v t (h.keep HB0.out)
  rw [show t.readL = (t.all, 0) from by unfold Tp.readL; rw [hd]; rfl] at hcr
  have CR := Lib.hid hcr
  simp only [Cfg.cells, Cfg.zero] at CR
  have H := Lib.hid h
  have HO : Hid (Oct t.all ∧ t.all.length ≤ 1048576) := Lib.hid ⟨h.ok.oct, by have h1 := h.ok.len; have h2 := h.ok.room; omega⟩
  have HF : Hid (∀ k, foot b v k → k < w.heap.size) := Lib.hid (fun k hk => (h.lt hk).2)
  have hwl := (recs_whole HO.out.1).2
  have hz : wholeOf (recs t.all) ≠ 0 := fun e => hr (whole_zero.1 e)
  have hz1 : (((wholeOf (recs t.all) : Nat) : Int) == 0) = false := by rw [beq_eq_false_iff_ne]; omega
  have CV := Lib.hid (fun (A : Option Addr) (c : Nat) (W : World) (hB : Byts W A t.all) => contents_any A (t.all.take (wholeOf (recs t.all))) (wholeOf (recs t.all)) c W (by rw [List.length_take]; omega) (fun h0 => by
    have h1 : 0 < t.all.length := by rw [List.length_take] at h0; omega
    obtain ⟨bb, off, e, hcc⟩ := hB h1
    refine ⟨bb, off, e, fun i hi => ?_⟩
    rw [List.length_take] at hi
    rw [hcc i (by omega), List.getD_eq_getElem?_getD, List.getD_eq_getElem?_getD, List.getElem?_take_of_lt (by omega)]) (HO.out.1.take _) (by rw [List.length_take]; have := HO.out.2; omega))
  rw [cont_whole HO.out.1] at CV
  obtain ⟨m, hm⟩ : ∃ m, m = wholeOf (recs t.all) := ⟨_, rfl⟩
  have HM := Lib.hid hm
  rw [← hm] at hw hwl hz hz1 CV
  have CW := Lib.hid (fun (A : Option Addr) (c : Nat) (W : World) (hB : Byts W A t.all) => whole_any A t.all c W hB HO.out.1 (by have := HO.out.2; omega))
  rw [← HM.out] at CW
  have hw1 : decide ((m : Int) < (t.all.length : Int)) = false := decide_eq_false (by omega)
  obtain ⟨xc, hxc⟩ : ∃ xc, xc = contL t.all := ⟨_, rfl⟩
  rw [← hxc] at CV ⊢
  obtain ⟨cf, es, kk⟩ := xc
  have HQ : Hid (m ≤ t.all.length) := Lib.hid hwl
  clear hm hcr h hd hr hxc
  go_enter Tryz.func20, Tryz.ntmps20
  go_wp2_with (first
    | (go_at_call 27; (with_reducible refine CR.out.mono ?_); rintro e w1 ⟨x, rfl, hx, hb1⟩; obtain ⟨A, c, rfl, hA, hAc, hcm, hA0, hlow⟩ := OwnB.form hx; have HB1 := Lib.hid (HB0.out.trans (hb1.mono HB0.out.size)); have HR1 := Lib.hid (CfAt.keep HR0.out hb1); have HA1 := Lib.hid hA; have CW1 := Lib.hid (CW.out A c w1 hA); have HLW : Hid (∀ W W', Byts W A t.all → Touch (foot b v) W W' → Byts W' A t.all) := Lib.hid (fun W W' hB ht => hB.touch ht (fun bb off e _ hf => by have h1 := hlow bb off none e; have h2 := HF.out bb hf; simp at h1; omega)); clear hx hb1 hA hlow)
    | (go_at_call 49; (with_reducible refine CW1.out.mono ?_); rintro e w2 ⟨rfl, hb2⟩; have HA2 := Lib.hid (HA1.out.below hb2); have HB2 := Lib.hid (HB1.out.trans (hb2.mono HB1.out.size)); have HR2 := Lib.hid (CfAt.keep HR1.out hb2); have CV2 := Lib.hid (CV.out A c w2 HA2.out); clear hb2)
    | (go_at_call 51; (with_reducible refine CV2.out.mono ?_); rintro e w5 ⟨V, X, rfl, hoi, hoe, hb5⟩; obtain ⟨AV, cV, rfl, _⟩ := OwnL.form hoi lay_ins; obtain ⟨AX, cX, rfl, _⟩ := OwnL.form hoe lay_ev; simp only [Cfg.v]; have HR5 := Lib.hid (CfAt.keep HR2.out hb5); have HI5 := Lib.hid (OwnL.lower hoi (Nat.succ_le_of_lt (Rec.lt HR2.out))); have HE5 := Lib.hid (OwnL.lower hoe (Nat.succ_le_of_lt (Rec.lt HR2.out))); have HB5 := Lib.hid (HB2.out.trans (hb5.mono HB2.out.size)); clear hoi hoe hb5; obtain ⟨d0, d1, d2, d3, d4, d5, d6⟩ := HR5.out.reads; simp only [Cfg.zero] at d0 d1 d2 d3 d4 d5 d6; have fz0 := Rec.frozen HR5.out 0; have fz1 := Rec.frozen HR5.out 1; have fz2 := Rec.frozen HR5.out 2; have fz3 := Rec.frozen HR5.out 3; have fz4 := Rec.frozen HR5.out 4; have fz5 := Rec.frozen HR5.out 5; have fz6 := Rec.frozen HR5.out 6; have hlt9 := Rec.lt HR5.out))
  have hPB0 := putC_below HB5.out (Nat.le_refl _) (.slice AV cf.insts.length cV) cf
  have hF := went_below H.out hPB0
  obtain ⟨g0, g1, g2, g3, g4, g5, g6⟩ := (putC_at HR5.out (.slice AV cf.insts.length cV) cf).reads
  have hI9 : OwnI (putC w5 w.heap.size (.slice AV cf.insts.length cV) cf) w.heap.size (.slice AV cf.insts.length cV) cf.insts := OwnL.lower (OwnL.touch HI5.out (putC_touch w5 w.heap.size (.slice AV cf.insts.length cV) cf) (fun j hj e => by have h1 := (OwnL.lt HI5.out j hj).1; have e' : j = w.heap.size := e; omega)) (by omega)
  have hE9 : OwnE (putC w5 w.heap.size (.slice AV cf.insts.length cV) cf) w.heap.size (.slice AX es.length cX) es := OwnL.lower (OwnL.touch HE5.out (putC_touch w5 w.heap.size (.slice AV cf.insts.length cV) cf) (fun j hj e => by have h1 := (OwnL.lt HE5.out j hj).1; have e' : j = w.heap.size := e; omega)) (by omega)
  simp only [putC] at g0 g1 g2 g3 g4 g5 g6 hF hI9 hE9
  refine bodyPost_ret (v := .tuple #[.agg #[.slice AV cf.insts.length cV, .int .i64 cf.skin, .int .i64 cf.times, .int .i64 cf.port, .int .i64 cf.bid, .int .i64 cf.lot, .int .i64 cf.hedge], .slice AX es.length cX, .int .i64 kk]) (by simp [results, Tryz.results20, go_sem, g0, g1, g2, g3, g4, g5, g6]) rfl ?_
  exact ⟨_, _, rfl, hI9, hE9, hF⟩
set_option maxRecDepth 100000 in
set_option maxHeartbeats 8000000 in
theorem jopen_ok_none (w : World) (base b : Nat) (v : Value) (t : Tp) (h : TapeAt false w base b v t) (hd : t.down = false) (hw : wholeOf (recs t.all) < t.all.length) (hc : (t.cut (wholeOf (recs t.all))).2 = 0) (hr : recs t.all = []) :
    Calls Tryz.prog 20 #[.pointer (some ⟨b, 0, none⟩)] w (OpenC false w base b v t.jopen) := by
  rw [show t.jopen = ((t.cut (wholeOf (recs t.all))).1, Cfg.zero, [], 3) from by unfold Tp.jopen openL; rw [hd, if_neg (by decide), if_pos hw, if_pos hc, if_pos hr]]
  have HB0 : Hid (Below w.heap.size w (w.alloc (.cells (Cfg.zero.cells (.slice none 0 0)).toArray 31))) := Lib.hid ((Below.refl _ _).alloc (Nat.le_refl _) _)
  have HR0 : Hid (CfAt (w.alloc (.cells (Cfg.zero.cells (.slice none 0 0)).toArray 31)) w.heap.size Cfg.zero (.slice none 0 0)) := Lib.hid (Rec.new w _ (Cfg.zero.cells (.slice none 0 0)) _ rfl)
  have hcr := read_any _ base b v t (h.keep HB0.out)
  rw [show t.readL = (t.all, 0) from by unfold Tp.readL; rw [hd]; rfl] at hcr
  have CR := Lib.hid hcr
  simp only [Cfg.cells, Cfg.zero] at CR
  have H := Lib.hid h
  have HO : Hid (Oct t.all ∧ t.all.length ≤ 1048576) := Lib.hid ⟨h.ok.oct, by have h1 := h.ok.len; have h2 := h.ok.room; omega⟩
  have HF : Hid (∀ k, foot b v k → k < w.heap.size) := Lib.hid (fun k hk => (h.lt hk).2)
  have hwl := (recs_whole HO.out.1).2
  have CC := Lib.hid (fun W (hb : Below w.heap.size w W) => cut_any W base b v t ((wholeOf (recs t.all) : Nat) : Int) (h.keep hb))
  rw [hc] at CC
  generalize (t.cut ((wholeOf (recs t.all) : Nat) : Int)).1 = TC at CC ⊢
  clear hc
  have hz : wholeOf (recs t.all) = 0 := whole_zero.2 hr
  rw [show ((wholeOf (recs t.all) : Nat) : Int) = 0 from by omega] at CC
  obtain ⟨m, hm⟩ : ∃ m, m = wholeOf (recs t.all) := ⟨_, rfl⟩
  have HM := Lib.hid hm
  rw [← hm] at hw hwl hz
  have CW := Lib.hid (fun (A : Option Addr) (c : Nat) (W : World) (hB : Byts W A t.all) => whole_any A t.all c W hB HO.out.1 (by have := HO.out.2; omega))
  rw [← HM.out] at CW
  subst hz
  clear hm hcr h hd hr
  go_enter Tryz.func20, Tryz.ntmps20
  go_wp2_with (first
    | (go_at_call 27; (with_reducible refine CR.out.mono ?_); rintro e w1 ⟨x, rfl, hx, hb1⟩; obtain ⟨A, c, rfl, hA, hAc, hcm, hA0, hlow⟩ := OwnB.form hx; have HB1 := Lib.hid (HB0.out.trans (hb1.mono HB0.out.size)); have HR1 := Lib.hid (CfAt.keep HR0.out hb1); have HA1 := Lib.hid hA; have CW1 := Lib.hid (CW.out A c w1 hA); have HLW : Hid (∀ W W', Byts W A t.all → Touch (foot b v) W W' → Byts W' A t.all) := Lib.hid (fun W W' hB ht => hB.touch ht (fun bb off e _ hf => by have h1 := hlow bb off none e; have h2 := HF.out bb hf; simp at h1; omega)); clear hx hb1 hA hlow)
    | (go_at_call 49; (with_reducible refine CW1.out.mono ?_); rintro e w2 ⟨rfl, hb2⟩; have HA2 := Lib.hid (HA1.out.below hb2); have HB2 := Lib.hid (HB1.out.trans (hb2.mono HB1.out.size)); have HR2 := Lib.hid (CfAt.keep HR1.out hb2); have CC2 := Lib.hid (CC.out w2 HB2.out); clear hb2)
    | (go_at_call 50; (with_reducible refine CC2.out.mono ?_); rintro e w4 ⟨rfl, hW⟩; have HW := Lib.hid hW; have HR4 : Hid (CfAt w4 w.heap.size Cfg.zero (.slice none 0 0)) := Lib.hid (Rec.touch HR2.out (went_touch hW) (fun hf => by have := HF.out _ hf; omega)); obtain ⟨d0, d1, d2, d3, d4, d5, d6⟩ := HR4.out.reads; simp only [Cfg.zero] at d0 d1 d2 d3 d4 d5 d6; have fz0 := Rec.frozen HR4.out 0; have fz1 := Rec.frozen HR4.out 1; have fz2 := Rec.frozen HR4.out 2; have fz3 := Rec.frozen HR4.out 3; have fz4 := Rec.frozen HR4.out 4; have fz5 := Rec.frozen HR4.out 5; have fz6 := Rec.frozen HR4.out 6; have hlt9 := Rec.lt HR4.out; clear hW))
  have hF := went_fin H.out HB2.out (Rec.lt HR2.out) HW.out (.slice none 0 0) Cfg.zero
  obtain ⟨g0, g1, g2, g3, g4, g5, g6⟩ := (putC_at HR4.out (.slice none 0 0) Cfg.zero).reads
  simp only [putC, Cfg.zero] at g0 g1 g2 g3 g4 g5 g6
  simp only [putC, Cfg.zero] at hF
  refine bodyPost_ret (v := .tuple #[.agg #[.slice none 0 0, .int .i64 0, .int .i64 0, .int .i64 0, .int .i64 0, .int .i64 0, .int .i64 0], .slice none 0 0, .int .i64 3]) (by simp [results, Tryz.results20, go_sem, g0, g1, g2, g3, g4, g5, g6]) rfl ?_
  skip
  exact openC_none hF
set_option maxRecDepth 100000 in
set_option maxHeartbeats 8000000 in
theorem jopen_ok_cont (w : World) (base b : Nat) (v : Value) (t : Tp) (h : TapeAt false w base b v t) (hd : t.down = false) (hw : wholeOf (recs t.all) < t.all.length) (hc : (t.cut (wholeOf (recs t.all))).2 = 0) (hr : recs t.all ≠ []) :
    Calls Tryz.prog 20 #[.pointer (some ⟨b, 0, none⟩)] w (OpenC false w base b v t.jopen) := by
  rw [show t.jopen = ((t.cut (wholeOf (recs t.all))).1, contL t.all) from by unfold Tp.jopen; rw [hd, if_neg (by decide), if_pos hw, if_pos hc, cont_open hr]]
  have HB0 : Hid (Below w.heap.size w (w.alloc (.cells (Cfg.zero.cells (.slice none 0 0)).toArray 31))) := Lib.hid ((Below.refl _ _).alloc (Nat.le_refl _) _)
  have HR0 : Hid (CfAt (w.alloc (.cells (Cfg.zero.cells (.slice none 0 0)).toArray 31)) w.heap.size Cfg.zero (.slice none 0 0)) := Lib.hid (Rec.new w _ (Cfg.zero.cells (.slice none 0 0)) _ rfl)
  have hcr := read_any _ base b v t (h.keep HB0.out)
  rw [show t.readL = (t.all, 0) from by unfold Tp.readL; rw [hd]; rfl] at hcr
  have CR := Lib.hid hcr
  simp only [Cfg.cells, Cfg.zero] at CR
  have H := Lib.hid h
  have HO : Hid (Oct t.all ∧ t.all.length ≤ 1048576) := Lib.hid ⟨h.ok.oct, by have h1 := h.ok.len; have h2 := h.ok.room; omega⟩
  have HF : Hid (∀ k, foot b v k → k < w.heap.size) := Lib.hid (fun k hk => (h.lt hk).2)
  have hwl := (recs_whole HO.out.1).2
  have CC := Lib.hid (fun W (hb : Below w.heap.size w W) => cut_any W base b v t ((wholeOf (recs t.all) : Nat) : Int) (h.keep hb))
  rw [hc] at CC
  generalize (t.cut ((wholeOf (recs t.all) : Nat) : Int)).1 = TC at CC ⊢
  clear hc
  have hz : wholeOf (recs t.all) ≠ 0 := fun e => hr (whole_zero.1 e)
  have hz1 : (((wholeOf (recs t.all) : Nat) : Int) == 0) = false := by rw [beq_eq_false_iff_ne]; omega
  have CV := Lib.hid (fun (A : Option Addr) (c : Nat) (W : World) (hB : Byts W A t.all) => contents_any A (t.all.take (wholeOf (recs t.all))) (wholeOf (recs t.all)) c W (by rw [List.length_take]; omega) (fun h0 => by
    have h1 : 0 < t.all.length := by rw [List.length_take] at h0; omega
    obtain ⟨bb, off, e, hcc⟩ := hB h1
    refine ⟨bb, off, e, fun i hi => ?_⟩
    rw [List.length_take] at hi
    rw [hcc i (by omega), List.getD_eq_getElem?_getD, List.getD_eq_getElem?_getD, List.getElem?_take_of_lt (by omega)]) (HO.out.1.take _) (by rw [List.length_take]; have := HO.out.2; omega))
  rw [cont_whole HO.out.1] at CV
  obtain ⟨m, hm⟩ : ∃ m, m = wholeOf (recs t.all) := ⟨_, rfl⟩
  have HM := Lib.hid hm
  rw [← hm] at hw hwl hz hz1 CV CC
  have CW := Lib.hid (fun (A : Option Addr) (c : Nat) (W : World) (hB : Byts W A t.all) => whole_any A t.all c W hB HO.out.1 (by have := HO.out.2; omega))
  rw [← HM.out] at CW
  obtain ⟨xc, hxc⟩ : ∃ xc, xc = contL t.all := ⟨_, rfl⟩
  rw [← hxc] at CV ⊢
  obtain ⟨cf, es, kk⟩ := xc
  have HQ : Hid (m ≤ t.all.length) := Lib.hid hwl
  clear hm hcr h hd hr hxc
  go_enter Tryz.func20, Tryz.ntmps20
  go_wp2_with (first
    | (go_at_call 27; (with_reducible refine CR.out.mono ?_); rintro e w1 ⟨x, rfl, hx, hb1⟩; obtain ⟨A, c, rfl, hA, hAc, hcm, hA0, hlow⟩ := OwnB.form hx; have HB1 := Lib.hid (HB0.out.trans (hb1.mono HB0.out.size)); have HR1 := Lib.hid (CfAt.keep HR0.out hb1); have HA1 := Lib.hid hA; have CW1 := Lib.hid (CW.out A c w1 hA); have HLW : Hid (∀ W W', Byts W A t.all → Touch (foot b v) W W' → Byts W' A t.all) := Lib.hid (fun W W' hB ht => hB.touch ht (fun bb off e _ hf => by have h1 := hlow bb off none e; have h2 := HF.out bb hf; simp at h1; omega)); clear hx hb1 hA hlow)
    | (go_at_call 49; (with_reducible refine CW1.out.mono ?_); rintro e w2 ⟨rfl, hb2⟩; have HA2 := Lib.hid (HA1.out.below hb2); have HB2 := Lib.hid (HB1.out.trans (hb2.mono HB1.out.size)); have HR2 := Lib.hid (CfAt.keep HR1.out hb2); have CC2 := Lib.hid (CC.out w2 HB2.out); clear hb2)
    | (go_at_call 50; (with_reducible refine CC2.out.mono ?_); rintro e w4 ⟨rfl, hW⟩; have HW := Lib.hid hW; have HR4 : Hid (CfAt w4 w.heap.size Cfg.zero (.slice none 0 0)) := Lib.hid (Rec.touch HR2.out (went_touch hW) (fun hf => by have := HF.out _ hf; omega)); have CV2 := Lib.hid (CV.out A c w4 (HLW.out _ _ HA2.out (went_touch hW))); clear hW)
    | (go_at_call 51; (with_reducible refine CV2.out.mono ?_); rintro e w5 ⟨V, X, rfl, hoi, hoe, hb5⟩; obtain ⟨AV, cV, rfl, _⟩ := OwnL.form hoi lay_ins; obtain ⟨AX, cX, rfl, _⟩ := OwnL.form hoe lay_ev; simp only [Cfg.v]; have HR5 := Lib.hid (CfAt.keep HR4.out hb5); have HI5 := Lib.hid (OwnL.lower hoi (Nat.succ_le_of_lt (Rec.lt HR4.out))); have HE5 := Lib.hid (OwnL.lower hoe (Nat.succ_le_of_lt (Rec.lt HR4.out))); have HW5 := Lib.hid (went_keep HW.out hb5); clear hoi hoe hb5; obtain ⟨d0, d1, d2, d3, d4, d5, d6⟩ := HR5.out.reads; simp only [Cfg.zero] at d0 d1 d2 d3 d4 d5 d6; have fz0 := Rec.frozen HR5.out 0; have fz1 := Rec.frozen HR5.out 1; have fz2 := Rec.frozen HR5.out 2; have fz3 := Rec.frozen HR5.out 3; have fz4 := Rec.frozen HR5.out 4; have fz5 := Rec.frozen HR5.out 5; have fz6 := Rec.frozen HR5.out 6; have hlt9 := Rec.lt HR5.out))
  have hF := went_fin H.out HB2.out (Rec.lt HR2.out) HW5.out (.slice AV cf.insts.length cV) cf
  obtain ⟨g0, g1, g2, g3, g4, g5, g6⟩ := (putC_at HR5.out (.slice AV cf.insts.length cV) cf).reads
  have hI9 : OwnI (putC w5 w.heap.size (.slice AV cf.insts.length cV) cf) w.heap.size (.slice AV cf.insts.length cV) cf.insts := OwnL.lower (OwnL.touch HI5.out (putC_touch w5 w.heap.size (.slice AV cf.insts.length cV) cf) (fun j hj e => by have h1 := (OwnL.lt HI5.out j hj).1; have e' : j = w.heap.size := e; omega)) (by omega)
  have hE9 : OwnE (putC w5 w.heap.size (.slice AV cf.insts.length cV) cf) w.heap.size (.slice AX es.length cX) es := OwnL.lower (OwnL.touch HE5.out (putC_touch w5 w.heap.size (.slice AV cf.insts.length cV) cf) (fun j hj e => by have h1 := (OwnL.lt HE5.out j hj).1; have e' : j = w.heap.size := e; omega)) (by omega)
  simp only [putC] at g0 g1 g2 g3 g4 g5 g6 hF hI9 hE9
  refine bodyPost_ret (v := .tuple #[.agg #[.slice AV cf.insts.length cV, .int .i64 cf.skin, .int .i64 cf.times, .int .i64 cf.port, .int .i64 cf.bid, .int .i64 cf.lot, .int .i64 cf.hedge], .slice AX es.length cX, .int .i64 kk]) (by simp [results, Tryz.results20, go_sem, g0, g1, g2, g3, g4, g5, g6]) rfl ?_
  exact ⟨_, _, rfl, hI9, hE9, hF⟩
set_option maxRecDepth 100000 in
set_option maxHeartbeats 8000000 in
theorem jopen_bad_fail (w : World) (base b : Nat) (v : Value) (t : Tp) (h : TapeAt false w base b v t) (hd : t.down = false) (hw : wholeOf (recs t.all) < t.all.length) (K : Int) (hK : K ≠ 0) (hc : (t.cut (wholeOf (recs t.all))).2 = K) :
    Calls Tryz.prog 20 #[.pointer (some ⟨b, 0, none⟩)] w (OpenC false w base b v t.jopen) := by
  rw [show t.jopen = ((t.cut (wholeOf (recs t.all))).1, Cfg.zero, [], K) from by unfold Tp.jopen; rw [hd, if_neg (by decide), if_pos hw, if_neg (by rw [hc]; exact hK), hc]]
  have HB0 : Hid (Below w.heap.size w (w.alloc (.cells (Cfg.zero.cells (.slice none 0 0)).toArray 31))) := Lib.hid ((Below.refl _ _).alloc (Nat.le_refl _) _)
  have HR0 : Hid (CfAt (w.alloc (.cells (Cfg.zero.cells (.slice none 0 0)).toArray 31)) w.heap.size Cfg.zero (.slice none 0 0)) := Lib.hid (Rec.new w _ (Cfg.zero.cells (.slice none 0 0)) _ rfl)
  have hcr := read_any _ base b v t (h.keep HB0.out)
  rw [show t.readL = (t.all, 0) from by unfold Tp.readL; rw [hd]; rfl] at hcr
  have CR := Lib.hid hcr
  simp only [Cfg.cells, Cfg.zero] at CR
  have H := Lib.hid h
  have HO : Hid (Oct t.all ∧ t.all.length ≤ 1048576) := Lib.hid ⟨h.ok.oct, by have h1 := h.ok.len; have h2 := h.ok.room; omega⟩
  have HF : Hid (∀ k, foot b v k → k < w.heap.size) := Lib.hid (fun k hk => (h.lt hk).2)
  have hwl := (recs_whole HO.out.1).2
  have CC := Lib.hid (fun W (hb : Below w.heap.size w W) => cut_any W base b v t ((wholeOf (recs t.all) : Nat) : Int) (h.keep hb))
  rw [hc] at CC
  generalize (t.cut ((wholeOf (recs t.all) : Nat) : Int)).1 = TC at CC ⊢
  clear hc
  obtain ⟨m, hm⟩ : ∃ m, m = wholeOf (recs t.all) := ⟨_, rfl⟩
  have HM := Lib.hid hm
  rw [← hm] at hw hwl CC
  have CW := Lib.hid (fun (A : Option Addr) (c : Nat) (W : World) (hB : Byts W A t.all) => whole_any A t.all c W hB HO.out.1 (by have := HO.out.2; omega))
  rw [← HM.out] at CW
  have hKn : (K != 0) = true := by rw [bne_iff_ne]; exact hK
  clear hm hcr h hd
  go_enter Tryz.func20, Tryz.ntmps20
  go_wp2_with (first
    | (go_at_call 27; (with_reducible refine CR.out.mono ?_); rintro e w1 ⟨x, rfl, hx, hb1⟩; obtain ⟨A, c, rfl, hA, hAc, hcm, hA0, hlow⟩ := OwnB.form hx; have HB1 := Lib.hid (HB0.out.trans (hb1.mono HB0.out.size)); have HR1 := Lib.hid (CfAt.keep HR0.out hb1); have HA1 := Lib.hid hA; have CW1 := Lib.hid (CW.out A c w1 hA); have HLW : Hid (∀ W W', Byts W A t.all → Touch (foot b v) W W' → Byts W' A t.all) := Lib.hid (fun W W' hB ht => hB.touch ht (fun bb off e _ hf => by have h1 := hlow bb off none e; have h2 := HF.out bb hf; simp at h1; omega)); clear hx hb1 hA hlow)
    | (go_at_call 49; (with_reducible refine CW1.out.mono ?_); rintro e w2 ⟨rfl, hb2⟩; have HA2 := Lib.hid (HA1.out.below hb2); have HB2 := Lib.hid (HB1.out.trans (hb2.mono HB1.out.size)); have HR2 := Lib.hid (CfAt.keep HR1.out hb2); have CC2 := Lib.hid (CC.out w2 HB2.out); clear hb2)
    | (go_at_call 50; (with_reducible refine CC2.out.mono ?_); rintro e w4 ⟨rfl, hW⟩; have HW := Lib.hid hW; have HR4 : Hid (CfAt w4 w.heap.size Cfg.zero (.slice none 0 0)) := Lib.hid (Rec.touch HR2.out (went_touch hW) (fun hf => by have := HF.out _ hf; omega)); obtain ⟨d0, d1, d2, d3, d4, d5, d6⟩ := HR4.out.reads; simp only [Cfg.zero] at d0 d1 d2 d3 d4 d5 d6; have fz0 := Rec.frozen HR4.out 0; have fz1 := Rec.frozen HR4.out 1; have fz2 := Rec.frozen HR4.out 2; have fz3 := Rec.frozen HR4.out 3; have fz4 := Rec.frozen HR4.out 4; have fz5 := Rec.frozen HR4.out 5; have fz6 := Rec.frozen HR4.out 6; have hlt9 := Rec.lt HR4.out; clear hW))
  have hF := went_fin H.out HB2.out (Rec.lt HR2.out) HW.out (.slice none 0 0) Cfg.zero
  obtain ⟨g0, g1, g2, g3, g4, g5, g6⟩ := (putC_at HR4.out (.slice none 0 0) Cfg.zero).reads
  simp only [putC, Cfg.zero] at g0 g1 g2 g3 g4 g5 g6
  simp only [putC, Cfg.zero] at hF
  refine bodyPost_ret (v := .tuple #[.agg #[.slice none 0 0, .int .i64 0, .int .i64 0, .int .i64 0, .int .i64 0, .int .i64 0, .int .i64 0], .slice none 0 0, .int .i64 K]) (by simp [results, Tryz.results20, go_sem, g0, g1, g2, g3, g4, g5, g6]) rfl ?_
  skip
  exact openC_none hF
theorem jopen_any (w : World) (base b : Nat) (v : Value) (t : Tp) (h : TapeAt false w base b v t) :
    Calls Tryz.prog 20 #[.pointer (some ⟨b, 0, none⟩)] w (OpenC false w base b v t.jopen) := by
  cases hd : t.down with
  | true => exact jopen_down w base b v t h hd
  | false =>
    by_cases hw : wholeOf (recs t.all) < t.all.length
    · by_cases hc : (t.cut (wholeOf (recs t.all))).2 = 0
      · by_cases hr : recs t.all = []
        · exact jopen_ok_none w base b v t h hd hw hc hr
        · exact jopen_ok_cont w base b v t h hd hw hc hr
      · exact jopen_bad_fail w base b v t h hd hw _ hc rfl
    · by_cases hr : recs t.all = []
      · exact jopen_no_none w base b v t h hd hw hr
      · exact jopen_no_cont w base b v t h hd hw hr
end Go.Proofs.YtmpipjangbedkaaGreat
