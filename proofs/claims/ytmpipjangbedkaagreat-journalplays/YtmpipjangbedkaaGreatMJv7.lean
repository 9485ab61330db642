import Derived.Test.YtmpipjangbedkaaGreatMJv6
/-
  The walk of the reference's OpenJournal on a tape whose bytes are whole records.
-/
namespace Go.Proofs.YtmpipjangbedkaaGreat
set_option maxRecDepth 8000
open Go Go.RowKit
set_option linter.unusedVariables false

theorem ownB_addr {w : World} {base : Nat} {A : Option Addr} {n c : Nat} {l : List Nat} (h : OwnB w base (.slice A n c) l) : c = 0 ∨ ∃ b off, A = some ⟨b, off, none⟩ := by
  rcases h.2 with ⟨e, _⟩ | ⟨g, cap, cur, e, _⟩
  · injection e with _ _ e3; exact .inl e3
  · injection e with e1; exact .inr ⟨g, 0, e1⟩
set_option maxRecDepth 100000 in
set_option maxHeartbeats 8000000 in
theorem ropen_none (w : World) (base b : Nat) (v : Value) (t : Tp) (h : TapeAt true w base b v t) (hd : t.down = false) (hw : ¬ wholeOf (recs t.all) < t.all.length) (hr : recs t.all = []) :
    Calls Tryz.prog 21 #[.pointer (some ⟨b, 0, none⟩)] w (OpenC true w base b v t.ropen) := by
  rw [show t.ropen = (t, Cfg.zero, [], 3) from by unfold Tp.ropen openL; rw [hd, if_neg (by decide), if_neg hw, if_pos hr]]
  have HB0 : Hid (Below w.heap.size w (w.alloc (.cells (Cfg.zero.cells (.slice none 0 0)).toArray 31))) := Lib.hid ((Below.refl _ _).alloc (Nat.le_refl _) _)
  have HR0 : Hid (CfAt (w.alloc (.cells (Cfg.zero.cells (.slice none 0 0)).toArray 31)) w.heap.size Cfg.zero (.slice none 0 0)) := Lib.hid (Rec.new w _ (Cfg.zero.cells (.slice none 0 0)) _ rfl)
  have hcr := rread_any _ base b v t (h.keep HB0.out)
  rw [show t.readL = (t.all, 0) from by unfold Tp.readL; rw [hd]; rfl] at hcr
  have CR := Lib.hid hcr
  simp only [Cfg.cells, Cfg.zero] at CR
  have H := Lib.hid h
  have HO : Hid (Oct t.all ∧ t.all.length ≤ 1048576) := Lib.hid ⟨h.ok.oct, by have h1 := h.ok.len; have h2 := h.ok.room; omega⟩
  have HRN := Lib.hid hr
  have hw0 : ¬ ((wholeOf (recs t.all) : Nat) : Int) < (t.all.length : Int) := by omega
  have hw1 : decide (((wholeOf (recs t.all) : Nat) : Int) < (t.all.length : Int)) = false := decide_eq_false hw0
  have hlr : (recs t.all).length = 0 := by rw [hr]; rfl
  clear hcr h hd hr
  go_enter Tryz.func21, Tryz.ntmps21
  go_wp2_with (first
    | (go_at_call 52; (with_reducible refine CR.out.mono ?_); rintro e w1 ⟨x, rfl, hx, hb1⟩; obtain ⟨A, c, rfl, hA, hAc, hcm, hA0, _⟩ := OwnB.form hx; have HB1 := Lib.hid (HB0.out.trans (hb1.mono HB0.out.size)); have HR1 := Lib.hid (CfAt.keep HR0.out hb1); have CQ := Lib.hid (records_any A t.all c w1 hA HO.out.1 (by have := HO.out.2; omega) hAc hcm (ownB_addr hx)); clear hx hb1 hA)
    | (go_at_call 53; (with_reducible refine CQ.out.mono ?_); rintro e w2 ⟨v1, v2, rfl, hS, hb2⟩; obtain ⟨A2, c2, rfl, _⟩ := recs_rows hS; rw [hlr]; have HB2 := Lib.hid (HB1.out.trans (hb2.mono HB1.out.size)); have HR2 := Lib.hid (CfAt.keep HR1.out hb2); obtain ⟨d0, d1, d2, d3, d4, d5, d6⟩ := HR2.out.reads; simp only [Cfg.zero] at d0 d1 d2 d3 d4 d5 d6; have fz0 := Rec.frozen HR2.out 0; have fz1 := Rec.frozen HR2.out 1; have fz2 := Rec.frozen HR2.out 2; have fz3 := Rec.frozen HR2.out 3; have fz4 := Rec.frozen HR2.out 4; have fz5 := Rec.frozen HR2.out 5; have fz6 := Rec.frozen HR2.out 6; clear hS hb2))
  have hPB := putC_below HB2.out (Nat.le_refl _) (.slice none 0 0) Cfg.zero
  obtain ⟨g0, g1, g2, g3, g4, g5, g6⟩ := (putC_at HR2.out (.slice none 0 0) Cfg.zero).reads
  simp only [putC, Cfg.zero] at g0 g1 g2 g3 g4 g5 g6
  simp only [putC, Cfg.zero] at hPB
  refine bodyPost_ret (v := .tuple #[.agg #[.slice none 0 0, .int .i64 0, .int .i64 0, .int .i64 0, .int .i64 0, .int .i64 0, .int .i64 0], .slice none 0 0, .int .i64 3]) (by simp [results, Tryz.results21, go_sem, g0, g1, g2, g3, g4, g5, g6]) rfl ?_
  exact openC_none (went_below H.out hPB)
end Go.Proofs.YtmpipjangbedkaaGreat

/-
  The walk of the reference's OpenJournal on a tape whose bytes are whole records: by what they are.
-/
namespace Go.Proofs.YtmpipjangbedkaaGreat
set_option maxRecDepth 8000
open Go Go.RowKit
set_option linter.unusedVariables false

theorem jourC_bad {w w' : World} {e : Ending} (h : JourC w none e w') : ∃ V k X, e = .returned (.tuple #[.agg #[.slice V 0 k, .int .i64 0, .int .i64 0, .int .i64 0, .int .i64 0, .int .i64 0, .int .i64 0], X, .int .i64 0, .bool false]) ∧ Below w.heap.size w w' := by
  obtain ⟨v, X, e1, h1, _, h2⟩ := h
  obtain ⟨V, k, rfl, _⟩ := OwnL.form h1 lay_ins
  exact ⟨V, k, X, e1, h2⟩
theorem jourC_good {w w' : World} {e : Ending} {cf : Cfg} {es : List Ev} {M : Nat} (h : JourC w (some (cf, es, M)) e w') : ∃ V k X, e = .returned (.tuple #[.agg #[.slice V cf.insts.length k, .int .i64 cf.skin, .int .i64 cf.times, .int .i64 cf.port, .int .i64 cf.bid, .int .i64 cf.lot, .int .i64 cf.hedge], X, .int .i64 (M : Int), .bool true]) ∧ OwnI w' w.heap.size (.slice V cf.insts.length k) cf.insts ∧ OwnE w' w.heap.size X es ∧ Below w.heap.size w w' := by
  obtain ⟨v, X, e1, h1, h3, h2⟩ := h
  obtain ⟨V, k, rfl, _⟩ := OwnL.form h1 lay_ins
  exact ⟨V, k, X, e1, h1, h3, h2⟩
theorem ownL_fin {α : Type} {enc : α → List Value} {e sz : Nat} {l : List α} {w wr : World} {X : Value} (h : OwnL enc e sz wr (w.heap.size + 1) X l) (V : Value) (cf : Cfg) (ob : Obj) : OwnL enc e sz ((putC wr w.heap.size V cf).alloc ob) w.heap.size X l :=
  (OwnL.lower (OwnL.touch h (putC_touch wr w.heap.size V cf) (fun j hj e => by have h1 := (OwnL.lt h j hj).1; have e' : j = w.heap.size := e; omega)) (by omega)).alloc ob
set_option maxRecDepth 100000 in
set_option maxHeartbeats 8000000 in
theorem ropen_bad (w : World) (base b : Nat) (v : Value) (t : Tp) (h : TapeAt true w base b v t) (hd : t.down = false) (hw : ¬ wholeOf (recs t.all) < t.all.length) (hr : recs t.all ≠ []) (hj : jour t.all = none) :
    Calls Tryz.prog 21 #[.pointer (some ⟨b, 0, none⟩)] w (OpenC true w base b v t.ropen) := by
  rw [show t.ropen = (t, Cfg.zero, [], 13) from by (unfold Tp.ropen openL; rw [hd, if_neg (by decide), if_neg hw, if_neg hr, hj])]
  have HB0 : Hid (Below w.heap.size w (w.alloc (.cells (Cfg.zero.cells (.slice none 0 0)).toArray 31))) := Lib.hid ((Below.refl _ _).alloc (Nat.le_refl _) _)
  have HR0 : Hid (CfAt (w.alloc (.cells (Cfg.zero.cells (.slice none 0 0)).toArray 31)) w.heap.size Cfg.zero (.slice none 0 0)) := Lib.hid (Rec.new w _ (Cfg.zero.cells (.slice none 0 0)) _ rfl)
  have hcr := rread_any _ base b v t (h.keep HB0.out)
  rw [show t.readL = (t.all, 0) from by unfold Tp.readL; rw [hd]; rfl] at hcr
  have CR := Lib.hid hcr
  simp only [Cfg.cells, Cfg.zero] at CR
  have H := Lib.hid h
  have HO : Hid (Oct t.all ∧ t.all.length ≤ 1048576) := Lib.hid ⟨h.ok.oct, by have h1 := h.ok.len; have h2 := h.ok.room; omega⟩
  have HJ := Lib.hid hj
  obtain ⟨N, hN⟩ : ∃ N, N = (recs t.all).length := ⟨_, rfl⟩
  have hN0 : N ≠ 0 := by rw [hN]; exact fun e => hr (List.eq_nil_of_length_eq_zero e)
  have HN := Lib.hid hN
  have hw0 : ¬ ((wholeOf (recs t.all) : Nat) : Int) < (t.all.length : Int) := by omega
  have hw1 : decide (((wholeOf (recs t.all) : Nat) : Int) < (t.all.length : Int)) = false := decide_eq_false hw0
  clear hcr h hd hr hj hN
  go_enter Tryz.func21, Tryz.ntmps21
  go_wp2_with (first
    | (go_at_call 52; (with_reducible refine CR.out.mono ?_); rintro e w1 ⟨x, rfl, hx, hb1⟩; obtain ⟨A, c, rfl, hA, hAc, hcm, hA0, _⟩ := OwnB.form hx; have HB1 := Lib.hid (HB0.out.trans (hb1.mono HB0.out.size)); have HR1 := Lib.hid (CfAt.keep HR0.out hb1); have CQ := Lib.hid (records_any A t.all c w1 hA HO.out.1 (by have := HO.out.2; omega) hAc hcm (ownB_addr hx)); have CV := Lib.hid (fun W (hb : Below w1.heap.size w1 W) => revents_any A t.all c W (hA.below hb) HO.out.1 (by have := HO.out.2; omega) hAc hcm (ownB_addr hx)); rw [HJ.out] at CV; clear hx hb1 hA)
    | (go_at_call 53; (with_reducible refine CQ.out.mono ?_); rintro e w2 ⟨v1, v2, rfl, hS, hb2⟩; obtain ⟨A2, c2, rfl, _⟩ := recs_rows hS; rw [← HN.out]; have HB2 := Lib.hid (HB1.out.trans (hb2.mono HB1.out.size)); have HR2 := Lib.hid (CfAt.keep HR1.out hb2); have CV2 := Lib.hid (CV.out _ hb2); clear hS hb2)
    | (go_at_call 55; (with_reducible refine CV2.out.mono ?_); rintro e w3 hK; obtain ⟨V, k, X, rfl, hb3⟩ := jourC_bad hK; have HB3 := Lib.hid (HB2.out.trans (hb3.mono HB2.out.size)); have HR3 := Lib.hid (CfAt.keep HR2.out hb3); have hlt3 := Rec.lt HR3.out; clear hK hb3; obtain ⟨d0, d1, d2, d3, d4, d5, d6⟩ := HR3.out.reads; simp only [Cfg.zero] at d0 d1 d2 d3 d4 d5 d6; have fz0 := Rec.frozen HR3.out 0; have fz1 := Rec.frozen HR3.out 1; have fz2 := Rec.frozen HR3.out 2; have fz3 := Rec.frozen HR3.out 3; have fz4 := Rec.frozen HR3.out 4; have fz5 := Rec.frozen HR3.out 5; have fz6 := Rec.frozen HR3.out 6))
  have hPB0 := putC_below HB3.out (Nat.le_refl _) (.slice none 0 0) Cfg.zero
  have hPB := hPB0.alloc hPB0.size (.cells #[.slice V 0 k, .int .i64 0, .int .i64 0, .int .i64 0, .int .i64 0, .int .i64 0, .int .i64 0] 31)
  obtain ⟨g0, g1, g2, g3, g4, g5, g6⟩ := (CfAt.keep (putC_at HR3.out (.slice none 0 0) Cfg.zero) ((Below.refl _ _).alloc (Nat.le_refl _) (.cells #[.slice V 0 k, .int .i64 0, .int .i64 0, .int .i64 0, .int .i64 0, .int .i64 0, .int .i64 0] 31))).reads
  simp only [putC, Cfg.zero] at g0 g1 g2 g3 g4 g5 g6
  simp only [putC, Cfg.zero] at hPB
  refine bodyPost_ret (v := .tuple #[.agg #[.slice none 0 0, .int .i64 0, .int .i64 0, .int .i64 0, .int .i64 0, .int .i64 0, .int .i64 0], .slice none 0 0, .int .i64 13]) (by simp [results, Tryz.results21, go_sem, g0, g1, g2, g3, g4, g5, g6]) rfl ?_
  exact openC_none (went_below H.out hPB)
set_option maxRecDepth 100000 in
set_option maxHeartbeats 8000000 in
theorem ropen_more (w : World) (base b : Nat) (v : Value) (t : Tp) (h : TapeAt true w base b v t) (hd : t.down = false) (hw : ¬ wholeOf (recs t.all) < t.all.length) (hr : recs t.all ≠ []) (cf : Cfg) (es : List Ev) (M : Nat) (hj : jour t.all = some (cf, es, M + 1)) :
    Calls Tryz.prog 21 #[.pointer (some ⟨b, 0, none⟩)] w (OpenC true w base b v t.ropen) := by
  rw [show t.ropen = (t, Cfg.zero, [], 13) from by (unfold Tp.ropen openL; rw [hd, if_neg (by decide), if_neg hw, if_neg hr, hj]; rfl)]
  have HB0 : Hid (Below w.heap.size w (w.alloc (.cells (Cfg.zero.cells (.slice none 0 0)).toArray 31))) := Lib.hid ((Below.refl _ _).alloc (Nat.le_refl _) _)
  have HR0 : Hid (CfAt (w.alloc (.cells (Cfg.zero.cells (.slice none 0 0)).toArray 31)) w.heap.size Cfg.zero (.slice none 0 0)) := Lib.hid (Rec.new w _ (Cfg.zero.cells (.slice none 0 0)) _ rfl)
  have hcr := rread_any _ base b v t (h.keep HB0.out)
  rw [show t.readL = (t.all, 0) from by unfold Tp.readL; rw [hd]; rfl] at hcr
  have CR := Lib.hid hcr
  simp only [Cfg.cells, Cfg.zero] at CR
  have H := Lib.hid h
  have HO : Hid (Oct t.all ∧ t.all.length ≤ 1048576) := Lib.hid ⟨h.ok.oct, by have h1 := h.ok.len; have h2 := h.ok.room; omega⟩
  have HJ := Lib.hid hj
  obtain ⟨N, hN⟩ : ∃ N, N = (recs t.all).length := ⟨_, rfl⟩
  have hN0 : N ≠ 0 := by rw [hN]; exact fun e => hr (List.eq_nil_of_length_eq_zero e)
  have HN := Lib.hid hN
  have hw0 : ¬ ((wholeOf (recs t.all) : Nat) : Int) < (t.all.length : Int) := by omega
  have hw1 : decide (((wholeOf (recs t.all) : Nat) : Int) < (t.all.length : Int)) = false := decide_eq_false hw0
  clear hcr h hd hr hj hN
  go_enter Tryz.func21, Tryz.ntmps21
  go_wp2_with (first
    | (go_at_call 52; (with_reducible refine CR.out.mono ?_); rintro e w1 ⟨x, rfl, hx, hb1⟩; obtain ⟨A, c, rfl, hA, hAc, hcm, hA0, _⟩ := OwnB.form hx; have HB1 := Lib.hid (HB0.out.trans (hb1.mono HB0.out.size)); have HR1 := Lib.hid (CfAt.keep HR0.out hb1); have CQ := Lib.hid (records_any A t.all c w1 hA HO.out.1 (by have := HO.out.2; omega) hAc hcm (ownB_addr hx)); have CV := Lib.hid (fun W (hb : Below w1.heap.size w1 W) => revents_any A t.all c W (hA.below hb) HO.out.1 (by have := HO.out.2; omega) hAc hcm (ownB_addr hx)); rw [HJ.out] at CV; clear hx hb1 hA)
    | (go_at_call 53; (with_reducible refine CQ.out.mono ?_); rintro e w2 ⟨v1, v2, rfl, hS, hb2⟩; obtain ⟨A2, c2, rfl, _⟩ := recs_rows hS; rw [← HN.out]; have HB2 := Lib.hid (HB1.out.trans (hb2.mono HB1.out.size)); have HR2 := Lib.hid (CfAt.keep HR1.out hb2); have CV2 := Lib.hid (CV.out _ hb2); clear hS hb2)
    | (go_at_call 55; (with_reducible refine CV2.out.mono ?_); rintro e w3 hK; obtain ⟨V, k, X, rfl, _, _, hb3⟩ := jourC_good hK; have hgt : decide (((M + 1 : Nat) : Int) > 0) = true := decide_eq_true (by omega); have HB3 := Lib.hid (HB2.out.trans (hb3.mono HB2.out.size)); have HR3 := Lib.hid (CfAt.keep HR2.out hb3); have hlt3 := Rec.lt HR3.out; clear hK hb3; obtain ⟨d0, d1, d2, d3, d4, d5, d6⟩ := HR3.out.reads; simp only [Cfg.zero] at d0 d1 d2 d3 d4 d5 d6; have fz0 := Rec.frozen HR3.out 0; have fz1 := Rec.frozen HR3.out 1; have fz2 := Rec.frozen HR3.out 2; have fz3 := Rec.frozen HR3.out 3; have fz4 := Rec.frozen HR3.out 4; have fz5 := Rec.frozen HR3.out 5; have fz6 := Rec.frozen HR3.out 6))
  have hPB0 := putC_below HB3.out (Nat.le_refl _) (.slice none 0 0) Cfg.zero
  have hPB := hPB0.alloc hPB0.size (.cells #[.slice V cf.insts.length k, .int .i64 cf.skin, .int .i64 cf.times, .int .i64 cf.port, .int .i64 cf.bid, .int .i64 cf.lot, .int .i64 cf.hedge] 31)
  obtain ⟨g0, g1, g2, g3, g4, g5, g6⟩ := (CfAt.keep (putC_at HR3.out (.slice none 0 0) Cfg.zero) ((Below.refl _ _).alloc (Nat.le_refl _) (.cells #[.slice V cf.insts.length k, .int .i64 cf.skin, .int .i64 cf.times, .int .i64 cf.port, .int .i64 cf.bid, .int .i64 cf.lot, .int .i64 cf.hedge] 31))).reads
  simp only [putC, Cfg.zero] at g0 g1 g2 g3 g4 g5 g6
  simp only [putC, Cfg.zero] at hPB
  refine bodyPost_ret (v := .tuple #[.agg #[.slice none 0 0, .int .i64 0, .int .i64 0, .int .i64 0, .int .i64 0, .int .i64 0, .int .i64 0], .slice none 0 0, .int .i64 13]) (by simp [results, Tryz.results21, go_sem, g0, g1, g2, g3, g4, g5, g6]) rfl ?_
  exact openC_none (went_below H.out hPB)
set_option maxRecDepth 100000 in
set_option maxHeartbeats 8000000 in
theorem ropen_ok (w : World) (base b : Nat) (v : Value) (t : Tp) (h : TapeAt true w base b v t) (hd : t.down = false) (hw : ¬ wholeOf (recs t.all) < t.all.length) (hr : recs t.all ≠ []) (cf : Cfg) (es : List Ev) (hj : jour t.all = some (cf, es, 0)) :
    Calls Tryz.prog 21 #[.pointer (some ⟨b, 0, none⟩)] w (OpenC true w base b v t.ropen) := by
  rw [show t.ropen = (t, cf, es, 0) from by (unfold Tp.ropen openL; rw [hd, if_neg (by decide), if_neg hw, if_neg hr, hj]; rfl)]
  have HB0 : Hid (Below w.heap.size w (w.alloc (.cells (Cfg.zero.cells (.slice none 0 0)).toArray 31))) := Lib.hid ((Below.refl _ _).alloc (Nat.le_refl _) _)
  have HR0 : Hid (CfAt (w.alloc (.cells (Cfg.zero.cells (.slice none 0 0)).toArray 31)) w.heap.size Cfg.zero (.slice none 0 0)) := Lib.hid (Rec.new w _ (Cfg.zero.cells (.slice none 0 0)) _ rfl)
  have hcr := rread_any _ base b v t (h.keep HB0.out)
  rw [show t.readL = (t.all, 0) from by unfold Tp.readL; rw [hd]; rfl] at hcr
  have CR := Lib.hid hcr
  simp only [Cfg.cells, Cfg.zero] at CR
  have H := Lib.hid h
  have HO : Hid (Oct t.all ∧ t.all.length ≤ 1048576) := Lib.hid ⟨h.ok.oct, by have h1 := h.ok.len; have h2 := h.ok.room; omega⟩
  have HJ := Lib.hid hj
  obtain ⟨N, hN⟩ : ∃ N, N = (recs t.all).length := ⟨_, rfl⟩
  have hN0 : N ≠ 0 := by rw [hN]; exact fun e => hr (List.eq_nil_of_length_eq_zero e)
  have HN := Lib.hid hN
  have hw0 : ¬ ((wholeOf (recs t.all) : Nat) : Int) < (t.all.length : Int) := by omega
  have hw1 : decide (((wholeOf (recs t.all) : Nat) : Int) < (t.all.length : Int)) = false := decide_eq_false hw0
  clear hcr h hd hr hj hN
  go_enter Tryz.func21, Tryz.ntmps21
  go_wp2_with (first
    | (go_at_call 52; (with_reducible refine CR.out.mono ?_); rintro e w1 ⟨x, rfl, hx, hb1⟩; obtain ⟨A, c, rfl, hA, hAc, hcm, hA0, _⟩ := OwnB.form hx; have HB1 := Lib.hid (HB0.out.trans (hb1.mono HB0.out.size)); have HR1 := Lib.hid (CfAt.keep HR0.out hb1); have CQ := Lib.hid (records_any A t.all c w1 hA HO.out.1 (by have := HO.out.2; omega) hAc hcm (ownB_addr hx)); have CV := Lib.hid (fun W (hb : Below w1.heap.size w1 W) => revents_any A t.all c W (hA.below hb) HO.out.1 (by have := HO.out.2; omega) hAc hcm (ownB_addr hx)); rw [HJ.out] at CV; clear hx hb1 hA)
    | (go_at_call 53; (with_reducible refine CQ.out.mono ?_); rintro e w2 ⟨v1, v2, rfl, hS, hb2⟩; obtain ⟨A2, c2, rfl, _⟩ := recs_rows hS; rw [← HN.out]; have HB2 := Lib.hid (HB1.out.trans (hb2.mono HB1.out.size)); have HR2 := Lib.hid (CfAt.keep HR1.out hb2); have CV2 := Lib.hid (CV.out _ hb2); clear hS hb2)
    | (go_at_call 55; (with_reducible refine CV2.out.mono ?_); rintro e w3 hK; obtain ⟨V, k, X, rfl, hoi, hoe, hb3⟩ := jourC_good hK; have HI3 := Lib.hid (OwnL.lower hoi (Nat.succ_le_of_lt (Rec.lt HR2.out))); have HE3 := Lib.hid (OwnL.lower hoe (Nat.succ_le_of_lt (Rec.lt HR2.out))); clear hoi hoe; have HB3 := Lib.hid (HB2.out.trans (hb3.mono HB2.out.size)); have HR3 := Lib.hid (CfAt.keep HR2.out hb3); have hlt3 := Rec.lt HR3.out; clear hK hb3; obtain ⟨d0, d1, d2, d3, d4, d5, d6⟩ := HR3.out.reads; simp only [Cfg.zero] at d0 d1 d2 d3 d4 d5 d6; have fz0 := Rec.frozen HR3.out 0; have fz1 := Rec.frozen HR3.out 1; have fz2 := Rec.frozen HR3.out 2; have fz3 := Rec.frozen HR3.out 3; have fz4 := Rec.frozen HR3.out 4; have fz5 := Rec.frozen HR3.out 5; have fz6 := Rec.frozen HR3.out 6))
  have hPB0 := putC_below HB3.out (Nat.le_refl _) (.slice V cf.insts.length k) cf
  have hPB := hPB0.alloc hPB0.size (.cells #[.slice V cf.insts.length k, .int .i64 cf.skin, .int .i64 cf.times, .int .i64 cf.port, .int .i64 cf.bid, .int .i64 cf.lot, .int .i64 cf.hedge] 31)
  obtain ⟨g0, g1, g2, g3, g4, g5, g6⟩ := (CfAt.keep (putC_at HR3.out (.slice V cf.insts.length k) cf) ((Below.refl _ _).alloc (Nat.le_refl _) (.cells #[.slice V cf.insts.length k, .int .i64 cf.skin, .int .i64 cf.times, .int .i64 cf.port, .int .i64 cf.bid, .int .i64 cf.lot, .int .i64 cf.hedge] 31))).reads
  have hI9 := ownL_fin HI3.out (.slice V cf.insts.length k) cf (.cells #[.slice V cf.insts.length k, .int .i64 cf.skin, .int .i64 cf.times, .int .i64 cf.port, .int .i64 cf.bid, .int .i64 cf.lot, .int .i64 cf.hedge] 31)
  have hE9 := ownL_fin HE3.out (.slice V cf.insts.length k) cf (.cells #[.slice V cf.insts.length k, .int .i64 cf.skin, .int .i64 cf.times, .int .i64 cf.port, .int .i64 cf.bid, .int .i64 cf.lot, .int .i64 cf.hedge] 31)
  simp only [putC] at hI9 hE9
  simp only [putC] at g0 g1 g2 g3 g4 g5 g6
  simp only [putC] at hPB
  refine bodyPost_ret (v := .tuple #[.agg #[.slice V cf.insts.length k, .int .i64 cf.skin, .int .i64 cf.times, .int .i64 cf.port, .int .i64 cf.bid, .int .i64 cf.lot, .int .i64 cf.hedge], X, .int .i64 0]) (by simp [results, Tryz.results21, go_sem, g0, g1, g2, g3, g4, g5, g6]) rfl ?_
  exact ⟨_, _, rfl, hI9, hE9, went_below H.out hPB⟩
end Go.Proofs.YtmpipjangbedkaaGreat
