import Derived.Test.YtmpipjangbedkaaGreatMJv7
/-
  The walk of the reference's OpenJournal on a tape with bytes behind its whole records.
-/
namespace Go.Proofs.YtmpipjangbedkaaGreat
set_option maxRecDepth 8000
open Go Go.RowKit
set_option linter.unusedVariables false

theorem went_keep {r : Bool} {w w' w'' : World} {base b : Nat} {v : Value} {t : Tp} (h : Went r w base b v t w') (hb : Below w'.heap.size w' w'') : Went r w base b v t w'' := by
  obtain ⟨v', ha, ht, hn⟩ := h
  exact ⟨v', ha.keep hb, ht.trans (Touch.of_below (foot b v) hb) (fun _ _ h => h), hn⟩
theorem went_fin {r : Bool} {w w2 W : World} {base b : Nat} {v : Value} {t0 t : Tp} (h : TapeAt r w base b v t0) (hb : Below w.heap.size w w2) (hs : w.heap.size < w2.heap.size) (hW : Went r w2 base b v t W) (V : Value) (cf : Cfg) : Went r w base b v t (putC W w.heap.size V cf) := by
  obtain ⟨v', ha, ht, hn⟩ := hW
  refine ⟨v', ha.touch (putC_touch W w.heap.size V cf) (fun k hk e => ?_), ((Touch.of_below (foot b v) hb).trans ht (fun _ _ h => h)).trans (putC_touch W w.heap.size V cf) (fun i hi e => ?_), fun k hk => (hn k hk).imp id (fun h => by omega)⟩
  · have e' : k = w.heap.size := e
    rcases hk with rfl | hk
    · have := (h.lt (.inl rfl : foot k v k)).2; omega
    · rcases hn k hk with h1 | h1
      · have := (h.lt (.inr h1 : foot b v k)).2; omega
      · omega
  · have e' : i = w.heap.size := e
    omega
theorem went_touch {r : Bool} {w w' : World} {base b : Nat} {v : Value} {t : Tp} (h : Went r w base b v t w') : Touch (foot b v) w w' := by
  obtain ⟨v', ha, ht, hn⟩ := h
  exact ht
set_option maxRecDepth 100000 in
set_option maxHeartbeats 8000000 in
theorem ropen_fail (w : World) (base b : Nat) (v : Value) (t : Tp) (h : TapeAt true w base b v t) (hd : t.down = false) (hw : wholeOf (recs t.all) < t.all.length) (K : Int) (hK : K ≠ 0) (hc : (t.rcut (wholeOf (recs t.all))).2 = K) :
    Calls Tryz.prog 21 #[.pointer (some ⟨b, 0, none⟩)] w (OpenC true w base b v t.ropen) := by
  rw [show t.ropen = ((t.rcut (wholeOf (recs t.all))).1, Cfg.zero, [], K) from by (unfold Tp.ropen ; rw [hd, if_neg (by decide), if_pos hw, if_neg (by rw [hc]; exact hK), hc])]
  have HB0 : Hid (Below w.heap.size w (w.alloc (.cells (Cfg.zero.cells (.slice none 0 0)).toArray 31))) := Lib.hid ((Below.refl _ _).alloc (Nat.le_refl _) _)
  have HR0 : Hid (CfAt (w.alloc (.cells (Cfg.zero.cells (.slice none 0 0)).toArray 31)) w.heap.size Cfg.zero (.slice none 0 0)) := Lib.hid (Rec.new w _ (Cfg.zero.cells (.slice none 0 0)) _ rfl)
  have hcr := rread_any _ base b v t (h.keep HB0.out)
  rw [show t.readL = (t.all, 0) from by unfold Tp.readL; rw [hd]; rfl] at hcr
  have CR := Lib.hid hcr
  simp only [Cfg.cells, Cfg.zero] at CR
  have H := Lib.hid h
  have HO : Hid (Oct t.all ∧ t.all.length ≤ 1048576) := Lib.hid ⟨h.ok.oct, by have h1 := h.ok.len; have h2 := h.ok.room; omega⟩
  have HF : Hid (∀ k, foot b v k → k < w.heap.size) := Lib.hid (fun k hk => (h.lt hk).2)
  have CC := Lib.hid (fun W (hb : Below w.heap.size w W) => rcut_any W base b v t ((wholeOf (recs t.all) : Nat) : Int) (h.keep hb))
  have HC := Lib.hid hc
  rw [hc] at CC
  obtain ⟨N, hN⟩ : ∃ N, N = (recs t.all).length := ⟨_, rfl⟩
  have HN := Lib.hid hN
  have hKn : (K != 0) = true := by rw [bne_iff_ne]; exact hK
  clear hN
  clear hcr h hd hc
  go_enter Tryz.func21, Tryz.ntmps21
  go_wp2_with (first
    | (go_at_call 52; (with_reducible refine CR.out.mono ?_); rintro e w1 ⟨x, rfl, hx, hb1⟩; obtain ⟨A, c, rfl, hA, hAc, hcm, hA0, hlow⟩ := OwnB.form hx; have HB1 := Lib.hid (HB0.out.trans (hb1.mono HB0.out.size)); have HR1 := Lib.hid (CfAt.keep HR0.out hb1); have CQ := Lib.hid (records_any A t.all c w1 hA HO.out.1 (by have := HO.out.2; omega) hAc hcm (ownB_addr hx)); clear hx hb1 hA hlow)
    | (go_at_call 53; (with_reducible refine CQ.out.mono ?_); rintro e w2 ⟨v1, v2, rfl, hS, hb2⟩; obtain ⟨A2, c2, rfl, _⟩ := recs_rows hS; rw [← HN.out]; have HB2 := Lib.hid (HB1.out.trans (hb2.mono HB1.out.size)); have HR2 := Lib.hid (CfAt.keep HR1.out hb2); have CC2 := Lib.hid (CC.out _ HB2.out); clear hS hb2)
    | (go_at_call 54; (with_reducible refine CC2.out.mono ?_); rintro e w4 ⟨rfl, hW⟩; have HW := Lib.hid hW; have HR4 : Hid (CfAt w4 w.heap.size Cfg.zero (.slice none 0 0)) := Lib.hid (Rec.touch HR2.out (went_touch hW) (fun hf => by have := HF.out _ hf; omega)); obtain ⟨d0, d1, d2, d3, d4, d5, d6⟩ := HR4.out.reads; simp only [Cfg.zero] at d0 d1 d2 d3 d4 d5 d6; have fz0 := Rec.frozen HR4.out 0; have fz1 := Rec.frozen HR4.out 1; have fz2 := Rec.frozen HR4.out 2; have fz3 := Rec.frozen HR4.out 3; have fz4 := Rec.frozen HR4.out 4; have fz5 := Rec.frozen HR4.out 5; have fz6 := Rec.frozen HR4.out 6; clear hW))
  have hF := went_fin H.out HB2.out (Rec.lt HR2.out) HW.out (.slice none 0 0) Cfg.zero
  obtain ⟨g0, g1, g2, g3, g4, g5, g6⟩ := (putC_at HR4.out (.slice none 0 0) Cfg.zero).reads
  simp only [putC, Cfg.zero] at g0 g1 g2 g3 g4 g5 g6
  simp only [putC, Cfg.zero] at hF
  refine bodyPost_ret (v := .tuple #[.agg #[.slice none 0 0, .int .i64 0, .int .i64 0, .int .i64 0, .int .i64 0, .int .i64 0, .int .i64 0], .slice none 0 0, .int .i64 K]) (by simp [results, Tryz.results21, go_sem, g0, g1, g2, g3, g4, g5, g6]) rfl ?_
  exact openC_none hF
set_option maxRecDepth 100000 in
set_option maxHeartbeats 8000000 in
theorem ropen_cutnone (w : World) (base b : Nat) (v : Value) (t : Tp) (h : TapeAt true w base b v t) (hd : t.down = false) (hw : wholeOf (recs t.all) < t.all.length) (hr : recs t.all = []) (hc : (t.rcut (wholeOf (recs t.all))).2 = 0) :
    Calls Tryz.prog 21 #[.pointer (some ⟨b, 0, none⟩)] w (OpenC true w base b v t.ropen) := by
  rw [show t.ropen = ((t.rcut (wholeOf (recs t.all))).1, Cfg.zero, [], 3) from by (unfold Tp.ropen openL; rw [hd, if_neg (by decide), if_pos hw, if_pos hc, if_pos hr])]
  have HB0 : Hid (Below w.heap.size w (w.alloc (.cells (Cfg.zero.cells (.slice none 0 0)).toArray 31))) := Lib.hid ((Below.refl _ _).alloc (Nat.le_refl _) _)
  have HR0 : Hid (CfAt (w.alloc (.cells (Cfg.zero.cells (.slice none 0 0)).toArray 31)) w.heap.size Cfg.zero (.slice none 0 0)) := Lib.hid (Rec.new w _ (Cfg.zero.cells (.slice none 0 0)) _ rfl)
  have hcr := rread_any _ base b v t (h.keep HB0.out)
  rw [show t.readL = (t.all, 0) from by unfold Tp.readL; rw [hd]; rfl] at hcr
  have CR := Lib.hid hcr
  simp only [Cfg.cells, Cfg.zero] at CR
  have H := Lib.hid h
  have HO : Hid (Oct t.all ∧ t.all.length ≤ 1048576) := Lib.hid ⟨h.ok.oct, by have h1 := h.ok.len; have h2 := h.ok.room; omega⟩
  have HF : Hid (∀ k, foot b v k → k < w.heap.size) := Lib.hid (fun k hk => (h.lt hk).2)
  have CC := Lib.hid (fun W (hb : Below w.heap.size w W) => rcut_any W base b v t ((wholeOf (recs t.all) : Nat) : Int) (h.keep hb))
  have HC := Lib.hid hc
  rw [hc] at CC
  have hlr : (recs t.all).length = 0 := by rw [hr]; rfl
  have HRN := Lib.hid hr
  clear hr
  clear hcr h hd hc
  go_enter Tryz.func21, Tryz.ntmps21
  go_wp2_with (first
    | (go_at_call 52; (with_reducible refine CR.out.mono ?_); rintro e w1 ⟨x, rfl, hx, hb1⟩; obtain ⟨A, c, rfl, hA, hAc, hcm, hA0, hlow⟩ := OwnB.form hx; have HB1 := Lib.hid (HB0.out.trans (hb1.mono HB0.out.size)); have HR1 := Lib.hid (CfAt.keep HR0.out hb1); have CQ := Lib.hid (records_any A t.all c w1 hA HO.out.1 (by have := HO.out.2; omega) hAc hcm (ownB_addr hx)); clear hx hb1 hA hlow)
    | (go_at_call 53; (with_reducible refine CQ.out.mono ?_); rintro e w2 ⟨v1, v2, rfl, hS, hb2⟩; obtain ⟨A2, c2, rfl, _⟩ := recs_rows hS; rw [hlr]; have HB2 := Lib.hid (HB1.out.trans (hb2.mono HB1.out.size)); have HR2 := Lib.hid (CfAt.keep HR1.out hb2); have CC2 := Lib.hid (CC.out _ HB2.out); clear hS hb2)
    | (go_at_call 54; (with_reducible refine CC2.out.mono ?_); rintro e w4 ⟨rfl, hW⟩; have HW := Lib.hid hW; have HR4 : Hid (CfAt w4 w.heap.size Cfg.zero (.slice none 0 0)) := Lib.hid (Rec.touch HR2.out (went_touch hW) (fun hf => by have := HF.out _ hf; omega)); obtain ⟨d0, d1, d2, d3, d4, d5, d6⟩ := HR4.out.reads; simp only [Cfg.zero] at d0 d1 d2 d3 d4 d5 d6; have fz0 := Rec.frozen HR4.out 0; have fz1 := Rec.frozen HR4.out 1; have fz2 := Rec.frozen HR4.out 2; have fz3 := Rec.frozen HR4.out 3; have fz4 := Rec.frozen HR4.out 4; have fz5 := Rec.frozen HR4.out 5; have fz6 := Rec.frozen HR4.out 6; clear hW))
  have hF := went_fin H.out HB2.out (Rec.lt HR2.out) HW.out (.slice none 0 0) Cfg.zero
  obtain ⟨g0, g1, g2, g3, g4, g5, g6⟩ := (putC_at HR4.out (.slice none 0 0) Cfg.zero).reads
  simp only [putC, Cfg.zero] at g0 g1 g2 g3 g4 g5 g6
  simp only [putC, Cfg.zero] at hF
  refine bodyPost_ret (v := .tuple #[.agg #[.slice none 0 0, .int .i64 0, .int .i64 0, .int .i64 0, .int .i64 0, .int .i64 0, .int .i64 0], .slice none 0 0, .int .i64 3]) (by simp [results, Tryz.results21, go_sem, g0, g1, g2, g3, g4, g5, g6]) rfl ?_
  exact openC_none hF
set_option maxRecDepth 100000 in
set_option maxHeartbeats 8000000 in
theorem ropen_cutbad (w : World) (base b : Nat) (v : Value) (t : Tp) (h : TapeAt true w base b v t) (hd : t.down = false) (hw : wholeOf (recs t.all) < t.all.length) (hr : recs t.all ≠ []) (hj : jour t.all = none) (hc : (t.rcut (wholeOf (recs t.all))).2 = 0) :
    Calls Tryz.prog 21 #[.pointer (some ⟨b, 0, none⟩)] w (OpenC true w base b v t.ropen) := by
  rw [show t.ropen = ((t.rcut (wholeOf (recs t.all))).1, Cfg.zero, [], 13) from by (unfold Tp.ropen openL; rw [hd, if_neg (by decide), if_pos hw, if_pos hc, if_neg hr, hj])]
  have HB0 : Hid (Below w.heap.size w (w.alloc (.cells (Cfg.zero.cells (.slice none 0 0)).toArray 31))) := Lib.hid ((Below.refl _ _).alloc (Nat.le_refl _) _)
  have HR0 : Hid (CfAt (w.alloc (.cells (Cfg.zero.cells (.slice none 0 0)).toArray 31)) w.heap.size Cfg.zero (.slice none 0 0)) := Lib.hid (Rec.new w _ (Cfg.zero.cells (.slice none 0 0)) _ rfl)
  have hcr := rread_any _ base b v t (h.keep HB0.out)
  rw [show t.readL = (t.all, 0) from by unfold Tp.readL; rw [hd]; rfl] at hcr
  have CR := Lib.hid hcr
  simp only [Cfg.cells, Cfg.zero] at CR
  have H := Lib.hid h
  have HO : Hid (Oct t.all ∧ t.all.length ≤ 1048576) := Lib.hid ⟨h.ok.oct, by have h1 := h.ok.len; have h2 := h.ok.room; omega⟩
  have HF : Hid (∀ k, foot b v k → k < w.heap.size) := Lib.hid (fun k hk => (h.lt hk).2)
  have HJ := Lib.hid hj
  have CC := Lib.hid (fun W (hb : Below w.heap.size w W) => rcut_any W base b v t ((wholeOf (recs t.all) : Nat) : Int) (h.keep hb))
  have HC := Lib.hid hc
  rw [hc] at CC
  obtain ⟨N, hN⟩ : ∃ N, N = (recs t.all).length := ⟨_, rfl⟩
  have hN0 : N ≠ 0 := by rw [hN]; exact fun e => hr (List.eq_nil_of_length_eq_zero e)
  have HN := Lib.hid hN
  clear hr hN hj
  clear hcr h hd hc
  go_enter Tryz.func21, Tryz.ntmps21
  go_wp2_with (first
    | (go_at_call 52; (with_reducible refine CR.out.mono ?_); rintro e w1 ⟨x, rfl, hx, hb1⟩; obtain ⟨A, c, rfl, hA, hAc, hcm, hA0, hlow⟩ := OwnB.form hx; have HB1 := Lib.hid (HB0.out.trans (hb1.mono HB0.out.size)); have HR1 := Lib.hid (CfAt.keep HR0.out hb1); have CQ := Lib.hid (records_any A t.all c w1 hA HO.out.1 (by have := HO.out.2; omega) hAc hcm (ownB_addr hx)); have CV := Lib.hid (fun W W' (hb : Below w1.heap.size w1 W) (ht : Touch (foot b v) W W') => revents_any A t.all c W' ((hA.below hb).touch ht (fun bb off e _ hf => by have h1 := hlow bb off none e; have h2 := HF.out bb hf; simp at h1; omega)) HO.out.1 (by have := HO.out.2; omega) hAc hcm (ownB_addr hx)); rw [HJ.out] at CV; clear hx hb1 hA hlow)
    | (go_at_call 53; (with_reducible refine CQ.out.mono ?_); rintro e w2 ⟨v1, v2, rfl, hS, hb2⟩; obtain ⟨A2, c2, rfl, _⟩ := recs_rows hS; rw [← HN.out]; have HB2 := Lib.hid (HB1.out.trans (hb2.mono HB1.out.size)); have HR2 := Lib.hid (CfAt.keep HR1.out hb2); have CC2 := Lib.hid (CC.out _ HB2.out); have CV2 := Lib.hid (fun W ht => CV.out _ W hb2 ht); clear hS hb2)
    | (go_at_call 54; (with_reducible refine CC2.out.mono ?_); rintro e w4 ⟨rfl, hW⟩; have HW := Lib.hid hW; have HR4 : Hid (CfAt w4 w.heap.size Cfg.zero (.slice none 0 0)) := Lib.hid (Rec.touch HR2.out (went_touch hW) (fun hf => by have := HF.out _ hf; omega)); have CV4 := Lib.hid (CV2.out _ (went_touch hW)); clear hW)
    | (go_at_call 55; (with_reducible refine CV4.out.mono ?_); rintro e w3 hK; obtain ⟨V, k, X, rfl, hb3⟩ := jourC_bad hK; have HW3 := Lib.hid (went_keep HW.out hb3); have HR3 := Lib.hid (CfAt.keep HR4.out hb3); have hlt3 := Rec.lt HR3.out; clear hK hb3; obtain ⟨d0, d1, d2, d3, d4, d5, d6⟩ := HR3.out.reads; simp only [Cfg.zero] at d0 d1 d2 d3 d4 d5 d6; have fz0 := Rec.frozen HR3.out 0; have fz1 := Rec.frozen HR3.out 1; have fz2 := Rec.frozen HR3.out 2; have fz3 := Rec.frozen HR3.out 3; have fz4 := Rec.frozen HR3.out 4; have fz5 := Rec.frozen HR3.out 5; have fz6 := Rec.frozen HR3.out 6))
  have hF := went_keep (went_fin H.out HB2.out (Rec.lt HR2.out) HW3.out (.slice none 0 0) Cfg.zero) ((Below.refl _ _).alloc (Nat.le_refl _) (.cells #[.slice V 0 k, .int .i64 0, .int .i64 0, .int .i64 0, .int .i64 0, .int .i64 0, .int .i64 0] 31))
  obtain ⟨g0, g1, g2, g3, g4, g5, g6⟩ := (CfAt.keep (putC_at HR3.out (.slice none 0 0) Cfg.zero) ((Below.refl _ _).alloc (Nat.le_refl _) (.cells #[.slice V 0 k, .int .i64 0, .int .i64 0, .int .i64 0, .int .i64 0, .int .i64 0, .int .i64 0] 31))).reads
  simp only [putC, Cfg.zero] at g0 g1 g2 g3 g4 g5 g6
  simp only [putC, Cfg.zero] at hF
  refine bodyPost_ret (v := .tuple #[.agg #[.slice none 0 0, .int .i64 0, .int .i64 0, .int .i64 0, .int .i64 0, .int .i64 0, .int .i64 0], .slice none 0 0, .int .i64 13]) (by simp [results, Tryz.results21, go_sem, g0, g1, g2, g3, g4, g5, g6]) rfl ?_
  exact openC_none hF
set_option maxRecDepth 100000 in
set_option maxHeartbeats 8000000 in
theorem ropen_cutmore (w : World) (base b : Nat) (v : Value) (t : Tp) (h : TapeAt true w base b v t) (hd : t.down = false) (hw : wholeOf (recs t.all) < t.all.length) (hr : recs t.all ≠ []) (cf : Cfg) (es : List Ev) (M : Nat) (hj : jour t.all = some (cf, es, M + 1)) (hc : (t.rcut (wholeOf (recs t.all))).2 = 0) :
    Calls Tryz.prog 21 #[.pointer (some ⟨b, 0, none⟩)] w (OpenC true w base b v t.ropen) := by
  rw [show t.ropen = ((t.rcut (wholeOf (recs t.all))).1, Cfg.zero, [], 13) from by (unfold Tp.ropen openL; rw [hd, if_neg (by decide), if_pos hw, if_pos hc, if_neg hr, hj]; rfl)]
  have HB0 : Hid (Below w.heap.size w (w.alloc (.cells (Cfg.zero.cells (.slice none 0 0)).toArray 31))) := Lib.hid ((Below.refl _ _).alloc (Nat.le_refl _) _)
  have HR0 : Hid (CfAt (w.alloc (.cells (Cfg.zero.cells (.slice none 0 0)).toArray 31)) w.heap.size Cfg.zero (.slice none 0 0)) := Lib.hid (Rec.new w _ (Cfg.zero.cells (.slice none 0 0)) _ rfl)
  have hcr := rread_any _ base b v t (h.keep HB0.out)
  rw [show t.readL = (t.all, 0) from by unfold Tp.readL; rw [hd]; rfl] at hcr
  have CR := Lib.hid hcr
  simp only [Cfg.cells, Cfg.zero] at CR
  have H := Lib.hid h
  have HO : Hid (Oct t.all ∧ t.all.length ≤ 1048576) := Lib.hid ⟨h.ok.oct, by have h1 := h.ok.len; have h2 := h.ok.room; omega⟩
  have HF : Hid (∀ k, foot b v k → k < w.heap.size) := Lib.hid (fun k hk => (h.lt hk).2)
  have HJ := Lib.hid hj
  have CC := Lib.hid (fun W (hb : Below w.heap.size w W) => rcut_any W base b v t ((wholeOf (recs t.all) : Nat) : Int) (h.keep hb))
  have HC := Lib.hid hc
  rw [hc] at CC
  obtain ⟨N, hN⟩ : ∃ N, N = (recs t.all).length := ⟨_, rfl⟩
  have hN0 : N ≠ 0 := by rw [hN]; exact fun e => hr (List.eq_nil_of_length_eq_zero e)
  have HN := Lib.hid hN
  clear hr hN hj
  clear hcr h hd hc
  go_enter Tryz.func21, Tryz.ntmps21
  go_wp2_with (first
    | (go_at_call 52; (with_reducible refine CR.out.mono ?_); rintro e w1 ⟨x, rfl, hx, hb1⟩; obtain ⟨A, c, rfl, hA, hAc, hcm, hA0, hlow⟩ := OwnB.form hx; have HB1 := Lib.hid (HB0.out.trans (hb1.mono HB0.out.size)); have HR1 := Lib.hid (CfAt.keep HR0.out hb1); have CQ := Lib.hid (records_any A t.all c w1 hA HO.out.1 (by have := HO.out.2; omega) hAc hcm (ownB_addr hx)); have CV := Lib.hid (fun W W' (hb : Below w1.heap.size w1 W) (ht : Touch (foot b v) W W') => revents_any A t.all c W' ((hA.below hb).touch ht (fun bb off e _ hf => by have h1 := hlow bb off none e; have h2 := HF.out bb hf; simp at h1; omega)) HO.out.1 (by have := HO.out.2; omega) hAc hcm (ownB_addr hx)); rw [HJ.out] at CV; clear hx hb1 hA hlow)
    | (go_at_call 53; (with_reducible refine CQ.out.mono ?_); rintro e w2 ⟨v1, v2, rfl, hS, hb2⟩; obtain ⟨A2, c2, rfl, _⟩ := recs_rows hS; rw [← HN.out]; have HB2 := Lib.hid (HB1.out.trans (hb2.mono HB1.out.size)); have HR2 := Lib.hid (CfAt.keep HR1.out hb2); have CC2 := Lib.hid (CC.out _ HB2.out); have CV2 := Lib.hid (fun W ht => CV.out _ W hb2 ht); clear hS hb2)
    | (go_at_call 54; (with_reducible refine CC2.out.mono ?_); rintro e w4 ⟨rfl, hW⟩; have HW := Lib.hid hW; have HR4 : Hid (CfAt w4 w.heap.size Cfg.zero (.slice none 0 0)) := Lib.hid (Rec.touch HR2.out (went_touch hW) (fun hf => by have := HF.out _ hf; omega)); have CV4 := Lib.hid (CV2.out _ (went_touch hW)); clear hW)
    | (go_at_call 55; (with_reducible refine CV4.out.mono ?_); rintro e w3 hK; obtain ⟨V, k, X, rfl, _, _, hb3⟩ := jourC_good hK; have hgt : decide (((M + 1 : Nat) : Int) > 0) = true := decide_eq_true (by omega); have HW3 := Lib.hid (went_keep HW.out hb3); have HR3 := Lib.hid (CfAt.keep HR4.out hb3); have hlt3 := Rec.lt HR3.out; clear hK hb3; obtain ⟨d0, d1, d2, d3, d4, d5, d6⟩ := HR3.out.reads; simp only [Cfg.zero] at d0 d1 d2 d3 d4 d5 d6; have fz0 := Rec.frozen HR3.out 0; have fz1 := Rec.frozen HR3.out 1; have fz2 := Rec.frozen HR3.out 2; have fz3 := Rec.frozen HR3.out 3; have fz4 := Rec.frozen HR3.out 4; have fz5 := Rec.frozen HR3.out 5; have fz6 := Rec.frozen HR3.out 6))
  have hF := went_keep (went_fin H.out HB2.out (Rec.lt HR2.out) HW3.out (.slice none 0 0) Cfg.zero) ((Below.refl _ _).alloc (Nat.le_refl _) (.cells #[.slice V cf.insts.length k, .int .i64 cf.skin, .int .i64 cf.times, .int .i64 cf.port, .int .i64 cf.bid, .int .i64 cf.lot, .int .i64 cf.hedge] 31))
  obtain ⟨g0, g1, g2, g3, g4, g5, g6⟩ := (CfAt.keep (putC_at HR3.out (.slice none 0 0) Cfg.zero) ((Below.refl _ _).alloc (Nat.le_refl _) (.cells #[.slice V cf.insts.length k, .int .i64 cf.skin, .int .i64 cf.times, .int .i64 cf.port, .int .i64 cf.bid, .int .i64 cf.lot, .int .i64 cf.hedge] 31))).reads
  simp only [putC, Cfg.zero] at g0 g1 g2 g3 g4 g5 g6
  simp only [putC, Cfg.zero] at hF
  refine bodyPost_ret (v := .tuple #[.agg #[.slice none 0 0, .int .i64 0, .int .i64 0, .int .i64 0, .int .i64 0, .int .i64 0, .int .i64 0], .slice none 0 0, .int .i64 13]) (by simp [results, Tryz.results21, go_sem, g0, g1, g2, g3, g4, g5, g6]) rfl ?_
  exact openC_none hF
set_option maxRecDepth 100000 in
set_option maxHeartbeats 8000000 in
theorem ropen_cutok (w : World) (base b : Nat) (v : Value) (t : Tp) (h : TapeAt true w base b v t) (hd : t.down = false) (hw : wholeOf (recs t.all) < t.all.length) (hr : recs t.all ≠ []) (cf : Cfg) (es : List Ev) (hj : jour t.all = some (cf, es, 0)) (hc : (t.rcut (wholeOf (recs t.all))).2 = 0) :
    Calls Tryz.prog 21 #[.pointer (some ⟨b, 0, none⟩)] w (OpenC true w base b v t.ropen) := by
  rw [show t.ropen = ((t.rcut (wholeOf (recs t.all))).1, cf, es, 0) from by (unfold Tp.ropen openL; rw [hd, if_neg (by decide), if_pos hw, if_pos hc, if_neg hr, hj]; rfl)]
  have HB0 : Hid (Below w.heap.size w (w.alloc (.cells (Cfg.zero.cells (.slice none 0 0)).toArray 31))) := Lib.hid ((Below.refl _ _).alloc (Nat.le_refl _) _)
  have HR0 : Hid (CfAt (w.alloc (.cells (Cfg.zero.cells (.slice none 0 0)).toArray 31)) w.heap.size Cfg.zero (.slice none 0 0)) := Lib.hid (Rec.new w _ (Cfg.zero.cells (.slice none 0 0)) _ rfl)
  have hcr := rread_any _ base b v t (h.keep HB0.out)
  rw [show t.readL = (t.all, 0) from by unfold Tp.readL; rw [hd]; rfl] at hcr
  have CR := Lib.hid hcr
  simp only [Cfg.cells, Cfg.zero] at CR
  have H := Lib.hid h
  have HO : Hid (Oct t.all ∧ t.all.length ≤ 1048576) := Lib.hid ⟨h.ok.oct, by have h1 := h.ok.len; have h2 := h.ok.room; omega⟩
  have HF : Hid (∀ k, foot b v k → k < w.heap.size) := Lib.hid (fun k hk => (h.lt hk).2)
  have HJ := Lib.hid hj
  have CC := Lib.hid (fun W (hb : Below w.heap.size w W) => rcut_any W base b v t ((wholeOf (recs t.all) : Nat) : Int) (h.keep hb))
  have HC := Lib.hid hc
  rw [hc] at CC
  obtain ⟨N, hN⟩ : ∃ N, N = (recs t.all).length := ⟨_, rfl⟩
  have hN0 : N ≠ 0 := by rw [hN]; exact fun e => hr (List.eq_nil_of_length_eq_zero e)
  have HN := Lib.hid hN
  clear hr hN hj
  clear hcr h hd hc
  go_enter Tryz.func21, Tryz.ntmps21
  go_wp2_with (first
    | (go_at_call 52; (with_reducible refine CR.out.mono ?_); rintro e w1 ⟨x, rfl, hx, hb1⟩; obtain ⟨A, c, rfl, hA, hAc, hcm, hA0, hlow⟩ := OwnB.form hx; have HB1 := Lib.hid (HB0.out.trans (hb1.mono HB0.out.size)); have HR1 := Lib.hid (CfAt.keep HR0.out hb1); have CQ := Lib.hid (records_any A t.all c w1 hA HO.out.1 (by have := HO.out.2; omega) hAc hcm (ownB_addr hx)); have CV := Lib.hid (fun W W' (hb : Below w1.heap.size w1 W) (ht : Touch (foot b v) W W') => revents_any A t.all c W' ((hA.below hb).touch ht (fun bb off e _ hf => by have h1 := hlow bb off none e; have h2 := HF.out bb hf; simp at h1; omega)) HO.out.1 (by have := HO.out.2; omega) hAc hcm (ownB_addr hx)); rw [HJ.out] at CV; clear hx hb1 hA hlow)
    | (go_at_call 53; (with_reducible refine CQ.out.mono ?_); rintro e w2 ⟨v1, v2, rfl, hS, hb2⟩; obtain ⟨A2, c2, rfl, _⟩ := recs_rows hS; rw [← HN.out]; have HB2 := Lib.hid (HB1.out.trans (hb2.mono HB1.out.size)); have HR2 := Lib.hid (CfAt.keep HR1.out hb2); have CC2 := Lib.hid (CC.out _ HB2.out); have CV2 := Lib.hid (fun W ht => CV.out _ W hb2 ht); clear hS hb2)
    | (go_at_call 54; (with_reducible refine CC2.out.mono ?_); rintro e w4 ⟨rfl, hW⟩; have HW := Lib.hid hW; have HR4 : Hid (CfAt w4 w.heap.size Cfg.zero (.slice none 0 0)) := Lib.hid (Rec.touch HR2.out (went_touch hW) (fun hf => by have := HF.out _ hf; omega)); have CV4 := Lib.hid (CV2.out _ (went_touch hW)); clear hW)
    | (go_at_call 55; (with_reducible refine CV4.out.mono ?_); rintro e w3 hK; obtain ⟨V, k, X, rfl, hoi, hoe, hb3⟩ := jourC_good hK; have HI3 := Lib.hid (OwnL.lower hoi (Nat.succ_le_of_lt (Rec.lt HR4.out))); have HE3 := Lib.hid (OwnL.lower hoe (Nat.succ_le_of_lt (Rec.lt HR4.out))); clear hoi hoe; have HW3 := Lib.hid (went_keep HW.out hb3); have HR3 := Lib.hid (CfAt.keep HR4.out hb3); have hlt3 := Rec.lt HR3.out; clear hK hb3; obtain ⟨d0, d1, d2, d3, d4, d5, d6⟩ := HR3.out.reads; simp only [Cfg.zero] at d0 d1 d2 d3 d4 d5 d6; have fz0 := Rec.frozen HR3.out 0; have fz1 := Rec.frozen HR3.out 1; have fz2 := Rec.frozen HR3.out 2; have fz3 := Rec.frozen HR3.out 3; have fz4 := Rec.frozen HR3.out 4; have fz5 := Rec.frozen HR3.out 5; have fz6 := Rec.frozen HR3.out 6))
  have hF := went_keep (went_fin H.out HB2.out (Rec.lt HR2.out) HW3.out (.slice V cf.insts.length k) cf) ((Below.refl _ _).alloc (Nat.le_refl _) (.cells #[.slice V cf.insts.length k, .int .i64 cf.skin, .int .i64 cf.times, .int .i64 cf.port, .int .i64 cf.bid, .int .i64 cf.lot, .int .i64 cf.hedge] 31))
  obtain ⟨g0, g1, g2, g3, g4, g5, g6⟩ := (CfAt.keep (putC_at HR3.out (.slice V cf.insts.length k) cf) ((Below.refl _ _).alloc (Nat.le_refl _) (.cells #[.slice V cf.insts.length k, .int .i64 cf.skin, .int .i64 cf.times, .int .i64 cf.port, .int .i64 cf.bid, .int .i64 cf.lot, .int .i64 cf.hedge] 31))).reads
  have hI9 := ownL_fin HI3.out (.slice V cf.insts.length k) cf (.cells #[.slice V cf.insts.length k, .int .i64 cf.skin, .int .i64 cf.times, .int .i64 cf.port, .int .i64 cf.bid, .int .i64 cf.lot, .int .i64 cf.hedge] 31)
  have hE9 := ownL_fin HE3.out (.slice V cf.insts.length k) cf (.cells #[.slice V cf.insts.length k, .int .i64 cf.skin, .int .i64 cf.times, .int .i64 cf.port, .int .i64 cf.bid, .int .i64 cf.lot, .int .i64 cf.hedge] 31)
  simp only [putC] at hI9 hE9
  simp only [putC] at g0 g1 g2 g3 g4 g5 g6
  simp only [putC] at hF
  refine bodyPost_ret (v := .tuple #[.agg #[.slice V cf.insts.length k, .int .i64 cf.skin, .int .i64 cf.times, .int .i64 cf.port, .int .i64 cf.bid, .int .i64 cf.lot, .int .i64 cf.hedge], X, .int .i64 0]) (by simp [results, Tryz.results21, go_sem, g0, g1, g2, g3, g4, g5, g6]) rfl ?_
  exact ⟨_, _, rfl, hI9, hE9, hF⟩
theorem ropen_any (w : World) (base b : Nat) (v : Value) (t : Tp) (h : TapeAt true w base b v t) :
    Calls Tryz.prog 21 #[.pointer (some ⟨b, 0, none⟩)] w (OpenC true w base b v t.ropen) := by
  by_cases hd : t.down = true
  · exact ropen_down w base b v t h hd
  · have hd := Bool.not_eq_true _ ▸ hd
    by_cases hw : wholeOf (recs t.all) < t.all.length
    · by_cases hc : (t.rcut (wholeOf (recs t.all))).2 = 0
      · by_cases hr : recs t.all = []
        · exact ropen_cutnone w base b v t h hd hw hr hc
        · cases hj : jour t.all with
          | none => exact ropen_cutbad w base b v t h hd hw hr hj hc
          | some x =>
            obtain ⟨cf, es, M⟩ := x
            cases M with
            | zero => exact ropen_cutok w base b v t h hd hw hr cf es hj hc
            | succ M => exact ropen_cutmore w base b v t h hd hw hr cf es M hj hc
      · exact ropen_fail w base b v t h hd hw _ hc rfl
    · by_cases hr : recs t.all = []
      · exact ropen_none w base b v t h hd hw hr
      · cases hj : jour t.all with
        | none => exact ropen_bad w base b v t h hd hw hr hj
        | some x =>
          obtain ⟨cf, es, M⟩ := x
          cases M with
          | zero => exact ropen_ok w base b v t h hd hw hr cf es hj
          | succ M => exact ropen_more w base b v t h hd hw hr cf es M hj
end Go.Proofs.YtmpipjangbedkaaGreat
