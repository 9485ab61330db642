import Derived.Test.YtmpipjangbedkaaGreatMPq3
/-
  The walk of the program's guess.
-/
namespace Go.Proofs.YtmpipjangbedkaaGreat
set_option maxRecDepth 8000
open Go Go.RowKit
set_option linter.unusedVariables false

theorem planB_rest (c : Cfg) : planB c 6 = numB (c.insts.length : Int) ++ (c.insts.flatMap insB ++ (restL c).flatMap numB) := by
  unfold planB frontB
  rw [List.take_length, List.append_assoc]
  rfl
/-- How far the guess has come: instruments L, the bytes l left. -/
def GI (b : List Nat) (n : Nat) (L : List Ins) (l : List Nat) : Prop := ∀ c, CfgI c → c.insts.length ≤ 6 → b = planB c 6 → n = c.insts.length ∧ L = c.insts.take L.length ∧ l = (c.insts.drop L.length).flatMap insB ++ (restL c).flatMap numB
theorem gi_start {b l : List Nat} {v : Int} (h : FN b v l) : (∀ c, CfgI c → c.insts.length ≤ 6 → b = planB c 6 → v = (c.insts.length : Int)) ∧ ∀ n : Nat, v = (n : Int) → GI b n [] l := by
  have key : ∀ c, CfgI c → c.insts.length ≤ 6 → b = planB c 6 → v = (c.insts.length : Int) ∧ l = c.insts.flatMap insB ++ (restL c).flatMap numB := fun c hc h6 hb => h.2 _ _ (by unfold I64; omega) (by rw [hb, planB_rest])
  exact ⟨fun c hc h6 hb => (key c hc h6 hb).1, fun n hn c hc h6 hb => ⟨by have := (key c hc h6 hb).1; omega, rfl, (key c hc h6 hb).2⟩⟩
theorem gi_step {b l l' : List Nat} {n : Nat} {L : List Ins} {x : Ins} (h : GI b n L l) (hL : L.length < n) (hx : ∀ y r, InsI y → l = insB y ++ r → x = y ∧ l' = r) : GI b n (L ++ [x]) l' := by
  intro c hc h6 hb
  obtain ⟨h1, h2, h3⟩ := h c hc h6 hb
  have hlt : L.length < c.insts.length := by omega
  rw [List.drop_eq_getElem_cons hlt, List.flatMap_cons, List.append_assoc] at h3
  have hi := hc.insts _ (List.getElem_mem hlt)
  obtain ⟨e1, e2⟩ := hx _ _ ⟨hi.1, hi.2.1, hi.2.2.1, hi.2.2.2⟩ h3
  refine ⟨h1, ?_, ?_⟩
  · rw [List.length_append, List.length_singleton, List.take_succ_eq_append_getElem hlt, ← h2, e1]
  · rw [e2, List.length_append, List.length_singleton]
theorem gi_end {b l l1 l2 l3 l4 l5 l6 : List Nat} {n : Nat} {L : List Ins} {v1 v2 v3 v4 v5 v6 : Int} (h : GI b n L l) (hL : L.length = n) (h1 : FN l v1 l1) (h2 : FN l1 v2 l2) (h3 : FN l2 v3 l3) (h4 : FN l3 v4 l4) (h5 : FN l4 v5 l5) (h6 : FN l5 v6 l6) : ∀ c, CfgI c → c.insts.length ≤ 6 → b = planB c 6 → (⟨L, v1, v2, v3, v4, v5, v6⟩ : Cfg) = c := by
  intro c hc hc6 hb
  obtain ⟨g1, g2, g3⟩ := h c hc hc6 hb
  rw [hL, g1, List.take_length] at g2
  rw [hL, g1, List.drop_length, List.flatMap_nil, List.nil_append] at g3
  unfold restL at g3
  simp only [List.flatMap_cons, List.flatMap_nil] at g3
  obtain ⟨e1, r1⟩ := h1.2 _ _ hc.skin g3
  obtain ⟨e2, r2⟩ := h2.2 _ _ hc.times r1
  obtain ⟨e3, r3⟩ := h3.2 _ _ hc.port r2
  obtain ⟨e4, r4⟩ := h4.2 _ _ hc.bid r3
  obtain ⟨e5, r5⟩ := h5.2 _ _ hc.lot r4
  obtain ⟨e6, r6⟩ := h6.2 _ _ hc.hedge r5
  rw [e1, e2, e3, e4, e5, e6, g2]
theorem touch_drewN {X : Nat → Prop} {a w : World} (h : Touch X a w) (n : Nat) : Touch X a (w.drewN n) := ⟨h.os, h.tape, h.output, h.size, h.block⟩
theorem touch_set {b : Nat} {w W : World} (h : Touch (fun k => k = b) w W) (i : Nat) (u : Value) : Touch (fun k => k = b) w (W.setCell ⟨b, i, none⟩ u) := h.trans (Touch.setCell W ⟨b, i, none⟩ u) (fun _ _ h => h)
/-- What guess answers. -/
def GSK (w : World) (b : List Nat) (e : Ending) (w' : World) : Prop :=
  ∃ g V, e = .returned (Cfg.v g V) ∧ OwnI w' w.heap.size V g.insts ∧ Below w.heap.size w w' ∧ CfgI g ∧ g.insts.length ≤ 6 ∧ ∀ c, CfgI c → planOk c = true → b = planB c 6 → g = c
theorem cfgI_zero : CfgI Cfg.zero := by
  refine ⟨fun x hx => (List.not_mem_nil hx).elim, ?_, ?_, ?_, ?_, ?_, ?_⟩ <;> unfold I64 Cfg.zero <;> simp
theorem v_cases (v : Int) : v < 1 ∨ (¬ v < 1 ∧ 6 < v) ∨ ∃ cnt : Nat, v = (cnt : Int) ∧ 1 ≤ cnt ∧ cnt ≤ 6 := by
  rcases (by omega : v < 1 ∨ 6 < v ∨ (1 ≤ v ∧ v ≤ 6)) with h | h | h
  · exact .inl h
  · exact .inr (.inl ⟨by omega, h⟩)
  · exact .inr (.inr ⟨v.toNat, by omega, by omega, by omega⟩)
theorem plan_len6 {c : Cfg} (h : planOk c = true) : 1 ≤ c.insts.length ∧ c.insts.length ≤ 6 := by
  unfold planOk at h
  rw [Bool.and_eq_true, Bool.and_eq_true] at h
  exact ⟨of_decide_eq_true h.1.1, of_decide_eq_true h.1.2⟩
/-- An instrument is stored. -/
def putI (w : World) (b : Nat) (y0 y1 y2 y3 : Int) : World := (((w.setCell ⟨b, 0, none⟩ (.int .i64 y0)).setCell ⟨b, 1, none⟩ (.int .i64 y1)).setCell ⟨b, 2, none⟩ (.int .i64 y2)).setCell ⟨b, 3, none⟩ (.int .i64 y3)
theorem putI_touch (w : World) (b : Nat) (y0 y1 y2 y3 : Int) : Touch (fun k => k = b) w (putI w b y0 y1 y2 y3) := touch_set (touch_set (touch_set (touch_set (Touch.refl _ w) 0 _) 1 _) 2 _) 3 _
theorem putI_size (w : World) (b : Nat) (y0 y1 y2 y3 : Int) : (putI w b y0 y1 y2 y3).heap.size = w.heap.size := by simp [putI, World.setCell]
theorem own_putI {w : World} {base b : Nat} {v : Value} {L : List Ins} (h : OwnI w base v L) (hb : ∀ k, v.ownBlock = some k → k ≠ b) (y0 y1 y2 y3 : Int) (o : Obj) : OwnI ((putI w b y0 y1 y2 y3).alloc o) base v L := OwnL.alloc (OwnL.touch h (putI_touch w b y0 y1 y2 y3) hb) o
set_option maxRecDepth 100000 in
set_option maxHeartbeats 8000000 in
theorem guess_any (A : Option Addr) (b : List Nat) (n c : Nat) (w : World) (hn : n = b.length) (hB : Byts w A b) (hO : Oct b) (hl : n ≤ 1000000000000) (hcl : n ≤ c) : Calls Tryz.prog 83 #[.slice A n c] w (GSK w b) := by
  subst hn
  have CF : Hid (∀ A l c W, Byts W A l → Oct l → l.length ≤ 1000000000000 → l.length ≤ c → Calls Tryz.prog 96 #[.slice A l.length c] W (FNK W A l)) := Lib.hid (fun A l c W h1 h2 h3 h4 => pfirst_any A l _ c W rfl h1 h2 h3 h4)
  have CI : Hid (∀ A l c W, Byts W A l → Oct l → l.length ≤ 1000000000000 → l.length ≤ c → Calls Tryz.prog 97 #[.slice A l.length c] W (FIK W A l)) := Lib.hid (fun A l c W h1 h2 h3 h4 => pinst_any A l _ c W rfl h1 h2 h3 h4)
  have hb1 : Below w.heap.size w (w.alloc (.cells (Cfg.zero.cells (.slice none 0 0)).toArray 31)) := (Below.refl _ _).alloc (Nat.le_refl _) _
  have HBB : Hid (Below w.heap.size w ((w.alloc (.cells (Cfg.zero.cells (.slice none 0 0)).toArray 31)).alloc (.cells (Cfg.zero.cells (.slice none 0 0)).toArray 31))) := Lib.hid (hb1.alloc hb1.size _)
  have HR0 : Hid (CfAt ((w.alloc (.cells (Cfg.zero.cells (.slice none 0 0)).toArray 31)).alloc (.cells (Cfg.zero.cells (.slice none 0 0)).toArray 31)) w.heap.size Cfg.zero (.slice none 0 0)) := Lib.hid (CfAt.keep (Rec.new w _ (Cfg.zero.cells (.slice none 0 0)) _ rfl) ((Below.refl _ _).alloc (Nat.le_refl _) _))
  have HC0' : Hid (CfAt ((w.alloc (.cells (Cfg.zero.cells (.slice none 0 0)).toArray 31)).alloc (.cells (Cfg.zero.cells (.slice none 0 0)).toArray 31)) (w.heap.size + 1) Cfg.zero (.slice none 0 0)) := Lib.hid (Rec.new _ _ _ _ (by simp))
  have CF1 := Lib.hid (CF.out A b c _ (hB.below HBB.out) hO hl hcl)
  have HBy := Lib.hid hB
  have HL := Lib.hid hl
  simp only [Cfg.cells, Cfg.zero] at HBB CF1
  have HLb := Lib.hid hl
  generalize b.length = n at CF1 HL
  clear hB hO hl hcl hb1
  go_enter Tryz.func83, Tryz.ntmps83
  go_wp2_with (go_at_call 96; (with_reducible refine CF1.out.mono ?_); rintro r _ ⟨v, A0, l0, c0, m0, rfl, rfl, hy0, ho0, hl0, hc0, hf0⟩; have HY0 := Lib.hid (hy0 _ HBy.out); have HO0 := Lib.hid ho0; have HL0 : Hid (l0.length ≤ 1000000000000) := Lib.hid (Nat.le_trans hl0 HLb.out); have HC0 := Lib.hid hc0; have HF0 := Lib.hid hf0; clear hy0 ho0 hl0 hc0 hf0; rcases v_cases v with d1 | ⟨d1, d2⟩ | ⟨cnt, rfl, d1, d2⟩)
  · have hPB := putC_below (below_drewN HBB.out m0) (Nat.le_refl _) (.slice none 0 0) Cfg.zero
    simp only [putC, Cfg.zero] at hPB
    refine bodyPost_ret (v := .agg #[.slice none 0 0, .int .i64 0, .int .i64 0, .int .i64 0, .int .i64 0, .int .i64 0, .int .i64 0]) (by simp [results, Tryz.results83, go_sem]) rfl ?_
    refine ⟨Cfg.zero, .slice none 0 0, rfl, ownL_nil _ _, hPB, cfgI_zero, by unfold Cfg.zero; simp, fun c' hc' hp hb => ?_⟩
    have hp' := plan_len6 hp
    have := (gi_start HF0.out).1 c' hc' hp'.2 hb
    omega
  · have hPB := putC_below (below_drewN HBB.out m0) (Nat.le_refl _) (.slice none 0 0) Cfg.zero
    simp only [putC, Cfg.zero] at hPB
    refine bodyPost_ret (v := .agg #[.slice none 0 0, .int .i64 0, .int .i64 0, .int .i64 0, .int .i64 0, .int .i64 0, .int .i64 0]) (by simp [results, Tryz.results83, go_sem]) rfl ?_
    refine ⟨Cfg.zero, .slice none 0 0, rfl, ownL_nil _ _, hPB, cfgI_zero, by unfold Cfg.zero; simp, fun c' hc' hp hb => ?_⟩
    have hp' := plan_len6 hp
    have := (gi_start HF0.out).1 c' hc' hp'.2 hb
    omega
  have HG0 := Lib.hid ((gi_start HF0.out).2 cnt rfl)
  clear CF1 HF0 d1
  go_loopw [5, 21] (fun rs i wr => ∃ (k : Nat) (Ak : Option Addr) (lk : List Nat) (ck : Nat) (V : Value) (L : List Ins), rs = .slice Ak lk.length ck ∧ k ≤ cnt ∧ i = .int .i64 (k : Int) ∧ Hid (OwnI wr (w.heap.size + 2) V L ∧ L.length = k) ∧ Hid (CfAt wr (w.heap.size + 1) Cfg.zero V) ∧ Hid (CfAt wr w.heap.size Cfg.zero (.slice none 0 0)) ∧ Hid (Below w.heap.size w wr ∧ w.heap.size + 2 ≤ wr.heap.size) ∧ Hid (Byts w Ak lk) ∧ Hid (Oct lk) ∧ Hid (lk.length ≤ 1000000000000) ∧ Hid (lk.length ≤ ck) ∧ Hid (∀ x ∈ L, InsI x) ∧ Hid (GI b cnt L lk)) (fun _ i _ => cnt - (intOf i).toNat)
  case atStart =>
    refine ⟨0, _, _, _, _, [], rfl, Nat.zero_le _, rfl, Lib.hid ⟨ownL_nil _ _, rfl⟩, Lib.hid ?_, Lib.hid ?_, Lib.hid ⟨below_drewN HBB.out _, ?_⟩, HY0, HO0, HL0, HC0, Lib.hid (fun x hx => (List.not_mem_nil hx).elim), HG0⟩
    · exact HC0'.out
    · exact HR0.out
    · simp
  case round =>
    obtain ⟨k, Ak, lk, ck, V, L, rfl, hk, rfl, HI, HC, HR, HB, HYk, HOk, HLk, HCk, HII, HG⟩ := hrel
    obtain ⟨e0, e1, e2, e3, e4, e5, e6⟩ := HC.out.reads
    by_cases hlt : k < cnt
    · have HB1 : Hid (Below w.heap.size w (wr.alloc (.cells #[.int .i64 0, .int .i64 0, .int .i64 0, .int .i64 0] 70))) := Lib.hid (HB.out.1.alloc HB.out.1.size _)
      have CIk := Lib.hid (CI.out Ak lk ck _ (HYk.out.below HB1.out) HOk.out HLk.out HCk.out)
      have HN0 : Hid (Rec (wr.alloc (.cells #[.int .i64 0, .int .i64 0, .int .i64 0, .int .i64 0] 70)) wr.heap.size 70 [.int .i64 0, .int .i64 0, .int .i64 0, .int .i64 0]) := Lib.hid (Rec.new wr _ [.int .i64 0, .int .i64 0, .int .i64 0, .int .i64 0] _ rfl)
      have hsz : (wr.alloc (.cells #[.int .i64 0, .int .i64 0, .int .i64 0, .int .i64 0] 70)).heap.size = wr.heap.size + 1 := by simp
      have HSZ := Lib.hid hsz
      have HLk6 : Hid (L.length ≤ 6) := Lib.hid (by rw [HI.out.2]; omega)
      clear hsz
      have HVne : Hid (∀ g, V.ownBlock = some g → g ≠ wr.heap.size) := Lib.hid (fun g hg => by have := (OwnL.lt HI.out.1 g hg).2; omega)
      go_wp2_with (first
        | (at_builtin; refine wpList_appL lay_ins rfl (.tmp 29) (.tmp 31) rfl (w.heap.size + 2) V L rfl (own_putI HI5.out HVne.out y0 y1 y2 y3 _) _ _ ⟨y0, y1, y2, y3⟩ rfl ?c1 ?c2 ?c3 ?c4 ?_)
        | (go_at_call 97; (with_reducible refine CIk.out.mono ?_); rintro r w5 ⟨⟨y0, y1, y2, y3⟩, A5, l5, c5, rfl, hb5, hy5, ho5, hl5, hc5, hx5, hg5⟩; dsimp only [Ins.v]; have HB5 := Lib.hid (((Below.refl _ wr).alloc (Nat.le_refl _) _).trans (hb5.mono (by rw [HSZ.out]; exact Nat.le_succ _))); have HN5 := Lib.hid (Rec.keep HN0.out hb5); have HY5 := Lib.hid (hy5 _ HYk.out); have HO5 := Lib.hid ho5; have HL5 : Hid (l5.length ≤ 1000000000000) := Lib.hid (Nat.le_trans hl5 HLk.out); have HC5 := Lib.hid hc5; have HX5 := Lib.hid hx5; have HG5 := Lib.hid hg5; have HI5 := Lib.hid (OwnL.keep HI.out.1 HB5.out); have HCf5 := Lib.hid (CfAt.keep HC.out HB5.out); obtain ⟨x0, x1, x2, x3, x4, x5, x6⟩ := HCf5.out.reads; have r0 := Rec.cell HN5.out 0 rfl; have r1 := Rec.cell HN5.out 1 rfl; have r2 := Rec.cell HN5.out 2 rfl; have r3 := Rec.cell HN5.out 3 rfl; have fz0 := Rec.frozen HN5.out 0; have fz1 := Rec.frozen HN5.out 1; have fz2 := Rec.frozen HN5.out 2; have fz3 := Rec.frozen HN5.out 3; have hne : ¬ w.heap.size + 1 = wr.heap.size := (by have := HB.out.2; omega); clear hb5 hy5 ho5 hl5 hc5 hx5 hg5))
      case c1 => exact lit_one _ _ _ _ rfl _ (by simp [World.setCell])
      case c2 => have := HLk6.out; omega
      case c3 => have := HLk6.out; omega
      case c4 => have := HB.out.2; have := HB5.out.size; simp [World.setCell]; omega
      intro v2 w2 ho2 hg2 _
      have hs6 : (putI w5 wr.heap.size y0 y1 y2 y3).heap.size = w5.heap.size := putI_size _ _ _ _ _ _
      have hI6 : OwnI ((putI w5 wr.heap.size y0 y1 y2 y3).alloc (.cells #[.int .i64 y0, .int .i64 y1, .int .i64 y2, .int .i64 y3] 70)) (w.heap.size + 2) V L := own_putI HI5.out HVne.out y0 y1 y2 y3 _
      have hge : w.heap.size + 2 ≤ w5.heap.size := Nat.le_trans HB.out.2 HB5.out.size
      have hb6 : Below (w.heap.size + 2) w5 ((putI w5 wr.heap.size y0 y1 y2 y3).alloc (.cells #[.int .i64 y0, .int .i64 y1, .int .i64 y2, .int .i64 y3] 70)) := ((putI_touch w5 wr.heap.size y0 y1 y2 y3).below hge (fun k e => by have e' : k = wr.heap.size := e; have := HB.out.2; omega)).alloc (by rw [hs6]; exact hge) _
      have hb7 : Below (w.heap.size + 2) w5 w2 := hb6.trans (OwnL.below hI6 hg2 (Nat.le_trans hge hb6.size))
      have HC6 : Hid (CfAt w2 (w.heap.size + 1) Cfg.zero V) := Lib.hid ((hb7.block (w.heap.size + 1) (by omega)).trans HCf5.out)
      have HR6 : Hid (CfAt w2 w.heap.size Cfg.zero (.slice none 0 0)) := Lib.hid ((hb7.block w.heap.size (by omega)).trans (CfAt.keep HR.out HB5.out))
      have HB6 : Hid (Below w.heap.size w w2 ∧ w.heap.size + 2 ≤ w2.heap.size) := Lib.hid ⟨(HB.out.1.trans (HB5.out.mono HB.out.1.size)).trans (hb7.mono (by omega)), Nat.le_trans hge hb7.size⟩
      obtain ⟨AV, cV, hV2, _⟩ := OwnL.form ho2 lay_ins
      have HV2 := Lib.hid hV2
      have HO2 := Lib.hid ho2
      have HGN := Lib.hid (gi_step HG.out (by rw [HI.out.2]; exact hlt) HG5.out)
      have HII2 : Hid (∀ x ∈ L ++ [⟨y0, y1, y2, y3⟩], InsI x) := Lib.hid (fun x hx => by
        rcases List.mem_append.1 hx with hx | hx
        · exact HII.out x hx
        · rw [List.mem_singleton] at hx; rw [hx]; exact HX5.out)
      have HLL2 : Hid ((L ++ [(⟨y0, y1, y2, y3⟩ : Ins)]).length = k + 1) := Lib.hid (by rw [List.length_append, HI.out.2]; rfl)
      clear ho2 hg2 hb6 hb7 hI6 hs6 hge x0 x1 x2 x3 x4 x5 x6 r0 r1 r2 r3 fz0 fz1 fz2 fz3 hne hV2
      have g0 := HC6.out.reads.1
      have fz0 := Rec.frozen HC6.out 0
      rw [HV2.out]
      generalize (L ++ [(⟨y0, y1, y2, y3⟩ : Ins)]).length = nV at HV2
      go_wp2
      go_roundw
      case rel =>
        refine ⟨k + 1, A5, l5, c5, .slice AV nV cV, L ++ [⟨y0, y1, y2, y3⟩], rfl, by omega, by go_num, Lib.hid ⟨?_, HLL2.out⟩, Lib.hid ?_, Lib.hid ?_, Lib.hid ⟨?_, ?_⟩, HY5, HO5, HL5, HC5, HII2, HGN⟩
        · have h := HO2.out
          rw [HV2.out] at h
          exact OwnL.touch h (Touch.setCell w2 ⟨w.heap.size + 1, 0, none⟩ _) (fun g hg e => by have := (OwnL.lt h g hg).1; have e' : g = w.heap.size + 1 := e; omega)
        · exact Rec.set HC6.out 0 _
        · exact (Rec.touch HR6.out (Touch.setCell w2 ⟨w.heap.size + 1, 0, none⟩ _) (by show ¬ w.heap.size = w.heap.size + 1; omega))
        · exact below_set HB6.out.1 (Nat.le_succ _) 0 _
        · have := HB6.out.2; simpa [World.setCell] using this
      case measure => simp [intOf]; omega
    · obtain rfl : k = cnt := by omega
      obtain ⟨wL, hwL⟩ : ∃ x, x = wr := ⟨_, rfl⟩
      subst hwL
      obtain ⟨AV, cV, hV2, _⟩ := OwnL.form HI.out.1 lay_ins
      rw [HI.out.2] at hV2
      subst hV2
      have HB0 : Hid (Below w.heap.size w wL) := Lib.hid HB.out.1
      have HT0 : Hid (Touch (fun g => g = w.heap.size + 1) wL wL) := Lib.hid (Touch.refl _ _)
      obtain ⟨z0, z1, z2, z3, z4, z5, z6⟩ := HR.out.reads
      have fz0 := Rec.frozen HR.out 0
      have fz1 := Rec.frozen HR.out 1
      have fz2 := Rec.frozen HR.out 2
      have fz3 := Rec.frozen HR.out 3
      have fz4 := Rec.frozen HR.out 4
      have fz5 := Rec.frozen HR.out 5
      have fz6 := Rec.frozen HR.out 6
      have gz1 := Rec.frozen HC.out 1
      have gz2 := Rec.frozen HC.out 2
      have gz3 := Rec.frozen HC.out 3
      have gz4 := Rec.frozen HC.out 4
      have gz5 := Rec.frozen HC.out 5
      have gz6 := Rec.frozen HC.out 6
      clear HY0 HO0 HL0 HC0 HR0 HC0' HBB CI
      obtain ⟨A0, hA0⟩ : ∃ x, x = Ak := ⟨_, rfl⟩
      obtain ⟨l0, hl0⟩ : ∃ x, x = lk := ⟨_, rfl⟩
      obtain ⟨c0, hc0⟩ : ∃ x, x = ck := ⟨_, rfl⟩
      subst hA0; subst hl0; subst hc0
      have HY0 := HYk
      have HO0 := HOk
      have HL0 := HLk
      have HC0 := HCk
      go_wp2_with (first
        | (go_at_call 96; (with_reducible refine (CF.out A5 l5 c5 _ (HY5.out.below HB5.out) HO5.out HL5.out HC5.out).mono ?_); rintro r _ ⟨v6, A6, l6, c6, m6, rfl, rfl, hy6, ho6, hl6, hc6, hf6⟩; have HY6 := Lib.hid (hy6 _ HY5.out); have HO6 := Lib.hid ho6; have HL6 : Hid (l6.length ≤ 1000000000000) := Lib.hid (Nat.le_trans hl6 HL5.out); have HC6 := Lib.hid hc6; have HF6 := Lib.hid hf6; have HB6 := Lib.hid (below_set (below_drewN HB5.out m6) (Nat.le_succ w.heap.size) 6 (.int .i64 v6)); have HT6 := Lib.hid (touch_set (touch_drewN HT5.out m6) 6 (.int .i64 v6)); clear hy6 ho6 hl6 hc6 hf6)
        | (go_at_call 96; (with_reducible refine (CF.out A4 l4 c4 _ (HY4.out.below HB4.out) HO4.out HL4.out HC4.out).mono ?_); rintro r _ ⟨v5, A5, l5, c5, m5, rfl, rfl, hy5, ho5, hl5, hc5, hf5⟩; have HY5 := Lib.hid (hy5 _ HY4.out); have HO5 := Lib.hid ho5; have HL5 : Hid (l5.length ≤ 1000000000000) := Lib.hid (Nat.le_trans hl5 HL4.out); have HC5 := Lib.hid hc5; have HF5 := Lib.hid hf5; have HB5 := Lib.hid (below_set (below_drewN HB4.out m5) (Nat.le_succ w.heap.size) 5 (.int .i64 v5)); have HT5 := Lib.hid (touch_set (touch_drewN HT4.out m5) 5 (.int .i64 v5)); clear hy5 ho5 hl5 hc5 hf5)
        | (go_at_call 96; (with_reducible refine (CF.out A3 l3 c3 _ (HY3.out.below HB3.out) HO3.out HL3.out HC3.out).mono ?_); rintro r _ ⟨v4, A4, l4, c4, m4, rfl, rfl, hy4, ho4, hl4, hc4, hf4⟩; have HY4 := Lib.hid (hy4 _ HY3.out); have HO4 := Lib.hid ho4; have HL4 : Hid (l4.length ≤ 1000000000000) := Lib.hid (Nat.le_trans hl4 HL3.out); have HC4 := Lib.hid hc4; have HF4 := Lib.hid hf4; have HB4 := Lib.hid (below_set (below_drewN HB3.out m4) (Nat.le_succ w.heap.size) 4 (.int .i64 v4)); have HT4 := Lib.hid (touch_set (touch_drewN HT3.out m4) 4 (.int .i64 v4)); clear hy4 ho4 hl4 hc4 hf4)
        | (go_at_call 96; (with_reducible refine (CF.out A2 l2 c2 _ (HY2.out.below HB2.out) HO2.out HL2.out HC2.out).mono ?_); rintro r _ ⟨v3, A3, l3, c3, m3, rfl, rfl, hy3, ho3, hl3, hc3, hf3⟩; have HY3 := Lib.hid (hy3 _ HY2.out); have HO3 := Lib.hid ho3; have HL3 : Hid (l3.length ≤ 1000000000000) := Lib.hid (Nat.le_trans hl3 HL2.out); have HC3 := Lib.hid hc3; have HF3 := Lib.hid hf3; have HB3 := Lib.hid (below_set (below_drewN HB2.out m3) (Nat.le_succ w.heap.size) 3 (.int .i64 v3)); have HT3 := Lib.hid (touch_set (touch_drewN HT2.out m3) 3 (.int .i64 v3)); clear hy3 ho3 hl3 hc3 hf3)
        | (go_at_call 96; (with_reducible refine (CF.out A1 l1 c1 _ (HY1.out.below HB1.out) HO1.out HL1.out HC1.out).mono ?_); rintro r _ ⟨v2, A2, l2, c2, m2, rfl, rfl, hy2, ho2, hl2, hc2, hf2⟩; have HY2 := Lib.hid (hy2 _ HY1.out); have HO2 := Lib.hid ho2; have HL2 : Hid (l2.length ≤ 1000000000000) := Lib.hid (Nat.le_trans hl2 HL1.out); have HC2 := Lib.hid hc2; have HF2 := Lib.hid hf2; have HB2 := Lib.hid (below_set (below_drewN HB1.out m2) (Nat.le_succ w.heap.size) 2 (.int .i64 v2)); have HT2 := Lib.hid (touch_set (touch_drewN HT1.out m2) 2 (.int .i64 v2)); clear hy2 ho2 hl2 hc2 hf2)
        | (go_at_call 96; (with_reducible refine (CF.out A0 l0 c0 _ (HY0.out.below HB0.out) HO0.out HL0.out HC0.out).mono ?_); rintro r _ ⟨v1, A1, l1, c1, m1, rfl, rfl, hy1, ho1, hl1, hc1, hf1⟩; have HY1 := Lib.hid (hy1 _ HY0.out); have HO1 := Lib.hid ho1; have HL1 : Hid (l1.length ≤ 1000000000000) := Lib.hid (Nat.le_trans hl1 HL0.out); have HC1 := Lib.hid hc1; have HF1 := Lib.hid hf1; have HB1 := Lib.hid (below_set (below_drewN HB0.out m1) (Nat.le_succ w.heap.size) 1 (.int .i64 v1)); have HT1 := Lib.hid (touch_set (touch_drewN HT0.out m1) 1 (.int .i64 v1)); clear hy1 ho1 hl1 hc1 hf1))
      have hPB := putC_below HB6.out (Nat.le_refl _) (.slice AV k cV) ⟨L, v1, v2, v3, v4, v5, v6⟩
      have hRC := Rec.touch HR.out HT6.out (show ¬ w.heap.size = w.heap.size + 1 by omega)
      have hOT := OwnL.touch HI.out.1 HT6.out (fun g hg e => by have := (OwnL.lt HI.out.1 g hg).1; have e' : g = w.heap.size + 1 := e; omega)
      have hPO := OwnL.lower (OwnL.touch hOT (putC_touch _ w.heap.size (.slice AV k cV) ⟨L, v1, v2, v3, v4, v5, v6⟩) (fun g hg e => by have := (OwnL.lt HI.out.1 g hg).1; have e' : g = w.heap.size := e; omega)) (show w.heap.size ≤ w.heap.size + 2 by omega)
      obtain ⟨g0, g1, g2, g3, g4, g5, g6⟩ := (putC_at hRC (.slice AV k cV) ⟨L, v1, v2, v3, v4, v5, v6⟩).reads
      simp only [putC] at g0 g1 g2 g3 g4 g5 g6 hPB hPO
      clear hRC hOT
      refine bodyPost_ret (v := .agg #[.slice AV k cV, .int .i64 v1, .int .i64 v2, .int .i64 v3, .int .i64 v4, .int .i64 v5, .int .i64 v6]) (by simp [results, Tryz.results83, go_sem, g0, g1, g2, g3, g4, g5, g6]) rfl ?_
      exact ⟨⟨L, v1, v2, v3, v4, v5, v6⟩, _, rfl, hPO, hPB, ⟨fun x hx => HII.out x hx, HF1.out.1, HF2.out.1, HF3.out.1, HF4.out.1, HF5.out.1, HF6.out.1⟩, (by have := HI.out.2; show L.length ≤ 6; omega), fun c' hc' hp hb => gi_end HG.out HI.out.2 HF1.out HF2.out HF3.out HF4.out HF5.out HF6.out c' hc' (plan_len6 hp).2 hb⟩
end Go.Proofs.YtmpipjangbedkaaGreat
