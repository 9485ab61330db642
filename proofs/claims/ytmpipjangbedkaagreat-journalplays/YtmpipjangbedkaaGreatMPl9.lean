import Derived.Test.YtmpipjangbedkaaGreatMPl7
import Derived.Test.YtmpipjangbedkaaGreatMPq6
/-
  The walk of the reference's ReadPlan.
-/
namespace Go.Proofs.YtmpipjangbedkaaGreat
set_option maxRecDepth 8000
open Go Go.RowKit
set_option linter.unusedVariables false

set_option maxRecDepth 8000 in
set_option maxHeartbeats 2000000 in
theorem rreadplan_main (A : Option Addr) (b : List Nat) (c : Nat) (w : World) (m p0 : Nat) (hB : Byts w A b) (hO : Oct b) (hl : b.length ≤ 1000000000000) (hn : readN b 0 = some ((m : Int), p0)) (hm : 1 ≤ m ∧ m ≤ 6) : Calls Tryz.prog 71 #[.slice A b.length c] w (PlanK w (readP b)) := by
  obtain ⟨n, hnn⟩ : ∃ n, n = b.length := ⟨_, rfl⟩
  have HN := Lib.hid hnn
  obtain ⟨X, hX⟩ : ∃ X, X = readP b := ⟨_, rfl⟩
  have HX : Hid (X = match rdL b (4 * m + 6) p0 with | none => none | some (l, p) => if p = n ∧ planOk (cfgL l m) = true then some (cfgL l m) else none) := Lib.hid (by
    rw [hX, hnn]
    unfold readP
    rw [hn]
    simp only
    rw [if_pos ⟨by omega, by omega⟩, Int.toNat_natCast]
    rfl)
  rw [← hX]
  clear hX
  have hp0 := (readN_is hO hn).2.2.2
  rw [← hnn] at hp0
  have CN : Hid (∀ a, a ≤ n → ∀ W, Below w.heap.size w W → Calls Tryz.prog 89 #[.slice A n c, .int .i64 (a : Int)] W fun e w' => e = .returned (.tuple #[.int .i64 (rdOut (rdn b a 10 0 0)).1, .int .i64 (rdOut (rdn b a 10 0 0)).2]) ∧ W = w') := Lib.hid (fun a ha W hW => by rw [hnn]; exact rnum_any A b c a W (hB.below hW) hO hl (by omega))
  have HO := Lib.hid hO
  have HC0 : Hid (CfAt (w.alloc (.cells (Cfg.zero.cells (.slice none 0 0)).toArray 31)) w.heap.size Cfg.zero (.slice none 0 0)) := Lib.hid (Rec.new w _ (Cfg.zero.cells (.slice none 0 0)) _ rfl)
  have HB0 : Hid (Below w.heap.size w (w.alloc (.cells (Cfg.zero.cells (.slice none 0 0)).toArray 31))) := Lib.hid ((Below.refl _ _).alloc (Nat.le_refl _) _)
  have CN0 := Lib.hid (CN.out 0 (Nat.zero_le _) _ HB0.out)
  rw [show ((0 : Nat) : Int) = 0 from rfl] at CN0
  rw [out_some hn] at CN0
  dsimp only at CN0
  simp only [Cfg.cells, Cfg.zero] at CN0
  obtain ⟨hm1, hm6⟩ := hm
  rw [← hnn] at hl ⊢
  have hpp : decide ((p0 : Int) < 0) = false := by simp
  have d1 : decide ((m : Int) < 1) = false := decide_eq_false (by omega)
  have d2 : decide (6 < (m : Int)) = false := decide_eq_false (by omega)
  have hW0 : (w.alloc (.cells (Cfg.zero.cells (.slice none 0 0)).toArray 31)).heap.size = w.heap.size + 1 := by simp
  clear hn hnn hB hO
  go_enter Tryz.func71, Tryz.ntmps71
  go_wp2_with (go_at_call 89; (with_reducible refine CN0.out.mono ?_); rintro r _ ⟨rfl, rfl⟩)
  clear CN0 hpp d1 d2
  have HM : Hid (∀ k : Nat, k ≤ 4 * m + 6 → (k : Int) < 4 * (m : Int) + 6 ∨ k = 4 * m + 6) := Lib.hid (fun k h => by omega)
  go_loopw [5, 6, 7] (fun at' lv i wr => ∃ (k p : Nat) (V : Value) (L : List Int), V = lv ∧ k ≤ 4 * m + 6 ∧ p ≤ n ∧ i = .int .i64 (k : Int) ∧ at' = .int .i64 (p : Int) ∧ Hid (Own64 wr (w.heap.size + 1) V L ∧ L.length = k) ∧ Hid (CfAt wr w.heap.size Cfg.zero (.slice none 0 0)) ∧ Hid (Below w.heap.size w wr ∧ w.heap.size + 1 ≤ wr.heap.size) ∧ Hid (preL L (rdL b (4 * m + 6 - k) p) = rdL b (4 * m + 6) p0)) (fun _ _ i _ => 4 * m + 6 - (intOf i).toNat)
  case atStart => exact ⟨0, p0, _, [], rfl, Nat.zero_le _, hp0, rfl, rfl, Lib.hid ⟨ownL_nil _ _, rfl⟩, HC0, Lib.hid ⟨HB0.out, by simp⟩, Lib.hid (preL_nil _)⟩
  case round =>
    obtain ⟨k, p, V, L, rfl, hk, hp, rfl, rfl, HL, HC, HB, HR⟩ := hrel
    obtain ⟨c0, c1, c2, c3, c4, c5, c6⟩ := HC.out.reads
    have fz0 := Rec.frozen HC.out 0
    have fz1 := Rec.frozen HC.out 1
    have fz2 := Rec.frozen HC.out 2
    have fz3 := Rec.frozen HC.out 3
    have fz4 := Rec.frozen HC.out 4
    have fz5 := Rec.frozen HC.out 5
    have fz6 := Rec.frozen HC.out 6
    by_cases hlt : k < 4 * m + 6
    · have CN1 := Lib.hid (CN.out p hp wr HB.out.1)
      have hsuc : 4 * m + 6 - k = (4 * m + 6 - (k + 1)) + 1 := by omega
      rw [hsuc] at HR
      cases hr : readN b p with
      | none =>
        rw [out_none hr] at CN1
        dsimp only at CN1
        have HXN : Hid (X = none) := Lib.hid (by
          rw [HX.out, ← HR.out, rdL_none hr]
          rfl)
        simp only [Cfg.zero] at c0 c1 c2 c3 c4 c5 c6
        have hneg : decide ((-1 : Int) < 0) = true := rfl
        clear hr HR hsuc HX HM CN HO
        go_wp2_with (go_at_call 89; (with_reducible refine CN1.out.mono ?_); rintro r _ ⟨rfl, rfl⟩)
        have hPB := putC_below HB.out.1 (Nat.le_refl _) (.slice none 0 0) Cfg.zero
        obtain ⟨g0, g1, g2, g3, g4, g5, g6⟩ := (putC_at HC.out (.slice none 0 0) Cfg.zero).reads
        simp only [putC, Cfg.zero] at g0 g1 g2 g3 g4 g5 g6
        simp only [putC, Cfg.zero] at hPB
        refine bodyPost_ret (v := .tuple #[.agg #[.slice none 0 0, .int .i64 0, .int .i64 0, .int .i64 0, .int .i64 0, .int .i64 0, .int .i64 0], .int .i64 13]) (by simp [results, Tryz.results71, go_sem, g0, g1, g2, g3, g4, g5, g6]) rfl ?_
        rw [HXN.out]
        exact planK_none hPB
      | some y =>
        obtain ⟨v, q⟩ := y
        rw [out_some hr] at CN1
        dsimp only at CN1
        have hq := (readN_is HO.out hr).2.2.2
        rw [← HN.out] at hq
        have HR2 : Hid (preL (L ++ [v]) (rdL b (4 * m + 6 - (k + 1)) q) = rdL b (4 * m + 6) p0) := Lib.hid (by rw [← HR.out, preL_some L hr])
        have hqq : decide ((q : Int) < 0) = false := by simp
        have HLL : Hid (L.length ≤ 30) := Lib.hid (by rw [HL.out.2]; omega)
        clear hr HR hsuc c0 c1 c2 c3 c4 c5 c6 fz0 fz1 fz2 fz3 fz4 fz5 fz6
        go_wp2_with (first
          | (go_at_call 89; (with_reducible refine CN1.out.mono ?_); rintro r _ ⟨rfl, rfl⟩)
          | (at_builtin; refine wpList_appL lay_64 rfl (.tmp 44) (.tmp 46) rfl (w.heap.size + 1) _ L rfl (HL.out.1.alloc _) _ _ v rfl ?c1 ?c2 ?c3 ?c4 ?_))
        case c1 => exact lit_one _ _ _ _ rfl _ rfl
        case c2 => have := HLL.out; omega
        case c3 => have := HLL.out; omega
        case c4 => have := HB.out.2; simp; omega
        intro v2 w2 ho2 hg2 _
        have hb2 : Below (w.heap.size + 1) wr w2 := ((Below.refl _ _).alloc HB.out.2 _).trans ((HL.out.1.alloc _).below hg2 (by have := HB.out.2; simp; omega))
        have HL2 : Hid (Own64 w2 (w.heap.size + 1) v2 (L ++ [v]) ∧ (L ++ [v]).length = k + 1) := Lib.hid ⟨ho2, by rw [List.length_append, HL.out.2]; rfl⟩
        have HC2 : Hid (CfAt w2 w.heap.size Cfg.zero (.slice none 0 0)) := Lib.hid ((hb2.block w.heap.size (by omega)).trans HC.out)
        have HB2 : Hid (Below w.heap.size w w2 ∧ w.heap.size + 1 ≤ w2.heap.size) := Lib.hid ⟨HB.out.1.trans (hb2.mono (by omega)), Nat.le_trans HB.out.2 hb2.size⟩
        clear ho2 hg2 hb2
        go_wp2
        go_roundw
        case rel => exact ⟨k + 1, q, _, _, rfl, by omega, hq, by go_num, rfl, HL2, HC2, HB2, HR2⟩
        case measure => simp [intOf]; omega
    · obtain rfl : k = 4 * m + 6 := by omega
      rw [Nat.sub_self, rdL] at HR
      have HXL : Hid (X = if p = n ∧ planOk (cfgL L m) = true then some (cfgL L m) else none) := Lib.hid (by
        rw [HX.out, ← HR.out]
        simp [preL])
      obtain ⟨wB, hwB⟩ : ∃ x, x = wr := ⟨_, rfl⟩
      subst hwB
      obtain ⟨AL, cL, rfl, hcl, _, _, hcs⟩ := HL.out.1.form lay_64
      obtain ⟨g, rfl, hg1, hg2, hcells⟩ := hcs (by rw [HL.out.2]; omega)
      rw [HL.out.2]
      have HCL : Hid (4 * m + 6 ≤ cL) := Lib.hid (by rw [← HL.out.2]; exact hcl)
      obtain ⟨NL, hNL⟩ : ∃ NL, NL = 4 * m + 6 := ⟨_, rfl⟩
      rw [← hNL]
      obtain ⟨B7, hB7⟩ : ∃ B7, B7 = wB.heap.size := ⟨_, rfl⟩
      have HE := Lib.hid hB7
      have HF : Hid (∀ i, i < NL → wB.cell? ⟨g, i, none⟩ = some (.int .i64 (L.getD i 0))) := Lib.hid (fun i hi => by
        have := (hcells i (by rw [HL.out.2, ← hNL]; exact hi) 0 (by omega)).1
        rw [Nat.mul_one, Nat.add_zero] at this
        rw [this, getD_at (by rw [HL.out.2, ← hNL]; exact hi)]
        rfl)
      have HC7 : Hid (CfAt (wB.alloc (.cells (Cfg.zero.cells (.slice none 0 0)).toArray 31)) B7 Cfg.zero (.slice none 0 0)) := Lib.hid (Rec.new wB _ (Cfg.zero.cells (.slice none 0 0)) _ hB7)
      have HB7 : Hid (Below B7 wB (wB.alloc (.cells (Cfg.zero.cells (.slice none 0 0)).toArray 31)) ∧ B7 + 1 ≤ (wB.alloc (.cells (Cfg.zero.cells (.slice none 0 0)).toArray 31)).heap.size) := Lib.hid ⟨(Below.refl _ _).alloc (by omega) _, by simp; omega⟩
      have hgB : g < B7 := by omega
      clear HX HR HM CN hlt hcs hcells hcl hg1 hg2 hB7
      go_wp2
      rw [← HE.out]
      go_loopw [11] (fun i wq => ∃ (k : Nat) (V2 : Value), k ≤ m ∧ i = .int .i64 (k : Int) ∧ Hid (OwnI wq (B7 + 1) V2 (insL L k)) ∧ Hid (CfAt wq B7 Cfg.zero V2) ∧ Hid (Below B7 wB wq ∧ B7 + 1 ≤ wq.heap.size)) (fun i _ => m - (intOf i).toNat)
      case atStart => exact ⟨0, _, Nat.zero_le _, rfl, Lib.hid (ownL_nil _ _), HC7, HB7⟩
      case round =>
        obtain ⟨k, V2, hk, rfl, HI2, HC2, HB2⟩ := hrel
        by_cases hlt : k < m
        · obtain ⟨W0, hW0⟩ : ∃ W0 : World, W0 = { wr with drawn := wr.drawn + 1 } := ⟨_, rfl⟩
          obtain ⟨x, hx⟩ : ∃ x, x = insAt L k := ⟨_, rfl⟩
          have hxc : x.cells = [.int .i64 (L.getD (4 * k) 0), .int .i64 (L.getD (4 * k + 1) 0), .int .i64 (L.getD (4 * k + 2) 0), .int .i64 (L.getD (4 * k + 3) 0)] := by rw [hx]; rfl
          obtain ⟨q0, hq0⟩ : ∃ q, q = 4 * k := ⟨_, rfl⟩
          obtain ⟨q1, hq1⟩ : ∃ q, q = 4 * k + 1 := ⟨_, rfl⟩
          obtain ⟨q2, hq2⟩ : ∃ q, q = 4 * k + 2 := ⟨_, rfl⟩
          obtain ⟨q3, hq3⟩ : ∃ q, q = 4 * k + 3 := ⟨_, rfl⟩
          have w0 : IntKind.i64.wrap (4 * (k : Int)) = (q0 : Int) := by simp [IntKind.wrap, IntKind.bits, IntKind.signed]; omega
          have w1 : IntKind.i64.wrap ((q0 : Int) + 1) = (q1 : Int) := by simp [IntKind.wrap, IntKind.bits, IntKind.signed]; omega
          have w2 : IntKind.i64.wrap ((q0 : Int) + 2) = (q2 : Int) := by simp [IntKind.wrap, IntKind.bits, IntKind.signed]; omega
          have w3 : IntKind.i64.wrap ((q0 : Int) + 3) = (q3 : Int) := by simp [IntKind.wrap, IntKind.bits, IntKind.signed]; omega
          have hl0 : q0 < NL := by omega
          have hl1 : q1 < NL := by omega
          have hl2 : q2 < NL := by omega
          have hl3 : q3 < NL := by omega
          rw [← hq1, ← hq2, ← hq3, ← hq0] at hxc
          have F0 := HF.out q0 hl0
          have F1 := HF.out q1 hl1
          have F2 := HF.out q2 hl2
          have F3 := HF.out q3 hl3
          generalize L.getD q0 0 = y0 at *
          generalize L.getD q1 0 = y1 at *
          generalize L.getD q2 0 = y2 at *
          generalize L.getD q3 0 = y3 at *
          have hBW0 : Below B7 wB W0 := by rw [hW0]; exact HB2.out.1.drew
          have hs0 : B7 + 1 ≤ W0.heap.size := by rw [hW0]; exact HB2.out.2
          obtain ⟨W1, hW1⟩ : ∃ W1, W1 = W0.alloc (.cells #[.int .i64 y0, .int .i64 y1, .int .i64 y2, .int .i64 y3] 70) := ⟨_, rfl⟩
          have hb1 : Below W0.heap.size W0 W1 := by rw [hW1]; exact (Below.refl _ _).alloc (Nat.le_refl _) _
          have hI0 : OwnI W0 (B7 + 1) V2 (insL L k) := by rw [hW0]; exact HI2.out
          have hI1 : OwnI W1 (B7 + 1) V2 (insL L k) := OwnL.keep hI0 hb1
          have hlk : (insL L k).length ≤ 6 := by rw [insL_len]; omega
          obtain ⟨V3, W2, hr2, hI3, hg2, _⟩ := run_appL lay_ins W1 29 (B7 + 1) V2 (insL L k) hI1 ⟨W0.heap.size, 0, none⟩ 1 x (by rw [hW1, hxc]; exact lit_one _ _ _ _ rfl _ rfl) (by omega) (by omega) (Nat.le_trans hs0 hb1.size)
          have hb2 : Below (B7 + 1) W1 W2 := OwnL.below hI1 hg2 (Nat.le_trans hs0 hb1.size)
          obtain ⟨W3, hW3⟩ : ∃ W3, W3 = W2.setCell ⟨B7, 0, none⟩ V3 := ⟨_, rfl⟩
          have hC0 : CfAt W0 B7 Cfg.zero V2 := by rw [hW0]; exact HC2.out
          have hC1 : CfAt W1 B7 Cfg.zero V2 := CfAt.keep hC0 hb1
          have hC2 : CfAt W2 B7 Cfg.zero V2 := (hb2.block B7 (by omega)).trans hC1
          have hBW1 : Below B7 wB W1 := hBW0.trans (hb1.mono (by omega))
          have hBW2 : Below B7 wB W2 := hBW1.trans (hb2.mono (by omega))
          have HRN := Lib.hid hr2
          have cell : ∀ W, Below B7 wB W → CfAt W B7 Cfg.zero V2 → W.cell? ⟨B7, 0, none⟩ = some V2 ∧ W.cell? ⟨g, q0, none⟩ = some (.int .i64 y0) ∧ W.cell? ⟨g, q1, none⟩ = some (.int .i64 y1) ∧ W.cell? ⟨g, q2, none⟩ = some (.int .i64 y2) ∧ W.cell? ⟨g, q3, none⟩ = some (.int .i64 y3) := fun W hW hC =>
            ⟨hC.reads.1, (hW.cell (p := ⟨g, q0, none⟩) hgB).trans F0, (hW.cell (p := ⟨g, q1, none⟩) hgB).trans F1, (hW.cell (p := ⟨g, q2, none⟩) hgB).trans F2, (hW.cell (p := ⟨g, q3, none⟩) hgB).trans F3⟩
          have FX : Hid (∀ W, (W = W0 ∨ W = W1 ∨ W = W2) → W.cell? ⟨B7, 0, none⟩ = some V2 ∧ W.cell? ⟨g, q0, none⟩ = some (.int .i64 y0) ∧ W.cell? ⟨g, q1, none⟩ = some (.int .i64 y1) ∧ W.cell? ⟨g, q2, none⟩ = some (.int .i64 y2) ∧ W.cell? ⟨g, q3, none⟩ = some (.int .i64 y3)) := Lib.hid (fun W h => by
            rcases h with rfl | rfl | rfl
            · exact cell _ hBW0 hC0
            · exact cell _ hBW1 hC1
            · exact cell _ hBW2 hC2)
          have FZ : Hid (W2.frozen? ⟨B7, 0, none⟩ = false ∧ ∃ u, W2.cell? ⟨B7, 0, none⟩ = some u) := Lib.hid ⟨Rec.frozen hC2 0, _, hC2.reads.1⟩
          have HW0 := Lib.hid hW0
          have HW1 := Lib.hid hW1
          have HW3 := Lib.hid hW3
          have HXX := Lib.hid hx
          have HNL := Lib.hid hNL
          have HG := Lib.hid (show OwnI W2 (B7 + 1) V3 (insL L k ++ [x]) ∧ CfAt W2 B7 Cfg.zero V2 from ⟨hI3, hC2⟩)
          have HN3 : Hid (OwnI W3 (B7 + 1) V3 (insL L (k + 1)) ∧ CfAt W3 B7 Cfg.zero V3 ∧ Below B7 wB W3 ∧ B7 + 1 ≤ W3.heap.size) := Lib.hid (by
            rw [hW3, insL_succ, ← hx]
            refine ⟨OwnL.touch hI3 (Touch.setCell _ _ _) (fun k' hk' e => ?_), Rec.set hC2 0 V3, touch_below hBW2 (Nat.le_refl _) (Touch.setCell _ ⟨B7, 0, none⟩ _) (by simp [World.setCell]), ?_⟩
            · have := (OwnL.lt hI3 k' hk').1
              have e' : k' = B7 := e
              omega
            · have := Nat.le_trans hs0 (Nat.le_trans hb1.size hb2.size)
              simpa [World.setCell] using this)
          clear hNL cell F0 F1 F2 F3 hr2 hxc hW0 hW1 hW3 hx hq0 hq1 hq2 hq3 hI0 hI1 hI3 hg2 hb1 hb2 hC0 hC1 hC2 hBW0 hBW1 hBW2 hs0 hlk
          go_wp2
          refine wp_region_dagF [54, 55, 56, 57, 58, 59, 60, 61, 62, 63, 64, 65, 66, 67, 68, 69, 70, 71, 72, 73, 74, 75, 76, 77, 78, 79, 80, 81, 82] (fun _ _ => True) (fun L0 W => FlA 26 27 29 W0 W1 W2 W3 L0 W) (spV [.pointer (some ⟨B7, 0, none⟩), V2, .slice (some ⟨g, 0, none⟩) NL cL, .int .i64 (k : Int), .int .i64 (q0 : Int), .pointer (some ⟨g, q0, none⟩), .int .i64 y0, .slice (some ⟨g, 0, none⟩) NL cL, .int .i64 (k : Int), .int .i64 (q0 : Int), .int .i64 (q1 : Int), .pointer (some ⟨g, q1, none⟩), .int .i64 y1, .slice (some ⟨g, 0, none⟩) NL cL, .int .i64 (k : Int), .int .i64 (q0 : Int), .int .i64 (q2 : Int), .pointer (some ⟨g, q2, none⟩), .int .i64 y2, .slice (some ⟨g, 0, none⟩) NL cL, .int .i64 (k : Int), .int .i64 (q0 : Int), .int .i64 (q3 : Int), .pointer (some ⟨g, q3, none⟩), .int .i64 y3, .agg #[.int .i64 y0, .int .i64 y1, .int .i64 y2, .int .i64 y3], .slice (some ⟨W0.heap.size, 0, none⟩) 1 1, V3, .pointer (some ⟨B7, 0, none⟩), undef]) rfl rfl rfl rfl (fun _ _ _ _ _ h => h) ?_ ⟨?_, ?_, ?_, ?_, ?_, ?_, ?_, ?_, ?_, ?_, ?_, ?_, ?_, ?_, ?_, ?_, ?_, ?_, ?_, ?_, ?_, ?_, ?_, ?_, ?_, ?_, ?_, ?_, ?_, ?_, trivial⟩ ?_
          · exact HW0.out ▸ FlA.start
          · intro a W K L0 ho hW hL hup hpre hK
            rw [if_pos (wanted_none rfl)]
            have e0 : a.tmps.getD 10 undef = .pointer (some ⟨B7, 0, none⟩) := ho.slot 10 (by decide)
            go_simp
            exact hK _ _ trivial (hW.keep (i := 0) (by decide) hL (by decide) (by decide)) rfl
          · intro a W K L0 ho hW hL hup hpre hK
            rw [if_pos (wanted_none rfl)]
            have e0 : a.tmps.getD 54 undef = .pointer (some ⟨B7, 0, none⟩) := hpre ⟨0, .data⟩ (by simp) rfl _ rfl
            have hc := (FX.out W (hW.one (by decide) hL)).1
            go_simp
            exact hK _ _ trivial (hW.keep (i := 1) (by decide) hL (by decide) (by decide)) rfl
          · intro a W K L0 ho hW hL hup hpre hK
            rw [if_pos (wanted_none rfl)]
            have e0 : a.tmps.getD 6 undef = .slice (some ⟨g, 0, none⟩) NL cL := ho.slot 6 (by decide)
            go_simp
            exact hK _ _ trivial (hW.keep (i := 2) (by decide) hL (by decide) (by decide)) rfl
          · intro a W K L0 ho hW hL hup hpre hK
            rw [if_pos (wanted_none rfl)]
            have e0 : a.tmps.getD 11 undef = .int .i64 (k : Int) := ho.slot 11 (by decide)
            go_simp
            exact hK _ _ trivial (hW.keep (i := 3) (by decide) hL (by decide) (by decide)) rfl
          · intro a W K L0 ho hW hL hup hpre hK
            rw [if_pos (wanted_none rfl)]
            have e0 : a.tmps.getD 57 undef = .int .i64 (k : Int) := hpre ⟨3, .data⟩ (by simp) rfl _ rfl
            go_simp
            exact hK _ _ trivial (hW.keep (i := 4) (by decide) hL (by decide) (by decide)) rfl
          · intro a W K L0 ho hW hL hup hpre hK
            rw [if_pos (wanted_none rfl)]
            have e0 : a.tmps.getD 56 undef = .slice (some ⟨g, 0, none⟩) NL cL := hpre ⟨2, .data⟩ (by simp) rfl _ rfl
            have e1 : a.tmps.getD 58 undef = .int .i64 (q0 : Int) := hpre ⟨4, .data⟩ (by simp) rfl _ rfl
            go_simp
            exact hK _ _ trivial (hW.keep (i := 5) (by decide) hL (by decide) (by decide)) rfl
          · intro a W K L0 ho hW hL hup hpre hK
            rw [if_pos (wanted_none rfl)]
            have e0 : a.tmps.getD 59 undef = .pointer (some ⟨g, q0, none⟩) := hpre ⟨5, .data⟩ (by simp) rfl _ rfl
            have hc := (FX.out W (hW.one (by decide) hL)).2.1
            go_simp
            exact hK _ _ trivial (hW.keep (i := 6) (by decide) hL (by decide) (by decide)) rfl
          · intro a W K L0 ho hW hL hup hpre hK
            rw [if_pos (wanted_none rfl)]
            have e0 : a.tmps.getD 6 undef = .slice (some ⟨g, 0, none⟩) NL cL := ho.slot 6 (by decide)
            go_simp
            exact hK _ _ trivial (hW.keep (i := 7) (by decide) hL (by decide) (by decide)) rfl
          · intro a W K L0 ho hW hL hup hpre hK
            rw [if_pos (wanted_none rfl)]
            have e0 : a.tmps.getD 11 undef = .int .i64 (k : Int) := ho.slot 11 (by decide)
            go_simp
            exact hK _ _ trivial (hW.keep (i := 8) (by decide) hL (by decide) (by decide)) rfl
          · intro a W K L0 ho hW hL hup hpre hK
            rw [if_pos (wanted_none rfl)]
            have e0 : a.tmps.getD 62 undef = .int .i64 (k : Int) := hpre ⟨8, .data⟩ (by simp) rfl _ rfl
            go_simp
            exact hK _ _ trivial (hW.keep (i := 9) (by decide) hL (by decide) (by decide)) rfl
          · intro a W K L0 ho hW hL hup hpre hK
            rw [if_pos (wanted_none rfl)]
            have e0 : a.tmps.getD 63 undef = .int .i64 (q0 : Int) := hpre ⟨9, .data⟩ (by simp) rfl _ rfl
            go_simp
            exact hK _ _ trivial (hW.keep (i := 10) (by decide) hL (by decide) (by decide)) rfl
          · intro a W K L0 ho hW hL hup hpre hK
            rw [if_pos (wanted_none rfl)]
            have e0 : a.tmps.getD 61 undef = .slice (some ⟨g, 0, none⟩) NL cL := hpre ⟨7, .data⟩ (by simp) rfl _ rfl
            have e1 : a.tmps.getD 64 undef = .int .i64 (q1 : Int) := hpre ⟨10, .data⟩ (by simp) rfl _ rfl
            go_simp
            exact hK _ _ trivial (hW.keep (i := 11) (by decide) hL (by decide) (by decide)) rfl
          · intro a W K L0 ho hW hL hup hpre hK
            rw [if_pos (wanted_none rfl)]
            have e0 : a.tmps.getD 65 undef = .pointer (some ⟨g, q1, none⟩) := hpre ⟨11, .data⟩ (by simp) rfl _ rfl
            have hc := (FX.out W (hW.one (by decide) hL)).2.2.1
            go_simp
            exact hK _ _ trivial (hW.keep (i := 12) (by decide) hL (by decide) (by decide)) rfl
          · intro a W K L0 ho hW hL hup hpre hK
            rw [if_pos (wanted_none rfl)]
            have e0 : a.tmps.getD 6 undef = .slice (some ⟨g, 0, none⟩) NL cL := ho.slot 6 (by decide)
            go_simp
            exact hK _ _ trivial (hW.keep (i := 13) (by decide) hL (by decide) (by decide)) rfl
          · intro a W K L0 ho hW hL hup hpre hK
            rw [if_pos (wanted_none rfl)]
            have e0 : a.tmps.getD 11 undef = .int .i64 (k : Int) := ho.slot 11 (by decide)
            go_simp
            exact hK _ _ trivial (hW.keep (i := 14) (by decide) hL (by decide) (by decide)) rfl
          · intro a W K L0 ho hW hL hup hpre hK
            rw [if_pos (wanted_none rfl)]
            have e0 : a.tmps.getD 68 undef = .int .i64 (k : Int) := hpre ⟨14, .data⟩ (by simp) rfl _ rfl
            go_simp
            exact hK _ _ trivial (hW.keep (i := 15) (by decide) hL (by decide) (by decide)) rfl
          · intro a W K L0 ho hW hL hup hpre hK
            rw [if_pos (wanted_none rfl)]
            have e0 : a.tmps.getD 69 undef = .int .i64 (q0 : Int) := hpre ⟨15, .data⟩ (by simp) rfl _ rfl
            go_simp
            exact hK _ _ trivial (hW.keep (i := 16) (by decide) hL (by decide) (by decide)) rfl
          · intro a W K L0 ho hW hL hup hpre hK
            rw [if_pos (wanted_none rfl)]
            have e0 : a.tmps.getD 67 undef = .slice (some ⟨g, 0, none⟩) NL cL := hpre ⟨13, .data⟩ (by simp) rfl _ rfl
            have e1 : a.tmps.getD 70 undef = .int .i64 (q2 : Int) := hpre ⟨16, .data⟩ (by simp) rfl _ rfl
            go_simp
            exact hK _ _ trivial (hW.keep (i := 17) (by decide) hL (by decide) (by decide)) rfl
          · intro a W K L0 ho hW hL hup hpre hK
            rw [if_pos (wanted_none rfl)]
            have e0 : a.tmps.getD 71 undef = .pointer (some ⟨g, q2, none⟩) := hpre ⟨17, .data⟩ (by simp) rfl _ rfl
            have hc := (FX.out W (hW.one (by decide) hL)).2.2.2.1
            go_simp
            exact hK _ _ trivial (hW.keep (i := 18) (by decide) hL (by decide) (by decide)) rfl
          · intro a W K L0 ho hW hL hup hpre hK
            rw [if_pos (wanted_none rfl)]
            have e0 : a.tmps.getD 6 undef = .slice (some ⟨g, 0, none⟩) NL cL := ho.slot 6 (by decide)
            go_simp
            exact hK _ _ trivial (hW.keep (i := 19) (by decide) hL (by decide) (by decide)) rfl
          · intro a W K L0 ho hW hL hup hpre hK
            rw [if_pos (wanted_none rfl)]
            have e0 : a.tmps.getD 11 undef = .int .i64 (k : Int) := ho.slot 11 (by decide)
            go_simp
            exact hK _ _ trivial (hW.keep (i := 20) (by decide) hL (by decide) (by decide)) rfl
          · intro a W K L0 ho hW hL hup hpre hK
            rw [if_pos (wanted_none rfl)]
            have e0 : a.tmps.getD 74 undef = .int .i64 (k : Int) := hpre ⟨20, .data⟩ (by simp) rfl _ rfl
            go_simp
            exact hK _ _ trivial (hW.keep (i := 21) (by decide) hL (by decide) (by decide)) rfl
          · intro a W K L0 ho hW hL hup hpre hK
            rw [if_pos (wanted_none rfl)]
            have e0 : a.tmps.getD 75 undef = .int .i64 (q0 : Int) := hpre ⟨21, .data⟩ (by simp) rfl _ rfl
            go_simp
            exact hK _ _ trivial (hW.keep (i := 22) (by decide) hL (by decide) (by decide)) rfl
          · intro a W K L0 ho hW hL hup hpre hK
            rw [if_pos (wanted_none rfl)]
            have e0 : a.tmps.getD 73 undef = .slice (some ⟨g, 0, none⟩) NL cL := hpre ⟨19, .data⟩ (by simp) rfl _ rfl
            have e1 : a.tmps.getD 76 undef = .int .i64 (q3 : Int) := hpre ⟨22, .data⟩ (by simp) rfl _ rfl
            go_simp
            exact hK _ _ trivial (hW.keep (i := 23) (by decide) hL (by decide) (by decide)) rfl
          · intro a W K L0 ho hW hL hup hpre hK
            rw [if_pos (wanted_none rfl)]
            have e0 : a.tmps.getD 77 undef = .pointer (some ⟨g, q3, none⟩) := hpre ⟨23, .data⟩ (by simp) rfl _ rfl
            have hc := (FX.out W (hW.one (by decide) hL)).2.2.2.2
            go_simp
            exact hK _ _ trivial (hW.keep (i := 24) (by decide) hL (by decide) (by decide)) rfl
          · intro a W K L0 ho hW hL hup hpre hK
            rw [if_pos (wanted_none rfl)]
            have e0 : a.tmps.getD 60 undef = .int .i64 y0 := hpre ⟨6, .data⟩ (by simp) rfl _ rfl
            have e1 : a.tmps.getD 66 undef = .int .i64 y1 := hpre ⟨12, .data⟩ (by simp) rfl _ rfl
            have e2 : a.tmps.getD 72 undef = .int .i64 y2 := hpre ⟨18, .data⟩ (by simp) rfl _ rfl
            have e3 : a.tmps.getD 78 undef = .int .i64 y3 := hpre ⟨24, .data⟩ (by simp) rfl _ rfl
            rw [Array.getD_eq_getD_getElem?] at e0 e1 e2 e3
            go_simp
            exact hK _ _ trivial (hW.keep (i := 25) (by decide) hL (by decide) (by decide)) rfl
          · intro a W K L0 ho hW hL hup hpre hK
            rw [if_pos (wanted_none rfl)]
            have e0 : a.tmps.getD 79 undef = .agg #[.int .i64 y0, .int .i64 y1, .int .i64 y2, .int .i64 y3] := hpre ⟨25, .data⟩ (by simp) rfl _ rfl
            obtain ⟨hw, hn⟩ := hW.lit (by decide) (by decide) hL
            subst hw
            rw [Array.getD_eq_getD_getElem?] at e0
            go_simp
            rw [← HW1.out]
            exact hK _ _ trivial hn rfl
          · intro a W K L0 ho hW hL hup hpre hK
            rw [if_pos (wanted_none rfl)]
            have e0 : a.tmps.getD 55 undef = V2 := hpre ⟨1, .data⟩ (by simp) rfl _ rfl
            have e1 : a.tmps.getD 80 undef = .slice (some ⟨W0.heap.size, 0, none⟩) 1 1 := hpre ⟨26, .data⟩ (by simp) rfl _ rfl
            obtain ⟨hw, hn⟩ := hW.app (by decide) (by decide) hL (hup ⟨26, .data⟩ (by simp) rfl)
            subst hw
            have hr := HRN.out
            have es : a.eval (.tmp 55) = V2 := by rw [← e0]; simp [Act.eval, Array.getD_eq_getD_getElem?]
            have ex : a.eval (.tmp 80) = .slice (some ⟨W0.heap.size, 0, none⟩) 1 1 := by rw [← e1]; simp [Act.eval, Array.getD_eq_getD_getElem?]
            unfold Oper.wp execOp
            simp only [resolve, invoke, builtin, Sem.run_bind, Sem.run_pure, Result.andThen_ok, List.map_toArray, List.map_cons, List.map_nil, es, ex, hr]
            exact hK _ _ trivial hn rfl
          · intro a W K L0 ho hW hL hup hpre hK
            rw [if_pos (wanted_none rfl)]
            have e0 : a.tmps.getD 10 undef = .pointer (some ⟨B7, 0, none⟩) := ho.slot 10 (by decide)
            go_simp
            exact hK _ _ trivial (hW.keep (i := 28) (by decide) hL (by decide) (by decide)) rfl
          · intro a W K L0 ho hW hL hup hpre hK
            rw [if_pos (wanted_none rfl)]
            have e0 : a.tmps.getD 82 undef = .pointer (some ⟨B7, 0, none⟩) := hpre ⟨28, .data⟩ (by simp) rfl _ rfl
            have e1 : a.tmps.getD 81 undef = V3 := hpre ⟨27, .data⟩ (by simp) rfl _ rfl
            obtain ⟨hw, hn⟩ := hW.store (by decide) hL (waits_up (by rfl) hup) (by decide)
            subst hw
            obtain ⟨fz, u, hcu⟩ := FZ.out
            obtain ⟨AV, cV, hV3, _⟩ := OwnL.form HG.out.1 lay_ins
            have hw3 := HW3.out
            rw [hV3] at e1 hw3
            clear hV3
            generalize (insL L k ++ [x]).length = nV at e1 hw3
            go_simp
            rw [← hw3]
            exact hK undef _ trivial hn rfl
          · intro a W L0 ho hW hall hpv
            have hwe := hW.last (hall 29 (by decide))
            have heq := ho.eq
            clear ho hW hall hpv
            simp only [putL] at heq
            generalize a.tmps.getD 54 undef = u54 at heq
            generalize a.tmps.getD 55 undef = u55 at heq
            generalize a.tmps.getD 56 undef = u56 at heq
            generalize a.tmps.getD 57 undef = u57 at heq
            generalize a.tmps.getD 58 undef = u58 at heq
            generalize a.tmps.getD 59 undef = u59 at heq
            generalize a.tmps.getD 60 undef = u60 at heq
            generalize a.tmps.getD 61 undef = u61 at heq
            generalize a.tmps.getD 62 undef = u62 at heq
            generalize a.tmps.getD 63 undef = u63 at heq
            generalize a.tmps.getD 64 undef = u64 at heq
            generalize a.tmps.getD 65 undef = u65 at heq
            generalize a.tmps.getD 66 undef = u66 at heq
            generalize a.tmps.getD 67 undef = u67 at heq
            generalize a.tmps.getD 68 undef = u68 at heq
            generalize a.tmps.getD 69 undef = u69 at heq
            generalize a.tmps.getD 70 undef = u70 at heq
            generalize a.tmps.getD 71 undef = u71 at heq
            generalize a.tmps.getD 72 undef = u72 at heq
            generalize a.tmps.getD 73 undef = u73 at heq
            generalize a.tmps.getD 74 undef = u74 at heq
            generalize a.tmps.getD 75 undef = u75 at heq
            generalize a.tmps.getD 76 undef = u76 at heq
            generalize a.tmps.getD 77 undef = u77 at heq
            generalize a.tmps.getD 78 undef = u78 at heq
            generalize a.tmps.getD 79 undef = u79 at heq
            generalize a.tmps.getD 80 undef = u80 at heq
            generalize a.tmps.getD 81 undef = u81 at heq
            generalize a.tmps.getD 82 undef = u82 at heq
            subst heq
            subst hwe
            rename_i hKK
            refine hKK _ _ ?_
            go_simp
            go_wp2
            go_roundw
            case rel => exact ⟨k + 1, V3, by omega, by go_num, Lib.hid HN3.out.1, Lib.hid HN3.out.2.1, Lib.hid HN3.out.2.2⟩
            case measure => simp [intOf]; omega
        · obtain rfl : k = m := by omega
          have hcQ : ¬ cL = 4 * k := by have := HCL.out; omega
          have h66 : 4 * k + 6 - 4 * k = 6 := by omega
          obtain ⟨W0, hW0⟩ : ∃ W0 : World, W0 = { wr with drawn := wr.drawn + 1 } := ⟨_, rfl⟩
          have hYY : cfgL L k = ⟨insL L k, L.getD (4 * k) 0, L.getD (4 * k + 1) 0, L.getD (4 * k + 2) 0, L.getD (4 * k + 3) 0, L.getD (4 * k + 4) 0, L.getD (4 * k + 5) 0⟩ := rfl
          have FF : ∀ j, j < 6 → wr.cell? ⟨g, 4 * k + j, none⟩ = some (.int .i64 (L.getD (4 * k + j) 0)) := fun j hj => (HB2.out.1.cell (p := ⟨g, 4 * k + j, none⟩) hgB).trans (HF.out (4 * k + j) (by rw [hNL]; omega))
          have f0 := FF 0 (by decide)
          have f1 := FF 1 (by decide)
          have f2 := FF 2 (by decide)
          have f3 := FF 3 (by decide)
          have f4 := FF 4 (by decide)
          have f5 := FF 5 (by decide)
          rw [Nat.add_zero] at f0
          generalize L.getD (4 * k) 0 = y0 at f0 hYY
          generalize L.getD (4 * k + 1) 0 = y1 at f1 hYY
          generalize L.getD (4 * k + 2) 0 = y2 at f2 hYY
          generalize L.getD (4 * k + 3) 0 = y3 at f3 hYY
          generalize L.getD (4 * k + 4) 0 = y4 at f4 hYY
          generalize L.getD (4 * k + 5) 0 = y5 at f5 hYY
          have hgW : g < W0.heap.size := by rw [hW0]; have := HB2.out.2; show g < wr.heap.size; omega
          have FX18 : Hid (∀ W, Touch (fun k => k = B7) W0 W → W.cell? ⟨g, 4 * k, none⟩ = some (.int .i64 y0) ∧ W.cell? ⟨g, 4 * k + 1, none⟩ = some (.int .i64 y1) ∧ W.cell? ⟨g, 4 * k + 2, none⟩ = some (.int .i64 y2) ∧ W.cell? ⟨g, 4 * k + 3, none⟩ = some (.int .i64 y3) ∧ W.cell? ⟨g, 4 * k + 4, none⟩ = some (.int .i64 y4) ∧ W.cell? ⟨g, 4 * k + 5, none⟩ = some (.int .i64 y5)) := Lib.hid (fun W hW => by
            have key : ∀ o, W.cell? ⟨g, o, none⟩ = wr.cell? ⟨g, o, none⟩ := fun o => by
              have hb : W.heap[g]? = wr.heap[g]? := by
                have h1 := hW.block g hgW (fun e => by have e' : g = B7 := e; omega)
                rw [h1, hW0]
              simp only [World.cell?, hb]
            exact ⟨(key _).trans f0, (key _).trans f1, (key _).trans f2, (key _).trans f3, (key _).trans f4, (key _).trans f5⟩)
          have HS18 : Hid (FlS [19, 21, 23, 25, 27, 29] B7 31 V2 [.int .i64 0, .int .i64 0, .int .i64 0, .int .i64 0, .int .i64 0, .int .i64 0] [.int .i64 y0, .int .i64 y1, .int .i64 y2, .int .i64 y3, .int .i64 y4, .int .i64 y5] W0 (fun _ => false) { wr with drawn := wr.drawn + 1 }) := Lib.hid (by rw [← hW0]; exact ⟨show Rec W0 B7 _ (Cfg.zero.cells V2) by rw [hW0]; exact HC2.out, Touch.refl _ _, rfl⟩)
          have HCF := Lib.hid hYY
          have HBW : Hid (Below B7 wB W0 ∧ B7 + 1 ≤ W0.heap.size ∧ OwnI W0 (B7 + 1) V2 (insL L k)) := Lib.hid (by rw [hW0]; exact ⟨HB2.out.1.drew, HB2.out.2, HI2.out⟩)
          clear FF f0 f1 f2 f3 f4 f5 hYY hgW hW0
          go_wp2
          rw [h66]
          refine wp_region_dagF [87, 88, 89, 90, 91, 92, 93, 94, 95, 96, 97, 98, 99, 100, 101, 102, 103, 104, 105, 106, 107, 108, 109, 110] (fun _ _ => True) (fun L0 W => FlS [19, 21, 23, 25, 27, 29] B7 31 V2 [.int .i64 0, .int .i64 0, .int .i64 0, .int .i64 0, .int .i64 0, .int .i64 0] [.int .i64 y0, .int .i64 y1, .int .i64 y2, .int .i64 y3, .int .i64 y4, .int .i64 y5] W0 L0 W) (spV [.slice (some ⟨g, 4 * k, none⟩) 6 (cL - 4 * k), .pointer (some ⟨g, 4 * k, none⟩), .int .i64 y0, .slice (some ⟨g, 4 * k, none⟩) 6 (cL - 4 * k), .pointer (some ⟨g, 4 * k + 1, none⟩), .int .i64 y1, .slice (some ⟨g, 4 * k, none⟩) 6 (cL - 4 * k), .pointer (some ⟨g, 4 * k + 2, none⟩), .int .i64 y2, .slice (some ⟨g, 4 * k, none⟩) 6 (cL - 4 * k), .pointer (some ⟨g, 4 * k + 3, none⟩), .int .i64 y3, .slice (some ⟨g, 4 * k, none⟩) 6 (cL - 4 * k), .pointer (some ⟨g, 4 * k + 4, none⟩), .int .i64 y4, .slice (some ⟨g, 4 * k, none⟩) 6 (cL - 4 * k), .pointer (some ⟨g, 4 * k + 5, none⟩), .int .i64 y5, .pointer (some ⟨B7, 1, none⟩), undef, .pointer (some ⟨B7, 2, none⟩), undef, .pointer (some ⟨B7, 3, none⟩), undef, .pointer (some ⟨B7, 4, none⟩), undef, .pointer (some ⟨B7, 5, none⟩), undef, .pointer (some ⟨B7, 6, none⟩), undef]) rfl rfl rfl rfl (fun _ _ _ _ _ h => h) ?_ ⟨?_, ?_, ?_, ?_, ?_, ?_, ?_, ?_, ?_, ?_, ?_, ?_, ?_, ?_, ?_, ?_, ?_, ?_, ?_, ?_, ?_, ?_, ?_, ?_, ?_, ?_, ?_, ?_, ?_, ?_, trivial⟩ ?_
          · exact HS18.out
          · intro a W K L0 ho hW hL hup hpre hK
            rw [if_pos (wanted_none rfl)]
            have e0 : a.tmps.getD 6 undef = .slice (some ⟨g, 4 * k, none⟩) 6 (cL - 4 * k) := ho.slot 6 (by decide)
            go_simp
            exact hK _ _ trivial (hW.keep (i := 0) rfl (by decide)) rfl
          · intro a W K L0 ho hW hL hup hpre hK
            rw [if_pos (wanted_none rfl)]
            have e0 : a.tmps.getD 87 undef = .slice (some ⟨g, 4 * k, none⟩) 6 (cL - 4 * k) := hpre ⟨0, .data⟩ (by simp) rfl _ rfl
            go_simp
            exact hK _ _ trivial (hW.keep (i := 1) rfl (by decide)) rfl
          · intro a W K L0 ho hW hL hup hpre hK
            rw [if_pos (wanted_none rfl)]
            have e0 : a.tmps.getD 88 undef = .pointer (some ⟨g, 4 * k, none⟩) := hpre ⟨1, .data⟩ (by simp) rfl _ rfl
            have hc := (FX18.out W hW.touch).1
            go_simp
            exact hK _ _ trivial (hW.keep (i := 2) rfl (by decide)) rfl
          · intro a W K L0 ho hW hL hup hpre hK
            rw [if_pos (wanted_none rfl)]
            have e0 : a.tmps.getD 6 undef = .slice (some ⟨g, 4 * k, none⟩) 6 (cL - 4 * k) := ho.slot 6 (by decide)
            go_simp
            exact hK _ _ trivial (hW.keep (i := 3) rfl (by decide)) rfl
          · intro a W K L0 ho hW hL hup hpre hK
            rw [if_pos (wanted_none rfl)]
            have e0 : a.tmps.getD 90 undef = .slice (some ⟨g, 4 * k, none⟩) 6 (cL - 4 * k) := hpre ⟨3, .data⟩ (by simp) rfl _ rfl
            go_simp
            exact hK _ _ trivial (hW.keep (i := 4) rfl (by decide)) rfl
          · intro a W K L0 ho hW hL hup hpre hK
            rw [if_pos (wanted_none rfl)]
            have e0 : a.tmps.getD 91 undef = .pointer (some ⟨g, 4 * k + 1, none⟩) := hpre ⟨4, .data⟩ (by simp) rfl _ rfl
            have hc := (FX18.out W hW.touch).2.1
            go_simp
            exact hK _ _ trivial (hW.keep (i := 5) rfl (by decide)) rfl
          · intro a W K L0 ho hW hL hup hpre hK
            rw [if_pos (wanted_none rfl)]
            have e0 : a.tmps.getD 6 undef = .slice (some ⟨g, 4 * k, none⟩) 6 (cL - 4 * k) := ho.slot 6 (by decide)
            go_simp
            exact hK _ _ trivial (hW.keep (i := 6) rfl (by decide)) rfl
          · intro a W K L0 ho hW hL hup hpre hK
            rw [if_pos (wanted_none rfl)]
            have e0 : a.tmps.getD 93 undef = .slice (some ⟨g, 4 * k, none⟩) 6 (cL - 4 * k) := hpre ⟨6, .data⟩ (by simp) rfl _ rfl
            go_simp
            exact hK _ _ trivial (hW.keep (i := 7) rfl (by decide)) rfl
          · intro a W K L0 ho hW hL hup hpre hK
            rw [if_pos (wanted_none rfl)]
            have e0 : a.tmps.getD 94 undef = .pointer (some ⟨g, 4 * k + 2, none⟩) := hpre ⟨7, .data⟩ (by simp) rfl _ rfl
            have hc := (FX18.out W hW.touch).2.2.1
            go_simp
            exact hK _ _ trivial (hW.keep (i := 8) rfl (by decide)) rfl
          · intro a W K L0 ho hW hL hup hpre hK
            rw [if_pos (wanted_none rfl)]
            have e0 : a.tmps.getD 6 undef = .slice (some ⟨g, 4 * k, none⟩) 6 (cL - 4 * k) := ho.slot 6 (by decide)
            go_simp
            exact hK _ _ trivial (hW.keep (i := 9) rfl (by decide)) rfl
          · intro a W K L0 ho hW hL hup hpre hK
            rw [if_pos (wanted_none rfl)]
            have e0 : a.tmps.getD 96 undef = .slice (some ⟨g, 4 * k, none⟩) 6 (cL - 4 * k) := hpre ⟨9, .data⟩ (by simp) rfl _ rfl
            go_simp
            exact hK _ _ trivial (hW.keep (i := 10) rfl (by decide)) rfl
          · intro a W K L0 ho hW hL hup hpre hK
            rw [if_pos (wanted_none rfl)]
            have e0 : a.tmps.getD 97 undef = .pointer (some ⟨g, 4 * k + 3, none⟩) := hpre ⟨10, .data⟩ (by simp) rfl _ rfl
            have hc := (FX18.out W hW.touch).2.2.2.1
            go_simp
            exact hK _ _ trivial (hW.keep (i := 11) rfl (by decide)) rfl
          · intro a W K L0 ho hW hL hup hpre hK
            rw [if_pos (wanted_none rfl)]
            have e0 : a.tmps.getD 6 undef = .slice (some ⟨g, 4 * k, none⟩) 6 (cL - 4 * k) := ho.slot 6 (by decide)
            go_simp
            exact hK _ _ trivial (hW.keep (i := 12) rfl (by decide)) rfl
          · intro a W K L0 ho hW hL hup hpre hK
            rw [if_pos (wanted_none rfl)]
            have e0 : a.tmps.getD 99 undef = .slice (some ⟨g, 4 * k, none⟩) 6 (cL - 4 * k) := hpre ⟨12, .data⟩ (by simp) rfl _ rfl
            go_simp
            exact hK _ _ trivial (hW.keep (i := 13) rfl (by decide)) rfl
          · intro a W K L0 ho hW hL hup hpre hK
            rw [if_pos (wanted_none rfl)]
            have e0 : a.tmps.getD 100 undef = .pointer (some ⟨g, 4 * k + 4, none⟩) := hpre ⟨13, .data⟩ (by simp) rfl _ rfl
            have hc := (FX18.out W hW.touch).2.2.2.2.1
            go_simp
            exact hK _ _ trivial (hW.keep (i := 14) rfl (by decide)) rfl
          · intro a W K L0 ho hW hL hup hpre hK
            rw [if_pos (wanted_none rfl)]
            have e0 : a.tmps.getD 6 undef = .slice (some ⟨g, 4 * k, none⟩) 6 (cL - 4 * k) := ho.slot 6 (by decide)
            go_simp
            exact hK _ _ trivial (hW.keep (i := 15) rfl (by decide)) rfl
          · intro a W K L0 ho hW hL hup hpre hK
            rw [if_pos (wanted_none rfl)]
            have e0 : a.tmps.getD 102 undef = .slice (some ⟨g, 4 * k, none⟩) 6 (cL - 4 * k) := hpre ⟨15, .data⟩ (by simp) rfl _ rfl
            go_simp
            exact hK _ _ trivial (hW.keep (i := 16) rfl (by decide)) rfl
          · intro a W K L0 ho hW hL hup hpre hK
            rw [if_pos (wanted_none rfl)]
            have e0 : a.tmps.getD 103 undef = .pointer (some ⟨g, 4 * k + 5, none⟩) := hpre ⟨16, .data⟩ (by simp) rfl _ rfl
            have hc := (FX18.out W hW.touch).2.2.2.2.2
            go_simp
            exact hK _ _ trivial (hW.keep (i := 17) rfl (by decide)) rfl
          · intro a W K L0 ho hW hL hup hpre hK
            rw [if_pos (wanted_none rfl)]
            have e0 : a.tmps.getD 10 undef = .pointer (some ⟨B7, 0, none⟩) := ho.slot 10 (by decide)
            go_simp
            exact hK _ _ trivial (hW.keep (i := 18) rfl (by decide)) rfl
          · intro a W K L0 ho hW hL hup hpre hK
            rw [if_pos (wanted_none rfl)]
            have e0 : a.tmps.getD 105 undef = .pointer (some ⟨B7, 1, none⟩) := hpre ⟨18, .data⟩ (by simp) rfl _ rfl
            have e1 : a.tmps.getD 89 undef = .int .i64 y0 := hpre ⟨2, .data⟩ (by simp) rfl _ rfl
            have fz := Rec.frozen hW.rec' 1
            have hcu := Rec.cell hW.rec' 1 rfl
            go_simp
            exact hK undef _ trivial (hW.set rfl (by decide) (j := 0) (by decide)) rfl
          · intro a W K L0 ho hW hL hup hpre hK
            rw [if_pos (wanted_none rfl)]
            have e0 : a.tmps.getD 10 undef = .pointer (some ⟨B7, 0, none⟩) := ho.slot 10 (by decide)
            go_simp
            exact hK _ _ trivial (hW.keep (i := 20) rfl (by decide)) rfl
          · intro a W K L0 ho hW hL hup hpre hK
            rw [if_pos (wanted_none rfl)]
            have e0 : a.tmps.getD 106 undef = .pointer (some ⟨B7, 2, none⟩) := hpre ⟨20, .data⟩ (by simp) rfl _ rfl
            have e1 : a.tmps.getD 92 undef = .int .i64 y1 := hpre ⟨5, .data⟩ (by simp) rfl _ rfl
            have fz := Rec.frozen hW.rec' 2
            have hcu := Rec.cell hW.rec' 2 rfl
            go_simp
            exact hK undef _ trivial (hW.set rfl (by decide) (j := 1) (by decide)) rfl
          · intro a W K L0 ho hW hL hup hpre hK
            rw [if_pos (wanted_none rfl)]
            have e0 : a.tmps.getD 10 undef = .pointer (some ⟨B7, 0, none⟩) := ho.slot 10 (by decide)
            go_simp
            exact hK _ _ trivial (hW.keep (i := 22) rfl (by decide)) rfl
          · intro a W K L0 ho hW hL hup hpre hK
            rw [if_pos (wanted_none rfl)]
            have e0 : a.tmps.getD 107 undef = .pointer (some ⟨B7, 3, none⟩) := hpre ⟨22, .data⟩ (by simp) rfl _ rfl
            have e1 : a.tmps.getD 95 undef = .int .i64 y2 := hpre ⟨8, .data⟩ (by simp) rfl _ rfl
            have fz := Rec.frozen hW.rec' 3
            have hcu := Rec.cell hW.rec' 3 rfl
            go_simp
            exact hK undef _ trivial (hW.set rfl (by decide) (j := 2) (by decide)) rfl
          · intro a W K L0 ho hW hL hup hpre hK
            rw [if_pos (wanted_none rfl)]
            have e0 : a.tmps.getD 10 undef = .pointer (some ⟨B7, 0, none⟩) := ho.slot 10 (by decide)
            go_simp
            exact hK _ _ trivial (hW.keep (i := 24) rfl (by decide)) rfl
          · intro a W K L0 ho hW hL hup hpre hK
            rw [if_pos (wanted_none rfl)]
            have e0 : a.tmps.getD 108 undef = .pointer (some ⟨B7, 4, none⟩) := hpre ⟨24, .data⟩ (by simp) rfl _ rfl
            have e1 : a.tmps.getD 98 undef = .int .i64 y3 := hpre ⟨11, .data⟩ (by simp) rfl _ rfl
            have fz := Rec.frozen hW.rec' 4
            have hcu := Rec.cell hW.rec' 4 rfl
            go_simp
            exact hK undef _ trivial (hW.set rfl (by decide) (j := 3) (by decide)) rfl
          · intro a W K L0 ho hW hL hup hpre hK
            rw [if_pos (wanted_none rfl)]
            have e0 : a.tmps.getD 10 undef = .pointer (some ⟨B7, 0, none⟩) := ho.slot 10 (by decide)
            go_simp
            exact hK _ _ trivial (hW.keep (i := 26) rfl (by decide)) rfl
          · intro a W K L0 ho hW hL hup hpre hK
            rw [if_pos (wanted_none rfl)]
            have e0 : a.tmps.getD 109 undef = .pointer (some ⟨B7, 5, none⟩) := hpre ⟨26, .data⟩ (by simp) rfl _ rfl
            have e1 : a.tmps.getD 101 undef = .int .i64 y4 := hpre ⟨14, .data⟩ (by simp) rfl _ rfl
            have fz := Rec.frozen hW.rec' 5
            have hcu := Rec.cell hW.rec' 5 rfl
            go_simp
            exact hK undef _ trivial (hW.set rfl (by decide) (j := 4) (by decide)) rfl
          · intro a W K L0 ho hW hL hup hpre hK
            rw [if_pos (wanted_none rfl)]
            have e0 : a.tmps.getD 10 undef = .pointer (some ⟨B7, 0, none⟩) := ho.slot 10 (by decide)
            go_simp
            exact hK _ _ trivial (hW.keep (i := 28) rfl (by decide)) rfl
          · intro a W K L0 ho hW hL hup hpre hK
            rw [if_pos (wanted_none rfl)]
            have e0 : a.tmps.getD 110 undef = .pointer (some ⟨B7, 6, none⟩) := hpre ⟨28, .data⟩ (by simp) rfl _ rfl
            have e1 : a.tmps.getD 104 undef = .int .i64 y5 := hpre ⟨17, .data⟩ (by simp) rfl _ rfl
            have fz := Rec.frozen hW.rec' 6
            have hcu := Rec.cell hW.rec' 6 rfl
            go_simp
            exact hK undef _ trivial (hW.set rfl (by decide) (j := 5) (by decide)) rfl
          · intro a W L0 ho hW hall hpv
            have hr := FlS.all hW (fun j hj => by
              rcases (by omega : j = 0 ∨ j = 1 ∨ j = 2 ∨ j = 3 ∨ j = 4 ∨ j = 5) with rfl | rfl | rfl | rfl | rfl | rfl <;> exact hall _ (by decide))
            have HC3 : Hid (CfAt W B7 (cfgL L k) V2) := Lib.hid (by rw [HCF.out]; exact hr)
            have HT3 := Lib.hid hW.touch
            have HZ3 := Lib.hid hW.size
            have heq := ho.eq
            clear ho hW hall hpv hr
            simp only [putL] at heq
            generalize a.tmps.getD 87 undef = u87 at heq
            generalize a.tmps.getD 88 undef = u88 at heq
            generalize a.tmps.getD 89 undef = u89 at heq
            generalize a.tmps.getD 90 undef = u90 at heq
            generalize a.tmps.getD 91 undef = u91 at heq
            generalize a.tmps.getD 92 undef = u92 at heq
            generalize a.tmps.getD 93 undef = u93 at heq
            generalize a.tmps.getD 94 undef = u94 at heq
            generalize a.tmps.getD 95 undef = u95 at heq
            generalize a.tmps.getD 96 undef = u96 at heq
            generalize a.tmps.getD 97 undef = u97 at heq
            generalize a.tmps.getD 98 undef = u98 at heq
            generalize a.tmps.getD 99 undef = u99 at heq
            generalize a.tmps.getD 100 undef = u100 at heq
            generalize a.tmps.getD 101 undef = u101 at heq
            generalize a.tmps.getD 102 undef = u102 at heq
            generalize a.tmps.getD 103 undef = u103 at heq
            generalize a.tmps.getD 104 undef = u104 at heq
            generalize a.tmps.getD 105 undef = u105 at heq
            generalize a.tmps.getD 106 undef = u106 at heq
            generalize a.tmps.getD 107 undef = u107 at heq
            generalize a.tmps.getD 108 undef = u108 at heq
            generalize a.tmps.getD 109 undef = u109 at heq
            generalize a.tmps.getD 110 undef = u110 at heq
            subst heq
            rename_i hKK
            refine hKK _ _ ?_
            have HO3 : Hid (OwnI W (B7 + 1) V2 (insL L k)) := Lib.hid (OwnL.touch HBW.out.2.2 HT3.out (fun k' hk' e => by have := (OwnL.lt HBW.out.2.2 k' hk').1; have e' : k' = B7 := e; omega))
            have HB3 : Hid (Below B7 wB W) := Lib.hid (touch_below HBW.out.1 (Nat.le_refl _) HT3.out HZ3.out)
            have HSZ : Hid (w.heap.size + 1 ≤ B7 ∧ B7 + 1 ≤ W.heap.size) := Lib.hid ⟨by rw [HE.out]; exact HB.out.2, by rw [HZ3.out]; exact HBW.out.2.1⟩
            have HCZ : Hid (CfAt W w.heap.size Cfg.zero (.slice none 0 0)) := Lib.hid (CfAt.keep HC.out (by rw [← HE.out]; exact HB3.out))
            have HBw : Hid (Below w.heap.size w W) := Lib.hid (HB.out.1.trans (HB3.out.mono (by have := HSZ.out.1; omega)))
            have HLZ := Lib.hid (insL_len L k)
            clear HT3 HZ3 HBW HCF FX18 HS18 HI2 HC2 HB2 HC HB HB3 HL HF HE h66 hcQ hgB hNL
            obtain ⟨cf, hcf⟩ : ∃ cf, cf = cfgL L k := ⟨_, rfl⟩
            have HIN : Hid (cf.insts = insL L k) := Lib.hid (by rw [hcf]; rfl)
            rw [← hcf] at HC3 HXL
            rw [← HIN.out] at HO3 HLZ
            clear hcf HIN
            by_cases hpn : p = n
            · obtain ⟨A2, c2, hV2, hc2, _, _, hcs2⟩ := OwnL.form HO3.out lay_ins
              rw [HLZ.out] at hV2
              have HIM : Hid (InsM W A2 cf.insts) := Lib.hid (fun h0 => by
                obtain ⟨g2, rfl, _, _, hcell⟩ := hcs2 h0
                refine ⟨g2, 0, rfl, fun i hi => ?_⟩
                have hh := fun j hj => (hcell i hi j hj).1
                have eD : cf.insts.getD i Ins.zero = cf.insts[i] := by rw [List.getD_eq_getElem?_getD, List.getElem?_eq_getElem hi]; rfl
                rw [eD, Nat.zero_add]
                exact ⟨hh 0 (by decide), hh 1 (by decide), hh 2 (by decide), hh 3 (by decide)⟩)
              have CR := Lib.hid (rplan_any cf A2 k c2 W HLZ.out.symm HIM.out)
              subst hV2
              clear hcs2 hc2
              simp only [Cfg.v] at CR
              obtain ⟨c0, c1, c2', c3, c4, c5, c6⟩ := HC3.out.reads
              subst hpn
              cases hok : planOk cf with
              | false =>
                have HXN : Hid (X = none) := Lib.hid (by rw [HXL.out, hok]; simp)
                rw [hok] at CR
                clear hok HXL
                go_simp
                go_wp2_with (go_at_call 38; (with_reducible refine CR.out.mono ?_); rintro r w5 ⟨rfl, hb5⟩; have HB5 := Lib.hid hb5; have HZ5 := Lib.hid (CfAt.keep HCZ.out hb5); obtain ⟨z0, z1, z2, z3, z4, z5, z6⟩ := HZ5.out.reads; simp only [Cfg.zero] at z0 z1 z2 z3 z4 z5 z6; have fz0 := Rec.frozen HZ5.out 0; have fz1 := Rec.frozen HZ5.out 1; have fz2 := Rec.frozen HZ5.out 2; have fz3 := Rec.frozen HZ5.out 3; have fz4 := Rec.frozen HZ5.out 4; have fz5 := Rec.frozen HZ5.out 5; have fz6 := Rec.frozen HZ5.out 6; clear hb5)
                have hPB := putC_below (HBw.out.trans (HB5.out.mono HBw.out.size)) (Nat.le_refl _) (.slice none 0 0) Cfg.zero
                obtain ⟨g0, g1, g2, g3, g4, g5, g6⟩ := (putC_at HZ5.out (.slice none 0 0) Cfg.zero).reads
                simp only [putC, Cfg.zero] at g0 g1 g2 g3 g4 g5 g6
                simp only [putC, Cfg.zero] at hPB
                refine bodyPost_ret (v := .tuple #[.agg #[.slice none 0 0, .int .i64 0, .int .i64 0, .int .i64 0, .int .i64 0, .int .i64 0, .int .i64 0], .int .i64 13]) (by simp [results, Tryz.results71, go_sem, g0, g1, g2, g3, g4, g5, g6]) rfl ?_
                rw [HXN.out]
                exact planK_none hPB
              | true =>
                have HXN : Hid (X = some cf) := Lib.hid (by rw [HXL.out, hok]; simp)
                rw [hok] at CR
                clear hok HXL
                go_simp
                go_wp2_with (go_at_call 38; (with_reducible refine CR.out.mono ?_); rintro r w5 ⟨rfl, hb5⟩; have HB5 := Lib.hid hb5; have HZ5 := Lib.hid (CfAt.keep HCZ.out hb5); obtain ⟨z0, z1, z2, z3, z4, z5, z6⟩ := HZ5.out.reads; simp only [Cfg.zero] at z0 z1 z2 z3 z4 z5 z6; have fz0 := Rec.frozen HZ5.out 0; have fz1 := Rec.frozen HZ5.out 1; have fz2 := Rec.frozen HZ5.out 2; have fz3 := Rec.frozen HZ5.out 3; have fz4 := Rec.frozen HZ5.out 4; have fz5 := Rec.frozen HZ5.out 5; have fz6 := Rec.frozen HZ5.out 6; have HC5 := Lib.hid (CfAt.keep HC3.out hb5); obtain ⟨x0, x1, x2, x3, x4, x5, x6⟩ := HC5.out.reads; clear hb5)
                have hPB := putC_below (HBw.out.trans (HB5.out.mono HBw.out.size)) (Nat.le_refl _) (.slice A2 k c2) cf
                have hPO : OwnI (putC w5 w.heap.size (.slice A2 k c2) cf) w.heap.size (.slice A2 k c2) cf.insts := OwnL.lower (OwnL.touch (OwnL.keep HO3.out HB5.out) (putC_touch w5 w.heap.size (.slice A2 k c2) cf) (fun k' hk' e => by have h1 := (OwnL.lt HO3.out k' hk').1; have e' : k' = w.heap.size := e; have := HSZ.out.1; omega)) (by have := HSZ.out.1; omega)
                obtain ⟨g0, g1, g2, g3, g4, g5, g6⟩ := (putC_at HZ5.out (.slice A2 k c2) cf).reads
                simp only [putC] at g0 g1 g2 g3 g4 g5 g6
                simp only [putC] at hPB hPO
                refine bodyPost_ret (v := .tuple #[cf.v (.slice A2 k c2), .int .i64 0]) (by simp [results, Tryz.results71, go_sem, Cfg.v, g0, g1, g2, g3, g4, g5, g6]) rfl ?_
                rw [HXN.out]
                exact ⟨_, rfl, hPO, hPB⟩
            · have HXN : Hid (X = none) := Lib.hid (by rw [HXL.out, if_neg (fun h => hpn h.1)])
              clear HXL
              obtain ⟨c0, c1, c2', c3, c4, c5, c6⟩ := HCZ.out.reads
              simp only [Cfg.zero] at c0 c1 c2' c3 c4 c5 c6
              have fz0 := Rec.frozen HCZ.out 0
              have fz1 := Rec.frozen HCZ.out 1
              have fz2 := Rec.frozen HCZ.out 2
              have fz3 := Rec.frozen HCZ.out 3
              have fz4 := Rec.frozen HCZ.out 4
              have fz5 := Rec.frozen HCZ.out 5
              have fz6 := Rec.frozen HCZ.out 6
              go_simp
              go_wp2
              have hPB := putC_below HBw.out (Nat.le_refl _) (.slice none 0 0) Cfg.zero
              obtain ⟨g0, g1, g2, g3, g4, g5, g6⟩ := (putC_at HCZ.out (.slice none 0 0) Cfg.zero).reads
              simp only [putC, Cfg.zero] at g0 g1 g2 g3 g4 g5 g6
              simp only [putC, Cfg.zero] at hPB
              refine bodyPost_ret (v := .tuple #[.agg #[.slice none 0 0, .int .i64 0, .int .i64 0, .int .i64 0, .int .i64 0, .int .i64 0, .int .i64 0], .int .i64 13]) (by simp [results, Tryz.results71, go_sem, g0, g1, g2, g3, g4, g5, g6]) rfl ?_
              rw [HXN.out]
              exact planK_none hPB
end Go.Proofs.YtmpipjangbedkaaGreat
