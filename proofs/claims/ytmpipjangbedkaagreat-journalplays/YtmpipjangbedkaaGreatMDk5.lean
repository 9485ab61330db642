import Derived.Test.YtmpipjangbedkaaGreatMPqr
import Derived.Test.YtmpipjangbedkaaGreatMDag3
import Derived.Test.YtmpipjangbedkaaGreatMInv
import Derived.Test.YtmpipjangbedkaaGreatMPv2
/-
  The walk of novationseat's Config.
-/
namespace Go.Proofs.YtmpipjangbedkaaGreat
set_option maxRecDepth 8000
open Go Go.RowKit
set_option linter.unusedVariables false

set_option maxRecDepth 100000 in
set_option maxHeartbeats 8000000 in
theorem deck_config (W0 W1 : World) (A : Option Addr) (l : List Int) (c b m : Nat) (h : Deck W0 A l c b m W1) (hm : m < 900000000) :
    Calls Tryz.prog 7 #[.pointer (some ⟨b, 0, none⟩)] W1 (CfgC W0 A l c b (m + 60) W1) := by
  have HS0 := Lib.hid (cs_start W0 W1 A l c b m h)
  have C0 := Lib.hid (deck_nI 4 4 rfl W0 _ A l c b m HS0.out.deck (by omega) (by omega) (by omega))
  simp only [Cfg.cells, Cfg.zero] at C0
  clear h
  go_enter Tryz.func7, Tryz.ntmps7
  go_wp2_with (go_at_call 15; (with_reducible refine C0.out.mono ?_); rintro r w1 ⟨_, rfl, ⟨q, rfl, hq⟩, d1, t1⟩; have H1 := Lib.hid (HS0.out.draw d1 t1); clear d1 t1)
  clear C0 HS0
  go_loopw [4] (fun k wr => ∃ (k' j : Nat) (v : Value) (cf : Cfg), k = .int .i64 (k' : Int) ∧ k' + j = q + 1 ∧ Hid (CS W0 A l c b W1 W1.heap.size (W1.heap.size + 1) (m + 1 + 10 * j) v cf wr) ∧ Hid (cf.insts.length = j ∧ ∀ x ∈ cf.insts, x.Ok) ∧ Hid ({ cf with insts := [] } = Cfg.zero)) (fun k _ => (intOf k).toNat)
  case atStart => exact ⟨q + 1, 0, .slice none 0 0, Cfg.zero, by go_num, by omega, H1, Lib.hid ⟨rfl, fun x hx => (List.not_mem_nil hx).elim⟩, Lib.hid rfl⟩
  case round =>
    obtain ⟨k, j, v, cf, rfl, hkj, HC, HL, HZ⟩ := hrel
    obtain ⟨Av, cv, rfl, _⟩ := OwnL.form HC.out.own lay_ins
    have HLN : Hid (cf.insts.length ≤ 100) := Lib.hid (by have := HL.out.1; omega)
    obtain ⟨M, hM⟩ : ∃ M, M = m + 1 + 10 * j := ⟨_, rfl⟩
    rw [← hM] at HC
    have hMm : M < 950000000 := by omega
    have HM := Lib.hid hM
    clear hM
    by_cases hk0 : 0 < k
    · have C1 := Lib.hid (deck_nI 3 3 rfl W0 wr A l c b M HC.out.deck (by omega) (by omega) (by omega))
      go_wp2_with (first
        | (go_at_call 15; (with_reducible refine C1.out.mono ?_); rintro r w2 ⟨_, rfl, ⟨k1, rfl, hk1⟩, d2, t2⟩; have H2 := Lib.hid (HC.out.draw d2 t2); have C2 := Lib.hid (deck_nI 300 300 rfl W0 w2 A l c b (M + 1) d2 (by omega) (by omega) (by omega)); clear d2 t2)
        | (go_at_call 15; (with_reducible refine C2.out.mono ?_); rintro r w3 ⟨_, rfl, ⟨k2, rfl, hk2⟩, d3, t3⟩; have H3 := Lib.hid (H2.out.draw d3 t3); have C3 := Lib.hid (deck_nI 12 12 rfl W0 w3 A l c b (M + 1 + 1) d3 (by omega) (by omega) (by omega)); clear d3 t3)
        | (go_at_call 15; (with_reducible refine C3.out.mono ?_); rintro r w4 ⟨_, rfl, ⟨k3, rfl, hk3⟩, d4, t4⟩; have H4 := Lib.hid (H3.out.draw d4 t4); have C4 := Lib.hid (deck_nI 6 6 rfl W0 w4 A l c b (M + 1 + 1 + 1) d4 (by omega) (by omega) (by omega)); clear d4 t4)
        | (go_at_call 15; (with_reducible refine C4.out.mono ?_); rintro r w5 ⟨_, rfl, ⟨k4, rfl, hk4⟩, d5, t5⟩; have H5 := Lib.hid (H4.out.draw d5 t5); clear d5 t5))
      have X5 := Lib.hid (XS.start H5.out ⟨(k1 : Int), 1 + (k2 : Int), (k3 : Int), (k4 : Int)⟩)
      have CY := Lib.hid (X5.out.yes (by omega))
      simp only [Ins.cells] at CY
      clear C1 C2 C3 C4 H2 H3 H4 H5 HC
      generalize w5.heap.size = bX at *
      go_wp2_with (first
        | (go_at_call 12; (with_reducible refine CY.out.mono ?_); rintro r w6 ⟨hee, x6⟩; clear CY; have XF := Lib.hid x6; have CY2 := Lib.hid (x6.yes (by omega)); have CSa := Lib.hid (x6.drawn (by omega)); clear x6; rcases hee with rfl | rfl))
      · have hM7 : M < 950000000 := hMm
        go_wp2_with (first
          | (go_at_call 29; (with_reducible refine CSa.out.mono ?_); rintro r w7 ⟨s7, rfl, hs7, x7⟩; obtain ⟨⟨y0, y1, y2, y3⟩, _, yf⟩ := x7.reads; have yf1 := yf 1; (obtain ⟨p7, hp7⟩ : ∃ p, p = s7 % 1000000000000 := ⟨_, rfl⟩); have hr7 : (s7 : Int) % 1000000000000 = (p7 : Int) := (by omega); have hp7l : p7 < 1000000000000 := (by omega); have CY3 := Lib.hid ((x7.set (x' := ⟨(k1 : Int), 1 + (p7 : Int), (k3 : Int), (k4 : Int)⟩) 1 (.int .i64 (1 + (p7 : Int))) rfl).yes (by omega)); clear hp7 x7 yf)
          | (go_at_call 12; (with_reducible refine CY3.out.mono ?_); rintro r w8 ⟨hee, x8⟩; have XF := Lib.hid x8; obtain ⟨⟨z0, z1, z2, z3⟩, ⟨zc, zf⟩, _⟩ := x8.reads; have CSb := Lib.hid (x8.drawn (by omega)); clear x8; rcases hee with rfl | rfl)
          | (at_builtin; refine XS.app XF.out HLN.out rfl (.tmp 41) (.tmp 43) rfl rfl _ _ (by first | rfl | (simp; done) | (simp [World.setCell]; done)) rfl ?_; intro A9 n9 c9 w9 q1 q2 HC9))
        · go_wp2_with (first
            | (go_at_call 29; (with_reducible refine CSb.out.mono ?_); rintro r wa ⟨sa, rfl, hsa, xa⟩; have CSc := Lib.hid (xa.drawn (by omega)); clear xa; (obtain ⟨pa, hpa⟩ : ∃ p, p = sa % 1000000001 := ⟨_, rfl⟩); have hra : (sa : Int) % 1000000001 = (pa : Int) := (by omega); have hpal : pa < 1000000001 := (by omega); clear hpa)
            | (go_at_call 29; (with_reducible refine CSc.out.mono ?_); rintro r wb ⟨sb, rfl, hsb, xb⟩; (obtain ⟨pb, hpb⟩ : ∃ p, p = sb % 1000000001 := ⟨_, rfl⟩); have hrb : (sb : Int) % 1000000001 = (pb : Int) := (by omega); have hpbl : pb < 1000000001 := (by omega); clear hpb; obtain ⟨⟨u0, u1, u2, u3⟩, ⟨uc, uf⟩, ux⟩ := xb.reads; have ux2 := ux 2; have ux3 := ux 3; have une := xb.nc; have XF := Lib.hid ((xb.set (x' := ⟨(k1 : Int), 1 + (p7 : Int), (pa : Int), (k4 : Int)⟩) 2 (.int .i64 (pa : Int)) rfl).set (x' := ⟨(k1 : Int), 1 + (p7 : Int), (pa : Int), (pb : Int)⟩) 3 (.int .i64 (pb : Int)) rfl); clear xb ux zc zf z0 z1 z2 z3)
            | (at_builtin; refine XS.app XF.out HLN.out rfl (.tmp 41) (.tmp 43) rfl rfl _ _ (by first | rfl | (simp; done) | (simp [World.setCell]; done)) rfl ?_; intro A9 n9 c9 w9 q1 q2 HC9))
          go_roundw
          case rel => exact ⟨k - 1, j + 1, _, _, by go_num, by omega, Lib.hid (HC9.out.later (by have := HM.out; omega)), Lib.hid (each_more HL.out ⟨by simp only; omega, by simp only; omega, by simp only; omega, by simp only; omega⟩), Lib.hid (by have := HZ.out; simpa using this)⟩
          case measure => simp [intOf]; omega
        · go_roundw
          case rel => exact ⟨k - 1, j + 1, _, _, by go_num, by omega, Lib.hid (HC9.out.later (by have := HM.out; omega)), Lib.hid (each_more HL.out ⟨by simp only; omega, by simp only; omega, by simp only; omega, by simp only; omega⟩), Lib.hid (by have := HZ.out; simpa using this)⟩
          case measure => simp [intOf]; omega
      · go_wp2_with (first
          | (go_at_call 12; (with_reducible refine CY2.out.mono ?_); rintro r w8 ⟨hee, x8⟩; have XF := Lib.hid x8; obtain ⟨⟨z0, z1, z2, z3⟩, ⟨zc, zf⟩, _⟩ := x8.reads; have CSb := Lib.hid (x8.drawn (by omega)); clear x8; rcases hee with rfl | rfl)
          | (at_builtin; refine XS.app XF.out HLN.out rfl (.tmp 41) (.tmp 43) rfl rfl _ _ (by first | rfl | (simp; done) | (simp [World.setCell]; done)) rfl ?_; intro A9 n9 c9 w9 q1 q2 HC9))
        · go_wp2_with (first
            | (go_at_call 29; (with_reducible refine CSb.out.mono ?_); rintro r wa ⟨sa, rfl, hsa, xa⟩; have CSc := Lib.hid (xa.drawn (by omega)); clear xa; (obtain ⟨pa, hpa⟩ : ∃ p, p = sa % 1000000001 := ⟨_, rfl⟩); have hra : (sa : Int) % 1000000001 = (pa : Int) := (by omega); have hpal : pa < 1000000001 := (by omega); clear hpa)
            | (go_at_call 29; (with_reducible refine CSc.out.mono ?_); rintro r wb ⟨sb, rfl, hsb, xb⟩; (obtain ⟨pb, hpb⟩ : ∃ p, p = sb % 1000000001 := ⟨_, rfl⟩); have hrb : (sb : Int) % 1000000001 = (pb : Int) := (by omega); have hpbl : pb < 1000000001 := (by omega); clear hpb; obtain ⟨⟨u0, u1, u2, u3⟩, ⟨uc, uf⟩, ux⟩ := xb.reads; have ux2 := ux 2; have ux3 := ux 3; have une := xb.nc; have XF := Lib.hid ((xb.set (x' := ⟨(k1 : Int), 1 + (k2 : Int), (pa : Int), (k4 : Int)⟩) 2 (.int .i64 (pa : Int)) rfl).set (x' := ⟨(k1 : Int), 1 + (k2 : Int), (pa : Int), (pb : Int)⟩) 3 (.int .i64 (pb : Int)) rfl); clear xb ux zc zf z0 z1 z2 z3)
            | (at_builtin; refine XS.app XF.out HLN.out rfl (.tmp 41) (.tmp 43) rfl rfl _ _ (by first | rfl | (simp; done) | (simp [World.setCell]; done)) rfl ?_; intro A9 n9 c9 w9 q1 q2 HC9))
          go_roundw
          case rel => exact ⟨k - 1, j + 1, _, _, by go_num, by omega, Lib.hid (HC9.out.later (by have := HM.out; omega)), Lib.hid (each_more HL.out ⟨by simp only; omega, by simp only; omega, by simp only; omega, by simp only; omega⟩), Lib.hid (by have := HZ.out; simpa using this)⟩
          case measure => simp [intOf]; omega
        · go_roundw
          case rel => exact ⟨k - 1, j + 1, _, _, by go_num, by omega, Lib.hid (HC9.out.later (by have := HM.out; omega)), Lib.hid (each_more HL.out ⟨by simp only; omega, by simp only; omega, by simp only; omega, by simp only; omega⟩), Lib.hid (by have := HZ.out; simpa using this)⟩
          case measure => simp [intOf]; omega
    · obtain rfl : k = 0 := by omega
      have hZ := HZ.out
      have HCF : Hid (cf = ⟨cf.insts, 0, 0, 0, 0, 0, 0⟩) := Lib.hid (by
        cases cf
        simp only [Cfg.zero, Cfg.mk.injEq, true_and] at hZ
        obtain ⟨rfl, rfl, rfl, rfl, rfl, rfl⟩ := hZ
        rfl)
      obtain ⟨L, hL⟩ : ∃ L, L = cf.insts := ⟨_, rfl⟩
      have hLL := HL.out
      rw [← hL] at HCF hLL
      have HE := Lib.hid hLL
      rw [HCF.out] at HC
      clear hZ hLL HZ HCF HL HLN hL
      have D1 := Lib.hid (HC.out.n (by omega) 300 300 rfl (by omega) (by omega))
      go_wp2_with (first
        | (go_at_call 15; (with_reducible refine D1.out.mono ?_); rintro r v1 ⟨a1, rfl, ha1, e1⟩; have D2 := Lib.hid (e1.n (by omega) 5 5 rfl (by omega) (by omega)); clear e1 D1)
        | (go_at_call 15; (with_reducible refine D2.out.mono ?_); rintro r v2 ⟨a2, rfl, ha2, e2⟩; obtain ⟨⟨y0, y1, y2, y3, y4, y5, y6⟩, yf⟩ := e2.creads; have g1 := yf 1; have g2 := yf 2; have g3 := yf 3; have g4 := yf 4; have g5 := yf 5; have g6 := yf 6; clear yf; have D3 := Lib.hid (((e2.set (cf' := ⟨L, (a1 : Int), 0, 0, 0, 0, 0⟩) 1 (.int .i64 (a1 : Int)) rfl rfl).set (cf' := ⟨L, (a1 : Int), (a2 : Int), 0, 0, 0, 0⟩) 2 (.int .i64 (a2 : Int)) rfl rfl).n (by omega) 3 3 rfl (by omega) (by omega)); clear e2 D2)
        | (go_at_call 15; (with_reducible refine D3.out.mono ?_); rintro r v3 ⟨a3, rfl, ha3, e3⟩; have D4 := Lib.hid (e3.n (by omega) 3 3 rfl (by omega) (by omega)); clear e3 D3 y0 y1 y2 y3 y4 y5 y6 g1 g2 g3 g4 g5 g6)
        | (go_at_call 15; (with_reducible refine D4.out.mono ?_); rintro r v4 ⟨a4, rfl, ha4, e4⟩; obtain ⟨⟨y0, y1, y2, y3, y4, y5, y6⟩, yf⟩ := e4.creads; have g1 := yf 1; have g2 := yf 2; have g3 := yf 3; have g4 := yf 4; have g5 := yf 5; have g6 := yf 6; clear yf; have D5 := Lib.hid (((e4.set (cf' := ⟨L, (a1 : Int), (a2 : Int), (a3 : Int), 0, 0, 0⟩) 3 (.int .i64 (a3 : Int)) rfl rfl).set (cf' := ⟨L, (a1 : Int), (a2 : Int), (a3 : Int), (a4 : Int), 0, 0⟩) 4 (.int .i64 (a4 : Int)) rfl rfl).n (by omega) 20 20 rfl (by omega) (by omega)); clear e4 D4)
        | (go_at_call 15; (with_reducible refine D5.out.mono ?_); rintro r v5 ⟨a5, rfl, ha5, e5⟩; have D6 := Lib.hid (e5.n (by omega) 100 100 rfl (by omega) (by omega)); clear e5 D5 y0 y1 y2 y3 y4 y5 y6 g1 g2 g3 g4 g5 g6)
        | (go_at_call 15; (with_reducible refine D6.out.mono ?_); rintro r v6 ⟨a6, rfl, ha6, e6⟩; obtain ⟨⟨y0, y1, y2, y3, y4, y5, y6⟩, yf⟩ := e6.creads; have g1 := yf 1; have g2 := yf 2; have g3 := yf 3; have g4 := yf 4; have g5 := yf 5; have g6 := yf 6; clear yf; have D7 := Lib.hid (((e6.set (cf' := ⟨L, (a1 : Int), (a2 : Int), (a3 : Int), (a4 : Int), 1 + (a5 : Int), 0⟩) 5 (.int .i64 (1 + (a5 : Int))) rfl rfl).set (cf' := ⟨L, (a1 : Int), (a2 : Int), (a3 : Int), (a4 : Int), 1 + (a5 : Int), (a6 : Int)⟩) 6 (.int .i64 (a6 : Int)) rfl rfl).yes (by omega)); clear e6 D6))
      go_wp2_with (go_at_call 12; (with_reducible refine D7.out.mono ?_); rintro r v7 ⟨hee, e7⟩; clear y0 y1 y2 y3 y4 y5 y6 g1 g2 g3 g4 g5 g6 D7; have HF := Lib.hid e7; have D8 := Lib.hid (e7.drawn (by omega)); obtain ⟨⟨y0, y1, y2, y3, y4, y5, y6⟩, yf⟩ := e7.creads; have g1 := yf 1; have g2 := yf 2; have g3 := yf 3; have g4 := yf 4; have g5 := yf 5; have g6 := yf 6; clear yf; obtain ⟨⟨t0, t1, t2, t3, t4, t5, t6⟩, tf⟩ := e7.rreads; have f0 := tf 0; have f1 := tf 1; have f2 := tf 2; have f3 := tf 3; have f4 := tf 4; have f5 := tf 5; have f6 := tf 6; clear e7 tf; rcases hee with rfl | rfl)
      · go_wp2_with (go_at_call 29; (with_reducible refine D8.out.mono ?_); rintro r v8 ⟨a8, rfl, ha8, e8⟩; clear y0 y1 y2 y3 y4 y5 y6 g1 g2 g3 g4 g5 g6 t0 t1 t2 t3 t4 t5 t6 f0 f1 f2 f3 f4 f5 f6 HF D8; have HF := Lib.hid (e8.set (cf' := ⟨L, (a8 : Int), (a2 : Int), (a3 : Int), (a4 : Int), 1 + (a5 : Int), (a6 : Int)⟩) 1 (.int .i64 (a8 : Int)) rfl rfl); obtain ⟨⟨y0, y1, y2, y3, y4, y5, y6⟩, yf⟩ := e8.creads; have g1 := yf 1; obtain ⟨⟨t0, t1, t2, t3, t4, t5, t6⟩, tf⟩ := e8.rreads; have f0 := tf 0; have f1 := tf 1; have f2 := tf 2; have f3 := tf 3; have f4 := tf 4; have f5 := tf 5; have f6 := tf 6; clear e8 tf yf)
        obtain ⟨o1, o2, o3, o4⟩ := HF.out.ends
        have p0 := o1.cell 0 rfl; have p1 := o1.cell 1 rfl; have p2 := o1.cell 2 rfl; have p3 := o1.cell 3 rfl; have p4 := o1.cell 4 rfl; have p5 := o1.cell 5 rfl; have p6 := o1.cell 6 rfl
        simp only [putCd] at p0 p1 p2 p3 p4 p5 p6
        refine bodyPost_ret (v := (⟨L, (a8 : Int), (a2 : Int), (a3 : Int), (a4 : Int), 1 + (a5 : Int), (a6 : Int)⟩ : Cfg).v (.slice Av L.length cv)) (by simp [results, Tryz.results7, go_sem, Cfg.v, p0, p1, p2, p3, p4, p5, p6]) rfl ?_
        have hj := HE.out.1
        have hMM := HM.out
        exact ⟨⟨L, (a8 : Int), (a2 : Int), (a3 : Int), (a4 : Int), 1 + (a5 : Int), (a6 : Int)⟩, _, rfl, ⟨by simp only; omega, HE.out.2, by simp only; omega, by simp only; omega, by simp only; omega, by simp only; omega, by simp only; omega, by simp only; omega⟩, o2, o3.more (by omega), o4⟩
      · obtain ⟨o1, o2, o3, o4⟩ := HF.out.ends
        have p0 := o1.cell 0 rfl; have p1 := o1.cell 1 rfl; have p2 := o1.cell 2 rfl; have p3 := o1.cell 3 rfl; have p4 := o1.cell 4 rfl; have p5 := o1.cell 5 rfl; have p6 := o1.cell 6 rfl
        simp only [putCd] at p0 p1 p2 p3 p4 p5 p6
        refine bodyPost_ret (v := (⟨L, (a1 : Int), (a2 : Int), (a3 : Int), (a4 : Int), 1 + (a5 : Int), (a6 : Int)⟩ : Cfg).v (.slice Av L.length cv)) (by simp [results, Tryz.results7, go_sem, Cfg.v, p0, p1, p2, p3, p4, p5, p6]) rfl ?_
        have hj := HE.out.1
        have hMM := HM.out
        exact ⟨⟨L, (a1 : Int), (a2 : Int), (a3 : Int), (a4 : Int), 1 + (a5 : Int), (a6 : Int)⟩, _, rfl, ⟨by simp only; omega, HE.out.2, by simp only; omega, by simp only; omega, by simp only; omega, by simp only; omega, by simp only; omega, by simp only; omega⟩, o2, o3.more (by omega), o4⟩
end Go.Proofs.YtmpipjangbedkaaGreat

/-
  Of, and what is told of values in drawn regions that draw from a deck; drawn events that are right.
-/
namespace Go.Proofs.YtmpipjangbedkaaGreat
set_option maxRecDepth 8000
open Go Go.RowKit
set_option linter.unusedVariables false

theorem EvAt.touch {X : Nat → Prop} {w w' : World} {b : Nat} {e : Ev} (h : EvAt w b e) (ht : Touch X w w') (hx : ¬ X b) : EvAt w' b e := Rec.touch h ht hx
/-- Something that is told of a value, and lasts while only the deck is turned. -/
structure SpT (b : Nat) where
  p : Value → World → Prop
  st : ∀ v W W', Touch (fun k => k = b) W W' → p v W → p v W'
/-- A number between two. -/
def isR (lo hi : Int) (v : Value) : Prop := ∃ x : Int, v = .int .i64 x ∧ lo ≤ x ∧ x ≤ hi
def SpT.val {b : Nat} (u : Value) : SpT b := ⟨fun v _ => v = u, fun _ _ _ _ h => h⟩
def SpT.such {b : Nat} (q : Value → Prop) : SpT b := ⟨fun v _ => q v, fun _ _ _ _ h => h⟩
def SpT.rng {b : Nat} (lo hi : Int) : SpT b := ⟨fun v _ => isR lo hi v, fun _ _ _ _ h => h⟩
/-- A new event of noughts. -/
def SpT.box {b : Nat} (lo : Nat) (h : b < lo) : SpT b := ⟨fun v W => ∃ bX, v = .pointer (some ⟨bX, 0, none⟩) ∧ lo ≤ bX ∧ EvAt W bX Ev.zero, fun v W W' ht hp => by
  obtain ⟨bX, e, h1, h2⟩ := hp
  exact ⟨bX, e, h1, Rec.touch h2 ht (by omega)⟩⟩
def spT {b : Nat} (l : List (SpT b)) (i : Nat) (v : Value) (W : World) : Prop := (l.getD i (.val undef)).p v W
theorem spT_st {b : Nat} (l : List (SpT b)) (i : Nat) (v : Value) (W W' : World) (ht : Touch (fun k => k = b) W W') (h : spT l i v W) : spT l i v W' := (l.getD i (.val undef)).st v W W' ht h
/-- A deck within a drawn region of N operations of which r are still to come. -/
def DW (W0 : World) (A : Option Addr) (l : List Int) (c b m N : Nat) (W1 : World) (r : Nat) (W : World) : Prop := Deck W0 A l c b (m + (N - r)) W ∧ Touch (fun k => k = b) W1 W
section
variable {W0 W1 W W' : World} {A : Option Addr} {l : List Int} {c b m N r : Nat}
theorem DW.less (h : DW W0 A l c b m N W1 r W) : ∀ r', r' < r → DW W0 A l c b m N W1 r' W := fun r' hr => ⟨h.1.more (by omega), h.2⟩
theorem touch_drawn (b : Nat) (W : World) : Touch (fun k => k = b) W { W with drawn := W.drawn + 1 } := ⟨rfl, rfl, rfl, Nat.le_refl _, fun _ _ _ => rfl⟩
theorem DW.start (h : Deck W0 A l c b m W1) : ∀ r, DW W0 A l c b m N W1 r { W1 with drawn := W1.drawn + 1 } := fun r =>
  ⟨(h.keep (⟨rfl, rfl, rfl, Nat.le_refl _, fun _ _ => rfl⟩ : Below W1.heap.size W1 { W1 with drawn := W1.drawn + 1 })).more (by omega), touch_drawn b W1⟩
theorem DW.next (h : DW W0 A l c b m N W1 r W) (h0 : 0 < r) (hN : r ≤ N) (hd : Deck W0 A l c b (m + (N - r) + 1) W') (ht : Touch (fun k => k = b) W W') : ∀ r', r' < r → DW W0 A l c b m N W1 r' W' := fun r' hr => ⟨hd.more (by omega), h.2.trans ht (fun _ _ h => h)⟩
/-- A step that turns neither the deck nor what is elder. -/
theorem DW.keep (h : DW W0 A l c b m N W1 r W) (hb : Below W.heap.size W W') : ∀ r', r' < r → DW W0 A l c b m N W1 r' W' := fun r' hr => ⟨(h.1.keep hb).more (by omega), h.2.trans (Touch.of_below (fun _ => False) hb) (fun _ _ h => h.elim)⟩
/-- A config whose instruments lie apart from the deck. -/
structure CfgIn (b : Nat) (v : Value) (cf : Cfg) (W : World) : Prop where
  ok : cf.Ok
  lay : ∃ g cc, v = .slice (some ⟨g, 0, none⟩) cf.insts.length cc ∧ g ≠ b ∧ g < W.heap.size ∧ cf.insts.length ≤ cc ∧ cc ≤ 9223372036854775807 ∧ ∀ i (h : i < cf.insts.length), W.cell? ⟨g, i * 4 + 1, none⟩ = some (.int .i64 (cf.insts[i].price))
variable {v : Value} {cf : Cfg}
theorem CfgIn.touch (h : CfgIn b v cf W) (ht : Touch (fun k => k = b) W W') : CfgIn b v cf W' := by
  obtain ⟨g, cc, e, h1, h2, h3, h4, h5⟩ := h.lay
  refine ⟨h.ok, g, cc, e, h1, Nat.lt_of_lt_of_le h2 ht.size, h3, h4, fun i hi => ?_⟩
  rw [← h5 i hi]
  unfold World.cell?
  simp only
  rw [ht.block g h2 h1]
theorem CfgIn.keep (h : CfgIn b v cf W) (hb : Below W.heap.size W W') : CfgIn b v cf W' := h.touch ((Touch.of_below (fun _ => False) hb).mono (fun _ h => h.elim))
theorem CfgIn.of (hc : cf.Ok) {base : Nat} (ho : OwnI W base v cf.insts) (hd : Deck W0 A l c b m W) : CfgIn b v cf W := by
  obtain ⟨_, _, hr⟩ := hd.box
  have hne := hr.not_rowL (by decide) ho
  obtain ⟨A', c', rfl, h1, h2, _, h3⟩ := OwnL.form ho lay_ins
  have h0 := hc.cnt.1
  obtain ⟨g, rfl, _, hg, hcell⟩ := h3 (by omega)
  refine ⟨hc, g, c', rfl, fun e => hne (by rw [← e]; rfl), hg, h1, h2, fun i hi => ?_⟩
  exact (hcell i hi 1 (by omega)).1
theorem CfgIn.opened (h : CfgIn b v cf W) : ∃ (g n cc : Nat) (pr : Nat → Int), v = .slice (some ⟨g, 0, none⟩) n cc ∧ 1 ≤ n ∧ n ≤ 4 ∧ n = cf.insts.length ∧ n ≤ cc ∧ cc ≤ 9223372036854775807 ∧ (∀ i, i < n → 1 ≤ pr i ∧ pr i ≤ 1000000000000) ∧ ∀ W', Touch (fun k => k = b) W W' → ∀ i, i < n → W'.cell? ⟨g, i * 4 + 1, none⟩ = some (.int .i64 (pr i)) := by
  have hc := h.ok
  obtain ⟨g, cc, e, h1, h2, h3, h4, h5⟩ := h.lay
  refine ⟨g, _, cc, fun i => (cf.insts.getD i ⟨0, 0, 0, 0⟩).price, e, hc.cnt.1, hc.cnt.2, rfl, h3, h4, fun i hi => ?_, fun W' ht i hi => ?_⟩
  · dsimp only
    rw [List.getD_eq_getElem?_getD, List.getElem?_eq_getElem hi]
    exact (hc.each _ (List.getElem_mem hi)).price
  · dsimp only
    rw [List.getD_eq_getElem?_getD, List.getElem?_eq_getElem hi]
    rw [Option.getD_some, ← h5 i hi]
    unfold World.cell?
    simp only
    rw [ht.block g h2 h1]
theorem touch_keep {b : Nat} {W W' : World} (hb : Below W.heap.size W W') : Touch (fun k => k = b) W W' := (Touch.of_below (fun _ => False) hb).mono (fun _ h => h.elim)
/-- What is drawn: an event that is right, and the deck is further. -/
def EvD (W0 : World) (A : Option Addr) (l : List Int) (c b m : Nat) (W : World) (r : Ending) (W' : World) : Prop := ∃ e : Ev, r = .returned e.v ∧ e.Ok ∧ rightE e = true ∧ Deck W0 A l c b m W' ∧ Touch (fun k => k = b) W W'
end
end Go.Proofs.YtmpipjangbedkaaGreat

/-
  The walk of novationseat's mark.
-/
namespace Go.Proofs.YtmpipjangbedkaaGreat
set_option maxRecDepth 8000
open Go Go.RowKit
set_option linter.unusedVariables false

theorem wrap_id {x : Int} (h : I64 x) : IntKind.i64.wrap x = x := by unfold I64 at h; simp [IntKind.wrap, IntKind.bits, IntKind.signed]; omega
/-- A mark. -/
def evMark (i p : Int) : Ev := ⟨9, 0, 0, i, 0, 0, 0, p⟩
theorem mark_ok {i p : Int} (hi : 0 ≤ i ∧ i ≤ 5) (hp : 1 ≤ p ∧ p ≤ 1000000000000) : (evMark i p).Ok ∧ rightE (evMark i p) = true := by
  constructor
  · constructor <;> (unfold I64 evMark; simp only; omega)
  · rw [right_seven]
    simp [evMark, seven, inA, loA, hiA, fieldsOf, loF, hiF, loP, hiP, Ev.val]
    omega
set_option maxRecDepth 100000 in
set_option maxHeartbeats 4000000 in
theorem deck_mark (W0 W1 : World) (A : Option Addr) (l : List Int) (c b m : Nat) (h : Deck W0 A l c b m W1) (hm : m < 900000000) (cf : Cfg) (v : Value) (hv : CfgIn b v cf W1) (i : Nat) (hi : i < cf.insts.length) :
    Calls Tryz.prog 45 #[.pointer (some ⟨b, 0, none⟩), cf.v v, .int .i64 (i : Int)] W1 (EvD W0 A l c b (m + 60) W1) := by
  obtain ⟨g, n, cc, pr, rfl, hn1, hn4, hnl, hcc, hcc2, hpr, hcell⟩ := hv.opened
  rw [← hnl] at hi
  have hp2 := hpr i hi
  obtain ⟨p0, hp0⟩ : ∃ p0, p0 = pr i := ⟨_, rfl⟩
  rw [← hp0] at hp2
  have hb1 : Below W1.heap.size W1 (W1.alloc (.cells (cf.cells (.slice (some ⟨g, 0, none⟩) n cc)).toArray 31)) := (Below.refl _ _).alloc (Nat.le_refl _) _
  have hb2 : Below W1.heap.size W1 ((W1.alloc (.cells (cf.cells (.slice (some ⟨g, 0, none⟩) n cc)).toArray 31)).alloc (.cells Ev.zero.cells.toArray 51)) := hb1.alloc hb1.size _
  have HD := Lib.hid (h.keep hb2)
  have HC : Hid (Rec ((W1.alloc (.cells (cf.cells (.slice (some ⟨g, 0, none⟩) n cc)).toArray 31)).alloc (.cells Ev.zero.cells.toArray 51)) W1.heap.size 31 (cf.cells (.slice (some ⟨g, 0, none⟩) n cc))) := Lib.hid ((Rec.new W1 _ (cf.cells (.slice (some ⟨g, 0, none⟩) n cc)) _ rfl).keep ((Below.refl _ _).alloc (Nat.le_refl _) _))
  have HR : Hid (EvAt ((W1.alloc (.cells (cf.cells (.slice (some ⟨g, 0, none⟩) n cc)).toArray 31)).alloc (.cells Ev.zero.cells.toArray 51)) (W1.heap.size + 1) Ev.zero) := Lib.hid (Rec.new _ _ _ _ (by simp))
  have HB2 := Lib.hid hb2
  have hbl : b < W1.heap.size := by obtain ⟨_, _, hr⟩ := h.box; exact hr.lt
  have HLO := Lib.hid h.low
  have FL : Hid (∀ W, Touch (fun k => k = b) ((W1.alloc (.cells (cf.cells (.slice (some ⟨g, 0, none⟩) n cc)).toArray 31)).alloc (.cells Ev.zero.cells.toArray 51)) W → W.cell? ⟨W1.heap.size, 0, none⟩ = some (.slice (some ⟨g, 0, none⟩) n cc) ∧ W.cell? ⟨g, i * 4 + 1, none⟩ = some (.int .i64 p0)) := Lib.hid (fun W ht => by
    refine ⟨(HC.out.touch ht (by omega)).cell 0 rfl, ?_⟩
    rw [hp0]
    exact hcell W ((touch_keep HB2.out).trans ht (fun _ _ h => h)) i hi)
  unfold Cfg.v
  have hi5 : i ≤ 5 := by omega
  clear h hv hb1 hb2 hpr hp0 hnl hcell
  go_enter Tryz.func45, Tryz.ntmps45
  go_wp2
  refine wp_region_dagV [8, 9, 10, 11, 12, 13, 14, 15, 16, 17, 18, 19, 20, 21, 7] (fun W W' => Touch (fun k => k = b) W W') (DW W0 A l c b m 16 _) (spT (b := b) [.val (.int .i64 (i : Int)), .val (.pointer (some ⟨W1.heap.size, 0, none⟩)), .val (.slice (some ⟨g, 0, none⟩) n cc), .val (.int .i64 (i : Int)), .val (.pointer (some ⟨g, i * 4, none⟩)), .val (.pointer (some ⟨g, i * 4 + 1, none⟩)), .val (.int .i64 p0), .val (.pointer (some ⟨b, 0, none⟩)), .rng 0 60, .rng 1 1000000000060, .rng (-29) 1000000000030, .rng (-29) 1000000000000, .rng 1 1000000000000, .such (fun u => ∃ p : Int, u = (evMark (i : Int) p).v ∧ 1 ≤ p ∧ p ≤ 1000000000000), .box (W1.heap.size + 2) (by omega)]) (fun a W => ∃ (bX : Nat) (p : Int), a.tmps.getD 7 undef = .pointer (some ⟨bX, 0, none⟩) ∧ W1.heap.size + 2 ≤ bX ∧ 1 ≤ p ∧ p ≤ 1000000000000 ∧ EvAt W bX (evMark (i : Int) p) ∧ Deck W0 A l c b (m + 16) W ∧ Touch (fun k => k = b) ((W1.alloc (.cells (cf.cells (.slice (some ⟨g, 0, none⟩) n cc)).toArray 31)).alloc (.cells Ev.zero.cells.toArray 51)) W) rfl rfl rfl rfl rfl rfl rfl rfl (spT_st _) (DW.start HD.out) ⟨?_, ?_, ?_, ?_, ?_, ?_, ?_, ?_, ?_, ?_, ?_, ?_, ?_, ?_, ?_, trivial⟩ ?_ ?_
  · intro a W K r ho hW hr0 hrN0 hpre hK
    have hrN : r ≤ 16 := hrN0
    clear hrN0
    rw [if_pos (wanted_none rfl)]
    have e0 : a.tmps.getD 2 undef = .int .i64 (i : Int) := ho.slot 2 (by decide)
    go_simp
    exact hK _ _ (Touch.refl _ _) hW.less rfl
  · intro a W K r ho hW hr0 hrN0 hpre hK
    have hrN : r ≤ 16 := hrN0
    clear hrN0
    rw [if_pos (wanted_none rfl)]
    have e0 : a.tmps.getD 4 undef = .pointer (some ⟨W1.heap.size, 0, none⟩) := ho.slot 4 (by decide)
    go_simp
    exact hK _ _ (Touch.refl _ _) hW.less rfl
  · intro a W K r ho hW hr0 hrN0 hpre hK
    have hrN : r ≤ 16 := hrN0
    clear hrN0
    rw [if_pos (wanted_none rfl)]
    have e0 : a.tmps.getD 9 undef = .pointer (some ⟨W1.heap.size, 0, none⟩) := hpre ⟨1, .data⟩ (by simp) rfl _ rfl
    have hc := (FL.out W hW.2).1
    go_simp
    exact hK _ _ (Touch.refl _ _) hW.less rfl
  · intro a W K r ho hW hr0 hrN0 hpre hK
    have hrN : r ≤ 16 := hrN0
    clear hrN0
    rw [if_pos (wanted_none rfl)]
    have e0 : a.tmps.getD 2 undef = .int .i64 (i : Int) := ho.slot 2 (by decide)
    go_simp
    exact hK _ _ (Touch.refl _ _) hW.less rfl
  · intro a W K r ho hW hr0 hrN0 hpre hK
    have hrN : r ≤ 16 := hrN0
    clear hrN0
    rw [if_pos (wanted_none rfl)]
    have e0 : a.tmps.getD 10 undef = .slice (some ⟨g, 0, none⟩) n cc := hpre ⟨2, .data⟩ (by simp) rfl _ rfl
    have e1 : a.tmps.getD 11 undef = .int .i64 (i : Int) := hpre ⟨3, .data⟩ (by simp) rfl _ rfl
    go_simp
    exact hK _ _ (Touch.refl _ _) hW.less rfl
  · intro a W K r ho hW hr0 hrN0 hpre hK
    have hrN : r ≤ 16 := hrN0
    clear hrN0
    rw [if_pos (wanted_none rfl)]
    have e0 : a.tmps.getD 12 undef = .pointer (some ⟨g, i * 4, none⟩) := hpre ⟨4, .data⟩ (by simp) rfl _ rfl
    go_simp
    exact hK _ _ (Touch.refl _ _) hW.less rfl
  · intro a W K r ho hW hr0 hrN0 hpre hK
    have hrN : r ≤ 16 := hrN0
    clear hrN0
    rw [if_pos (wanted_none rfl)]
    have e0 : a.tmps.getD 13 undef = .pointer (some ⟨g, i * 4 + 1, none⟩) := hpre ⟨5, .data⟩ (by simp) rfl _ rfl
    have hc := (FL.out W hW.2).2
    go_simp
    exact hK _ _ (Touch.refl _ _) hW.less rfl
  · intro a W K r ho hW hr0 hrN0 hpre hK
    have hrN : r ≤ 16 := hrN0
    clear hrN0
    rw [if_pos (wanted_none rfl)]
    have e0 : a.tmps.getD 0 undef = .pointer (some ⟨b, 0, none⟩) := ho.slot 0 (by decide)
    go_simp
    exact hK _ _ (Touch.refl _ _) hW.less rfl
  · intro a W K r ho hW hr0 hrN0 hpre hK
    have hrN : r ≤ 16 := hrN0
    clear hrN0
    rw [if_pos (wanted_none rfl)]
    have e0 : a.tmps.getD 15 undef = .pointer (some ⟨b, 0, none⟩) := hpre ⟨7, .data⟩ (by simp) rfl _ rfl
    go_simp
    refine (deck_nI 61 61 rfl W0 W A l c b _ hW.1 (by omega) (by omega) (by omega)).mono ?_
    rintro e w2 ⟨_, rfl, ⟨k, rfl, hk⟩, hd, ht⟩
    exact hK _ _ ht (hW.next hr0 hrN hd ht) ⟨(k : Int), rfl, by omega, by omega⟩
  · intro a W K r ho hW hr0 hrN0 hpre hK
    have hrN : r ≤ 16 := hrN0
    clear hrN0
    rw [if_pos (wanted_none rfl)]
    have e0 : a.tmps.getD 14 undef = .int .i64 p0 := hpre ⟨6, .data⟩ (by simp) rfl _ rfl
    have e1 : ((SpT.rng 0 60 : SpT b)).p (a.tmps.getD 16 undef) W := hpre ⟨8, .data⟩ (by simp) rfl _ rfl
    obtain ⟨x, e1, h1, g1⟩ := e1
    have hw : IntKind.i64.wrap (p0 + x) = p0 + x := wrap_id (by unfold I64; omega)
    go_simp
    exact hK _ _ (Touch.refl _ _) hW.less ⟨_, rfl, by omega, by omega⟩
  · intro a W K r ho hW hr0 hrN0 hpre hK
    have hrN : r ≤ 16 := hrN0
    clear hrN0
    rw [if_pos (wanted_none rfl)]
    have e0 : ((SpT.rng 1 1000000000060 : SpT b)).p (a.tmps.getD 17 undef) W := hpre ⟨9, .data⟩ (by simp) rfl _ rfl
    obtain ⟨x, e0, h1, g1⟩ := e0
    have hw : IntKind.i64.wrap (x - 30) = x - 30 := wrap_id (by unfold I64; omega)
    go_simp
    exact hK _ _ (Touch.refl _ _) hW.less ⟨_, rfl, by omega, by omega⟩
  · intro a W K r ho hW hr0 hrN0 hpre hK
    have hrN : r ≤ 16 := hrN0
    clear hrN0
    rw [if_pos (wanted_none rfl)]
    have e0 : ((SpT.rng (-29) 1000000000030 : SpT b)).p (a.tmps.getD 18 undef) W := hpre ⟨10, .data⟩ (by simp) rfl _ rfl
    obtain ⟨x, e0, h1, g1⟩ := e0
    rcases (by omega : x < 1000000000000 ∨ ¬ x < 1000000000000) with h2 | h2
    · go_simp
      exact hK _ _ (Touch.refl _ _) hW.less ⟨_, rfl, by omega, by omega⟩
    · go_simp
      exact hK _ _ (Touch.refl _ _) hW.less ⟨_, rfl, by omega, by omega⟩
  · intro a W K r ho hW hr0 hrN0 hpre hK
    have hrN : r ≤ 16 := hrN0
    clear hrN0
    rw [if_pos (wanted_none rfl)]
    have e0 : ((SpT.rng (-29) 1000000000000 : SpT b)).p (a.tmps.getD 19 undef) W := hpre ⟨11, .data⟩ (by simp) rfl _ rfl
    obtain ⟨x, e0, h1, g1⟩ := e0
    rcases (by omega : 1 < x ∨ ¬ 1 < x) with h2 | h2
    · go_simp
      exact hK _ _ (Touch.refl _ _) hW.less ⟨_, rfl, by omega, by omega⟩
    · go_simp
      exact hK _ _ (Touch.refl _ _) hW.less ⟨_, rfl, by omega, by omega⟩
  · intro a W K r ho hW hr0 hrN0 hpre hK
    have hrN : r ≤ 16 := hrN0
    clear hrN0
    rw [if_pos (wanted_none rfl)]
    have e0 : a.tmps.getD 8 undef = .int .i64 (i : Int) := hpre ⟨0, .data⟩ (by simp) rfl _ rfl
    have e1 : ((SpT.rng 1 1000000000000 : SpT b)).p (a.tmps.getD 20 undef) W := hpre ⟨12, .data⟩ (by simp) rfl _ rfl
    obtain ⟨x, e1, h1, g1⟩ := e1
    rw [Array.getD_eq_getD_getElem?] at e0 e1
    go_simp
    exact hK _ _ (Touch.refl _ _) hW.less ⟨x, rfl, h1, g1⟩
  · intro a W K r ho hW hr0 hrN0 hpre hK
    have hrN : r ≤ 16 := hrN0
    clear hrN0
    rw [if_pos (wanted_none rfl)]
    go_simp
    exact hK _ _ (Touch.of_below (fun k => k = b) ((Below.refl _ _).alloc (Nat.le_refl _) _)) (hW.keep ((Below.refl _ _).alloc (Nat.le_refl _) _)) ⟨_, rfl, (by have := hW.2.size; simpa using this), Rec.new _ _ Ev.zero.cells _ rfl⟩
  · intro a W K r ho hW hall hF
    have e0 : (SpT.box (b := b) (W1.heap.size + 2) (by omega)).p (a.tmps.getD 7 undef) W := hall 14 _ rfl
    have e1 : (SpT.such (b := b) (fun u => ∃ p : Int, u = (evMark (i : Int) p).v ∧ 1 ≤ p ∧ p ≤ 1000000000000)).p (a.tmps.getD 21 undef) W := hall 13 _ rfl
    obtain ⟨bX, e0, hbX, hE⟩ := e0
    obtain ⟨p, e1, hp3, hp4⟩ := e1
    obtain ⟨c0, c1, c2, c3, c4, c5, c6, c7⟩ := hE.reads
    have fz0 := Rec.frozen hE 0
    have fz1 := Rec.frozen hE 1
    have fz2 := Rec.frozen hE 2
    have fz3 := Rec.frozen hE 3
    have fz4 := Rec.frozen hE 4
    have fz5 := Rec.frozen hE 5
    have fz6 := Rec.frozen hE 6
    have fz7 := Rec.frozen hE 7
    unfold evMark Ev.v at e1
    dsimp only at e1
    have F := Lib.hid (hF (putE W bX (evMark (i : Int) p)) ⟨bX, p, e0, hbX, hp3, hp4, put_at hE _, (hW.1.touch (put_touch W bX _) (fun k e => by have := HD.out.low; omega) (by omega)).more (by omega), hW.2.trans (put_touch W bX _) (fun k hk e => by simp at hk; omega)⟩)
    unfold putE evMark at F
    dsimp only at F
    clear hF hall hW
    go_simp
    exact F.out
  · intro a W ho hF
    obtain ⟨bX, p, e7, hbX, hp3, hp4, hE, hD, hT⟩ := hF
    have heq := ho.eq
    clear ho
    simp only [putL, e7] at heq
    generalize a.tmps.getD 8 undef = u8 at heq
    generalize a.tmps.getD 9 undef = u9 at heq
    generalize a.tmps.getD 10 undef = u10 at heq
    generalize a.tmps.getD 11 undef = u11 at heq
    generalize a.tmps.getD 12 undef = u12 at heq
    generalize a.tmps.getD 13 undef = u13 at heq
    generalize a.tmps.getD 14 undef = u14 at heq
    generalize a.tmps.getD 15 undef = u15 at heq
    generalize a.tmps.getD 16 undef = u16 at heq
    generalize a.tmps.getD 17 undef = u17 at heq
    generalize a.tmps.getD 18 undef = u18 at heq
    generalize a.tmps.getD 19 undef = u19 at heq
    generalize a.tmps.getD 20 undef = u20 at heq
    generalize a.tmps.getD 21 undef = u21 at heq
    clear e7
    subst heq
    rename_i hKK
    refine hKK _ _ ?_
    go_simp
    have HRW := Lib.hid (HR.out.touch hT (by omega))
    have HE := Lib.hid hE
    have HT := Lib.hid hT
    have HDW := Lib.hid hD
    have CY := Lib.hid (deck_yesI 20 20 rfl W0 W A l c b (m + 16) hD (by omega) (by omega) (by omega))
    clear hE hT hD FL HR HC HD
    go_wp2_with (go_at_call 12; (with_reducible refine CY.out.mono ?_); rintro r w3 ⟨_, rfl, hee, hd3, ht3⟩; have HR3 := Lib.hid (HRW.out.touch ht3 (by omega)); have HE3 := Lib.hid (HE.out.touch ht3 (by omega)); have HT3 := Lib.hid (HT.out.trans ht3 (fun _ _ h => h)); have HD3 := Lib.hid hd3; have CS := Lib.hid (deck_some W0 w3 A l c b (m + 16 + 1) hd3 (by omega)); obtain ⟨c0, c1, c2, c3, c4, c5, c6, c7⟩ := HE3.out.reads; obtain ⟨d0, d1, d2, d3, d4, d5, d6, d7⟩ := HR3.out.reads; have fz0 := Rec.frozen HR3.out 0; have fz1 := Rec.frozen HR3.out 1; have fz2 := Rec.frozen HR3.out 2; have fz3 := Rec.frozen HR3.out 3; have fz4 := Rec.frozen HR3.out 4; have fz5 := Rec.frozen HR3.out 5; have fz6 := Rec.frozen HR3.out 6; have fz7 := Rec.frozen HR3.out 7; clear ht3 hd3; rcases hee with rfl | rfl)
    · go_wp2_with (go_at_call 29; (with_reducible refine CS.out.mono ?_); rintro r w4 ⟨_, rfl, ⟨s, rfl, hs⟩, hd4, ht4⟩; clear c0 c1 c2 c3 c4 c5 c6 c7 d0 d1 d2 d3 d4 d5 d6 d7 fz0 fz1 fz2 fz3 fz4 fz5 fz6 fz7; (obtain ⟨q, hq⟩ : ∃ q, q = s % 1000000000000 := ⟨_, rfl⟩); have hr7 : (s : Int) % 1000000000000 = (q : Int) := (by omega); have hql : q < 1000000000000 := (by omega); clear hq; have HR4 := Lib.hid (HR3.out.touch ht4 (by omega)); have HE4 := Lib.hid (HE3.out.touch ht4 (by omega)); have HT4 := Lib.hid (HT3.out.trans ht4 (fun _ _ h => h)); have HD4 := Lib.hid hd4; obtain ⟨c0, c1, c2, c3, c4, c5, c6, c7⟩ := HE4.out.reads; have gz7 := Rec.frozen HE4.out 7; obtain ⟨d0, d1, d2, d3, d4, d5, d6, d7⟩ := HR4.out.reads; have fz0 := Rec.frozen HR4.out 0; have fz1 := Rec.frozen HR4.out 1; have fz2 := Rec.frozen HR4.out 2; have fz3 := Rec.frozen HR4.out 3; have fz4 := Rec.frozen HR4.out 4; have fz5 := Rec.frozen HR4.out 5; have fz6 := Rec.frozen HR4.out 6; have fz7 := Rec.frozen HR4.out 7; clear ht4 hd4)
      have hne : W1.heap.size + 1 ≠ bX := by omega
      have K1 : EvAt (w4.setCell ⟨bX, 7, none⟩ (.int .i64 (1 + (q : Int)))) (W1.heap.size + 1) Ev.zero := HR4.out.touch (Touch.setCell w4 ⟨bX, 7, none⟩ _) hne
      obtain ⟨g0, g1, g2, g3, g4, g5, g6, g7⟩ := (put_at K1 (evMark (i : Int) (1 + (q : Int)))).reads
      simp only [putE, evMark] at g0 g1 g2 g3 g4 g5 g6 g7
      refine bodyPost_ret (v := (evMark (i : Int) (1 + (q : Int))).v) (by simp [results, Tryz.results45, go_sem, evMark, Ev.v, g0, g1, g2, g3, g4, g5, g6, g7]) rfl ⟨evMark (i : Int) (1 + (q : Int)), rfl, (mark_ok (by omega) (by omega)).1, (mark_ok (by omega) (by omega)).2, ?_, ?_⟩
      · exact (((HD4.out.touch (Touch.setCell w4 ⟨bX, 7, none⟩ _) (fun k e => by have := HLO.out; simp only at e; omega) (by simp only; omega)).touch (put_touch _ (W1.heap.size + 1) (evMark (i : Int) (1 + (q : Int)))) (fun k e => by have := HLO.out; omega) (by omega)).more (by omega))
      · exact (((touch_keep HB2.out).trans HT4.out (fun _ _ h => h)).trans (Touch.setCell w4 ⟨bX, 7, none⟩ _) (fun k hk e => by simp only at e; omega)).trans (put_touch _ (W1.heap.size + 1) (evMark (i : Int) (1 + (q : Int)))) (fun k hk e => by omega)
    · go_wp2
      obtain ⟨g0, g1, g2, g3, g4, g5, g6, g7⟩ := (put_at HR3.out (evMark (i : Int) p)).reads
      simp only [putE, evMark] at g0 g1 g2 g3 g4 g5 g6 g7
      refine bodyPost_ret (v := (evMark (i : Int) p).v) (by simp [results, Tryz.results45, go_sem, evMark, Ev.v, g0, g1, g2, g3, g4, g5, g6, g7]) rfl ⟨evMark (i : Int) p, rfl, (mark_ok (by omega) ⟨hp3, hp4⟩).1, (mark_ok (by omega) ⟨hp3, hp4⟩).2, ?_, ?_⟩
      · exact ((HD3.out.touch (put_touch _ (W1.heap.size + 1) (evMark (i : Int) p)) (fun k e => by have := HLO.out; omega) (by omega)).more (by omega))
      · exact ((touch_keep HB2.out).trans HT3.out (fun _ _ h => h)).trans (put_touch _ (W1.heap.size + 1) (evMark (i : Int) p)) (fun k hk e => by omega)
end Go.Proofs.YtmpipjangbedkaaGreat
