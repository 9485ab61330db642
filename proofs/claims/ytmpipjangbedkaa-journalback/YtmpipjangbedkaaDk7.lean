/-
  The walk of novationseat's mark.
-/
import Derived.Test.YtmpipjangbedkaaMDk5
namespace Go.Proofs.Ytmpipjangbedkaa
set_option maxRecDepth 8000
open Go Go.RowKit
set_option linter.unusedVariables false

theorem wrap_id {x : Int} (h : I64 x) : IntKind.i64.wrap x = x := by unfold I64 at h; simp [IntKind.wrap, IntKind.bits, IntKind.signed]; omega
/-- A mark. -/
def evMark (i p : Int) : Ev := ⟨9, 0, 0, i, 0, 0, 0, p⟩
theorem mark_ok {i p : Int} (hi : 0 ≤ i ∧ i ≤ 5) (hp : 1 ≤ p ∧ p ≤ 1000000000000) : (evMark i p).Ok ∧ rightE (evMark i p) = true := by
  constructor
  · constructor <;> (unfold I64 evMark; simp only; omega)
  · rw [right_seven]
    simp [evMark, seven, inA, loA, hiA, fieldsOf, loF, hiF, loP, hiP, Ev.val]
    omega
set_option maxRecDepth 100000 in
set_option maxHeartbeats 4000000 in
theorem deck_mark (W0 W1 : World) (A : Option Addr) (l : List Int) (c b m : Nat) (h : Deck W0 A l c b m W1) (hm : m < 900000000) (cf : Cfg) (v : Value) (hv : CfgIn b v cf W1) (i : Nat) (hi : i < cf.insts.length) :
    Calls Try.prog 41 #[.pointer (some ⟨b, 0, none⟩), cf.v v, .int .i64 (i : Int)] W1 (EvD W0 A l c b (m + 60) W1) := by
  obtain ⟨g, n, cc, pr, rfl, hn1, hn4, hnl, hcc, hcc2, hpr, hcell⟩ := hv.opened
  rw [← hnl] at hi
  have hp2 := hpr i hi
  obtain ⟨p0, hp0⟩ : ∃ p0, p0 = pr i := ⟨_, rfl⟩
  rw [← hp0] at hp2
  have hb1 : Below W1.heap.size W1 (W1.alloc (.cells (cf.cells (.slice (some ⟨g, 0, none⟩) n cc)).toArray 28)) := (Below.refl _ _).alloc (Nat.le_refl _) _
  have hb2 : Below W1.heap.size W1 ((W1.alloc (.cells (cf.cells (.slice (some ⟨g, 0, none⟩) n cc)).toArray 28)).alloc (.cells Ev.zero.cells.toArray 38)) := hb1.alloc hb1.size _
  have HD := Lib.hid (h.keep hb2)
  have HC : Hid (Rec ((W1.alloc (.cells (cf.cells (.slice (some ⟨g, 0, none⟩) n cc)).toArray 28)).alloc (.cells Ev.zero.cells.toArray 38)) W1.heap.size 28 (cf.cells (.slice (some ⟨g, 0, none⟩) n cc))) := Lib.hid ((Rec.new W1 _ (cf.cells (.slice (some ⟨g, 0, none⟩) n cc)) _ rfl).keep ((Below.refl _ _).alloc (Nat.le_refl _) _))
  have HR : Hid (EvAt ((W1.alloc (.cells (cf.cells (.slice (some ⟨g, 0, none⟩) n cc)).toArray 28)).alloc (.cells Ev.zero.cells.toArray 38)) (W1.heap.size + 1) Ev.zero) := Lib.hid (Rec.new _ _ _ _ (by simp))
  have HB2 := Lib.hid hb2
  have hbl : b < W1.heap.size := by obtain ⟨_, _, hr⟩ := h.box; exact hr.lt
  have HLO := Lib.hid h.low
  have FL : Hid (∀ W, Touch (fun k => k = b) ((W1.alloc (.cells (cf.cells (.slice (some ⟨g, 0, none⟩) n cc)).toArray 28)).alloc (.cells Ev.zero.cells.toArray 38)) W → W.cell? ⟨W1.heap.size, 0, none⟩ = some (.slice (some ⟨g, 0, none⟩) n cc) ∧ W.cell? ⟨g, i * 4 + 1, none⟩ = some (.int .i64 p0)) := Lib.hid (fun W ht => by
    refine ⟨(HC.out.touch ht (by omega)).cell 0 rfl, ?_⟩
    rw [hp0]
    exact hcell W ((touch_keep HB2.out).trans ht (fun _ _ h => h)) i hi)
  unfold Cfg.v
  have hi5 : i ≤ 5 := by omega
  clear h hv hb1 hb2 hpr hp0 hnl hcell
  go_enter Try.func41, Try.ntmps41
  go_wp2
  refine wp_region_dagV [8, 9, 10, 11, 12, 13, 14, 15, 16, 17, 18, 19, 20, 21, 7] (fun W W' => Touch (fun k => k = b) W W') (DW W0 A l c b m 16 _) (spT (b := b) [.val (.int .i64 (i : Int)), .val (.pointer (some ⟨W1.heap.size, 0, none⟩)), .val (.slice (some ⟨g, 0, none⟩) n cc), .val (.int .i64 (i : Int)), .val (.pointer (some ⟨g, i * 4, none⟩)), .val (.pointer (some ⟨g, i * 4 + 1, none⟩)), .val (.int .i64 p0), .val (.pointer (some ⟨b, 0, none⟩)), .rng 0 60, .rng 1 1000000000060, .rng (-29) 1000000000030, .rng (-29) 1000000000000, .rng 1 1000000000000, .such (fun u => ∃ p : Int, u = (evMark (i : Int) p).v ∧ 1 ≤ p ∧ p ≤ 1000000000000), .box (W1.heap.size + 2) (by omega)]) (fun a W => ∃ (bX : Nat) (p : Int), a.tmps.getD 7 undef = .pointer (some ⟨bX, 0, none⟩) ∧ W1.heap.size + 2 ≤ bX ∧ 1 ≤ p ∧ p ≤ 1000000000000 ∧ EvAt W bX (evMark (i : Int) p) ∧ Deck W0 A l c b (m + 16) W ∧ Touch (fun k => k = b) ((W1.alloc (.cells (cf.cells (.slice (some ⟨g, 0, none⟩) n cc)).toArray 28)).alloc (.cells Ev.zero.cells.toArray 38)) W) rfl rfl rfl rfl rfl rfl rfl rfl (spT_st _) (DW.start HD.out) ⟨?_, ?_, ?_, ?_, ?_, ?_, ?_, ?_, ?_, ?_, ?_, ?_, ?_, ?_, ?_, trivial⟩ ?_ ?_
  · intro a W K r ho hW hr0 hrN0 hpre hK
    have hrN : r ≤ 16 := hrN0
    clear hrN0
    rw [if_pos (wanted_none rfl)]
    have e0 : a.tmps.getD 2 undef = .int .i64 (i : Int) := ho.slot 2 (by decide)
    go_simp
    exact hK _ _ (Touch.refl _ _) hW.less rfl
  · intro a W K r ho hW hr0 hrN0 hpre hK
    have hrN : r ≤ 16 := hrN0
    clear hrN0
    rw [if_pos (wanted_none rfl)]
    have e0 : a.tmps.getD 4 undef = .pointer (some ⟨W1.heap.size, 0, none⟩) := ho.slot 4 (by decide)
    go_simp
    exact hK _ _ (Touch.refl _ _) hW.less rfl
  · intro a W K r ho hW hr0 hrN0 hpre hK
    have hrN : r ≤ 16 := hrN0
    clear hrN0
    rw [if_pos (wanted_none rfl)]
    have e0 : a.tmps.getD 9 undef = .pointer (some ⟨W1.heap.size, 0, none⟩) := hpre ⟨1, .data⟩ (by simp) rfl _ rfl
    have hc := (FL.out W hW.2).1
    go_simp
    exact hK _ _ (Touch.refl _ _) hW.less rfl
  · intro a W K r ho hW hr0 hrN0 hpre hK
    have hrN : r ≤ 16 := hrN0
    clear hrN0
    rw [if_pos (wanted_none rfl)]
    have e0 : a.tmps.getD 2 undef = .int .i64 (i : Int) := ho.slot 2 (by decide)
    go_simp
    exact hK _ _ (Touch.refl _ _) hW.less rfl
  · intro a W K r ho hW hr0 hrN0 hpre hK
    have hrN : r ≤ 16 := hrN0
    clear hrN0
    rw [if_pos (wanted_none rfl)]
    have e0 : a.tmps.getD 10 undef = .slice (some ⟨g, 0, none⟩) n cc := hpre ⟨2, .data⟩ (by simp) rfl _ rfl
    have e1 : a.tmps.getD 11 undef = .int .i64 (i : Int) := hpre ⟨3, .data⟩ (by simp) rfl _ rfl
    go_simp
    exact hK _ _ (Touch.refl _ _) hW.less rfl
  · intro a W K r ho hW hr0 hrN0 hpre hK
    have hrN : r ≤ 16 := hrN0
    clear hrN0
    rw [if_pos (wanted_none rfl)]
    have e0 : a.tmps.getD 12 undef = .pointer (some ⟨g, i * 4, none⟩) := hpre ⟨4, .data⟩ (by simp) rfl _ rfl
    go_simp
    exact hK _ _ (Touch.refl _ _) hW.less rfl
  · intro a W K r ho hW hr0 hrN0 hpre hK
    have hrN : r ≤ 16 := hrN0
    clear hrN0
    rw [if_pos (wanted_none rfl)]
    have e0 : a.tmps.getD 13 undef = .pointer (some ⟨g, i * 4 + 1, none⟩) := hpre ⟨5, .data⟩ (by simp) rfl _ rfl
    have hc := (FL.out W hW.2).2
    go_simp
    exact hK _ _ (Touch.refl _ _) hW.less rfl
  · intro a W K r ho hW hr0 hrN0 hpre hK
    have hrN : r ≤ 16 := hrN0
    clear hrN0
    rw [if_pos (wanted_none rfl)]
    have e0 : a.tmps.getD 0 undef = .pointer (some ⟨b, 0, none⟩) := ho.slot 0 (by decide)
    go_simp
    exact hK _ _ (Touch.refl _ _) hW.less rfl
  · intro a W K r ho hW hr0 hrN0 hpre hK
    have hrN : r ≤ 16 := hrN0
    clear hrN0
    rw [if_pos (wanted_none rfl)]
    have e0 : a.tmps.getD 15 undef = .pointer (some ⟨b, 0, none⟩) := hpre ⟨7, .data⟩ (by simp) rfl _ rfl
    go_simp
    refine (deck_nI 61 61 rfl W0 W A l c b _ hW.1 (by omega) (by omega) (by omega)).mono ?_
    rintro e w2 ⟨_, rfl, ⟨k, rfl, hk⟩, hd, ht⟩
    exact hK _ _ ht (hW.next hr0 hrN hd ht) ⟨(k : Int), rfl, by omega, by omega⟩
  · intro a W K r ho hW hr0 hrN0 hpre hK
    have hrN : r ≤ 16 := hrN0
    clear hrN0
    rw [if_pos (wanted_none rfl)]
    have e0 : a.tmps.getD 14 undef = .int .i64 p0 := hpre ⟨6, .data⟩ (by simp) rfl _ rfl
    have e1 : ((SpT.rng 0 60 : SpT b)).p (a.tmps.getD 16 undef) W := hpre ⟨8, .data⟩ (by simp) rfl _ rfl
    obtain ⟨x, e1, h1, g1⟩ := e1
    have hw : IntKind.i64.wrap (p0 + x) = p0 + x := wrap_id (by unfold I64; omega)
    go_simp
    exact hK _ _ (Touch.refl _ _) hW.less ⟨_, rfl, by omega, by omega⟩
  · intro a W K r ho hW hr0 hrN0 hpre hK
    have hrN : r ≤ 16 := hrN0
    clear hrN0
    rw [if_pos (wanted_none rfl)]
    have e0 : ((SpT.rng 1 1000000000060 : SpT b)).p (a.tmps.getD 17 undef) W := hpre ⟨9, .data⟩ (by simp) rfl _ rfl
    obtain ⟨x, e0, h1, g1⟩ := e0
    have hw : IntKind.i64.wrap (x - 30) = x - 30 := wrap_id (by unfold I64; omega)
    go_simp
    exact hK _ _ (Touch.refl _ _) hW.less ⟨_, rfl, by omega, by omega⟩
  · intro a W K r ho hW hr0 hrN0 hpre hK
    have hrN : r ≤ 16 := hrN0
    clear hrN0
    rw [if_pos (wanted_none rfl)]
    have e0 : ((SpT.rng (-29) 1000000000030 : SpT b)).p (a.tmps.getD 18 undef) W := hpre ⟨10, .data⟩ (by simp) rfl _ rfl
    obtain ⟨x, e0, h1, g1⟩ := e0
    rcases (by omega : x < 1000000000000 ∨ ¬ x < 1000000000000) with h2 | h2
    · go_simp
      exact hK _ _ (Touch.refl _ _) hW.less ⟨_, rfl, by omega, by omega⟩
    · go_simp
      exact hK _ _ (Touch.refl _ _) hW.less ⟨_, rfl, by omega, by omega⟩
  · intro a W K r ho hW hr0 hrN0 hpre hK
    have hrN : r ≤ 16 := hrN0
    clear hrN0
    rw [if_pos (wanted_none rfl)]
    have e0 : ((SpT.rng (-29) 1000000000000 : SpT b)).p (a.tmps.getD 19 undef) W := hpre ⟨11, .data⟩ (by simp) rfl _ rfl
    obtain ⟨x, e0, h1, g1⟩ := e0
    rcases (by omega : 1 < x ∨ ¬ 1 < x) with h2 | h2
    · go_simp
      exact hK _ _ (Touch.refl _ _) hW.less ⟨_, rfl, by omega, by omega⟩
    · go_simp
      exact hK _ _ (Touch.refl _ _) hW.less ⟨_, rfl, by omega, by omega⟩
  · intro a W K r ho hW hr0 hrN0 hpre hK
    have hrN : r ≤ 16 := hrN0
    clear hrN0
    rw [if_pos (wanted_none rfl)]
    have e0 : a.tmps.getD 8 undef = .int .i64 (i : Int) := hpre ⟨0, .data⟩ (by simp) rfl _ rfl
    have e1 : ((SpT.rng 1 1000000000000 : SpT b)).p (a.tmps.getD 20 undef) W := hpre ⟨12, .data⟩ (by simp) rfl _ rfl
    obtain ⟨x, e1, h1, g1⟩ := e1
    rw [Array.getD_eq_getD_getElem?] at e0 e1
    go_simp
    exact hK _ _ (Touch.refl _ _) hW.less ⟨x, rfl, h1, g1⟩
  · intro a W K r ho hW hr0 hrN0 hpre hK
    have hrN : r ≤ 16 := hrN0
    clear hrN0
    rw [if_pos (wanted_none rfl)]
    go_simp
    exact hK _ _ (Touch.of_below (fun k => k = b) ((Below.refl _ _).alloc (Nat.le_refl _) _)) (hW.keep ((Below.refl _ _).alloc (Nat.le_refl _) _)) ⟨_, rfl, (by have := hW.2.size; simpa using this), Rec.new _ _ Ev.zero.cells _ rfl⟩
  · intro a W K r ho hW hall hF
    have e0 : (SpT.box (b := b) (W1.heap.size + 2) (by omega)).p (a.tmps.getD 7 undef) W := hall 14 _ rfl
    have e1 : (SpT.such (b := b) (fun u => ∃ p : Int, u = (evMark (i : Int) p).v ∧ 1 ≤ p ∧ p ≤ 1000000000000)).p (a.tmps.getD 21 undef) W := hall 13 _ rfl
    obtain ⟨bX, e0, hbX, hE⟩ := e0
    obtain ⟨p, e1, hp3, hp4⟩ := e1
    obtain ⟨c0, c1, c2, c3, c4, c5, c6, c7⟩ := hE.reads
    have fz0 := Rec.frozen hE 0
    have fz1 := Rec.frozen hE 1
    have fz2 := Rec.frozen hE 2
    have fz3 := Rec.frozen hE 3
    have fz4 := Rec.frozen hE 4
    have fz5 := Rec.frozen hE 5
    have fz6 := Rec.frozen hE 6
    have fz7 := Rec.frozen hE 7
    unfold evMark Ev.v at e1
    dsimp only at e1
    have F := Lib.hid (hF (putE W bX (evMark (i : Int) p)) ⟨bX, p, e0, hbX, hp3, hp4, put_at hE _, (hW.1.touch (put_touch W bX _) (fun k e => by have := HD.out.low; omega) (by omega)).more (by omega), hW.2.trans (put_touch W bX _) (fun k hk e => by simp at hk; omega)⟩)
    unfold putE evMark at F
    dsimp only at F
    clear hF hall hW
    go_simp
    exact F.out
  · intro a W ho hF
    obtain ⟨bX, p, e7, hbX, hp3, hp4, hE, hD, hT⟩ := hF
    have heq := ho.eq
    clear ho
    simp only [putL, e7] at heq
    generalize a.tmps.getD 8 undef = u8 at heq
    generalize a.tmps.getD 9 undef = u9 at heq
    generalize a.tmps.getD 10 undef = u10 at heq
    generalize a.tmps.getD 11 undef = u11 at heq
    generalize a.tmps.getD 12 undef = u12 at heq
    generalize a.tmps.getD 13 undef = u13 at heq
    generalize a.tmps.getD 14 undef = u14 at heq
    generalize a.tmps.getD 15 undef = u15 at heq
    generalize a.tmps.getD 16 undef = u16 at heq
    generalize a.tmps.getD 17 undef = u17 at heq
    generalize a.tmps.getD 18 undef = u18 at heq
    generalize a.tmps.getD 19 undef = u19 at heq
    generalize a.tmps.getD 20 undef = u20 at heq
    generalize a.tmps.getD 21 undef = u21 at heq
    clear e7
    subst heq
    rename_i hKK
    refine hKK _ _ ?_
    go_simp
    have HRW := Lib.hid (HR.out.touch hT (by omega))
    have HE := Lib.hid hE
    have HT := Lib.hid hT
    have HDW := Lib.hid hD
    have CY := Lib.hid (deck_yesI 20 20 rfl W0 W A l c b (m + 16) hD (by omega) (by omega) (by omega))
    clear hE hT hD FL HR HC HD
    go_wp2_with (go_at_call 25; (with_reducible refine CY.out.mono ?_); rintro r w3 ⟨_, rfl, hee, hd3, ht3⟩; have HR3 := Lib.hid (HRW.out.touch ht3 (by omega)); have HE3 := Lib.hid (HE.out.touch ht3 (by omega)); have HT3 := Lib.hid (HT.out.trans ht3 (fun _ _ h => h)); have HD3 := Lib.hid hd3; have CS := Lib.hid (deck_some W0 w3 A l c b (m + 16 + 1) hd3 (by omega)); obtain ⟨c0, c1, c2, c3, c4, c5, c6, c7⟩ := HE3.out.reads; obtain ⟨d0, d1, d2, d3, d4, d5, d6, d7⟩ := HR3.out.reads; have fz0 := Rec.frozen HR3.out 0; have fz1 := Rec.frozen HR3.out 1; have fz2 := Rec.frozen HR3.out 2; have fz3 := Rec.frozen HR3.out 3; have fz4 := Rec.frozen HR3.out 4; have fz5 := Rec.frozen HR3.out 5; have fz6 := Rec.frozen HR3.out 6; have fz7 := Rec.frozen HR3.out 7; clear ht3 hd3; rcases hee with rfl | rfl)
    · go_wp2_with (go_at_call 26; (with_reducible refine CS.out.mono ?_); rintro r w4 ⟨_, rfl, ⟨s, rfl, hs⟩, hd4, ht4⟩; clear c0 c1 c2 c3 c4 c5 c6 c7 d0 d1 d2 d3 d4 d5 d6 d7 fz0 fz1 fz2 fz3 fz4 fz5 fz6 fz7; (obtain ⟨q, hq⟩ : ∃ q, q = s % 1000000000000 := ⟨_, rfl⟩); have hr7 : (s : Int) % 1000000000000 = (q : Int) := (by omega); have hql : q < 1000000000000 := (by omega); clear hq; have HR4 := Lib.hid (HR3.out.touch ht4 (by omega)); have HE4 := Lib.hid (HE3.out.touch ht4 (by omega)); have HT4 := Lib.hid (HT3.out.trans ht4 (fun _ _ h => h)); have HD4 := Lib.hid hd4; obtain ⟨c0, c1, c2, c3, c4, c5, c6, c7⟩ := HE4.out.reads; have gz7 := Rec.frozen HE4.out 7; obtain ⟨d0, d1, d2, d3, d4, d5, d6, d7⟩ := HR4.out.reads; have fz0 := Rec.frozen HR4.out 0; have fz1 := Rec.frozen HR4.out 1; have fz2 := Rec.frozen HR4.out 2; have fz3 := Rec.frozen HR4.out 3; have fz4 := Rec.frozen HR4.out 4; have fz5 := Rec.frozen HR4.out 5; have fz6 := Rec.frozen HR4.out 6; have fz7 := Rec.frozen HR4.out 7; clear ht4 hd4)
      have hne : W1.heap.size + 1 ≠ bX := by omega
      have K1 : EvAt (w4.setCell ⟨bX, 7, none⟩ (.int .i64 (1 + (q : Int)))) (W1.heap.size + 1) Ev.zero := HR4.out.touch (Touch.setCell w4 ⟨bX, 7, none⟩ _) hne
      obtain ⟨g0, g1, g2, g3, g4, g5, g6, g7⟩ := (put_at K1 (evMark (i : Int) (1 + (q : Int)))).reads
      simp only [putE, evMark] at g0 g1 g2 g3 g4 g5 g6 g7
      refine bodyPost_ret (v := (evMark (i : Int) (1 + (q : Int))).v) (by simp [results, Try.results41, go_sem, evMark, Ev.v, g0, g1, g2, g3, g4, g5, g6, g7]) rfl ⟨evMark (i : Int) (1 + (q : Int)), rfl, (mark_ok (by omega) (by omega)).1, (mark_ok (by omega) (by omega)).2, ?_, ?_⟩
      · exact (((HD4.out.touch (Touch.setCell w4 ⟨bX, 7, none⟩ _) (fun k e => by have := HLO.out; simp only at e; omega) (by simp only; omega)).touch (put_touch _ (W1.heap.size + 1) (evMark (i : Int) (1 + (q : Int)))) (fun k e => by have := HLO.out; omega) (by omega)).more (by omega))
      · exact (((touch_keep HB2.out).trans HT4.out (fun _ _ h => h)).trans (Touch.setCell w4 ⟨bX, 7, none⟩ _) (fun k hk e => by simp only at e; omega)).trans (put_touch _ (W1.heap.size + 1) (evMark (i : Int) (1 + (q : Int)))) (fun k hk e => by omega)
    · go_wp2
      obtain ⟨g0, g1, g2, g3, g4, g5, g6, g7⟩ := (put_at HR3.out (evMark (i : Int) p)).reads
      simp only [putE, evMark] at g0 g1 g2 g3 g4 g5 g6 g7
      refine bodyPost_ret (v := (evMark (i : Int) p).v) (by simp [results, Try.results41, go_sem, evMark, Ev.v, g0, g1, g2, g3, g4, g5, g6, g7]) rfl ⟨evMark (i : Int) p, rfl, (mark_ok (by omega) ⟨hp3, hp4⟩).1, (mark_ok (by omega) ⟨hp3, hp4⟩).2, ?_, ?_⟩
      · exact ((HD3.out.touch (put_touch _ (W1.heap.size + 1) (evMark (i : Int) p)) (fun k e => by have := HLO.out; omega) (by omega)).more (by omega))
      · exact ((touch_keep HB2.out).trans HT3.out (fun _ _ h => h)).trans (put_touch _ (W1.heap.size + 1) (evMark (i : Int) p)) (fun k hk e => by omega)
end Go.Proofs.Ytmpipjangbedkaa
