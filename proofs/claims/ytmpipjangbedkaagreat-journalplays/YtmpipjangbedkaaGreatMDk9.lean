import Derived.Test.YtmpipjangbedkaaGreatMDk8
/-
  The walks of novationseat's Of and Event.
-/
namespace Go.Proofs.YtmpipjangbedkaaGreat
set_option maxRecDepth 8000
open Go Go.RowKit
set_option linter.unusedVariables false

def Good (e : Ev) : Prop := e.Ok ∧ rightE e = true
theorem good_all : (∀ k m : Int, (k = 1 ∨ k = 11 ∨ k = 12 ∨ k = 13) → 1 ≤ m → m ≤ 12 → Good ⟨k, m, 0, 0, 0, 0, 0, 0⟩) ∧ (∀ m x : Int, 1 ≤ m → m ≤ 12 → 1 ≤ x → x ≤ 24 → Good ⟨14, m, x, 0, 0, 0, 0, 0⟩) ∧ (∀ k : Int, (k = 15 ∨ k = 16 ∨ k = 18 ∨ k = 20 ∨ k = 21) → Good ⟨k, 0, 0, 0, 0, 0, 0, 0⟩) ∧
    (∀ m x s : Int, 1 ≤ m → m ≤ 12 → 1 ≤ x → x ≤ 24 → 1 ≤ s → s ≤ 2 → Good ⟨2, m, x, 0, s, 0, 0, 0⟩) ∧ (∀ x d : Int, 1 ≤ x → x ≤ 24 → 1 ≤ d → d ≤ 1099511627776 → Good ⟨8, 0, x, 0, 0, d, 0, 0⟩) ∧ (∀ q : Int, 1 ≤ q → q ≤ 1000000 → Good ⟨10, 0, 0, 0, 0, 0, q, 0⟩) ∧
    (∀ k x q : Int, (k = 3 ∨ k = 4) → 1 ≤ x → x ≤ 24 → 1 ≤ q → q ≤ 9223372036854775807 → Good ⟨k, 0, x, 0, 0, 0, q, 0⟩) ∧ (∀ k m q : Int, (k = 5 ∨ k = 22) → 1 ≤ m → m ≤ 12 → 1 ≤ q → q ≤ 9223372036854775807 → Good ⟨k, m, 0, 0, 0, 0, q, 0⟩) ∧ (∀ x q : Int, 1 ≤ x → x ≤ 24 → 0 ≤ q → q ≤ 1000000000000 → Good ⟨6, 0, x, 0, 0, 0, q, 0⟩) ∧
    (∀ m d p : Int, 1 ≤ m → m ≤ 12 → 1 ≤ d → d ≤ 1099511627776 → -1152921504606846976 ≤ p → p ≤ 1152921504606846976 → Good ⟨19, m, 0, 0, 0, d, 0, p⟩) ∧ (∀ x d q p : Int, 1 ≤ x → x ≤ 24 → 1 ≤ d → d ≤ 1099511627776 → 1 ≤ q → q ≤ 1000000000 → 1 ≤ p → p ≤ 1000000000000 → Good ⟨17, 0, x, 0, 0, d, q, p⟩) := by
  refine ⟨?_, ?_, ?_, ?_, ?_, ?_, ?_, ?_, ?_, ?_, ?_⟩
  case refine_1 => rintro k m (rfl | rfl | rfl | rfl) <;> intros <;> exact ⟨⟨by unfold I64; simp only; omega, by unfold I64; simp only; omega, by unfold I64; simp only; omega, by unfold I64; simp only; omega, by unfold I64; simp only; omega, by unfold I64; simp only; omega, by unfold I64; simp only; omega, by unfold I64; simp only; omega⟩, by rw [right_seven]; simp [seven, inA, loA, hiA, fieldsOf, loF, hiF, Ev.val]; omega⟩
  case refine_3 => rintro k (rfl | rfl | rfl | rfl | rfl) <;> exact ⟨⟨by unfold I64; simp only; omega, by unfold I64; simp only; omega, by unfold I64; simp only; omega, by unfold I64; simp only; omega, by unfold I64; simp only; omega, by unfold I64; simp only; omega, by unfold I64; simp only; omega, by unfold I64; simp only; omega⟩, by decide⟩
  case refine_7 => rintro k x q (rfl | rfl) <;> intros <;> exact ⟨⟨by unfold I64; simp only; omega, by unfold I64; simp only; omega, by unfold I64; simp only; omega, by unfold I64; simp only; omega, by unfold I64; simp only; omega, by unfold I64; simp only; omega, by unfold I64; simp only; omega, by unfold I64; simp only; omega⟩, by rw [right_seven]; simp [seven, inA, loA, hiA, fieldsOf, loF, hiF, loQ, hiQ, Ev.val]; omega⟩
  case refine_8 => rintro k x q (rfl | rfl) <;> intros <;> exact ⟨⟨by unfold I64; simp only; omega, by unfold I64; simp only; omega, by unfold I64; simp only; omega, by unfold I64; simp only; omega, by unfold I64; simp only; omega, by unfold I64; simp only; omega, by unfold I64; simp only; omega, by unfold I64; simp only; omega⟩, by rw [right_seven]; simp [seven, inA, loA, hiA, fieldsOf, loF, hiF, loQ, hiQ, Ev.val]; omega⟩
  all_goals intros
  all_goals exact ⟨⟨by unfold I64; simp only; omega, by unfold I64; simp only; omega, by unfold I64; simp only; omega, by unfold I64; simp only; omega, by unfold I64; simp only; omega, by unfold I64; simp only; omega, by unfold I64; simp only; omega, by unfold I64; simp only; omega⟩, by rw [right_seven]; simp [seven, inA, loA, hiA, fieldsOf, loF, hiF, loQ, hiQ, loP, hiP, Ev.val]; omega⟩
set_option maxRecDepth 100000 in
set_option maxHeartbeats 40000000 in
theorem deck_event (W0 W1 : World) (A : Option Addr) (l : List Int) (c b m : Nat) (h : Deck W0 A l c b m W1) (hm : m < 800000000) (cf : Cfg) (v : Value) (hv : CfgIn b v cf W1) :
    Calls Tryz.prog 17 #[.pointer (some ⟨b, 0, none⟩), cf.v v] W1 (EvD W0 A l c b (m + 100) W1) := by
  obtain ⟨g, n, cc, pr, rfl, hn1, hn4, hnl, hcc, hcc2, hpr, hcell⟩ := hv.opened
  have hb1 : Below W1.heap.size W1 (W1.alloc (.cells (cf.cells (.slice (some ⟨g, 0, none⟩) n cc)).toArray 31)) := (Below.refl _ _).alloc (Nat.le_refl _) _
  have hb2 : Below W1.heap.size W1 ((W1.alloc (.cells (cf.cells (.slice (some ⟨g, 0, none⟩) n cc)).toArray 31)).alloc (.cells Ev.zero.cells.toArray 51)) := hb1.alloc hb1.size _
  have HD2 := Lib.hid (h.keep hb2)
  have HC : Hid (Rec ((W1.alloc (.cells (cf.cells (.slice (some ⟨g, 0, none⟩) n cc)).toArray 31)).alloc (.cells Ev.zero.cells.toArray 51)) W1.heap.size 31 (cf.cells (.slice (some ⟨g, 0, none⟩) n cc))) := Lib.hid ((Rec.new W1 _ (cf.cells (.slice (some ⟨g, 0, none⟩) n cc)) _ rfl).keep ((Below.refl _ _).alloc (Nat.le_refl _) _))
  have HR : Hid (EvAt ((W1.alloc (.cells (cf.cells (.slice (some ⟨g, 0, none⟩) n cc)).toArray 31)).alloc (.cells Ev.zero.cells.toArray 51)) (W1.heap.size + 1) Ev.zero) := Lib.hid (Rec.new _ _ _ _ (by simp))
  have HB2 := Lib.hid hb2
  have hbl : b < W1.heap.size := by obtain ⟨_, _, hr⟩ := h.box; exact hr.lt
  have HLO := Lib.hid h.low
  have FL : Hid (∀ W, Touch (fun k => k = b) ((W1.alloc (.cells (cf.cells (.slice (some ⟨g, 0, none⟩) n cc)).toArray 31)).alloc (.cells Ev.zero.cells.toArray 51)) W → W.cell? ⟨W1.heap.size, 0, none⟩ = some (.slice (some ⟨g, 0, none⟩) n cc) ∧ ∀ i, i < n → W.cell? ⟨g, i * 4 + 1, none⟩ = some (.int .i64 (pr i))) := Lib.hid (fun W ht =>
    ⟨(HC.out.touch ht (by omega)).cell 0 rfl, fun i hi => hcell W ((touch_keep HB2.out).trans ht (fun _ _ h => h)) i hi⟩)
  have HPR := Lib.hid hpr
  have HV := Lib.hid hv
  have HNL := Lib.hid hnl
  unfold Cfg.v
  clear h hv hb1 hb2 hpr hnl hcell
  go_enter Tryz.func17, Tryz.ntmps17
  go_wp2
  refine wp_region_dagU [9, 10, 11, 12, 13, 14, 15, 16, 17, 18, 19, 5, 6, 7] (fun W W' => Touch (fun k => k = b) W W') (DW W0 A l c b m 14 _) (spT (b := b) [.val (.pointer (some ⟨b, 0, none⟩)), .rng 0 3, .rng 1 4, .val (.pointer (some ⟨b, 0, none⟩)), .rng 0 6, .rng 1 7, .val (.pointer (some ⟨b, 0, none⟩)), .val (.pointer (some ⟨W1.heap.size, 0, none⟩)), .val (.slice (some ⟨g, 0, none⟩) n cc), .val (.int .i64 (n : Int)), .rng 0 ((n : Int) - 1), .rng 1 4, .rng 1 7, .rng 0 ((n : Int) - 1)]) rfl rfl rfl rfl (spT_st _) (DW.start HD2.out) ⟨?_, ?_, ?_, ?_, ?_, ?_, ?_, ?_, ?_, ?_, ?_, ?_, ?_, ?_, trivial⟩ ?_
  · intro a W K r ho hW hr0 hrN0 hpre hK
    have hrN : r ≤ 14 := hrN0
    clear hrN0
    rw [if_pos (wanted_none rfl)]
    have e0 : a.tmps.getD 0 undef = .pointer (some ⟨b, 0, none⟩) := ho.slot 0 (by decide)
    go_simp
    exact hK _ _ (Touch.refl _ _) hW.less rfl
  · intro a W K r ho hW hr0 hrN0 hpre hK
    have hrN : r ≤ 14 := hrN0
    clear hrN0
    rw [if_pos (wanted_none rfl)]
    have e0 : a.tmps.getD 9 undef = .pointer (some ⟨b, 0, none⟩) := hpre ⟨0, .data⟩ (by simp) rfl _ rfl
    go_simp
    refine (deck_nI 4 4 rfl W0 W A l c b _ hW.1 (by omega) (by omega) (by omega)).mono ?_
    rintro e w2 ⟨_, rfl, ⟨k, rfl, hk⟩, hd, ht⟩
    exact hK _ _ ht (hW.next hr0 hrN hd ht) ⟨(k : Int), rfl, by omega, by omega⟩
  · intro a W K r ho hW hr0 hrN0 hpre hK
    have hrN : r ≤ 14 := hrN0
    clear hrN0
    rw [if_pos (wanted_none rfl)]
    have e0 : ((SpT.rng 0 3 : SpT b)).p (a.tmps.getD 10 undef) W := hpre ⟨1, .data⟩ (by simp) rfl _ rfl
    obtain ⟨x, e0, h1, g1⟩ := e0
    have hw : IntKind.i64.wrap (1 + x) = 1 + x := wrap_id (by unfold I64; omega)
    go_simp
    exact hK _ _ (Touch.refl _ _) hW.less ⟨_, rfl, by omega, by omega⟩
  · intro a W K r ho hW hr0 hrN0 hpre hK
    have hrN : r ≤ 14 := hrN0
    clear hrN0
    rw [if_pos (wanted_none rfl)]
    have e0 : a.tmps.getD 0 undef = .pointer (some ⟨b, 0, none⟩) := ho.slot 0 (by decide)
    go_simp
    exact hK _ _ (Touch.refl _ _) hW.less rfl
  · intro a W K r ho hW hr0 hrN0 hpre hK
    have hrN : r ≤ 14 := hrN0
    clear hrN0
    rw [if_pos (wanted_none rfl)]
    have e0 : a.tmps.getD 12 undef = .pointer (some ⟨b, 0, none⟩) := hpre ⟨3, .data⟩ (by simp) rfl _ rfl
    go_simp
    refine (deck_nI 7 7 rfl W0 W A l c b _ hW.1 (by omega) (by omega) (by omega)).mono ?_
    rintro e w2 ⟨_, rfl, ⟨k, rfl, hk⟩, hd, ht⟩
    exact hK _ _ ht (hW.next hr0 hrN hd ht) ⟨(k : Int), rfl, by omega, by omega⟩
  · intro a W K r ho hW hr0 hrN0 hpre hK
    have hrN : r ≤ 14 := hrN0
    clear hrN0
    rw [if_pos (wanted_none rfl)]
    have e0 : ((SpT.rng 0 6 : SpT b)).p (a.tmps.getD 13 undef) W := hpre ⟨4, .data⟩ (by simp) rfl _ rfl
    obtain ⟨x, e0, h1, g1⟩ := e0
    have hw : IntKind.i64.wrap (1 + x) = 1 + x := wrap_id (by unfold I64; omega)
    go_simp
    exact hK _ _ (Touch.refl _ _) hW.less ⟨_, rfl, by omega, by omega⟩
  · intro a W K r ho hW hr0 hrN0 hpre hK
    have hrN : r ≤ 14 := hrN0
    clear hrN0
    rw [if_pos (wanted_none rfl)]
    have e0 : a.tmps.getD 0 undef = .pointer (some ⟨b, 0, none⟩) := ho.slot 0 (by decide)
    go_simp
    exact hK _ _ (Touch.refl _ _) hW.less rfl
  · intro a W K r ho hW hr0 hrN0 hpre hK
    have hrN : r ≤ 14 := hrN0
    clear hrN0
    rw [if_pos (wanted_none rfl)]
    have e0 : a.tmps.getD 3 undef = .pointer (some ⟨W1.heap.size, 0, none⟩) := ho.slot 3 (by decide)
    go_simp
    exact hK _ _ (Touch.refl _ _) hW.less rfl
  · intro a W K r ho hW hr0 hrN0 hpre hK
    have hrN : r ≤ 14 := hrN0
    clear hrN0
    rw [if_pos (wanted_none rfl)]
    have e0 : a.tmps.getD 16 undef = .pointer (some ⟨W1.heap.size, 0, none⟩) := hpre ⟨7, .data⟩ (by simp) rfl _ rfl
    have hc := (FL.out W hW.2).1
    go_simp
    exact hK _ _ (Touch.refl _ _) hW.less rfl
  · intro a W K r ho hW hr0 hrN0 hpre hK
    have hrN : r ≤ 14 := hrN0
    clear hrN0
    rw [if_pos (wanted_none rfl)]
    have e0 : a.tmps.getD 17 undef = .slice (some ⟨g, 0, none⟩) n cc := hpre ⟨8, .data⟩ (by simp) rfl _ rfl
    go_simp
    exact hK _ _ (Touch.refl _ _) hW.less rfl
  · intro a W K r ho hW hr0 hrN0 hpre hK
    have hrN : r ≤ 14 := hrN0
    clear hrN0
    rw [if_pos (wanted_none rfl)]
    have e0 : a.tmps.getD 15 undef = .pointer (some ⟨b, 0, none⟩) := hpre ⟨6, .data⟩ (by simp) rfl _ rfl
    have e1 : a.tmps.getD 18 undef = .int .i64 (n : Int) := hpre ⟨9, .data⟩ (by simp) rfl _ rfl
    go_simp
    refine (deck_nI n (n : Int) rfl W0 W A l c b _ hW.1 (by omega) (by omega) (by omega)).mono ?_
    rintro e w2 ⟨_, rfl, ⟨k, rfl, hk⟩, hd, ht⟩
    exact hK _ _ ht (hW.next hr0 hrN hd ht) ⟨(k : Int), rfl, by omega, by omega⟩
  · intro a W K r ho hW hr0 hrN0 hpre hK
    have hrN : r ≤ 14 := hrN0
    clear hrN0
    rw [if_pos (wanted_none rfl)]
    have e0 : ((SpT.rng 1 4 : SpT b)).p (a.tmps.getD 11 undef) W := hpre ⟨2, .data⟩ (by simp) rfl _ rfl
    obtain ⟨x, e0, h1, h2⟩ := e0
    go_simp
    exact hK _ _ (Touch.refl _ _) hW.less ⟨x, rfl, h1, h2⟩
  · intro a W K r ho hW hr0 hrN0 hpre hK
    have hrN : r ≤ 14 := hrN0
    clear hrN0
    rw [if_pos (wanted_none rfl)]
    have e0 : ((SpT.rng 1 7 : SpT b)).p (a.tmps.getD 14 undef) W := hpre ⟨5, .data⟩ (by simp) rfl _ rfl
    obtain ⟨x, e0, h1, h2⟩ := e0
    go_simp
    exact hK _ _ (Touch.refl _ _) hW.less ⟨x, rfl, h1, h2⟩
  · intro a W K r ho hW hr0 hrN0 hpre hK
    have hrN : r ≤ 14 := hrN0
    clear hrN0
    rw [if_pos (wanted_none rfl)]
    have e0 : ((SpT.rng 0 ((n : Int) - 1) : SpT b)).p (a.tmps.getD 19 undef) W := hpre ⟨10, .data⟩ (by simp) rfl _ rfl
    obtain ⟨x, e0, h1, h2⟩ := e0
    go_simp
    exact hK _ _ (Touch.refl _ _) hW.less ⟨x, rfl, h1, h2⟩
  · intro a W r ho hW hall
    have e5 : (SpT.rng (b := b) 1 4).p (a.tmps.getD 5 undef) W := hall 11 _ rfl
    have e6 : (SpT.rng (b := b) 1 7).p (a.tmps.getD 6 undef) W := hall 12 _ rfl
    have e7 : (SpT.rng (b := b) 0 ((n : Int) - 1)).p (a.tmps.getD 7 undef) W := hall 13 _ rfl
    obtain ⟨x5, e5, h5, h5'⟩ := e5
    obtain ⟨x6, e6, h6, h6'⟩ := e6
    obtain ⟨x7, e7, h7, h7'⟩ := e7
    obtain ⟨i, rfl⟩ := Int.eq_ofNat_of_zero_le h7
    have hi : i < n := by omega
    have heq := ho.eq
    clear ho hall h7 h7'
    simp only [putL, e5, e6, e7] at heq
    generalize a.tmps.getD 9 undef = u9 at heq
    generalize a.tmps.getD 10 undef = u10 at heq
    generalize a.tmps.getD 11 undef = u11 at heq
    generalize a.tmps.getD 12 undef = u12 at heq
    generalize a.tmps.getD 13 undef = u13 at heq
    generalize a.tmps.getD 14 undef = u14 at heq
    generalize a.tmps.getD 15 undef = u15 at heq
    generalize a.tmps.getD 16 undef = u16 at heq
    generalize a.tmps.getD 17 undef = u17 at heq
    generalize a.tmps.getD 18 undef = u18 at heq
    generalize a.tmps.getD 19 undef = u19 at heq
    clear e5 e6 e7
    subst heq
    rename_i hKK
    refine hKK _ _ ?_
    go_simp
    have HRW := Lib.hid (HR.out.touch hW.2 (by omega))
    have HCW := Lib.hid (HC.out.touch hW.2 (by omega))
    have HTW := Lib.hid ((touch_keep HB2.out).trans hW.2 (fun _ _ h => h))
    have HVW := Lib.hid (HV.out.touch HTW.out)
    have CN := Lib.hid (deck_nI 36 36 rfl W0 W A l c b (m + 14) (hW.1.more (by omega)) (by omega) (by omega) (by omega))
    have hww : W1.heap.size + 2 ≤ W.heap.size := by have := hW.2.size; simpa using this
    have FM0 := Lib.hid (fun W' (h : Touch (fun k => k = b) W W') => FL.out W' (hW.2.trans h (fun _ _ h => h)))
    have hpi := HPR.out i hi
    clear hW HR HC HB2 FL HV HD2 HPR
    go_wp2_with (go_at_call 15; (with_reducible refine CN.out.mono ?_); rintro r w4 ⟨_, rfl, ⟨k, rfl, hk⟩, hd4, ht4⟩; have HR4 := Lib.hid (HRW.out.touch ht4 (by omega)); have HC4 : Hid (Rec w4 W1.heap.size 31 (cf.cells (.slice (some ⟨g, 0, none⟩) n cc))) := (Lib.hid (HCW.out.touch ht4 (by omega))); have HT4 := Lib.hid (HTW.out.trans ht4 (fun _ _ h => h)); have HV4 := Lib.hid (HVW.out.touch ht4); have HD4 := Lib.hid hd4; have CM := Lib.hid (deck_mark W0 w4 A l c b (m + 14 + 1) hd4 (by omega) cf _ HV4.out i (by rw [← HNL.out]; exact hi)); have CO := Lib.hid (deck_order W0 w4 A l c b (m + 14 + 1) hd4 (by omega) cf _ HV4.out); unfold Cfg.v at CM CO; have FM : Hid (∀ W, Touch (fun k => k = b) w4 W → W.cell? ⟨W1.heap.size, 0, none⟩ = some (.slice (some ⟨g, 0, none⟩) n cc) ∧ W.cell? ⟨g, i * 4 + 1, none⟩ = some (.int .i64 (pr i))) := (Lib.hid (fun W' h => ⟨(FM0.out W' (ht4.trans h (fun _ _ h => h))).1, (FM0.out W' (ht4.trans h (fun _ _ h => h))).2 i hi⟩)); have hw4 : W1.heap.size + 2 ≤ w4.heap.size := (by have := ht4.size; omega); clear ht4 hd4 HRW HCW HTW HVW CN FM0; obtain ⟨d0, d1, d2, d3, d4, d5, d6, d7⟩ := HR4.out.reads; have fz0 := Rec.frozen HR4.out 0; have fz1 := Rec.frozen HR4.out 1; have fz2 := Rec.frozen HR4.out 2; have fz3 := Rec.frozen HR4.out 3; have fz4 := Rec.frozen HR4.out 4; have fz5 := Rec.frozen HR4.out 5; have fz6 := Rec.frozen HR4.out 6; have fz7 := Rec.frozen HR4.out 7; have cc0 := HC4.out.cell 0 rfl; have cc1 := HC4.out.cell 1 rfl; have cc2 := HC4.out.cell 2 rfl; have cc3 := HC4.out.cell 3 rfl; have cc4 := HC4.out.cell 4 rfl; have cc5 := HC4.out.cell 5 rfl; have cc6 := HC4.out.cell 6 rfl; rcases (by omega : k = 0 ∨ k = 1 ∨ k = 2 ∨ k = 3 ∨ k = 4 ∨ k = 5 ∨ k = 6 ∨ k = 7 ∨ k = 8 ∨ k = 9 ∨ k = 10 ∨ k = 11 ∨ k = 12 ∨ k = 13 ∨ k = 14 ∨ k = 15 ∨ k = 16 ∨ k = 17 ∨ k = 18 ∨ k = 19 ∨ k = 20 ∨ k = 21 ∨ 21 < k) with rfl | rfl | rfl | rfl | rfl | rfl | rfl | rfl | rfl | rfl | rfl | rfl | rfl | rfl | rfl | rfl | rfl | rfl | rfl | rfl | rfl | rfl | hbig)
    · skip
      obtain ⟨g0, g1, g2, g3, g4, g5, g6, g7⟩ := (put_at HR4.out ⟨1, x5, 0, 0, 0, 0, 0, 0⟩).reads
      simp only [putE] at g0 g1 g2 g3 g4 g5 g6 g7
      have hok : Good ⟨1, x5, 0, 0, 0, 0, 0, 0⟩ := (good_all.1 1 x5 (by omega) (by omega) (by omega))
      refine bodyPost_ret (v := (⟨1, x5, 0, 0, 0, 0, 0, 0⟩ : Ev).v) (by simp [results, Tryz.results17, go_sem, Ev.v, g0, g1, g2, g3, g4, g5, g6, g7]) rfl ⟨⟨1, x5, 0, 0, 0, 0, 0, 0⟩, rfl, hok.1, hok.2, ?_, ?_⟩
      · exact ((HD4.out.touch (put_touch _ (W1.heap.size + 1) ⟨1, x5, 0, 0, 0, 0, 0, 0⟩) (fun k e => by have := HLO.out; omega) (by omega)).more (by omega))
      · exact HT4.out.trans (put_touch _ (W1.heap.size + 1) ⟨1, x5, 0, 0, 0, 0, 0, 0⟩) (fun k hk e => by omega)
    · go_wp2_with (go_at_call 15; (with_reducible refine (deck_nI 2 2 rfl W0 _ A l c b (m + 14 + 1) HD4.out (by omega) (by omega) (by omega)).mono ?_); rintro r w5 ⟨_, rfl, ⟨k5, rfl, hk5⟩, hd5, ht5⟩; clear d0 d1 d2 d3 d4 d5 d6 d7 fz0 fz1 fz2 fz3 fz4 fz5 fz6 fz7; have HR5 := Lib.hid (HR4.out.touch ht5 (by omega)); have HT5 := Lib.hid (HT4.out.trans ht5 (fun _ _ h => h)); have HD5 := Lib.hid hd5; obtain ⟨d0, d1, d2, d3, d4, d5, d6, d7⟩ := HR5.out.reads; have fz0 := Rec.frozen HR5.out 0; have fz1 := Rec.frozen HR5.out 1; have fz2 := Rec.frozen HR5.out 2; have fz3 := Rec.frozen HR5.out 3; have fz4 := Rec.frozen HR5.out 4; have fz5 := Rec.frozen HR5.out 5; have fz6 := Rec.frozen HR5.out 6; have fz7 := Rec.frozen HR5.out 7; clear ht5 hd5)
      obtain ⟨g0, g1, g2, g3, g4, g5, g6, g7⟩ := (put_at HR5.out ⟨2, x5, x6, 0, 1 + (k5 : Int), 0, 0, 0⟩).reads
      simp only [putE] at g0 g1 g2 g3 g4 g5 g6 g7
      have hok : Good ⟨2, x5, x6, 0, 1 + (k5 : Int), 0, 0, 0⟩ := (good_all.2.2.2.1 x5 x6 (1 + (k5 : Int)) (by omega) (by omega) (by omega) (by omega) (by omega) (by omega))
      refine bodyPost_ret (v := (⟨2, x5, x6, 0, 1 + (k5 : Int), 0, 0, 0⟩ : Ev).v) (by simp [results, Tryz.results17, go_sem, Ev.v, g0, g1, g2, g3, g4, g5, g6, g7]) rfl ⟨⟨2, x5, x6, 0, 1 + (k5 : Int), 0, 0, 0⟩, rfl, hok.1, hok.2, ?_, ?_⟩
      · exact ((HD5.out.touch (put_touch _ (W1.heap.size + 1) ⟨2, x5, x6, 0, 1 + (k5 : Int), 0, 0, 0⟩) (fun k e => by have := HLO.out; omega) (by omega)).more (by omega))
      · exact HT5.out.trans (put_touch _ (W1.heap.size + 1) ⟨2, x5, x6, 0, 1 + (k5 : Int), 0, 0, 0⟩) (fun k hk e => by omega)
    · go_wp2_with (go_at_call 29; (with_reducible refine (deck_some W0 _ A l c b (m + 14 + 1) HD4.out (by omega)).mono ?_); rintro r w5 ⟨_, rfl, ⟨s, rfl, hs⟩, hd5, ht5⟩; clear d0 d1 d2 d3 d4 d5 d6 d7 fz0 fz1 fz2 fz3 fz4 fz5 fz6 fz7; have HR5 := Lib.hid (HR4.out.touch ht5 (by omega)); have HT5 := Lib.hid (HT4.out.trans ht5 (fun _ _ h => h)); have HD5 := Lib.hid hd5; obtain ⟨d0, d1, d2, d3, d4, d5, d6, d7⟩ := HR5.out.reads; have fz0 := Rec.frozen HR5.out 0; have fz1 := Rec.frozen HR5.out 1; have fz2 := Rec.frozen HR5.out 2; have fz3 := Rec.frozen HR5.out 3; have fz4 := Rec.frozen HR5.out 4; have fz5 := Rec.frozen HR5.out 5; have fz6 := Rec.frozen HR5.out 6; have fz7 := Rec.frozen HR5.out 7; clear ht5 hd5; rcases (by omega : s < 1 ∨ ¬ s < 1) with hs1 | hs1)
      · skip
        obtain ⟨g0, g1, g2, g3, g4, g5, g6, g7⟩ := (put_at HR5.out ⟨3, 0, x6, 0, 0, 0, 1, 0⟩).reads
        simp only [putE] at g0 g1 g2 g3 g4 g5 g6 g7
        have hok : Good ⟨3, 0, x6, 0, 0, 0, 1, 0⟩ := (good_all.2.2.2.2.2.2.1 3 x6 1 (by omega) (by omega) (by omega) (by omega) (by omega))
        refine bodyPost_ret (v := (⟨3, 0, x6, 0, 0, 0, 1, 0⟩ : Ev).v) (by simp [results, Tryz.results17, go_sem, Ev.v, g0, g1, g2, g3, g4, g5, g6, g7]) rfl ⟨⟨3, 0, x6, 0, 0, 0, 1, 0⟩, rfl, hok.1, hok.2, ?_, ?_⟩
        · exact ((HD5.out.touch (put_touch _ (W1.heap.size + 1) ⟨3, 0, x6, 0, 0, 0, 1, 0⟩) (fun k e => by have := HLO.out; omega) (by omega)).more (by omega))
        · exact HT5.out.trans (put_touch _ (W1.heap.size + 1) ⟨3, 0, x6, 0, 0, 0, 1, 0⟩) (fun k hk e => by omega)
      · skip
        obtain ⟨g0, g1, g2, g3, g4, g5, g6, g7⟩ := (put_at HR5.out ⟨3, 0, x6, 0, 0, 0, (s : Int), 0⟩).reads
        simp only [putE] at g0 g1 g2 g3 g4 g5 g6 g7
        have hok : Good ⟨3, 0, x6, 0, 0, 0, (s : Int), 0⟩ := (good_all.2.2.2.2.2.2.1 3 x6 (s : Int) (by omega) (by omega) (by omega) (by omega) (by omega))
        refine bodyPost_ret (v := (⟨3, 0, x6, 0, 0, 0, (s : Int), 0⟩ : Ev).v) (by simp [results, Tryz.results17, go_sem, Ev.v, g0, g1, g2, g3, g4, g5, g6, g7]) rfl ⟨⟨3, 0, x6, 0, 0, 0, (s : Int), 0⟩, rfl, hok.1, hok.2, ?_, ?_⟩
        · exact ((HD5.out.touch (put_touch _ (W1.heap.size + 1) ⟨3, 0, x6, 0, 0, 0, (s : Int), 0⟩) (fun k e => by have := HLO.out; omega) (by omega)).more (by omega))
        · exact HT5.out.trans (put_touch _ (W1.heap.size + 1) ⟨3, 0, x6, 0, 0, 0, (s : Int), 0⟩) (fun k hk e => by omega)
    · go_wp2_with (go_at_call 29; (with_reducible refine (deck_some W0 _ A l c b (m + 14 + 1) HD4.out (by omega)).mono ?_); rintro r w5 ⟨_, rfl, ⟨s, rfl, hs⟩, hd5, ht5⟩; clear d0 d1 d2 d3 d4 d5 d6 d7 fz0 fz1 fz2 fz3 fz4 fz5 fz6 fz7; have HR5 := Lib.hid (HR4.out.touch ht5 (by omega)); have HT5 := Lib.hid (HT4.out.trans ht5 (fun _ _ h => h)); have HD5 := Lib.hid hd5; obtain ⟨d0, d1, d2, d3, d4, d5, d6, d7⟩ := HR5.out.reads; have fz0 := Rec.frozen HR5.out 0; have fz1 := Rec.frozen HR5.out 1; have fz2 := Rec.frozen HR5.out 2; have fz3 := Rec.frozen HR5.out 3; have fz4 := Rec.frozen HR5.out 4; have fz5 := Rec.frozen HR5.out 5; have fz6 := Rec.frozen HR5.out 6; have fz7 := Rec.frozen HR5.out 7; clear ht5 hd5; rcases (by omega : s < 1 ∨ ¬ s < 1) with hs1 | hs1)
      · skip
        obtain ⟨g0, g1, g2, g3, g4, g5, g6, g7⟩ := (put_at HR5.out ⟨4, 0, x6, 0, 0, 0, 1, 0⟩).reads
        simp only [putE] at g0 g1 g2 g3 g4 g5 g6 g7
        have hok : Good ⟨4, 0, x6, 0, 0, 0, 1, 0⟩ := (good_all.2.2.2.2.2.2.1 4 x6 1 (by omega) (by omega) (by omega) (by omega) (by omega))
        refine bodyPost_ret (v := (⟨4, 0, x6, 0, 0, 0, 1, 0⟩ : Ev).v) (by simp [results, Tryz.results17, go_sem, Ev.v, g0, g1, g2, g3, g4, g5, g6, g7]) rfl ⟨⟨4, 0, x6, 0, 0, 0, 1, 0⟩, rfl, hok.1, hok.2, ?_, ?_⟩
        · exact ((HD5.out.touch (put_touch _ (W1.heap.size + 1) ⟨4, 0, x6, 0, 0, 0, 1, 0⟩) (fun k e => by have := HLO.out; omega) (by omega)).more (by omega))
        · exact HT5.out.trans (put_touch _ (W1.heap.size + 1) ⟨4, 0, x6, 0, 0, 0, 1, 0⟩) (fun k hk e => by omega)
      · skip
        obtain ⟨g0, g1, g2, g3, g4, g5, g6, g7⟩ := (put_at HR5.out ⟨4, 0, x6, 0, 0, 0, (s : Int), 0⟩).reads
        simp only [putE] at g0 g1 g2 g3 g4 g5 g6 g7
        have hok : Good ⟨4, 0, x6, 0, 0, 0, (s : Int), 0⟩ := (good_all.2.2.2.2.2.2.1 4 x6 (s : Int) (by omega) (by omega) (by omega) (by omega) (by omega))
        refine bodyPost_ret (v := (⟨4, 0, x6, 0, 0, 0, (s : Int), 0⟩ : Ev).v) (by simp [results, Tryz.results17, go_sem, Ev.v, g0, g1, g2, g3, g4, g5, g6, g7]) rfl ⟨⟨4, 0, x6, 0, 0, 0, (s : Int), 0⟩, rfl, hok.1, hok.2, ?_, ?_⟩
        · exact ((HD5.out.touch (put_touch _ (W1.heap.size + 1) ⟨4, 0, x6, 0, 0, 0, (s : Int), 0⟩) (fun k e => by have := HLO.out; omega) (by omega)).more (by omega))
        · exact HT5.out.trans (put_touch _ (W1.heap.size + 1) ⟨4, 0, x6, 0, 0, 0, (s : Int), 0⟩) (fun k hk e => by omega)
    · go_wp2_with (go_at_call 29; (with_reducible refine (deck_some W0 _ A l c b (m + 14 + 1) HD4.out (by omega)).mono ?_); rintro r w5 ⟨_, rfl, ⟨s, rfl, hs⟩, hd5, ht5⟩; clear d0 d1 d2 d3 d4 d5 d6 d7 fz0 fz1 fz2 fz3 fz4 fz5 fz6 fz7; have HR5 := Lib.hid (HR4.out.touch ht5 (by omega)); have HT5 := Lib.hid (HT4.out.trans ht5 (fun _ _ h => h)); have HD5 := Lib.hid hd5; obtain ⟨d0, d1, d2, d3, d4, d5, d6, d7⟩ := HR5.out.reads; have fz0 := Rec.frozen HR5.out 0; have fz1 := Rec.frozen HR5.out 1; have fz2 := Rec.frozen HR5.out 2; have fz3 := Rec.frozen HR5.out 3; have fz4 := Rec.frozen HR5.out 4; have fz5 := Rec.frozen HR5.out 5; have fz6 := Rec.frozen HR5.out 6; have fz7 := Rec.frozen HR5.out 7; clear ht5 hd5; rcases (by omega : s < 1 ∨ ¬ s < 1) with hs1 | hs1)
      · skip
        obtain ⟨g0, g1, g2, g3, g4, g5, g6, g7⟩ := (put_at HR5.out ⟨5, x5, 0, 0, 0, 0, 1, 0⟩).reads
        simp only [putE] at g0 g1 g2 g3 g4 g5 g6 g7
        have hok : Good ⟨5, x5, 0, 0, 0, 0, 1, 0⟩ := (good_all.2.2.2.2.2.2.2.1 5 x5 1 (by omega) (by omega) (by omega) (by omega) (by omega))
        refine bodyPost_ret (v := (⟨5, x5, 0, 0, 0, 0, 1, 0⟩ : Ev).v) (by simp [results, Tryz.results17, go_sem, Ev.v, g0, g1, g2, g3, g4, g5, g6, g7]) rfl ⟨⟨5, x5, 0, 0, 0, 0, 1, 0⟩, rfl, hok.1, hok.2, ?_, ?_⟩
        · exact ((HD5.out.touch (put_touch _ (W1.heap.size + 1) ⟨5, x5, 0, 0, 0, 0, 1, 0⟩) (fun k e => by have := HLO.out; omega) (by omega)).more (by omega))
        · exact HT5.out.trans (put_touch _ (W1.heap.size + 1) ⟨5, x5, 0, 0, 0, 0, 1, 0⟩) (fun k hk e => by omega)
      · skip
        obtain ⟨g0, g1, g2, g3, g4, g5, g6, g7⟩ := (put_at HR5.out ⟨5, x5, 0, 0, 0, 0, (s : Int), 0⟩).reads
        simp only [putE] at g0 g1 g2 g3 g4 g5 g6 g7
        have hok : Good ⟨5, x5, 0, 0, 0, 0, (s : Int), 0⟩ := (good_all.2.2.2.2.2.2.2.1 5 x5 (s : Int) (by omega) (by omega) (by omega) (by omega) (by omega))
        refine bodyPost_ret (v := (⟨5, x5, 0, 0, 0, 0, (s : Int), 0⟩ : Ev).v) (by simp [results, Tryz.results17, go_sem, Ev.v, g0, g1, g2, g3, g4, g5, g6, g7]) rfl ⟨⟨5, x5, 0, 0, 0, 0, (s : Int), 0⟩, rfl, hok.1, hok.2, ?_, ?_⟩
        · exact ((HD5.out.touch (put_touch _ (W1.heap.size + 1) ⟨5, x5, 0, 0, 0, 0, (s : Int), 0⟩) (fun k e => by have := HLO.out; omega) (by omega)).more (by omega))
        · exact HT5.out.trans (put_touch _ (W1.heap.size + 1) ⟨5, x5, 0, 0, 0, 0, (s : Int), 0⟩) (fun k hk e => by omega)
    · go_wp2_with (go_at_call 29; (with_reducible refine (deck_some W0 _ A l c b (m + 14 + 1) HD4.out (by omega)).mono ?_); rintro r w5 ⟨_, rfl, ⟨s, rfl, hs⟩, hd5, ht5⟩; clear d0 d1 d2 d3 d4 d5 d6 d7 fz0 fz1 fz2 fz3 fz4 fz5 fz6 fz7; have HR5 := Lib.hid (HR4.out.touch ht5 (by omega)); have HT5 := Lib.hid (HT4.out.trans ht5 (fun _ _ h => h)); have HD5 := Lib.hid hd5; obtain ⟨d0, d1, d2, d3, d4, d5, d6, d7⟩ := HR5.out.reads; have fz0 := Rec.frozen HR5.out 0; have fz1 := Rec.frozen HR5.out 1; have fz2 := Rec.frozen HR5.out 2; have fz3 := Rec.frozen HR5.out 3; have fz4 := Rec.frozen HR5.out 4; have fz5 := Rec.frozen HR5.out 5; have fz6 := Rec.frozen HR5.out 6; have fz7 := Rec.frozen HR5.out 7; clear ht5 hd5; (obtain ⟨q, hq⟩ : ∃ q, q = s % 1000000000001 := ⟨_, rfl⟩); have hrq : (s : Int) % 1000000000001 = (q : Int) := (by omega); have hql : q < 1000000000001 := (by omega); clear hq)
      obtain ⟨g0, g1, g2, g3, g4, g5, g6, g7⟩ := (put_at HR5.out ⟨6, 0, x6, 0, 0, 0, (q : Int), 0⟩).reads
      simp only [putE] at g0 g1 g2 g3 g4 g5 g6 g7
      have hok : Good ⟨6, 0, x6, 0, 0, 0, (q : Int), 0⟩ := (good_all.2.2.2.2.2.2.2.2.1 x6 (q : Int) (by omega) (by omega) (by omega) (by omega))
      refine bodyPost_ret (v := (⟨6, 0, x6, 0, 0, 0, (q : Int), 0⟩ : Ev).v) (by simp [results, Tryz.results17, go_sem, Ev.v, g0, g1, g2, g3, g4, g5, g6, g7]) rfl ⟨⟨6, 0, x6, 0, 0, 0, (q : Int), 0⟩, rfl, hok.1, hok.2, ?_, ?_⟩
      · exact ((HD5.out.touch (put_touch _ (W1.heap.size + 1) ⟨6, 0, x6, 0, 0, 0, (q : Int), 0⟩) (fun k e => by have := HLO.out; omega) (by omega)).more (by omega))
      · exact HT5.out.trans (put_touch _ (W1.heap.size + 1) ⟨6, 0, x6, 0, 0, 0, (q : Int), 0⟩) (fun k hk e => by omega)
    · go_wp2_with (go_at_call 46; (with_reducible refine (CO.out).mono ?_); rintro r w5 ⟨e, rfl, hok, hrt, hd5, ht5⟩; clear d0 d1 d2 d3 d4 d5 d6 d7 fz0 fz1 fz2 fz3 fz4 fz5 fz6 fz7; have HR5 := Lib.hid (HR4.out.touch ht5 (by omega)); have HT5 := Lib.hid (HT4.out.trans ht5 (fun _ _ h => h)); have HD5 := Lib.hid hd5; obtain ⟨d0, d1, d2, d3, d4, d5, d6, d7⟩ := HR5.out.reads; have fz0 := Rec.frozen HR5.out 0; have fz1 := Rec.frozen HR5.out 1; have fz2 := Rec.frozen HR5.out 2; have fz3 := Rec.frozen HR5.out 3; have fz4 := Rec.frozen HR5.out 4; have fz5 := Rec.frozen HR5.out 5; have fz6 := Rec.frozen HR5.out 6; have fz7 := Rec.frozen HR5.out 7; clear ht5 hd5; unfold Ev.v)
      obtain ⟨g0, g1, g2, g3, g4, g5, g6, g7⟩ := (put_at HR5.out e).reads
      simp only [putE] at g0 g1 g2 g3 g4 g5 g6 g7
      have hok : Good e := ⟨hok, hrt⟩
      refine bodyPost_ret (v := (e : Ev).v) (by simp [results, Tryz.results17, go_sem, Ev.v, g0, g1, g2, g3, g4, g5, g6, g7]) rfl ⟨e, rfl, hok.1, hok.2, ?_, ?_⟩
      · exact ((HD5.out.touch (put_touch _ (W1.heap.size + 1) e) (fun k e => by have := HLO.out; omega) (by omega)).more (by omega))
      · exact HT5.out.trans (put_touch _ (W1.heap.size + 1) e) (fun k hk e => by omega)
    · go_wp2_with (go_at_call 15; (with_reducible refine (deck_nI 40 40 rfl W0 _ A l c b (m + 14 + 1) HD4.out (by omega) (by omega) (by omega)).mono ?_); rintro r w5 ⟨_, rfl, ⟨k5, rfl, hk5⟩, hd5, ht5⟩; clear d0 d1 d2 d3 d4 d5 d6 d7 fz0 fz1 fz2 fz3 fz4 fz5 fz6 fz7; have HR5 := Lib.hid (HR4.out.touch ht5 (by omega)); have HT5 := Lib.hid (HT4.out.trans ht5 (fun _ _ h => h)); have HD5 := Lib.hid hd5; obtain ⟨d0, d1, d2, d3, d4, d5, d6, d7⟩ := HR5.out.reads; have fz0 := Rec.frozen HR5.out 0; have fz1 := Rec.frozen HR5.out 1; have fz2 := Rec.frozen HR5.out 2; have fz3 := Rec.frozen HR5.out 3; have fz4 := Rec.frozen HR5.out 4; have fz5 := Rec.frozen HR5.out 5; have fz6 := Rec.frozen HR5.out 6; have fz7 := Rec.frozen HR5.out 7; clear ht5 hd5)
      obtain ⟨g0, g1, g2, g3, g4, g5, g6, g7⟩ := (put_at HR5.out ⟨8, 0, x6, 0, 0, 1 + (k5 : Int), 0, 0⟩).reads
      simp only [putE] at g0 g1 g2 g3 g4 g5 g6 g7
      have hok : Good ⟨8, 0, x6, 0, 0, 1 + (k5 : Int), 0, 0⟩ := (good_all.2.2.2.2.1 x6 (1 + (k5 : Int)) (by omega) (by omega) (by omega) (by omega))
      refine bodyPost_ret (v := (⟨8, 0, x6, 0, 0, 1 + (k5 : Int), 0, 0⟩ : Ev).v) (by simp [results, Tryz.results17, go_sem, Ev.v, g0, g1, g2, g3, g4, g5, g6, g7]) rfl ⟨⟨8, 0, x6, 0, 0, 1 + (k5 : Int), 0, 0⟩, rfl, hok.1, hok.2, ?_, ?_⟩
      · exact ((HD5.out.touch (put_touch _ (W1.heap.size + 1) ⟨8, 0, x6, 0, 0, 1 + (k5 : Int), 0, 0⟩) (fun k e => by have := HLO.out; omega) (by omega)).more (by omega))
      · exact HT5.out.trans (put_touch _ (W1.heap.size + 1) ⟨8, 0, x6, 0, 0, 1 + (k5 : Int), 0, 0⟩) (fun k hk e => by omega)
    · go_wp2_with (go_at_call 45; (with_reducible refine (CM.out).mono ?_); rintro r w5 ⟨e, rfl, hok, hrt, hd5, ht5⟩; clear d0 d1 d2 d3 d4 d5 d6 d7 fz0 fz1 fz2 fz3 fz4 fz5 fz6 fz7; have HR5 := Lib.hid (HR4.out.touch ht5 (by omega)); have HT5 := Lib.hid (HT4.out.trans ht5 (fun _ _ h => h)); have HD5 := Lib.hid hd5; obtain ⟨d0, d1, d2, d3, d4, d5, d6, d7⟩ := HR5.out.reads; have fz0 := Rec.frozen HR5.out 0; have fz1 := Rec.frozen HR5.out 1; have fz2 := Rec.frozen HR5.out 2; have fz3 := Rec.frozen HR5.out 3; have fz4 := Rec.frozen HR5.out 4; have fz5 := Rec.frozen HR5.out 5; have fz6 := Rec.frozen HR5.out 6; have fz7 := Rec.frozen HR5.out 7; clear ht5 hd5; unfold Ev.v)
      obtain ⟨g0, g1, g2, g3, g4, g5, g6, g7⟩ := (put_at HR5.out e).reads
      simp only [putE] at g0 g1 g2 g3 g4 g5 g6 g7
      have hok : Good e := ⟨hok, hrt⟩
      refine bodyPost_ret (v := (e : Ev).v) (by simp [results, Tryz.results17, go_sem, Ev.v, g0, g1, g2, g3, g4, g5, g6, g7]) rfl ⟨e, rfl, hok.1, hok.2, ?_, ?_⟩
      · exact ((HD5.out.touch (put_touch _ (W1.heap.size + 1) e) (fun k e => by have := HLO.out; omega) (by omega)).more (by omega))
      · exact HT5.out.trans (put_touch _ (W1.heap.size + 1) e) (fun k hk e => by omega)
    · go_wp2_with (go_at_call 15; (with_reducible refine (deck_nI 3 3 rfl W0 _ A l c b (m + 14 + 1) HD4.out (by omega) (by omega) (by omega)).mono ?_); rintro r w5 ⟨_, rfl, ⟨k5, rfl, hk5⟩, hd5, ht5⟩; clear d0 d1 d2 d3 d4 d5 d6 d7 fz0 fz1 fz2 fz3 fz4 fz5 fz6 fz7; have HR5 := Lib.hid (HR4.out.touch ht5 (by omega)); have HT5 := Lib.hid (HT4.out.trans ht5 (fun _ _ h => h)); have HD5 := Lib.hid hd5; obtain ⟨d0, d1, d2, d3, d4, d5, d6, d7⟩ := HR5.out.reads; have fz0 := Rec.frozen HR5.out 0; have fz1 := Rec.frozen HR5.out 1; have fz2 := Rec.frozen HR5.out 2; have fz3 := Rec.frozen HR5.out 3; have fz4 := Rec.frozen HR5.out 4; have fz5 := Rec.frozen HR5.out 5; have fz6 := Rec.frozen HR5.out 6; have fz7 := Rec.frozen HR5.out 7; clear ht5 hd5)
      obtain ⟨g0, g1, g2, g3, g4, g5, g6, g7⟩ := (put_at HR5.out ⟨10, 0, 0, 0, 0, 0, 1 + (k5 : Int), 0⟩).reads
      simp only [putE] at g0 g1 g2 g3 g4 g5 g6 g7
      have hok : Good ⟨10, 0, 0, 0, 0, 0, 1 + (k5 : Int), 0⟩ := (good_all.2.2.2.2.2.1 (1 + (k5 : Int)) (by omega) (by omega))
      refine bodyPost_ret (v := (⟨10, 0, 0, 0, 0, 0, 1 + (k5 : Int), 0⟩ : Ev).v) (by simp [results, Tryz.results17, go_sem, Ev.v, g0, g1, g2, g3, g4, g5, g6, g7]) rfl ⟨⟨10, 0, 0, 0, 0, 0, 1 + (k5 : Int), 0⟩, rfl, hok.1, hok.2, ?_, ?_⟩
      · exact ((HD5.out.touch (put_touch _ (W1.heap.size + 1) ⟨10, 0, 0, 0, 0, 0, 1 + (k5 : Int), 0⟩) (fun k e => by have := HLO.out; omega) (by omega)).more (by omega))
      · exact HT5.out.trans (put_touch _ (W1.heap.size + 1) ⟨10, 0, 0, 0, 0, 0, 1 + (k5 : Int), 0⟩) (fun k hk e => by omega)
    · skip
      obtain ⟨g0, g1, g2, g3, g4, g5, g6, g7⟩ := (put_at HR4.out ⟨11, x5, 0, 0, 0, 0, 0, 0⟩).reads
      simp only [putE] at g0 g1 g2 g3 g4 g5 g6 g7
      have hok : Good ⟨11, x5, 0, 0, 0, 0, 0, 0⟩ := (good_all.1 11 x5 (by omega) (by omega) (by omega))
      refine bodyPost_ret (v := (⟨11, x5, 0, 0, 0, 0, 0, 0⟩ : Ev).v) (by simp [results, Tryz.results17, go_sem, Ev.v, g0, g1, g2, g3, g4, g5, g6, g7]) rfl ⟨⟨11, x5, 0, 0, 0, 0, 0, 0⟩, rfl, hok.1, hok.2, ?_, ?_⟩
      · exact ((HD4.out.touch (put_touch _ (W1.heap.size + 1) ⟨11, x5, 0, 0, 0, 0, 0, 0⟩) (fun k e => by have := HLO.out; omega) (by omega)).more (by omega))
      · exact HT4.out.trans (put_touch _ (W1.heap.size + 1) ⟨11, x5, 0, 0, 0, 0, 0, 0⟩) (fun k hk e => by omega)
    · skip
      obtain ⟨g0, g1, g2, g3, g4, g5, g6, g7⟩ := (put_at HR4.out ⟨12, x5, 0, 0, 0, 0, 0, 0⟩).reads
      simp only [putE] at g0 g1 g2 g3 g4 g5 g6 g7
      have hok : Good ⟨12, x5, 0, 0, 0, 0, 0, 0⟩ := (good_all.1 12 x5 (by omega) (by omega) (by omega))
      refine bodyPost_ret (v := (⟨12, x5, 0, 0, 0, 0, 0, 0⟩ : Ev).v) (by simp [results, Tryz.results17, go_sem, Ev.v, g0, g1, g2, g3, g4, g5, g6, g7]) rfl ⟨⟨12, x5, 0, 0, 0, 0, 0, 0⟩, rfl, hok.1, hok.2, ?_, ?_⟩
      · exact ((HD4.out.touch (put_touch _ (W1.heap.size + 1) ⟨12, x5, 0, 0, 0, 0, 0, 0⟩) (fun k e => by have := HLO.out; omega) (by omega)).more (by omega))
      · exact HT4.out.trans (put_touch _ (W1.heap.size + 1) ⟨12, x5, 0, 0, 0, 0, 0, 0⟩) (fun k hk e => by omega)
    · skip
      obtain ⟨g0, g1, g2, g3, g4, g5, g6, g7⟩ := (put_at HR4.out ⟨13, x5, 0, 0, 0, 0, 0, 0⟩).reads
      simp only [putE] at g0 g1 g2 g3 g4 g5 g6 g7
      have hok : Good ⟨13, x5, 0, 0, 0, 0, 0, 0⟩ := (good_all.1 13 x5 (by omega) (by omega) (by omega))
      refine bodyPost_ret (v := (⟨13, x5, 0, 0, 0, 0, 0, 0⟩ : Ev).v) (by simp [results, Tryz.results17, go_sem, Ev.v, g0, g1, g2, g3, g4, g5, g6, g7]) rfl ⟨⟨13, x5, 0, 0, 0, 0, 0, 0⟩, rfl, hok.1, hok.2, ?_, ?_⟩
      · exact ((HD4.out.touch (put_touch _ (W1.heap.size + 1) ⟨13, x5, 0, 0, 0, 0, 0, 0⟩) (fun k e => by have := HLO.out; omega) (by omega)).more (by omega))
      · exact HT4.out.trans (put_touch _ (W1.heap.size + 1) ⟨13, x5, 0, 0, 0, 0, 0, 0⟩) (fun k hk e => by omega)
    · skip
      obtain ⟨g0, g1, g2, g3, g4, g5, g6, g7⟩ := (put_at HR4.out ⟨14, x5, x6, 0, 0, 0, 0, 0⟩).reads
      simp only [putE] at g0 g1 g2 g3 g4 g5 g6 g7
      have hok : Good ⟨14, x5, x6, 0, 0, 0, 0, 0⟩ := (good_all.2.1 x5 x6 (by omega) (by omega) (by omega) (by omega))
      refine bodyPost_ret (v := (⟨14, x5, x6, 0, 0, 0, 0, 0⟩ : Ev).v) (by simp [results, Tryz.results17, go_sem, Ev.v, g0, g1, g2, g3, g4, g5, g6, g7]) rfl ⟨⟨14, x5, x6, 0, 0, 0, 0, 0⟩, rfl, hok.1, hok.2, ?_, ?_⟩
      · exact ((HD4.out.touch (put_touch _ (W1.heap.size + 1) ⟨14, x5, x6, 0, 0, 0, 0, 0⟩) (fun k e => by have := HLO.out; omega) (by omega)).more (by omega))
      · exact HT4.out.trans (put_touch _ (W1.heap.size + 1) ⟨14, x5, x6, 0, 0, 0, 0, 0⟩) (fun k hk e => by omega)
    · skip
      obtain ⟨g0, g1, g2, g3, g4, g5, g6, g7⟩ := (put_at HR4.out ⟨15, 0, 0, 0, 0, 0, 0, 0⟩).reads
      simp only [putE] at g0 g1 g2 g3 g4 g5 g6 g7
      have hok : Good ⟨15, 0, 0, 0, 0, 0, 0, 0⟩ := (good_all.2.2.1 15 (by omega))
      refine bodyPost_ret (v := (⟨15, 0, 0, 0, 0, 0, 0, 0⟩ : Ev).v) (by simp [results, Tryz.results17, go_sem, Ev.v, g0, g1, g2, g3, g4, g5, g6, g7]) rfl ⟨⟨15, 0, 0, 0, 0, 0, 0, 0⟩, rfl, hok.1, hok.2, ?_, ?_⟩
      · exact ((HD4.out.touch (put_touch _ (W1.heap.size + 1) ⟨15, 0, 0, 0, 0, 0, 0, 0⟩) (fun k e => by have := HLO.out; omega) (by omega)).more (by omega))
      · exact HT4.out.trans (put_touch _ (W1.heap.size + 1) ⟨15, 0, 0, 0, 0, 0, 0, 0⟩) (fun k hk e => by omega)
    · skip
      obtain ⟨g0, g1, g2, g3, g4, g5, g6, g7⟩ := (put_at HR4.out ⟨16, 0, 0, 0, 0, 0, 0, 0⟩).reads
      simp only [putE] at g0 g1 g2 g3 g4 g5 g6 g7
      have hok : Good ⟨16, 0, 0, 0, 0, 0, 0, 0⟩ := (good_all.2.2.1 16 (by omega))
      refine bodyPost_ret (v := (⟨16, 0, 0, 0, 0, 0, 0, 0⟩ : Ev).v) (by simp [results, Tryz.results17, go_sem, Ev.v, g0, g1, g2, g3, g4, g5, g6, g7]) rfl ⟨⟨16, 0, 0, 0, 0, 0, 0, 0⟩, rfl, hok.1, hok.2, ?_, ?_⟩
      · exact ((HD4.out.touch (put_touch _ (W1.heap.size + 1) ⟨16, 0, 0, 0, 0, 0, 0, 0⟩) (fun k e => by have := HLO.out; omega) (by omega)).more (by omega))
      · exact HT4.out.trans (put_touch _ (W1.heap.size + 1) ⟨16, 0, 0, 0, 0, 0, 0, 0⟩) (fun k hk e => by omega)
    · skip
      refine wp_region_dagV [104, 105, 106, 107, 108, 109, 110, 111, 112, 113, 114, 115, 116, 117, 118] (fun W W' => Touch (fun k => k = b) W W') (DW W0 A l c b (m + 14 + 1) 16 _) (spT (b := b) [.val (.int .i64 17), .val (.int .i64 x6), .val (.pointer (some ⟨b, 0, none⟩)), .rng 0 59, .rng 1 60, .val (.pointer (some ⟨b, 0, none⟩)), .rng 0 19, .rng 1 20, .val (.pointer (some ⟨W1.heap.size, 0, none⟩)), .val (.slice (some ⟨g, 0, none⟩) n cc), .val (.int .i64 (i : Int)), .val (.pointer (some ⟨g, i * 4, none⟩)), .val (.pointer (some ⟨g, i * 4 + 1, none⟩)), .val (.int .i64 (pr i)), .such (fun u => ∃ d q : Int, u = (⟨17, 0, x6, 0, 0, d, q, pr i⟩ : Ev).v ∧ (1 ≤ d ∧ d ≤ 60) ∧ (1 ≤ q ∧ q ≤ 20))]) (fun a W => ∃ d q : Int, ((1 ≤ d ∧ d ≤ 60) ∧ (1 ≤ q ∧ q ≤ 20)) ∧ EvAt W (W1.heap.size + 1) ⟨17, 0, x6, 0, 0, d, q, pr i⟩ ∧ Deck W0 A l c b (m + 14 + 1 + 16) W ∧ Touch (fun k => k = b) W1 W) rfl rfl rfl rfl rfl rfl rfl rfl (spT_st _) (DW.start HD4.out) ⟨?_, ?_, ?_, ?_, ?_, ?_, ?_, ?_, ?_, ?_, ?_, ?_, ?_, ?_, ?_, trivial⟩ ?_ ?_
      · intro a W K r ho hW hr0 hrN0 hpre hK
        have hrN : r ≤ 16 := hrN0
        clear hrN0
        rw [if_pos (wanted_none rfl)]
        have e0 : a.tmps.getD 8 undef = .int .i64 17 := ho.slot 8 (by decide)
        go_simp
        exact hK _ _ (Touch.refl _ _) hW.less rfl
      · intro a W K r ho hW hr0 hrN0 hpre hK
        have hrN : r ≤ 16 := hrN0
        clear hrN0
        rw [if_pos (wanted_none rfl)]
        have e0 : a.tmps.getD 6 undef = .int .i64 x6 := ho.slot 6 (by decide)
        go_simp
        exact hK _ _ (Touch.refl _ _) hW.less rfl
      · intro a W K r ho hW hr0 hrN0 hpre hK
        have hrN : r ≤ 16 := hrN0
        clear hrN0
        rw [if_pos (wanted_none rfl)]
        have e0 : a.tmps.getD 0 undef = .pointer (some ⟨b, 0, none⟩) := ho.slot 0 (by decide)
        go_simp
        exact hK _ _ (Touch.refl _ _) hW.less rfl
      · intro a W K r ho hW hr0 hrN0 hpre hK
        have hrN : r ≤ 16 := hrN0
        clear hrN0
        rw [if_pos (wanted_none rfl)]
        have e0 : a.tmps.getD 106 undef = .pointer (some ⟨b, 0, none⟩) := hpre ⟨2, .data⟩ (by simp) rfl _ rfl
        go_simp
        refine (deck_nI 60 60 rfl W0 W A l c b _ hW.1 (by omega) (by omega) (by omega)).mono ?_
        rintro e w2 ⟨_, rfl, ⟨k, rfl, hk⟩, hd, ht⟩
        exact hK _ _ ht (hW.next hr0 hrN hd ht) ⟨(k : Int), rfl, by omega, by omega⟩
      · intro a W K r ho hW hr0 hrN0 hpre hK
        have hrN : r ≤ 16 := hrN0
        clear hrN0
        rw [if_pos (wanted_none rfl)]
        have e0 : ((SpT.rng 0 59 : SpT b)).p (a.tmps.getD 107 undef) W := hpre ⟨3, .data⟩ (by simp) rfl _ rfl
        obtain ⟨x, e0, h1, g1⟩ := e0
        have hw : IntKind.i64.wrap (1 + x) = 1 + x := wrap_id (by unfold I64; omega)
        go_simp
        exact hK _ _ (Touch.refl _ _) hW.less ⟨_, rfl, by omega, by omega⟩
      · intro a W K r ho hW hr0 hrN0 hpre hK
        have hrN : r ≤ 16 := hrN0
        clear hrN0
        rw [if_pos (wanted_none rfl)]
        have e0 : a.tmps.getD 0 undef = .pointer (some ⟨b, 0, none⟩) := ho.slot 0 (by decide)
        go_simp
        exact hK _ _ (Touch.refl _ _) hW.less rfl
      · intro a W K r ho hW hr0 hrN0 hpre hK
        have hrN : r ≤ 16 := hrN0
        clear hrN0
        rw [if_pos (wanted_none rfl)]
        have e0 : a.tmps.getD 109 undef = .pointer (some ⟨b, 0, none⟩) := hpre ⟨5, .data⟩ (by simp) rfl _ rfl
        go_simp
        refine (deck_nI 20 20 rfl W0 W A l c b _ hW.1 (by omega) (by omega) (by omega)).mono ?_
        rintro e w2 ⟨_, rfl, ⟨k, rfl, hk⟩, hd, ht⟩
        exact hK _ _ ht (hW.next hr0 hrN hd ht) ⟨(k : Int), rfl, by omega, by omega⟩
      · intro a W K r ho hW hr0 hrN0 hpre hK
        have hrN : r ≤ 16 := hrN0
        clear hrN0
        rw [if_pos (wanted_none rfl)]
        have e0 : ((SpT.rng 0 19 : SpT b)).p (a.tmps.getD 110 undef) W := hpre ⟨6, .data⟩ (by simp) rfl _ rfl
        obtain ⟨x, e0, h1, g1⟩ := e0
        have hw : IntKind.i64.wrap (1 + x) = 1 + x := wrap_id (by unfold I64; omega)
        go_simp
        exact hK _ _ (Touch.refl _ _) hW.less ⟨_, rfl, by omega, by omega⟩
      · intro a W K r ho hW hr0 hrN0 hpre hK
        have hrN : r ≤ 16 := hrN0
        clear hrN0
        rw [if_pos (wanted_none rfl)]
        have e0 : a.tmps.getD 3 undef = .pointer (some ⟨W1.heap.size, 0, none⟩) := ho.slot 3 (by decide)
        go_simp
        exact hK _ _ (Touch.refl _ _) hW.less rfl
      · intro a W K r ho hW hr0 hrN0 hpre hK
        have hrN : r ≤ 16 := hrN0
        clear hrN0
        rw [if_pos (wanted_none rfl)]
        have e0 : a.tmps.getD 112 undef = .pointer (some ⟨W1.heap.size, 0, none⟩) := hpre ⟨8, .data⟩ (by simp) rfl _ rfl
        have hc := (FM.out W hW.2).1
        go_simp
        exact hK _ _ (Touch.refl _ _) hW.less rfl
      · intro a W K r ho hW hr0 hrN0 hpre hK
        have hrN : r ≤ 16 := hrN0
        clear hrN0
        rw [if_pos (wanted_none rfl)]
        have e0 : a.tmps.getD 7 undef = .int .i64 (i : Int) := ho.slot 7 (by decide)
        go_simp
        exact hK _ _ (Touch.refl _ _) hW.less rfl
      · intro a W K r ho hW hr0 hrN0 hpre hK
        have hrN : r ≤ 16 := hrN0
        clear hrN0
        rw [if_pos (wanted_none rfl)]
        have e0 : a.tmps.getD 113 undef = .slice (some ⟨g, 0, none⟩) n cc := hpre ⟨9, .data⟩ (by simp) rfl _ rfl
        have e1 : a.tmps.getD 114 undef = .int .i64 (i : Int) := hpre ⟨10, .data⟩ (by simp) rfl _ rfl
        go_simp
        exact hK _ _ (Touch.refl _ _) hW.less rfl
      · intro a W K r ho hW hr0 hrN0 hpre hK
        have hrN : r ≤ 16 := hrN0
        clear hrN0
        rw [if_pos (wanted_none rfl)]
        have e0 : a.tmps.getD 115 undef = .pointer (some ⟨g, i * 4, none⟩) := hpre ⟨11, .data⟩ (by simp) rfl _ rfl
        go_simp
        exact hK _ _ (Touch.refl _ _) hW.less rfl
      · intro a W K r ho hW hr0 hrN0 hpre hK
        have hrN : r ≤ 16 := hrN0
        clear hrN0
        rw [if_pos (wanted_none rfl)]
        have e0 : a.tmps.getD 116 undef = .pointer (some ⟨g, i * 4 + 1, none⟩) := hpre ⟨12, .data⟩ (by simp) rfl _ rfl
        have hc := (FM.out W hW.2).2
        go_simp
        exact hK _ _ (Touch.refl _ _) hW.less rfl
      · intro a W K r ho hW hr0 hrN0 hpre hK
        have hrN : r ≤ 16 := hrN0
        clear hrN0
        rw [if_pos (wanted_none rfl)]
        have e0 : a.tmps.getD 104 undef = .int .i64 17 := hpre ⟨0, .data⟩ (by simp) rfl _ rfl
        have e1 : a.tmps.getD 105 undef = .int .i64 x6 := hpre ⟨1, .data⟩ (by simp) rfl _ rfl
        have e2 : ((SpT.rng 1 60 : SpT b)).p (a.tmps.getD 108 undef) W := hpre ⟨4, .data⟩ (by simp) rfl _ rfl
        have e3 : ((SpT.rng 1 20 : SpT b)).p (a.tmps.getD 111 undef) W := hpre ⟨7, .data⟩ (by simp) rfl _ rfl
        have e4 : a.tmps.getD 117 undef = .int .i64 (pr i) := hpre ⟨13, .data⟩ (by simp) rfl _ rfl
        obtain ⟨y2, e2, h2, g2⟩ := e2
        obtain ⟨y3, e3, h3, g3⟩ := e3
        rw [Array.getD_eq_getD_getElem?] at e0 e1 e2 e3 e4
        go_simp
        exact hK _ _ (Touch.refl _ _) hW.less ⟨y2, y3, rfl, ⟨h2, g2⟩, ⟨h3, g3⟩⟩
      · intro a W K r ho hW hall hF
        have e0 : a.tmps.getD 4 undef = .pointer (some ⟨W1.heap.size + 1, 0, none⟩) := ho.slot 4 (by decide)
        have e1 : (SpT.such (b := b) (fun u => ∃ d q : Int, u = (⟨17, 0, x6, 0, 0, d, q, pr i⟩ : Ev).v ∧ (1 ≤ d ∧ d ≤ 60) ∧ (1 ≤ q ∧ q ≤ 20))).p (a.tmps.getD 118 undef) W := hall 14 _ rfl
        obtain ⟨d, q, e1, hO⟩ := e1
        have hE := HR4.out.touch hW.2 (by omega)
        obtain ⟨c0, c1, c2, c3, c4, c5, c6, c7⟩ := hE.reads
        have fz0 := Rec.frozen hE 0
        have fz1 := Rec.frozen hE 1
        have fz2 := Rec.frozen hE 2
        have fz3 := Rec.frozen hE 3
        have fz4 := Rec.frozen hE 4
        have fz5 := Rec.frozen hE 5
        have fz6 := Rec.frozen hE 6
        have fz7 := Rec.frozen hE 7
        unfold Ev.v at e1
        dsimp only at e1
        have F := Lib.hid (hF (putE W (W1.heap.size + 1) ⟨17, 0, x6, 0, 0, d, q, pr i⟩) ⟨d, q, hO, put_at hE _, (hW.1.touch (put_touch W (W1.heap.size + 1) _) (fun k e => by have := HLO.out; omega) (by omega)).more (by omega), (HT4.out.trans hW.2 (fun _ _ h => h)).trans (put_touch W (W1.heap.size + 1) _) (fun k hk e => by omega)⟩)
        unfold putE at F
        dsimp only at F
        clear hF hall hW
        go_simp
        exact F.out
      · intro a W ho hF
        obtain ⟨d, q, hO, hE, hD, hT⟩ := hF
        have heq := ho.eq
        clear ho
        simp only [putL] at heq
        generalize a.tmps.getD 104 undef = u104 at heq
        generalize a.tmps.getD 105 undef = u105 at heq
        generalize a.tmps.getD 106 undef = u106 at heq
        generalize a.tmps.getD 107 undef = u107 at heq
        generalize a.tmps.getD 108 undef = u108 at heq
        generalize a.tmps.getD 109 undef = u109 at heq
        generalize a.tmps.getD 110 undef = u110 at heq
        generalize a.tmps.getD 111 undef = u111 at heq
        generalize a.tmps.getD 112 undef = u112 at heq
        generalize a.tmps.getD 113 undef = u113 at heq
        generalize a.tmps.getD 114 undef = u114 at heq
        generalize a.tmps.getD 115 undef = u115 at heq
        generalize a.tmps.getD 116 undef = u116 at heq
        generalize a.tmps.getD 117 undef = u117 at heq
        generalize a.tmps.getD 118 undef = u118 at heq
        subst heq
        rename_i hKK
        refine hKK _ _ ?_
        go_simp
        go_wp2
        obtain ⟨g0, g1, g2, g3, g4, g5, g6, g7⟩ := hE.reads
        have hok : Good ⟨17, 0, x6, 0, 0, d, q, pr i⟩ := good_all.2.2.2.2.2.2.2.2.2.2 x6 d q (pr i) (by omega) (by omega) (by omega) (by omega) (by omega) (by omega) (by omega) (by omega)
        refine bodyPost_ret (v := (⟨17, 0, x6, 0, 0, d, q, pr i⟩ : Ev).v) (by simp [results, Tryz.results17, go_sem, Ev.v, g0, g1, g2, g3, g4, g5, g6, g7]) rfl ⟨⟨17, 0, x6, 0, 0, d, q, pr i⟩, rfl, hok.1, hok.2, hD.more (by omega), hT⟩
    · skip
      obtain ⟨g0, g1, g2, g3, g4, g5, g6, g7⟩ := (put_at HR4.out ⟨18, 0, 0, 0, 0, 0, 0, 0⟩).reads
      simp only [putE] at g0 g1 g2 g3 g4 g5 g6 g7
      have hok : Good ⟨18, 0, 0, 0, 0, 0, 0, 0⟩ := (good_all.2.2.1 18 (by omega))
      refine bodyPost_ret (v := (⟨18, 0, 0, 0, 0, 0, 0, 0⟩ : Ev).v) (by simp [results, Tryz.results17, go_sem, Ev.v, g0, g1, g2, g3, g4, g5, g6, g7]) rfl ⟨⟨18, 0, 0, 0, 0, 0, 0, 0⟩, rfl, hok.1, hok.2, ?_, ?_⟩
      · exact ((HD4.out.touch (put_touch _ (W1.heap.size + 1) ⟨18, 0, 0, 0, 0, 0, 0, 0⟩) (fun k e => by have := HLO.out; omega) (by omega)).more (by omega))
      · exact HT4.out.trans (put_touch _ (W1.heap.size + 1) ⟨18, 0, 0, 0, 0, 0, 0, 0⟩) (fun k hk e => by omega)
    · go_wp2_with (first
        | (go_at_call 15; (with_reducible refine (deck_nI 60 60 rfl W0 _ A l c b (m + 14 + 1) HD4.out (by omega) (by omega) (by omega)).mono ?_); rintro r w5 ⟨_, rfl, ⟨k5, rfl, hk5⟩, hd5, ht5⟩; clear d0 d1 d2 d3 d4 d5 d6 d7 fz0 fz1 fz2 fz3 fz4 fz5 fz6 fz7; have HR5 := Lib.hid (HR4.out.touch ht5 (by omega)); have HT5 := Lib.hid (HT4.out.trans ht5 (fun _ _ h => h)); have HD5 := Lib.hid hd5; obtain ⟨d0, d1, d2, d3, d4, d5, d6, d7⟩ := HR5.out.reads; have fz0 := Rec.frozen HR5.out 0; have fz1 := Rec.frozen HR5.out 1; have fz2 := Rec.frozen HR5.out 2; have fz3 := Rec.frozen HR5.out 3; have fz4 := Rec.frozen HR5.out 4; have fz5 := Rec.frozen HR5.out 5; have fz6 := Rec.frozen HR5.out 6; have fz7 := Rec.frozen HR5.out 7; clear ht5 hd5)
        | (go_at_call 15; (with_reducible refine (deck_nI 80 80 rfl W0 _ A l c b (m + 14 + 1 + 1) HD5.out (by omega) (by omega) (by omega)).mono ?_); rintro r w6 ⟨_, rfl, ⟨k6, rfl, hk6⟩, hd6, ht6⟩; clear d0 d1 d2 d3 d4 d5 d6 d7 fz0 fz1 fz2 fz3 fz4 fz5 fz6 fz7; have HR6 := Lib.hid (HR5.out.touch ht6 (by omega)); have HT6 := Lib.hid (HT5.out.trans ht6 (fun _ _ h => h)); have HD6 := Lib.hid hd6; obtain ⟨d0, d1, d2, d3, d4, d5, d6, d7⟩ := HR6.out.reads; have fz0 := Rec.frozen HR6.out 0; have fz1 := Rec.frozen HR6.out 1; have fz2 := Rec.frozen HR6.out 2; have fz3 := Rec.frozen HR6.out 3; have fz4 := Rec.frozen HR6.out 4; have fz5 := Rec.frozen HR6.out 5; have fz6 := Rec.frozen HR6.out 6; have fz7 := Rec.frozen HR6.out 7; clear ht6 hd6))
      obtain ⟨g0, g1, g2, g3, g4, g5, g6, g7⟩ := (put_at HR6.out ⟨19, x5, 0, 0, 0, 1 + (k5 : Int), 0, (k6 : Int) - 60⟩).reads
      simp only [putE] at g0 g1 g2 g3 g4 g5 g6 g7
      have hok : Good ⟨19, x5, 0, 0, 0, 1 + (k5 : Int), 0, (k6 : Int) - 60⟩ := (good_all.2.2.2.2.2.2.2.2.2.1 x5 (1 + (k5 : Int)) ((k6 : Int) - 60) (by omega) (by omega) (by omega) (by omega) (by omega) (by omega))
      refine bodyPost_ret (v := (⟨19, x5, 0, 0, 0, 1 + (k5 : Int), 0, (k6 : Int) - 60⟩ : Ev).v) (by simp [results, Tryz.results17, go_sem, Ev.v, g0, g1, g2, g3, g4, g5, g6, g7]) rfl ⟨⟨19, x5, 0, 0, 0, 1 + (k5 : Int), 0, (k6 : Int) - 60⟩, rfl, hok.1, hok.2, ?_, ?_⟩
      · exact ((HD6.out.touch (put_touch _ (W1.heap.size + 1) ⟨19, x5, 0, 0, 0, 1 + (k5 : Int), 0, (k6 : Int) - 60⟩) (fun k e => by have := HLO.out; omega) (by omega)).more (by omega))
      · exact HT6.out.trans (put_touch _ (W1.heap.size + 1) ⟨19, x5, 0, 0, 0, 1 + (k5 : Int), 0, (k6 : Int) - 60⟩) (fun k hk e => by omega)
    · skip
      obtain ⟨g0, g1, g2, g3, g4, g5, g6, g7⟩ := (put_at HR4.out ⟨20, 0, 0, 0, 0, 0, 0, 0⟩).reads
      simp only [putE] at g0 g1 g2 g3 g4 g5 g6 g7
      have hok : Good ⟨20, 0, 0, 0, 0, 0, 0, 0⟩ := (good_all.2.2.1 20 (by omega))
      refine bodyPost_ret (v := (⟨20, 0, 0, 0, 0, 0, 0, 0⟩ : Ev).v) (by simp [results, Tryz.results17, go_sem, Ev.v, g0, g1, g2, g3, g4, g5, g6, g7]) rfl ⟨⟨20, 0, 0, 0, 0, 0, 0, 0⟩, rfl, hok.1, hok.2, ?_, ?_⟩
      · exact ((HD4.out.touch (put_touch _ (W1.heap.size + 1) ⟨20, 0, 0, 0, 0, 0, 0, 0⟩) (fun k e => by have := HLO.out; omega) (by omega)).more (by omega))
      · exact HT4.out.trans (put_touch _ (W1.heap.size + 1) ⟨20, 0, 0, 0, 0, 0, 0, 0⟩) (fun k hk e => by omega)
    · skip
      obtain ⟨g0, g1, g2, g3, g4, g5, g6, g7⟩ := (put_at HR4.out ⟨21, 0, 0, 0, 0, 0, 0, 0⟩).reads
      simp only [putE] at g0 g1 g2 g3 g4 g5 g6 g7
      have hok : Good ⟨21, 0, 0, 0, 0, 0, 0, 0⟩ := (good_all.2.2.1 21 (by omega))
      refine bodyPost_ret (v := (⟨21, 0, 0, 0, 0, 0, 0, 0⟩ : Ev).v) (by simp [results, Tryz.results17, go_sem, Ev.v, g0, g1, g2, g3, g4, g5, g6, g7]) rfl ⟨⟨21, 0, 0, 0, 0, 0, 0, 0⟩, rfl, hok.1, hok.2, ?_, ?_⟩
      · exact ((HD4.out.touch (put_touch _ (W1.heap.size + 1) ⟨21, 0, 0, 0, 0, 0, 0, 0⟩) (fun k e => by have := HLO.out; omega) (by omega)).more (by omega))
      · exact HT4.out.trans (put_touch _ (W1.heap.size + 1) ⟨21, 0, 0, 0, 0, 0, 0, 0⟩) (fun k hk e => by omega)
    · go_wp2_with (go_at_call 29; (with_reducible refine (deck_some W0 _ A l c b (m + 14 + 1) HD4.out (by omega)).mono ?_); rintro r w5 ⟨_, rfl, ⟨s, rfl, hs⟩, hd5, ht5⟩; clear d0 d1 d2 d3 d4 d5 d6 d7 fz0 fz1 fz2 fz3 fz4 fz5 fz6 fz7; have HR5 := Lib.hid (HR4.out.touch ht5 (by omega)); have HT5 := Lib.hid (HT4.out.trans ht5 (fun _ _ h => h)); have HD5 := Lib.hid hd5; obtain ⟨d0, d1, d2, d3, d4, d5, d6, d7⟩ := HR5.out.reads; have fz0 := Rec.frozen HR5.out 0; have fz1 := Rec.frozen HR5.out 1; have fz2 := Rec.frozen HR5.out 2; have fz3 := Rec.frozen HR5.out 3; have fz4 := Rec.frozen HR5.out 4; have fz5 := Rec.frozen HR5.out 5; have fz6 := Rec.frozen HR5.out 6; have fz7 := Rec.frozen HR5.out 7; clear ht5 hd5; rcases (by omega : s < 1 ∨ ¬ s < 1) with hs1 | hs1)
      · skip
        obtain ⟨g0, g1, g2, g3, g4, g5, g6, g7⟩ := (put_at HR5.out ⟨22, x5, 0, 0, 0, 0, 1, 0⟩).reads
        simp only [putE] at g0 g1 g2 g3 g4 g5 g6 g7
        have hok : Good ⟨22, x5, 0, 0, 0, 0, 1, 0⟩ := (good_all.2.2.2.2.2.2.2.1 22 x5 1 (by omega) (by omega) (by omega) (by omega) (by omega))
        refine bodyPost_ret (v := (⟨22, x5, 0, 0, 0, 0, 1, 0⟩ : Ev).v) (by simp [results, Tryz.results17, go_sem, Ev.v, g0, g1, g2, g3, g4, g5, g6, g7]) rfl ⟨⟨22, x5, 0, 0, 0, 0, 1, 0⟩, rfl, hok.1, hok.2, ?_, ?_⟩
        · exact ((HD5.out.touch (put_touch _ (W1.heap.size + 1) ⟨22, x5, 0, 0, 0, 0, 1, 0⟩) (fun k e => by have := HLO.out; omega) (by omega)).more (by omega))
        · exact HT5.out.trans (put_touch _ (W1.heap.size + 1) ⟨22, x5, 0, 0, 0, 0, 1, 0⟩) (fun k hk e => by omega)
      · skip
        obtain ⟨g0, g1, g2, g3, g4, g5, g6, g7⟩ := (put_at HR5.out ⟨22, x5, 0, 0, 0, 0, (s : Int), 0⟩).reads
        simp only [putE] at g0 g1 g2 g3 g4 g5 g6 g7
        have hok : Good ⟨22, x5, 0, 0, 0, 0, (s : Int), 0⟩ := (good_all.2.2.2.2.2.2.2.1 22 x5 (s : Int) (by omega) (by omega) (by omega) (by omega) (by omega))
        refine bodyPost_ret (v := (⟨22, x5, 0, 0, 0, 0, (s : Int), 0⟩ : Ev).v) (by simp [results, Tryz.results17, go_sem, Ev.v, g0, g1, g2, g3, g4, g5, g6, g7]) rfl ⟨⟨22, x5, 0, 0, 0, 0, (s : Int), 0⟩, rfl, hok.1, hok.2, ?_, ?_⟩
        · exact ((HD5.out.touch (put_touch _ (W1.heap.size + 1) ⟨22, x5, 0, 0, 0, 0, (s : Int), 0⟩) (fun k e => by have := HLO.out; omega) (by omega)).more (by omega))
        · exact HT5.out.trans (put_touch _ (W1.heap.size + 1) ⟨22, x5, 0, 0, 0, 0, (s : Int), 0⟩) (fun k hk e => by omega)
    · go_wp2_with (go_at_call 46; (with_reducible refine (CO.out).mono ?_); rintro r w5 ⟨e, rfl, hok, hrt, hd5, ht5⟩; clear d0 d1 d2 d3 d4 d5 d6 d7 fz0 fz1 fz2 fz3 fz4 fz5 fz6 fz7; have HR5 := Lib.hid (HR4.out.touch ht5 (by omega)); have HT5 := Lib.hid (HT4.out.trans ht5 (fun _ _ h => h)); have HD5 := Lib.hid hd5; obtain ⟨d0, d1, d2, d3, d4, d5, d6, d7⟩ := HR5.out.reads; have fz0 := Rec.frozen HR5.out 0; have fz1 := Rec.frozen HR5.out 1; have fz2 := Rec.frozen HR5.out 2; have fz3 := Rec.frozen HR5.out 3; have fz4 := Rec.frozen HR5.out 4; have fz5 := Rec.frozen HR5.out 5; have fz6 := Rec.frozen HR5.out 6; have fz7 := Rec.frozen HR5.out 7; clear ht5 hd5; unfold Ev.v)
      obtain ⟨g0, g1, g2, g3, g4, g5, g6, g7⟩ := (put_at HR5.out e).reads
      simp only [putE] at g0 g1 g2 g3 g4 g5 g6 g7
      have hok : Good e := ⟨hok, hrt⟩
      refine bodyPost_ret (v := (e : Ev).v) (by simp [results, Tryz.results17, go_sem, Ev.v, g0, g1, g2, g3, g4, g5, g6, g7]) rfl ⟨e, rfl, hok.1, hok.2, ?_, ?_⟩
      · exact ((HD5.out.touch (put_touch _ (W1.heap.size + 1) e) (fun k e => by have := HLO.out; omega) (by omega)).more (by omega))
      · exact HT5.out.trans (put_touch _ (W1.heap.size + 1) e) (fun k hk e => by omega)
end Go.Proofs.YtmpipjangbedkaaGreat
