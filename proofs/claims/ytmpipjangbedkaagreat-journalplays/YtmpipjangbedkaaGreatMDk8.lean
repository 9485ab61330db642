import Derived.Test.YtmpipjangbedkaaGreatMDk5
/-
  The walk of novationseat's order.
-/
namespace Go.Proofs.YtmpipjangbedkaaGreat
set_option maxRecDepth 8000
open Go Go.RowKit
set_option linter.unusedVariables false

/-- An order. -/
def evOrder (x i s q p : Int) : Ev := ⟨7, 0, x, i, s, 0, q, p⟩
theorem order_ok {x i s q p : Int} (hx : 1 ≤ x ∧ x ≤ 24) (hi : 0 ≤ i ∧ i ≤ 5) (hs : 1 ≤ s ∧ s ≤ 2) (hq : 1 ≤ q ∧ q ≤ 1000000000) (hp : 1 ≤ p ∧ p ≤ 1000000000000) : (evOrder x i s q p).Ok ∧ rightE (evOrder x i s q p) = true := by
  constructor
  · constructor <;> (unfold I64 evOrder; simp only; omega)
  · rw [right_seven]
    simp [evOrder, seven, inA, loA, hiA, fieldsOf, loF, hiF, loQ, hiQ, loP, hiP, Ev.val]
    omega
/-- The drawn one's numbers. -/
structure OrdR (x s q p : Int) : Prop where
  x : 1 ≤ x ∧ x ≤ 7
  s : 1 ≤ s ∧ s ≤ 2
  q : 1 ≤ q ∧ q ≤ 30
  p : 1 ≤ p ∧ p ≤ 1000000000000
set_option maxRecDepth 100000 in
set_option maxHeartbeats 8000000 in
theorem deck_order (W0 W1 : World) (A : Option Addr) (l : List Int) (c b m : Nat) (h : Deck W0 A l c b m W1) (hm : m < 900000000) (cf : Cfg) (v : Value) (hv : CfgIn b v cf W1) :
    Calls Tryz.prog 46 #[.pointer (some ⟨b, 0, none⟩), cf.v v] W1 (EvD W0 A l c b (m + 60) W1) := by
  obtain ⟨g, n, cc, pr, rfl, hn1, hn4, hnl, hcc, hcc2, hpr, hcell⟩ := hv.opened
  have hb1 : Below W1.heap.size W1 (W1.alloc (.cells (cf.cells (.slice (some ⟨g, 0, none⟩) n cc)).toArray 31)) := (Below.refl _ _).alloc (Nat.le_refl _) _
  have hb2 : Below W1.heap.size W1 ((W1.alloc (.cells (cf.cells (.slice (some ⟨g, 0, none⟩) n cc)).toArray 31)).alloc (.cells Ev.zero.cells.toArray 51)) := hb1.alloc hb1.size _
  have HC : Hid (Rec ((W1.alloc (.cells (cf.cells (.slice (some ⟨g, 0, none⟩) n cc)).toArray 31)).alloc (.cells Ev.zero.cells.toArray 51)) W1.heap.size 31 (cf.cells (.slice (some ⟨g, 0, none⟩) n cc))) := Lib.hid ((Rec.new W1 _ (cf.cells (.slice (some ⟨g, 0, none⟩) n cc)) _ rfl).keep ((Below.refl _ _).alloc (Nat.le_refl _) _))
  have HR : Hid (EvAt ((W1.alloc (.cells (cf.cells (.slice (some ⟨g, 0, none⟩) n cc)).toArray 31)).alloc (.cells Ev.zero.cells.toArray 51)) (W1.heap.size + 1) Ev.zero) := Lib.hid (Rec.new _ _ _ _ (by simp))
  have HB2 := Lib.hid hb2
  have hbl : b < W1.heap.size := by obtain ⟨_, _, hr⟩ := h.box; exact hr.lt
  have HLO := Lib.hid h.low
  have FL : Hid (∀ W, Touch (fun k => k = b) ((W1.alloc (.cells (cf.cells (.slice (some ⟨g, 0, none⟩) n cc)).toArray 31)).alloc (.cells Ev.zero.cells.toArray 51)) W → W.cell? ⟨W1.heap.size, 0, none⟩ = some (.slice (some ⟨g, 0, none⟩) n cc) ∧ ∀ i, i < n → W.cell? ⟨g, i * 4 + 1, none⟩ = some (.int .i64 (pr i))) := Lib.hid (fun W ht =>
    ⟨(HC.out.touch ht (by omega)).cell 0 rfl, fun i hi => hcell W ((touch_keep HB2.out).trans ht (fun _ _ h => h)) i hi⟩)
  have CN := Lib.hid (deck_nI n (n : Int) rfl W0 _ A l c b m (h.keep hb2) (by omega) (by omega) (by omega))
  have HPR := Lib.hid hpr
  have HSZ : Hid (((W1.alloc (.cells (cf.cells (.slice (some ⟨g, 0, none⟩) n cc)).toArray 31)).alloc (.cells Ev.zero.cells.toArray 51)).heap.size = W1.heap.size + 2) := Lib.hid (by simp)
  unfold Cfg.v
  clear h hv hb1 hb2 hpr hnl hcell
  simp only [Cfg.cells, Ev.zero, Ev.cells] at CN
  go_enter Tryz.func46, Tryz.ntmps46
  go_wp2_with (go_at_call 15; (with_reducible refine CN.out.mono ?_); rintro r w3 ⟨_, rfl, ⟨i, rfl, hi⟩, hd3, ht3⟩; have HD3 := Lib.hid hd3; have HT3 := Lib.hid ht3; clear hd3 ht3)
  -- REGION
  have hw3 : W1.heap.size + 2 ≤ w3.heap.size := by have := HT3.out.size; simpa using this
  have hp2 := HPR.out i hi
  obtain ⟨p0, hp0⟩ : ∃ p0, p0 = pr i := ⟨_, rfl⟩
  rw [← hp0] at hp2
  have FM : Hid (∀ W, Touch (fun k => k = b) w3 W → W.cell? ⟨W1.heap.size, 0, none⟩ = some (.slice (some ⟨g, 0, none⟩) n cc) ∧ W.cell? ⟨g, i * 4 + 1, none⟩ = some (.int .i64 p0)) := Lib.hid (fun W ht => by
    have := FL.out W (HT3.out.trans ht (fun _ _ h => h))
    rw [hp0]
    exact ⟨this.1, this.2 i hi⟩)
  have HR3 := Lib.hid (HR.out.touch HT3.out (by omega))
  have HT13 := Lib.hid ((touch_keep HB2.out).trans HT3.out (fun _ _ h => h))
  have hi5 : i ≤ 5 := by omega
  clear FL HR HC HB2 CN HPR hp0 HT3
  refine wp_region_dagV [12, 13, 14, 15, 16, 17, 18, 19, 20, 21, 22, 23, 24, 25, 26, 27, 28, 29, 30, 31, 32, 33, 34, 6] (fun W W' => Touch (fun k => k = b) W W') (DW W0 A l c b (m + 1) 25 _) (spT (b := b) [.val (.pointer (some ⟨b, 0, none⟩)), .rng 0 6, .rng 1 7, .val (.int .i64 (i : Int)), .val (.pointer (some ⟨b, 0, none⟩)), .rng 0 1, .rng 1 2, .val (.pointer (some ⟨b, 0, none⟩)), .rng 0 29, .rng 1 30, .val (.pointer (some ⟨W1.heap.size, 0, none⟩)), .val (.slice (some ⟨g, 0, none⟩) n cc), .val (.int .i64 (i : Int)), .val (.pointer (some ⟨g, i * 4, none⟩)), .val (.pointer (some ⟨g, i * 4 + 1, none⟩)), .val (.int .i64 p0), .val (.pointer (some ⟨b, 0, none⟩)), .rng 0 20, .rng 1 1000000000060, .rng (-29) 1000000000060, .rng (-29) 1000000000000, .rng 1 1000000000000, .such (fun u => ∃ (x s q p : Int), u = (evOrder x (i : Int) s q p).v ∧ OrdR x s q p), .box w3.heap.size (by omega)]) (fun a W => ∃ (bX : Nat) (x s q p : Int), a.tmps.getD 6 undef = .pointer (some ⟨bX, 0, none⟩) ∧ w3.heap.size ≤ bX ∧ OrdR x s q p ∧ EvAt W bX (evOrder x (i : Int) s q p) ∧ Deck W0 A l c b (m + 1 + 25) W ∧ Touch (fun k => k = b) w3 W) rfl rfl rfl rfl rfl rfl rfl rfl (spT_st _) (DW.start HD3.out) ⟨?_, ?_, ?_, ?_, ?_, ?_, ?_, ?_, ?_, ?_, ?_, ?_, ?_, ?_, ?_, ?_, ?_, ?_, ?_, ?_, ?_, ?_, ?_, ?_, trivial⟩ ?_ ?_
  · intro a W K r ho hW hr0 hrN0 hpre hK
    have hrN : r ≤ 25 := hrN0
    clear hrN0
    rw [if_pos (wanted_none rfl)]
    have e0 : a.tmps.getD 0 undef = .pointer (some ⟨b, 0, none⟩) := ho.slot 0 (by decide)
    go_simp
    exact hK _ _ (Touch.refl _ _) hW.less rfl
  · intro a W K r ho hW hr0 hrN0 hpre hK
    have hrN : r ≤ 25 := hrN0
    clear hrN0
    rw [if_pos (wanted_none rfl)]
    have e0 : a.tmps.getD 12 undef = .pointer (some ⟨b, 0, none⟩) := hpre ⟨0, .data⟩ (by simp) rfl _ rfl
    go_simp
    refine (deck_nI 7 7 rfl W0 W A l c b _ hW.1 (by omega) (by omega) (by omega)).mono ?_
    rintro e w2 ⟨_, rfl, ⟨k, rfl, hk⟩, hd, ht⟩
    exact hK _ _ ht (hW.next hr0 hrN hd ht) ⟨(k : Int), rfl, by omega, by omega⟩
  · intro a W K r ho hW hr0 hrN0 hpre hK
    have hrN : r ≤ 25 := hrN0
    clear hrN0
    rw [if_pos (wanted_none rfl)]
    have e0 : ((SpT.rng 0 6 : SpT b)).p (a.tmps.getD 13 undef) W := hpre ⟨1, .data⟩ (by simp) rfl _ rfl
    obtain ⟨x, e0, h1, g1⟩ := e0
    have hw : IntKind.i64.wrap (1 + x) = 1 + x := wrap_id (by unfold I64; omega)
    go_simp
    exact hK _ _ (Touch.refl _ _) hW.less ⟨_, rfl, by omega, by omega⟩
  · intro a W K r ho hW hr0 hrN0 hpre hK
    have hrN : r ≤ 25 := hrN0
    clear hrN0
    rw [if_pos (wanted_none rfl)]
    have e0 : a.tmps.getD 5 undef = .int .i64 (i : Int) := ho.slot 5 (by decide)
    go_simp
    exact hK _ _ (Touch.refl _ _) hW.less rfl
  · intro a W K r ho hW hr0 hrN0 hpre hK
    have hrN : r ≤ 25 := hrN0
    clear hrN0
    rw [if_pos (wanted_none rfl)]
    have e0 : a.tmps.getD 0 undef = .pointer (some ⟨b, 0, none⟩) := ho.slot 0 (by decide)
    go_simp
    exact hK _ _ (Touch.refl _ _) hW.less rfl
  · intro a W K r ho hW hr0 hrN0 hpre hK
    have hrN : r ≤ 25 := hrN0
    clear hrN0
    rw [if_pos (wanted_none rfl)]
    have e0 : a.tmps.getD 16 undef = .pointer (some ⟨b, 0, none⟩) := hpre ⟨4, .data⟩ (by simp) rfl _ rfl
    go_simp
    refine (deck_nI 2 2 rfl W0 W A l c b _ hW.1 (by omega) (by omega) (by omega)).mono ?_
    rintro e w2 ⟨_, rfl, ⟨k, rfl, hk⟩, hd, ht⟩
    exact hK _ _ ht (hW.next hr0 hrN hd ht) ⟨(k : Int), rfl, by omega, by omega⟩
  · intro a W K r ho hW hr0 hrN0 hpre hK
    have hrN : r ≤ 25 := hrN0
    clear hrN0
    rw [if_pos (wanted_none rfl)]
    have e0 : ((SpT.rng 0 1 : SpT b)).p (a.tmps.getD 17 undef) W := hpre ⟨5, .data⟩ (by simp) rfl _ rfl
    obtain ⟨x, e0, h1, g1⟩ := e0
    have hw : IntKind.i64.wrap (1 + x) = 1 + x := wrap_id (by unfold I64; omega)
    go_simp
    exact hK _ _ (Touch.refl _ _) hW.less ⟨_, rfl, by omega, by omega⟩
  · intro a W K r ho hW hr0 hrN0 hpre hK
    have hrN : r ≤ 25 := hrN0
    clear hrN0
    rw [if_pos (wanted_none rfl)]
    have e0 : a.tmps.getD 0 undef = .pointer (some ⟨b, 0, none⟩) := ho.slot 0 (by decide)
    go_simp
    exact hK _ _ (Touch.refl _ _) hW.less rfl
  · intro a W K r ho hW hr0 hrN0 hpre hK
    have hrN : r ≤ 25 := hrN0
    clear hrN0
    rw [if_pos (wanted_none rfl)]
    have e0 : a.tmps.getD 19 undef = .pointer (some ⟨b, 0, none⟩) := hpre ⟨7, .data⟩ (by simp) rfl _ rfl
    go_simp
    refine (deck_nI 30 30 rfl W0 W A l c b _ hW.1 (by omega) (by omega) (by omega)).mono ?_
    rintro e w2 ⟨_, rfl, ⟨k, rfl, hk⟩, hd, ht⟩
    exact hK _ _ ht (hW.next hr0 hrN hd ht) ⟨(k : Int), rfl, by omega, by omega⟩
  · intro a W K r ho hW hr0 hrN0 hpre hK
    have hrN : r ≤ 25 := hrN0
    clear hrN0
    rw [if_pos (wanted_none rfl)]
    have e0 : ((SpT.rng 0 29 : SpT b)).p (a.tmps.getD 20 undef) W := hpre ⟨8, .data⟩ (by simp) rfl _ rfl
    obtain ⟨x, e0, h1, g1⟩ := e0
    have hw : IntKind.i64.wrap (1 + x) = 1 + x := wrap_id (by unfold I64; omega)
    go_simp
    exact hK _ _ (Touch.refl _ _) hW.less ⟨_, rfl, by omega, by omega⟩
  · intro a W K r ho hW hr0 hrN0 hpre hK
    have hrN : r ≤ 25 := hrN0
    clear hrN0
    rw [if_pos (wanted_none rfl)]
    have e0 : a.tmps.getD 3 undef = .pointer (some ⟨W1.heap.size, 0, none⟩) := ho.slot 3 (by decide)
    go_simp
    exact hK _ _ (Touch.refl _ _) hW.less rfl
  · intro a W K r ho hW hr0 hrN0 hpre hK
    have hrN : r ≤ 25 := hrN0
    clear hrN0
    rw [if_pos (wanted_none rfl)]
    have e0 : a.tmps.getD 22 undef = .pointer (some ⟨W1.heap.size, 0, none⟩) := hpre ⟨10, .data⟩ (by simp) rfl _ rfl
    have hc := (FM.out W hW.2).1
    go_simp
    exact hK _ _ (Touch.refl _ _) hW.less rfl
  · intro a W K r ho hW hr0 hrN0 hpre hK
    have hrN : r ≤ 25 := hrN0
    clear hrN0
    rw [if_pos (wanted_none rfl)]
    have e0 : a.tmps.getD 5 undef = .int .i64 (i : Int) := ho.slot 5 (by decide)
    go_simp
    exact hK _ _ (Touch.refl _ _) hW.less rfl
  · intro a W K r ho hW hr0 hrN0 hpre hK
    have hrN : r ≤ 25 := hrN0
    clear hrN0
    rw [if_pos (wanted_none rfl)]
    have e0 : a.tmps.getD 23 undef = .slice (some ⟨g, 0, none⟩) n cc := hpre ⟨11, .data⟩ (by simp) rfl _ rfl
    have e1 : a.tmps.getD 24 undef = .int .i64 (i : Int) := hpre ⟨12, .data⟩ (by simp) rfl _ rfl
    go_simp
    exact hK _ _ (Touch.refl _ _) hW.less rfl
  · intro a W K r ho hW hr0 hrN0 hpre hK
    have hrN : r ≤ 25 := hrN0
    clear hrN0
    rw [if_pos (wanted_none rfl)]
    have e0 : a.tmps.getD 25 undef = .pointer (some ⟨g, i * 4, none⟩) := hpre ⟨13, .data⟩ (by simp) rfl _ rfl
    go_simp
    exact hK _ _ (Touch.refl _ _) hW.less rfl
  · intro a W K r ho hW hr0 hrN0 hpre hK
    have hrN : r ≤ 25 := hrN0
    clear hrN0
    rw [if_pos (wanted_none rfl)]
    have e0 : a.tmps.getD 26 undef = .pointer (some ⟨g, i * 4 + 1, none⟩) := hpre ⟨14, .data⟩ (by simp) rfl _ rfl
    have hc := (FM.out W hW.2).2
    go_simp
    exact hK _ _ (Touch.refl _ _) hW.less rfl
  · intro a W K r ho hW hr0 hrN0 hpre hK
    have hrN : r ≤ 25 := hrN0
    clear hrN0
    rw [if_pos (wanted_none rfl)]
    have e0 : a.tmps.getD 0 undef = .pointer (some ⟨b, 0, none⟩) := ho.slot 0 (by decide)
    go_simp
    exact hK _ _ (Touch.refl _ _) hW.less rfl
  · intro a W K r ho hW hr0 hrN0 hpre hK
    have hrN : r ≤ 25 := hrN0
    clear hrN0
    rw [if_pos (wanted_none rfl)]
    have e0 : a.tmps.getD 28 undef = .pointer (some ⟨b, 0, none⟩) := hpre ⟨16, .data⟩ (by simp) rfl _ rfl
    go_simp
    refine (deck_nI 21 21 rfl W0 W A l c b _ hW.1 (by omega) (by omega) (by omega)).mono ?_
    rintro e w2 ⟨_, rfl, ⟨k, rfl, hk⟩, hd, ht⟩
    exact hK _ _ ht (hW.next hr0 hrN hd ht) ⟨(k : Int), rfl, by omega, by omega⟩
  · intro a W K r ho hW hr0 hrN0 hpre hK
    have hrN : r ≤ 25 := hrN0
    clear hrN0
    rw [if_pos (wanted_none rfl)]
    have e0 : a.tmps.getD 27 undef = .int .i64 p0 := hpre ⟨15, .data⟩ (by simp) rfl _ rfl
    have e1 : ((SpT.rng 0 20 : SpT b)).p (a.tmps.getD 29 undef) W := hpre ⟨17, .data⟩ (by simp) rfl _ rfl
    obtain ⟨x, e1, h1, g1⟩ := e1
    have hw : IntKind.i64.wrap (p0 + x) = p0 + x := wrap_id (by unfold I64; omega)
    go_simp
    exact hK _ _ (Touch.refl _ _) hW.less ⟨_, rfl, by omega, by omega⟩
  · intro a W K r ho hW hr0 hrN0 hpre hK
    have hrN : r ≤ 25 := hrN0
    clear hrN0
    rw [if_pos (wanted_none rfl)]
    have e0 : ((SpT.rng 1 1000000000060 : SpT b)).p (a.tmps.getD 30 undef) W := hpre ⟨18, .data⟩ (by simp) rfl _ rfl
    obtain ⟨x, e0, h1, g1⟩ := e0
    have hw : IntKind.i64.wrap (x - 10) = x - 10 := wrap_id (by unfold I64; omega)
    go_simp
    exact hK _ _ (Touch.refl _ _) hW.less ⟨_, rfl, by omega, by omega⟩
  · intro a W K r ho hW hr0 hrN0 hpre hK
    have hrN : r ≤ 25 := hrN0
    clear hrN0
    rw [if_pos (wanted_none rfl)]
    have e0 : ((SpT.rng (-29) 1000000000060 : SpT b)).p (a.tmps.getD 31 undef) W := hpre ⟨19, .data⟩ (by simp) rfl _ rfl
    obtain ⟨x, e0, h1, g1⟩ := e0
    rcases (by omega : x < 1000000000000 ∨ ¬ x < 1000000000000) with h2 | h2
    · go_simp
      exact hK _ _ (Touch.refl _ _) hW.less ⟨_, rfl, by omega, by omega⟩
    · go_simp
      exact hK _ _ (Touch.refl _ _) hW.less ⟨_, rfl, by omega, by omega⟩
  · intro a W K r ho hW hr0 hrN0 hpre hK
    have hrN : r ≤ 25 := hrN0
    clear hrN0
    rw [if_pos (wanted_none rfl)]
    have e0 : ((SpT.rng (-29) 1000000000000 : SpT b)).p (a.tmps.getD 32 undef) W := hpre ⟨20, .data⟩ (by simp) rfl _ rfl
    obtain ⟨x, e0, h1, g1⟩ := e0
    rcases (by omega : 1 < x ∨ ¬ 1 < x) with h2 | h2
    · go_simp
      exact hK _ _ (Touch.refl _ _) hW.less ⟨_, rfl, by omega, by omega⟩
    · go_simp
      exact hK _ _ (Touch.refl _ _) hW.less ⟨_, rfl, by omega, by omega⟩
  · intro a W K r ho hW hr0 hrN0 hpre hK
    have hrN : r ≤ 25 := hrN0
    clear hrN0
    rw [if_pos (wanted_none rfl)]
    have e0 : ((SpT.rng 1 7 : SpT b)).p (a.tmps.getD 14 undef) W := hpre ⟨2, .data⟩ (by simp) rfl _ rfl
    have e1 : a.tmps.getD 15 undef = .int .i64 (i : Int) := hpre ⟨3, .data⟩ (by simp) rfl _ rfl
    have e2 : ((SpT.rng 1 2 : SpT b)).p (a.tmps.getD 18 undef) W := hpre ⟨6, .data⟩ (by simp) rfl _ rfl
    have e3 : ((SpT.rng 1 30 : SpT b)).p (a.tmps.getD 21 undef) W := hpre ⟨9, .data⟩ (by simp) rfl _ rfl
    have e4 : ((SpT.rng 1 1000000000000 : SpT b)).p (a.tmps.getD 33 undef) W := hpre ⟨21, .data⟩ (by simp) rfl _ rfl
    obtain ⟨x0, e0, h0, g0⟩ := e0
    obtain ⟨x2, e2, h2, g2⟩ := e2
    obtain ⟨x3, e3, h3, g3⟩ := e3
    obtain ⟨x4, e4, h4, g4⟩ := e4
    rw [Array.getD_eq_getD_getElem?] at e0 e1 e2 e3 e4
    go_simp
    exact hK _ _ (Touch.refl _ _) hW.less ⟨x0, x2, x3, x4, rfl, ⟨h0, g0⟩, ⟨h2, g2⟩, ⟨h3, g3⟩, ⟨h4, g4⟩⟩
  · intro a W K r ho hW hr0 hrN0 hpre hK
    have hrN : r ≤ 25 := hrN0
    clear hrN0
    rw [if_pos (wanted_none rfl)]
    go_simp
    exact hK _ _ (Touch.of_below (fun k => k = b) ((Below.refl _ _).alloc (Nat.le_refl _) _)) (hW.keep ((Below.refl _ _).alloc (Nat.le_refl _) _)) ⟨_, rfl, (by have := hW.2.size; omega), Rec.new _ _ Ev.zero.cells _ rfl⟩
  · intro a W K r ho hW hall hF
    have e0 : (SpT.box (b := b) w3.heap.size (by omega)).p (a.tmps.getD 6 undef) W := hall 23 _ rfl
    have e1 : (SpT.such (b := b) (fun u => ∃ (x s q p : Int), u = (evOrder x (i : Int) s q p).v ∧ OrdR x s q p)).p (a.tmps.getD 34 undef) W := hall 22 _ rfl
    obtain ⟨bX, e0, hbX, hE⟩ := e0
    obtain ⟨x, s, q, p, e1, hO⟩ := e1
    obtain ⟨c0, c1, c2, c3, c4, c5, c6, c7⟩ := hE.reads
    have fz0 := Rec.frozen hE 0; have fz1 := Rec.frozen hE 1; have fz2 := Rec.frozen hE 2; have fz3 := Rec.frozen hE 3; have fz4 := Rec.frozen hE 4; have fz5 := Rec.frozen hE 5; have fz6 := Rec.frozen hE 6; have fz7 := Rec.frozen hE 7
    unfold evOrder Ev.v at e1
    dsimp only at e1
    have hbw : w3.heap.size ≤ bX ∨ bX < w3.heap.size := by omega
    have F := Lib.hid (hF (putE W bX (evOrder x (i : Int) s q p)) ⟨bX, x, s, q, p, e0, hbX, hO, put_at hE _, (hW.1.touch (put_touch W bX _) (fun k e => by have := HLO.out; omega) (by omega)).more (by omega), hW.2.trans (put_touch W bX _) (fun k hk e => by omega)⟩)
    unfold putE evOrder at F
    dsimp only at F
    clear hF hall hW
    go_simp
    exact F.out
  · intro a W ho hF
    obtain ⟨bX, x, s, q, p, e7, hbX, hO, hE, hD, hT⟩ := hF
    have heq := ho.eq
    clear ho
    simp only [putL, e7] at heq
    generalize a.tmps.getD 12 undef = u12 at heq
    generalize a.tmps.getD 13 undef = u13 at heq
    generalize a.tmps.getD 14 undef = u14 at heq
    generalize a.tmps.getD 15 undef = u15 at heq
    generalize a.tmps.getD 16 undef = u16 at heq
    generalize a.tmps.getD 17 undef = u17 at heq
    generalize a.tmps.getD 18 undef = u18 at heq
    generalize a.tmps.getD 19 undef = u19 at heq
    generalize a.tmps.getD 20 undef = u20 at heq
    generalize a.tmps.getD 21 undef = u21 at heq
    generalize a.tmps.getD 22 undef = u22 at heq
    generalize a.tmps.getD 23 undef = u23 at heq
    generalize a.tmps.getD 24 undef = u24 at heq
    generalize a.tmps.getD 25 undef = u25 at heq
    generalize a.tmps.getD 26 undef = u26 at heq
    generalize a.tmps.getD 27 undef = u27 at heq
    generalize a.tmps.getD 28 undef = u28 at heq
    generalize a.tmps.getD 29 undef = u29 at heq
    generalize a.tmps.getD 30 undef = u30 at heq
    generalize a.tmps.getD 31 undef = u31 at heq
    generalize a.tmps.getD 32 undef = u32 at heq
    generalize a.tmps.getD 33 undef = u33 at heq
    generalize a.tmps.getD 34 undef = u34 at heq
    clear e7
    subst heq
    rename_i hKK
    refine hKK _ _ ?_
    go_simp
    have HRW := Lib.hid (HR3.out.touch hT (by omega))
    have HE := Lib.hid hE
    have HT := Lib.hid (HT13.out.trans hT (fun _ _ h => h))
    have CY := Lib.hid (deck_yesI 30 30 rfl W0 W A l c b (m + 1 + 25) hD (by omega) (by omega) (by omega))
    clear hE hT hD FM HR3 HD3 HT13
    go_wp2_with (go_at_call 12; (with_reducible refine CY.out.mono ?_); rintro r w4 ⟨_, rfl, hee, hd4, ht4⟩; have HR4 := Lib.hid (HRW.out.touch ht4 (by omega)); have HE4 := Lib.hid (HE.out.touch ht4 (by omega)); have HT4 := Lib.hid (HT.out.trans ht4 (fun _ _ h => h)); have HD4 := Lib.hid hd4; have CS := Lib.hid (deck_some W0 w4 A l c b (m + 1 + 25 + 1) hd4 (by omega)); obtain ⟨c0, c1, c2, c3, c4, c5, c6, c7⟩ := HE4.out.reads; obtain ⟨d0, d1, d2, d3, d4, d5, d6, d7⟩ := HR4.out.reads; have fz0 := Rec.frozen HR4.out 0; have fz1 := Rec.frozen HR4.out 1; have fz2 := Rec.frozen HR4.out 2; have fz3 := Rec.frozen HR4.out 3; have fz4 := Rec.frozen HR4.out 4; have fz5 := Rec.frozen HR4.out 5; have fz6 := Rec.frozen HR4.out 6; have fz7 := Rec.frozen HR4.out 7; clear ht4 hd4; rcases hee with rfl | rfl)
    · go_wp2_with (first
        | (go_at_call 29; (with_reducible refine CS.out.mono ?_); rintro r w5 ⟨_, rfl, ⟨s5, rfl, hs5⟩, hd5, ht5⟩; clear CS c0 c1 c2 c3 c4 c5 c6 c7 d0 d1 d2 d3 d4 d5 d6 d7 fz0 fz1 fz2 fz3 fz4 fz5 fz6 fz7; (obtain ⟨q5, hq5⟩ : ∃ q, q = s5 % 1000000000 := ⟨_, rfl⟩); have hr5 : (s5 : Int) % 1000000000 = (q5 : Int) := (by omega); have hq5l : q5 < 1000000000 := (by omega); clear hq5; have HR5 := Lib.hid (HR4.out.touch ht5 (by omega)); have HE5 := Lib.hid (HE4.out.touch ht5 (by omega)); have HT5 := Lib.hid (HT4.out.trans ht5 (fun _ _ h => h)); have CS5 := Lib.hid (deck_some W0 w5 A l c b (m + 1 + 25 + 1 + 1) hd5 (by omega)); clear ht5 hd5)
        | (go_at_call 29; (with_reducible refine CS5.out.mono ?_); rintro r w6 ⟨_, rfl, ⟨s6, rfl, hs6⟩, hd6, ht6⟩; (obtain ⟨q6, hq6⟩ : ∃ q, q = s6 % 1000000000000 := ⟨_, rfl⟩); have hr6 : (s6 : Int) % 1000000000000 = (q6 : Int) := (by omega); have hq6l : q6 < 1000000000000 := (by omega); clear hq6; have HR6 := Lib.hid (HR5.out.touch ht6 (by omega)); have HE6 := Lib.hid (HE5.out.touch ht6 (by omega)); have HT6 := Lib.hid (HT5.out.trans ht6 (fun _ _ h => h)); have HD6 := Lib.hid hd6; obtain ⟨c0, c1, c2, c3, c4, c5, c6, c7⟩ := HE6.out.reads; have gz6 := Rec.frozen HE6.out 6; have gz7 := Rec.frozen HE6.out 7; obtain ⟨d0, d1, d2, d3, d4, d5, d6, d7⟩ := HR6.out.reads; have fz0 := Rec.frozen HR6.out 0; have fz1 := Rec.frozen HR6.out 1; have fz2 := Rec.frozen HR6.out 2; have fz3 := Rec.frozen HR6.out 3; have fz4 := Rec.frozen HR6.out 4; have fz5 := Rec.frozen HR6.out 5; have fz6 := Rec.frozen HR6.out 6; have fz7 := Rec.frozen HR6.out 7; clear ht6 hd6))
      have hne : W1.heap.size + 1 ≠ bX := by omega
      have K1 : EvAt ((w6.setCell ⟨bX, 6, none⟩ (.int .i64 (1 + (q5 : Int)))).setCell ⟨bX, 7, none⟩ (.int .i64 (1 + (q6 : Int)))) (W1.heap.size + 1) Ev.zero := (HR6.out.touch (Touch.setCell w6 ⟨bX, 6, none⟩ _) hne).touch (Touch.setCell _ ⟨bX, 7, none⟩ _) hne
      obtain ⟨g0, g1, g2, g3, g4, g5, g6, g7⟩ := (put_at K1 (evOrder x (i : Int) s (1 + (q5 : Int)) (1 + (q6 : Int)))).reads
      simp only [putE, evOrder] at g0 g1 g2 g3 g4 g5 g6 g7
      have hok := order_ok (x := x) (i := (i : Int)) (s := s) (q := 1 + (q5 : Int)) (p := 1 + (q6 : Int)) (by have := hO.x; omega) (by omega) hO.s (by omega) (by omega)
      refine bodyPost_ret (v := (evOrder x (i : Int) s (1 + (q5 : Int)) (1 + (q6 : Int))).v) (by simp [results, Tryz.results46, go_sem, evOrder, Ev.v, g0, g1, g2, g3, g4, g5, g6, g7]) rfl ⟨evOrder x (i : Int) s (1 + (q5 : Int)) (1 + (q6 : Int)), rfl, hok.1, hok.2, ?_, ?_⟩
      · exact ((((HD6.out.touch (Touch.setCell w6 ⟨bX, 6, none⟩ _) (fun k e => by have := HLO.out; simp only at e; omega) (by simp only; omega)).touch (Touch.setCell _ ⟨bX, 7, none⟩ _) (fun k e => by have := HLO.out; simp only at e; omega) (by simp only; omega)).touch (put_touch _ (W1.heap.size + 1) (evOrder x (i : Int) s (1 + (q5 : Int)) (1 + (q6 : Int)))) (fun k e => by have := HLO.out; omega) (by omega)).more (by omega))
      · exact ((HT6.out.trans (Touch.setCell w6 ⟨bX, 6, none⟩ _) (fun k hk e => by simp only at e; omega)).trans (Touch.setCell _ ⟨bX, 7, none⟩ _) (fun k hk e => by simp only at e; omega)).trans (put_touch _ (W1.heap.size + 1) (evOrder x (i : Int) s (1 + (q5 : Int)) (1 + (q6 : Int)))) (fun k hk e => by omega)
    · go_wp2
      obtain ⟨g0, g1, g2, g3, g4, g5, g6, g7⟩ := (put_at HR4.out (evOrder x (i : Int) s q p)).reads
      simp only [putE, evOrder] at g0 g1 g2 g3 g4 g5 g6 g7
      have hok := order_ok (x := x) (i := (i : Int)) (s := s) (q := q) (p := p) (by have := hO.x; omega) (by omega) hO.s (by have := hO.q; omega) hO.p
      refine bodyPost_ret (v := (evOrder x (i : Int) s q p).v) (by simp [results, Tryz.results46, go_sem, evOrder, Ev.v, g0, g1, g2, g3, g4, g5, g6, g7]) rfl ⟨evOrder x (i : Int) s q p, rfl, hok.1, hok.2, ?_, ?_⟩
      · exact ((HD4.out.touch (put_touch _ (W1.heap.size + 1) (evOrder x (i : Int) s q p)) (fun k e => by have := HLO.out; omega) (by omega)).more (by omega))
      · exact HT4.out.trans (put_touch _ (W1.heap.size + 1) (evOrder x (i : Int) s q p)) (fun k hk e => by omega)
end Go.Proofs.YtmpipjangbedkaaGreat
