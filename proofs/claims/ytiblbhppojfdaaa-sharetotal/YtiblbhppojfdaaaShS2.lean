/-
  The walk of package share's Split of some units.
-/
import Derived.Test.YtiblbhppojfdaaaShS1
namespace Go.Proofs.Ytiblbhppojfdaaa
open Go.RowKit

/-- What stands in memory while shares are cut: shares, rests. -/
def SplS (w : World) (a b : List Int) (wr : World) : Prop := RowK wr .i64 w.heap.size a ∧ RowK wr .i64 (w.heap.size + 1) b ∧ Below w.heap.size w wr ∧ w.heap.size + 1 < wr.heap.size
theorem SplS.below {w wr w2 : World} {a b : List Int} (h : SplS w a b wr) (hb : Below wr.heap.size wr w2) : SplS w a b w2 :=
  ⟨h.1.below hb, h.2.1.below hb, h.2.2.1.trans (hb.mono h.2.2.1.size), Nat.lt_of_lt_of_le h.2.2.2 hb.size⟩
theorem SplS.two {w wr : World} {a b : List Int} (h : SplS w a b wr) (k : Nat) (ha : k < a.length) (hb : k < b.length) (x y : Int) :
    SplS w (a.set k x) (b.set k y) ((wr.setCell ⟨w.heap.size, k, none⟩ (.int .i64 x)).setCell ⟨w.heap.size + 1, k, none⟩ (.int .i64 y)) :=
  ⟨(h.1.set k ha x).other (by omega) _ _, (h.2.1.other (by omega) _ _).set k hb y, (h.2.2.1.setCell (p := ⟨w.heap.size, k, none⟩) (Nat.le_refl _) _).setCell (p := ⟨w.heap.size + 1, k, none⟩) (by simp) _, by simpa [World.setCell] using h.2.2.2⟩
theorem SplS.one {w wr : World} {a b : List Int} (h : SplS w a b wr) (k : Nat) (ha : k < a.length) (x : Int) :
    SplS w (a.set k x) b (wr.setCell ⟨w.heap.size, k, none⟩ (.int .i64 x)) :=
  ⟨h.1.set k ha x, h.2.1.other (by omega) _ _, h.2.2.1.setCell (p := ⟨w.heap.size, k, none⟩) (Nat.le_refl _) _, by simpa [World.setCell] using h.2.2.2⟩
theorem SplS.new (w : World) (n : Nat) (t : TypeId) : SplS w (List.replicate n 0) (List.replicate n 0) ((w.alloc (.cells (madeCells #[.int .i64 0] n) t)).alloc (.cells (madeCells #[.int .i64 0] n) t)) :=
  ⟨(RowK.new w .i64 n t _ rfl).alloc _, RowK.new _ .i64 n t _ (by simp), ((Below.refl _ _).alloc (Nat.le_refl _) _).alloc (by simp) _, by simp⟩

set_option maxRecDepth 8000 in
set_option maxHeartbeats 2000000 in
theorem split_some (t : Int) (A : Option Addr) (l : List Int) (c : Nat) (w : World) (hr : Ints w .i64 A l) (hl : ∀ x ∈ l, I64 x) (ht : 0 < t) (ht1 : I64 t) (h : MayS t l) (hs : fits l.sum = true) :
    Calls Try.prog 30 #[.int .i64 t, .slice A l.length c] w (SliceC w (splitL t l) 0) := by
  obtain ⟨h0, h1, h2⟩ := h
  have hw : ∀ x ∈ l, 0 ≤ x := by
    unfold areW at h1
    simp at h1
    exact anyNeg_false h1.2
  have hn : l.length ≤ 64 := by
    unfold areW at h1
    simp at h1
    exact h1.1
  have hS := pos_sum hw (anyPos_true (h2 ht))
  have hSi := fits_iff.1 hs
  have C1 := Lib.hid (areW_any A l c w hr (by omega))
  have C2 := Lib.hid (anyPos_any A l c w hr (by omega))
  have C3 := Lib.hid (asum_any A l c w hr hl (by omega))
  rw [h1] at C1
  rw [h2 ht] at C2
  rw [hs, held_of hSi] at C3
  have hmk := made_i64 l.length (by omega)
  have hlk := lack_range t l h0 hw hS
  have d1 : decide (t < 0) = false := decide_eq_false (by omega)
  have d2 : decide (0 < t) = true := decide_eq_true ht
  have d3 : (t == 0) = false := beq_eq_false_iff_ne.2 (by omega)
  have HQ : Hid (∀ k, k < l.length → ∀ W, Calls Try.prog 58 #[.int .i64 t, .int .i64 (l.getD k 0), .int .i64 l.sum] W fun e w' => e = .returned (.tuple #[.int .i64 ((quo t l).getD k 0), .int .i64 ((rst t l).getD k 0)]) ∧ Below W.heap.size W w') := Lib.hid fun k hk W => by
    have hp := part_any t (l.getD k 0) l.sum ht1 (hl _ (getD_mem hk)) (by omega) hSi W
    have hq := quo_range t l h0 hw hS k hk
    rw [quo_getD _ _ _ hk, rst_getD _ _ _ hk]
    rw [quo_getD _ _ _ hk] at hq
    rw [held_of (x := t * l.getD k 0 / l.sum) (by unfold I64 at ht1 ⊢; omega)] at hp
    exact hp
  have HM := Lib.hid (fun k => quo_take t l h0 hw hS k)
  have HG := Lib.hid (fun k => quo_range t l h0 hw hS k)
  have HN0 := Lib.hid (SplS.new w l.length 2)
  have HR := Lib.hid hr
  have hI := ht1
  unfold I64 at hI
  clear hr hl h1 h2 hw hs ht1
  unfold I64 at hSi
  go_enter Try.func30, Try.ntmps30
  go_wp2_with (first
    | (go_at_call 55; refine C1.out.mono ?_; rintro e w' ⟨rfl, rfl⟩)
    | (go_at_call 56; refine C2.out.mono ?_; rintro e w' ⟨rfl, rfl⟩)
    | (go_at_call 57; refine C3.out.mono ?_; rintro e w' ⟨rfl, rfl⟩))
  go_loopw [10, 50] (fun m i wr => ∃ k : Nat, k ≤ l.length ∧ i = .int .i64 k ∧ m = .int .i64 (t - ((quo t l).take k).sum) ∧ Hid (SplS w (fillTo (quo t l) k) (fillTo (rst t l) k) wr)) (fun _ i _ => l.length - (intOf i).toNat)
  case atStart =>
    refine ⟨0, Nat.zero_le _, rfl, by simp, ?_⟩
    rw [← fillTo_zero (quo t l) l.length (quo_length t l), ← fillTo_zero (rst t l) l.length (rst_length t l)]
    exact HN0
  case round =>
    obtain ⟨k, hk, rfl, rfl, HS⟩ := hrel
    by_cases hlt : k < l.length
    · obtain ⟨b, off, rfl, hc⟩ := HR.out.below HS.out.2.2.1 (by omega)
      have hcell := hc k hlt
      have CP := Lib.hid (HQ.out k hlt)
      have hm := HM.out k
      have hm2 := HM.out (k + 1)
      have hts := take_sum (quo t l) k (by rw [quo_length]; exact hlt)
      have HTS := Lib.hid hts
      have e1 := fillTo_step (quo t l) k (by rw [quo_length]; exact hlt)
      have e2 := fillTo_step (rst t l) k (by rw [rst_length]; exact hlt)
      have HE1 := Lib.hid e1
      have HE2 := Lib.hid e2
      rw [hts] at hm2
      generalize l.getD k 0 = x at *
      generalize (quo t l).getD k 0 = qk at *
      generalize (rst t l).getD k 0 = rk at *
      generalize ((quo t l).take k).sum = qs at *
      have HL1 := Lib.hid (show k < (fillTo (quo t l) k).length by rw [fillTo_length, quo_length]; exact hlt)
      have HL2 := Lib.hid (show k < (fillTo (rst t l) k).length by rw [fillTo_length, rst_length]; exact hlt)
      clear hc hts e1 e2 hmk HN0 HQ C1 C2 C3
      go_wp2_with (go_at_call 58; refine (CP.out _).mono ?_; rintro e wp ⟨rfl, hb⟩; have hS2 := HS.out.below hb; obtain ⟨p1, p2⟩ := hS2.1 k HL1.out; obtain ⟨p3, p4⟩ := hS2.2.1 k HL2.out; have hS3 := hS2.two k HL1.out HL2.out qk rk; have p5 := (hS3.1 k (by rw [List.length_set]; exact HL1.out)).1; rw [getD_set_same _ HL1.out] at p5; rw [HE1.out, HE2.out] at hS3; have HS3 := Lib.hid hS3; clear hS2 hS3 hb)
      go_roundw
      case rel => exact ⟨k + 1, by omega, by go_num, by rw [HTS.out]; congr 1; omega, HS3⟩
      case measure => simp [intOf]; omega
    · obtain rfl : k = l.length := by omega
      have ef1 := fillTo_all (quo t l) l.length (quo_length t l).symm
      have ef2 := fillTo_all (rst t l) l.length (rst_length t l).symm
      have et : (quo t l).take l.length = quo t l := by rw [← quo_length t l]; exact List.take_length
      rw [ef1, ef2] at HS
      have CO := order_any (some ⟨w.heap.size + 1, 0, none⟩) (rst t l) l.length wr HS.out.2.1.ints (by rw [rst_length]; omega)
      rw [rst_length] at CO
      have CO2 := Lib.hid CO
      rw [et, show t - (quo t l).sum = lack t l from rfl]
      obtain ⟨m, hm⟩ := Int.eq_ofNat_of_zero_le hlk.1
      rw [hm] at hlk ⊢
      have hml : m < l.length := by omega
      have HV : Hid (splitL t l = bump (quo t l) (ordL (rst t l)) m) := Lib.hid (by unfold splitL; rw [hm]; rfl)
      clear CO ef1 ef2 et hlk hmk HN0 C1 C2 C3 HQ
      go_wp2_with (go_at_call 54; refine CO2.out.mono ?_; rintro e w2 ⟨g, rfl, hg, hO, hb⟩; simp only [rst_length]; have HS2 := Lib.hid (HS.out.below hb); have HO := Lib.hid hO; have hg2 := HS.out.2.2.2; clear hO hb)
      go_loopw [80] (fun i wr => ∃ j : Nat, j ≤ m ∧ i = .int .i64 j ∧ Hid (SplS w (bump (quo t l) (ordL (rst t l)) j) (rst t l) wr) ∧ Hid (RowK wr .i64 g (ordI (rst t l)))) (fun i _ => m - (intOf i).toNat)
      case atStart => exact ⟨0, Nat.zero_le _, rfl, by rw [bump_zero]; exact HS2, HO⟩
      case round =>
        obtain ⟨j, hj, rfl, HS3, HO3⟩ := hrel
        by_cases hjl : j < m
        · have hjn : j < (rst t l).length := by rw [rst_length]; omega
          obtain ⟨r1, r2⟩ := HO3.out j (by rw [ordI_length]; exact hjn)
          rw [ordI_getD _ _ hjn] at r1
          have hp := ordL_getD_lt (rst t l) j hjn
          rw [rst_length] at hp
          have hjo : j < (ordL (rst t l)).length := by rw [ordL_length]; exact hjn
          have hat := bump_at (quo t l) (ordL (rst t l)) (ordL_nodup _) j hjo (by rw [quo_length]; exact hp)
          have hst := bump_step (quo t l) (ordL (rst t l)) j hjo
          have hrg := HG.out _ hp
          rw [hm] at hrg
          generalize (ordL (rst t l)).getD j 0 = p at *
          obtain ⟨r3, r4⟩ := HS3.out.1 p (by rw [bump_length, quo_length]; exact hp)
          rw [hat] at r3
          generalize (quo t l).getD p 0 = qp at *
          have hS4 := HS3.out.one p (by rw [bump_length, quo_length]; exact hp) (qp + 1)
          rw [hst] at hS4
          have HS4 := Lib.hid hS4
          have HO4 := Lib.hid (HO3.out.other (b := w.heap.size) (by omega) p (.int .i64 (qp + 1)))
          have hq1 : IntKind.i64.wrap (qp + 1) = qp + 1 := IntWalk.i64_in _ (by omega)
          clear hat hst hS4 HS2 HO CO2
          go_wp2
          go_roundw
          case rel => exact ⟨j + 1, by omega, by go_num, HS4, HO4⟩
          case measure => simp [intOf]; omega
        · obtain rfl : j = m := by omega
          have F : Hid (SliceC w (splitL t l) 0 (.returned (.tuple #[.slice (some ⟨w.heap.size, 0, none⟩) l.length l.length, .int .i64 0])) wr) := Lib.hid <| by
            refine ⟨some ⟨w.heap.size, 0, none⟩, l.length, by rw [splitL_length], ?_, by rw [splitL_length]; exact Nat.le_refl _, by omega, (fun b o s e => by injection e with e; injection e with e; omega), HS3.out.2.2.1⟩
            rw [HV.out]
            exact HS3.out.1.ints
          go_wp2
          go_ret2
          exact F.out

theorem split_any (t : Int) (A : Option Addr) (l : List Int) (c : Nat) (w : World) (ht : I64 t) (hr : Ints w .i64 A l) (hl : ∀ x ∈ l, I64 x) (hn : l.length ≤ 9223372036854775807) :
    Calls Try.prog 30 #[.int .i64 t, .slice A l.length c] w (SliceC w (splitV t l) (splitC t l)) := by
  have ec : splitC t l = if decide (t < 0) || !areW l || (decide (0 < t) && !anyPos l) then 1 else if fits l.sum then 0 else 2 := rfl
  by_cases h1 : t < 0 ∨ areW l = false ∨ (0 < t ∧ anyPos l = false)
  · have e1 : splitC t l = 1 := by
      rw [ec, if_pos]
      rcases h1 with h | h | ⟨h, h'⟩
      · simp [h]
      · simp [h]
      · simp [h, h']
    unfold splitV
    rw [e1]
    exact split_form t A l c w hr hn h1
  · have hM : MayS t l := by
      refine ⟨by omega, ?_, fun ht => ?_⟩
      · cases h : areW l
        · exact absurd (.inr (.inl h)) h1
        · rfl
      · cases h : anyPos l
        · exact absurd (.inr (.inr ⟨ht, h⟩)) h1
        · rfl
    have hcond : (decide (t < 0) || !areW l || (decide (0 < t) && !anyPos l)) = false := by
      have h0 := hM.1
      rw [hM.2.1, decide_eq_false (p := t < 0) (by omega)]
      by_cases ht : 0 < t
      · rw [hM.2.2 ht]; simp
      · simp [ht]
    rw [hcond] at ec
    cases hs : fits l.sum
    · have e1 : splitC t l = 2 := by rw [ec, hs]; rfl
      unfold splitV
      rw [e1]
      exact split_over t A l c w hr hl hn hM hs
    · have e1 : splitC t l = 0 := by rw [ec, hs]; rfl
      unfold splitV
      rw [e1, if_pos rfl]
      have hn64 : l.length ≤ 64 := by
        have := hM.2.1
        unfold areW at this
        simp at this
        exact this.1
      by_cases ht0 : t = 0
      · subst ht0
        exact split_none A l c w hr hl (by omega) hM hs
      · have := hM.1
        exact split_some t A l c w hr hl (by omega) ht hM hs
end Go.Proofs.Ytiblbhppojfdaaa
