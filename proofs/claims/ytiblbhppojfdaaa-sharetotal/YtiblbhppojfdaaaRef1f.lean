/-
  The walk of the reference's sum of many numbers.
-/
import Derived.Test.YtiblbhppojfdaaaRef1e
import Derived.Deep.RegionWith
namespace Go.Proofs.Ytiblbhppojfdaaa
open Go.RowKit

/-- What stands in memory while a sum grows: the sum's struct, the result's struct. -/
def SumS (w : World) (neg : Bool) (A : Option Addr) (n c : Nat) (w' : World) : Prop :=
  Box2 w' (w.heap.size + 1) (.bool neg) (.slice A n c) ∧ Box2 w' w.heap.size (.bool false) (.slice none 0 0) ∧ Below w.heap.size w w'
theorem SumS.below {w w1 w2 : World} {neg : Bool} {A : Option Addr} {n c : Nat} (h : SumS w neg A n c w1) (hb : Below w1.heap.size w1 w2) : SumS w neg A n c w2 :=
  ⟨h.1.below hb, h.2.1.below hb, h.2.2.trans (hb.mono h.2.2.size)⟩

theorem sum_next {w w2 : World} {neg ng : Bool} {A A4 : Option Addr} {n c n4 c5 m : Nat} {x : Int} (h : SumS w neg A n c w2) (hV : BigV w2 (.agg #[.bool ng, .slice A4 n4 c5]) x m) :
    SumS w ng A4 n4 c5 ((w2.setCell ⟨w.heap.size + 1, 0, none⟩ (.bool ng)).setCell ⟨w.heap.size + 1, 1, none⟩ (.slice A4 n4 c5)) ∧
      BigV ((w2.setCell ⟨w.heap.size + 1, 0, none⟩ (.bool ng)).setCell ⟨w.heap.size + 1, 1, none⟩ (.slice A4 n4 c5)) (.agg #[.bool ng, .slice A4 n4 c5]) x m := by
  obtain ⟨h1, h2, h3⟩ := h
  refine ⟨⟨h1.set _ _, (h2.other (by omega) _ _).other (by omega) _ _, (h3.setCell (by simp) _).setCell (by simp) _⟩, ?_⟩
  have g1 : (w2.setCell ⟨w.heap.size + 1, 0, none⟩ (.bool ng)).cell? ⟨w.heap.size + 1, 1, none⟩ = some (.slice A n c) := by
    rw [World.cell?_setCell_other _ _ _ _ (by simp)]; exact h1.2.1
  exact (hV.setCell h1.1 (fun _ e => by cases e) _).setCell g1 (fun _ e => by cases e) _

set_option maxRecDepth 8000 in
set_option maxHeartbeats 1000000 in
theorem sumInts_any (A : Option Addr) (l : List Int) (c : Nat) (w : World) (hr : Ints w .i64 A l) (hl : ∀ x ∈ l, I64 x) (hn : l.length ≤ 1000000000) :
    Calls Try.prog 29 #[.slice A l.length c] w (BigR w l.sum (l.length + 2)) := by
  have HR := Lib.hid hr
  have HL := Lib.hid hl
  clear hr hl
  go_enter Try.func29, Try.ntmps29
  go_wp2
  go_loopw [4] (fun i wr => ∃ (k : Nat) (neg : Bool) (A1 : Option Addr) (n1 c1 : Nat), k ≤ l.length ∧ i = .int .i64 k ∧ Hid (SumS w neg A1 n1 c1 wr) ∧ Hid (BigV wr (.agg #[.bool neg, .slice A1 n1 c1]) (l.take k).sum (k + 2))) (fun i _ => l.length - (intOf i).toNat)
  case atStart =>
    refine ⟨0, false, none, 0, 0, Nat.zero_le _, rfl, Lib.hid ⟨Box2.new _ _ _ _ _ (by simp), (Box2.new w _ _ _ _ rfl).alloc _, ((Below.refl _ _).alloc (Nat.le_refl _) _).alloc (by simp) _⟩, Lib.hid ⟨false, none, [], 0, rfl, by simp, by omega, fun h => absurd h (by simp), digs_nil, .inl rfl, by simp, by simp, rfl⟩⟩
  case round =>
    obtain ⟨k, neg, A1, n1, c1, hk, rfl, HS, HV⟩ := hrel
    by_cases hlt : k < l.length
    · obtain ⟨b, off, rfl, hc⟩ := HR.out.below HS.out.2.2 (by omega)
      have hcell := hc k hlt
      have hx := HL.out (l.getD k 0) (by rw [List.getD_eq_getElem?_getD, List.getElem?_eq_getElem hlt]; simp)
      have HT := Lib.hid (take_sum l k hlt)
      generalize l.getD k 0 = x at *
      have CW : Hid (Calls Try.prog 20 #[.int .i64 x] wr.drew fun e w1 => ∃ (ng : Bool) (A3 : Option Addr) (n3 c4 : Nat), e = .returned (.agg #[.bool ng, .slice A3 n3 c4]) ∧ BigV w1 (.agg #[.bool ng, .slice A3 n3 c4]) x 2 ∧ SumS w neg A1 n1 c1 w1 ∧ BigV w1 (.agg #[.bool neg, .slice A1 n1 c1]) (l.take k).sum (k + 2)) := Lib.hid <| by
        refine (whole_any x hx wr.drew).mono ?_
        rintro e w1 ⟨v, rfl, hV, hb⟩
        obtain ⟨ng, A2, n2, c3, rfl⟩ := hV.form
        have hd : Below wr.heap.size wr wr.drew := (Below.refl _ _).drew
        exact ⟨ng, A2, n2, c3, rfl, hV, (HS.out.below hd).below hb, (HV.out.below hd).below hb⟩
      have CP : Hid (∀ W (ng : Bool) (A3 : Option Addr) (n3 c4 : Nat), BigV W (.agg #[.bool ng, .slice A3 n3 c4]) x 2 → SumS w neg A1 n1 c1 W → BigV W (.agg #[.bool neg, .slice A1 n1 c1]) (l.take k).sum (k + 2) → Calls Try.prog 15 #[.agg #[.bool neg, .slice A1 n1 c1], .agg #[.bool ng, .slice A3 n3 c4]] W fun e w2 => ∃ (ng : Bool) (A3 : Option Addr) (n3 c4 : Nat), e = .returned (.agg #[.bool ng, .slice A3 n3 c4]) ∧ BigV w2 (.agg #[.bool ng, .slice A3 n3 c4]) ((l.take k).sum + x) (k + 2 + 1) ∧ SumS w neg A1 n1 c1 w2) := Lib.hid fun W ng A3 n3 c4 h1 h2 h3 => by
        refine (plus_any _ _ _ _ (k + 2) W h3 (h1.more (by omega)) (by omega)).mono ?_
        rintro e w1 ⟨v, rfl, hV, hb⟩
        obtain ⟨ng, A2, n2, c3, rfl⟩ := hV.form
        exact ⟨ng, A2, n2, c3, rfl, hV, h2.below hb⟩
      obtain ⟨g0, g1, f0, f1⟩ := HS.out.1
      clear hc hx
      go_wp2
      go_region_with (first
        | (go_at_call 20; refine CW.out.mono ?_; rintro e w1 ⟨ng, A3, n3, c4, rfl, hV1, hS1, hT1⟩; have HS1 := Lib.hid hS1; have HV1 := Lib.hid hV1; have HT1 := Lib.hid hT1; obtain ⟨g2, g3, f2, f3⟩ := hS1.1; clear hS1 hV1 hT1)
        | (go_at_call 15; refine (CP.out _ _ _ _ _ HV1.out HS1.out HT1.out).mono ?_; rintro e w2 ⟨ng2, A4, n4, c5, rfl, hV2, hS2⟩; have HS2 := Lib.hid hS2; have HV2 := Lib.hid hV2; obtain ⟨g4, g5, f4, f5⟩ := hS2.1; clear hS2 hV2))
      all_goals
        obtain ⟨hN, hNV⟩ := sum_next HS2.out HV2.out
        rw [← HT.out] at hNV
        have HN := Lib.hid hN
        have HNV := Lib.hid hNV
        clear hN hNV g0 g1 g2 g3 g4 g5 f0 f1 f2 f3 f4 f5
        go_wp2
        go_roundw
        case rel => exact ⟨k + 1, _, _, _, _, by omega, by go_num, HN, HNV⟩
        case measure => simp [intOf]; omega
    · obtain rfl : k = l.length := by omega
      rw [List.take_length] at HV
      obtain ⟨g0, g1, f0, f1⟩ := HS.out.1
      obtain ⟨g2, g3, f2, f3⟩ := HS.out.2.1
      go_wp2
      obtain ⟨p0, p1⟩ := HS.out.2.1.put (.bool neg) (.slice A1 n1 c1)
      refine bodyPost_ret (v := .agg #[.bool neg, .slice A1 n1 c1]) (by simp [results, Try.results29, go_sem, p0, p1]) rfl ?_
      exact big_out HS.out.2.2 (Nat.le_refl _) HS.out.2.1 HV.out
end Go.Proofs.Ytiblbhppojfdaaa
