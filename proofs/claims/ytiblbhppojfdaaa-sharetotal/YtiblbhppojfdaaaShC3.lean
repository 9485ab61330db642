/-
  Capped for any input; the helpers that hold numbers against one another.
-/
import Derived.Test.YtiblbhppojfdaaaShC2
import Derived.Test.YtiblbhppojfdaaaShE2
namespace Go.Proofs.Ytiblbhppojfdaaa
open Go.RowKit

/-- May it be cut up to caps? -/
def mayC (t : Int) (l c : List Int) : Bool := decide (0 ≤ t) && areW l && decide (c.length = l.length) && !anyNeg c
/-- The code of Capped, and what it hands back. -/
def capC (t : Int) (l c : List Int) : Int := if mayC t l c then (if fits l.sum then 0 else 2) else 1
def capV (t : Int) (l c : List Int) : List Int × Int := if capC t l c = 0 then cappedL t l c else ([], 0)

theorem mayC_iff (t : Int) (l c : List Int) : mayC t l c = true ↔ MayC t l c := by
  unfold mayC MayC
  simp only [Bool.and_eq_true, decide_eq_true_eq, Bool.not_eq_true', and_assoc]
theorem areW_parts {l : List Int} (h : areW l = true) : l.length ≤ 64 ∧ ∀ x ∈ l, 0 ≤ x := by
  unfold areW at h
  simp at h
  exact ⟨h.1, anyNeg_false h.2⟩
theorem mayC_start {t : Int} {l c : List Int} (ht : I64 t) (hc : ∀ x ∈ c, I64 x) (h : MayC t l c) (hs : fits l.sum = true) : CapI t l c (List.replicate l.length 0) t :=
  CapI.start t l c ht h.1 h.2.2.1 (anyNeg_false h.2.2.2) hc (areW_parts h.2.1).2 (fits_iff.1 hs) (areW_parts h.2.1).1

theorem capped_any (t : Int) (A B : Option Addr) (l c : List Int) (c1 c2 : Nat) (w : World) (ht : I64 t) (hr : Ints w .i64 A l) (hq : Ints w .i64 B c) (hl : ∀ x ∈ l, I64 x) (hc : ∀ x ∈ c, I64 x) (hn : l.length ≤ 9223372036854775807) (hn2 : c.length ≤ 9223372036854775807) :
    Calls Try.prog 51 #[.int .i64 t, .slice A l.length c1, .slice B c.length c2] w (SliceFC w (capV t l c).1 (capV t l c).2 (capC t l c)) := by
  unfold capV
  cases hm : mayC t l c
  · have e : capC t l c = 1 := by unfold capC; rw [hm]; rfl
    rw [e]
    exact capped_form t A B l c c1 c2 w hr hq hn hn2 (fun h => by rw [(mayC_iff t l c).2 h] at hm; cases hm)
  · have hM := (mayC_iff t l c).1 hm
    cases hs : fits l.sum
    · have e : capC t l c = 2 := by unfold capC; rw [hm, hs]; rfl
      rw [e]
      exact capped_over t A B l c c1 c2 w hr hq hl hn hM hs
    · have e : capC t l c = 0 := by unfold capC; rw [hm, hs]; rfl
      rw [e, if_pos rfl]
      exact capped_some t A B l c c1 c2 w hr hq hl (mayC_start ht hc hM hs) hM

/-- Are these the same numbers? -/
def same (a b : List Int) : Bool := decide (a = b)
theorem same_to {a b : List Int} (h : a.length = b.length) (e : ∀ i, i < a.length → a.getD i 0 = b.getD i 0) : same a b = true := decide_eq_true (ext_getD h e)
theorem same_self (a : List Int) : same a a = true := decide_eq_true rfl

set_option maxRecDepth 8000 in
set_option maxHeartbeats 1000000 in
theorem hInts_any (A B : Option Addr) (a b : List Int) (c1 c2 : Nat) (w : World) (ha : Ints w .i64 A a) (hb : Ints w .i64 B b) (hn : a.length ≤ 9223372036854775807) :
    Calls Try.prog 52 #[.slice A a.length c1, .slice B b.length c2] w fun e w' => e = .returned (.bool (same a b)) ∧ Below w.heap.size w w' := by
  by_cases hl : a.length = b.length
  · have HA := Lib.hid ha
    have HB := Lib.hid hb
    rw [← hl]
    clear ha hb
    go_enter Try.func52, Try.ntmps52
    go_wp2
    go_loopw [5] (fun i wr => ∃ k : Nat, k ≤ a.length ∧ i = .int .i64 k ∧ Hid (∀ i, i < k → a.getD i 0 = b.getD i 0) ∧ Hid (Below w.heap.size w wr)) (fun i _ => a.length - (intOf i).toNat)
    case atStart => exact ⟨0, Nat.zero_le _, rfl, Lib.hid (fun _ h => absurd h (by omega)), Lib.hid (Below.refl _ _)⟩
    case round =>
      obtain ⟨k, hk, rfl, HE, HW⟩ := hrel
      by_cases hlt : k < a.length
      · obtain ⟨ab, ao, rfl, hca⟩ := HA.out.below HW.out (by omega)
        obtain ⟨bb, bo, rfl, hcb⟩ := HB.out.below HW.out (by omega)
        have q1 := hca k hlt
        have q2 := hcb k (by omega)
        clear hca hcb
        by_cases hx : a.getD k 0 = b.getD k 0
        · have HE2 : Hid (∀ i, i < k + 1 → a.getD i 0 = b.getD i 0) := Lib.hid fun i hi => by
            by_cases e : i = k
            · rw [e]; exact hx
            · exact HE.out i (by omega)
          generalize a.getD k 0 = x at *
          generalize b.getD k 0 = y at *
          subst hx
          go_wp2
          go_quiet (fail)
          go_wp2
          go_roundw
          case rel => exact ⟨k + 1, by omega, by go_num, HE2, Lib.hid (below_drewN HW.out _)⟩
          case measure => simp [intOf]; omega
        · have hne : same a b = false := decide_eq_false (fun e => hx (by rw [e]))
          have HN := Lib.hid hne
          have hx' : (a.getD k 0 != b.getD k 0) = true := by rw [bne_iff_ne]; exact hx
          generalize a.getD k 0 = x at *
          generalize b.getD k 0 = y at *
          clear hx hne
          go_wp2
          go_quiet (fail)
          go_wp2
          go_ret
          exact ⟨by rw [HN.out]; rfl, below_drewN HW.out _⟩
      · obtain rfl : k = a.length := by omega
        have HN := Lib.hid (same_to hl HE.out)
        go_wp2
        go_ret
        exact ⟨by rw [HN.out]; rfl, HW.out⟩
  · have d : (((a.length : Nat) : Int) != ((b.length : Nat) : Int)) = true := by rw [bne_iff_ne]; omega
    have hne : same a b = false := decide_eq_false (fun e => hl (by rw [e]))
    rw [hne]
    clear ha hb hne
    go_enter Try.func52, Try.ntmps52
    go_wp2
    go_ret
    exact ⟨rfl, Below.refl _ _⟩
set_option maxRecDepth 8000 in
set_option maxHeartbeats 1000000 in
theorem hNums_any (A B : Option Addr) (a b : List Int) (c1 c2 : Nat) (w : World) (ha : Ints w .i64 A a) (hb : Ints w .i64 B b) (hn : a.length ≤ 9223372036854775807) :
    Calls Try.prog 53 #[.slice A a.length c1, .slice B b.length c2] w fun e w' => e = .returned (.bool (same a b)) ∧ Below w.heap.size w w' := by
  by_cases hl : a.length = b.length
  · have HA := Lib.hid ha
    have HB := Lib.hid hb
    rw [← hl]
    clear ha hb
    go_enter Try.func53, Try.ntmps53
    go_wp2
    go_loopw [5] (fun i wr => ∃ k : Nat, k ≤ a.length ∧ i = .int .i64 k ∧ Hid (∀ i, i < k → a.getD i 0 = b.getD i 0) ∧ Hid (Below w.heap.size w wr)) (fun i _ => a.length - (intOf i).toNat)
    case atStart => exact ⟨0, Nat.zero_le _, rfl, Lib.hid (fun _ h => absurd h (by omega)), Lib.hid (Below.refl _ _)⟩
    case round =>
      obtain ⟨k, hk, rfl, HE, HW⟩ := hrel
      by_cases hlt : k < a.length
      · obtain ⟨ab, ao, rfl, hca⟩ := HA.out.below HW.out (by omega)
        obtain ⟨bb, bo, rfl, hcb⟩ := HB.out.below HW.out (by omega)
        have q1 := hca k hlt
        have q2 := hcb k (by omega)
        clear hca hcb
        by_cases hx : a.getD k 0 = b.getD k 0
        · have HE2 : Hid (∀ i, i < k + 1 → a.getD i 0 = b.getD i 0) := Lib.hid fun i hi => by
            by_cases e : i = k
            · rw [e]; exact hx
            · exact HE.out i (by omega)
          generalize a.getD k 0 = x at *
          generalize b.getD k 0 = y at *
          subst hx
          go_wp2
          go_quiet (fail)
          go_wp2
          go_roundw
          case rel => exact ⟨k + 1, by omega, by go_num, HE2, Lib.hid (below_drewN HW.out _)⟩
          case measure => simp [intOf]; omega
        · have hne : same a b = false := decide_eq_false (fun e => hx (by rw [e]))
          have HN := Lib.hid hne
          have hx' : (a.getD k 0 != b.getD k 0) = true := by rw [bne_iff_ne]; exact hx
          generalize a.getD k 0 = x at *
          generalize b.getD k 0 = y at *
          clear hx hne
          go_wp2
          go_quiet (fail)
          go_wp2
          go_ret
          exact ⟨by rw [HN.out]; rfl, below_drewN HW.out _⟩
      · obtain rfl : k = a.length := by omega
        have HN := Lib.hid (same_to hl HE.out)
        go_wp2
        go_ret
        exact ⟨by rw [HN.out]; rfl, HW.out⟩
  · have d : (((a.length : Nat) : Int) != ((b.length : Nat) : Int)) = true := by rw [bne_iff_ne]; omega
    have hne : same a b = false := decide_eq_false (fun e => hl (by rw [e]))
    rw [hne]
    clear ha hb hne
    go_enter Try.func53, Try.ntmps53
    go_wp2
    go_ret
    exact ⟨rfl, Below.refl _ _⟩
end Go.Proofs.Ytiblbhppojfdaaa
