/-
  The reference's Split for any input.
-/
import Derived.Test.YtnfoneeplkjhbaaRfSp2
import Derived.Test.YtnfoneeplkjhbaaRfCap
namespace Go.Proofs.Ytnfoneeplkjhbaa
open Go.RowKit

set_option maxRecDepth 8000 in
set_option maxHeartbeats 4000000 in
theorem rsplit_zero (A : Option Addr) (l : List Int) (c : Nat) (w : World) (hr : Ints w .i64 A l) (hl : ∀ x ∈ l, I64 x) (hn : l.length ≤ 64) (h : wrongB 0 l = false) (hS : l.sum = 0) :
    Calls Try.prog 12 #[.int .i64 0, .slice A l.length c] w (SliceC w (splitL 0 l) 0) := by
  have C := wrong_any 0 A l c w hr (by omega)
  rw [h] at C
  have C1 := Lib.hid C
  have C2 := sum_told A l c w hr hl hn
  rw [hS] at C2
  have H2 := Lib.hid C2
  have C3 : Hid (∀ W v, BigV W v 0 66 → Calls Try.prog 23 #[v] W fun e w' => e = .returned (.int .i64 0) ∧ Below W.heap.size W w') := Lib.hid fun W v hv => sign_any v _ 66 W hv
  have C4 : Hid (∀ W v, BigV W v 0 66 → Calls Try.prog 38 #[v] W fun e w' => e = .returned (.tuple #[.int .i64 0, .bool true]) ∧ Below W.heap.size W w') := Lib.hid fun W v hv => int_any v _ 66 W hv
  have hmk := made_i64 l.length (by omega)
  have HZ := Lib.hid (splitL_zero l)
  clear hr hl h C C2 hS
  go_enter Try.func12, Try.ntmps12
  go_wp2_with (first
    | (go_at_call 49; refine C1.out.mono ?_; rintro e w' ⟨rfl, rfl⟩)
    | (go_at_call 22; refine H2.out.mono ?_; rintro e w1 ⟨ng, A1, n1, k1, rfl, hV, hb⟩; have HX := Lib.hid (BigB.new hV hb 42); obtain ⟨i1, i2, i3, i4⟩ := HX.out.1; clear hV hb)
    | (go_at_call 23; refine (C3.out _ _ HX.out.2.1).mono ?_; rintro e w2 ⟨rfl, hb⟩; replace HX := Lib.hid (HX.out.below hb); clear hb i1 i2 i3 i4; obtain ⟨i1, i2, i3, i4⟩ := HX.out.1)
    | (go_at_call 38; refine (C4.out _ _ HX.out.2.1).mono ?_; rintro e w3 ⟨rfl, hb⟩; replace HX := Lib.hid (HX.out.below hb); clear hb))
  go_cut [9, 10] (fun p q wx => ∃ g1 g2, p = .slice (some ⟨g1, 0, none⟩) l.length l.length ∧ q = .slice (some ⟨g2, 0, none⟩) l.length l.length ∧ Hid (RS w w1.heap.size ng A1 n1 k1 0 g1 g2 (List.replicate l.length 0) (List.replicate l.length 0) wx))
  case first =>
    go_region
    all_goals
      go_wp2
      go_meet
      first
        | exact ⟨_, _, rfl, rfl, Lib.hid (RS.start HX.out _ _).1⟩
        | exact ⟨_, _, rfl, rfl, Lib.hid (RS.start HX.out _ _).2⟩
  case rest =>
    obtain ⟨g1, g2, rfl, rfl, H0⟩ := hcut
    clear HX i1 i2 i3 i4
    obtain ⟨i1, i2, i3, i4⟩ := H0.out.big.1
    go_wp2_with (go_at_call 23; refine (C3.out _ _ H0.out.big.2.1).mono ?_; rintro e w4 ⟨rfl, hb⟩; replace H0 := Lib.hid (H0.out.below hb); clear hb i1 i2 i3 i4)
    go_ret2
    rw [HZ.out]
    exact ⟨some ⟨g1, 0, none⟩, l.length, by rw [List.length_replicate]; rfl, H0.out.r1.ints, by simp, by omega, (fun b o s e => by injection e with e; injection e with e; rw [← e]; exact Nat.le_trans H0.out.big.2.2.1 (Nat.le_of_lt H0.out.d1)), H0.out.big.2.2.2⟩

theorem zero_sum {l : List Int} (hw : ∀ x ∈ l, 0 ≤ x) (h : anyPos l = false) : l.sum = 0 := by
  have h1 := anyPos_false h
  induction l with
  | nil => rfl
  | cons x l ih =>
    have a1 := hw x List.mem_cons_self
    have a2 := h1 x List.mem_cons_self
    rw [List.sum_cons, ih (fun y hy => hw y (List.mem_cons_of_mem _ hy)) (by unfold anyPos at h ⊢; rw [List.any_cons, Bool.or_eq_false_iff] at h; exact h.2) (fun y hy => h1 y (List.mem_cons_of_mem _ hy))]
    omega

theorem rsplit_said : RSplitSaid := by
  intro t A l c w ht hr hl hn
  have ec : splitC t l = if decide (t < 0) || !areW l || (decide (0 < t) && !anyPos l) then 1 else if fits l.sum then 0 else 2 := rfl
  cases hw : wrongB t l
  · have h2 : 0 ≤ t ∧ areW l = true := by
      unfold wrongB at hw
      simp at hw
      exact ⟨hw.1, hw.2⟩
    obtain ⟨hn64, hw0⟩ := areW_parts h2.2
    have hS0 := sum_nn l hw0
    rw [h2.2, decide_eq_false (p := t < 0) (by omega)] at ec
    cases hp : anyPos l
    · have hz := zero_sum hw0 hp
      rw [hp] at ec
      by_cases ht0 : t = 0
      · subst ht0
        have e1 : splitC 0 l = 0 := by rw [ec, hz]; rfl
        unfold splitV
        rw [e1, if_pos rfl]
        exact rsplit_zero A l c w hr hl hn64 hw hz
      · have e1 : splitC t l = 1 := by rw [ec, decide_eq_true (p := 0 < t) (by omega)]; rfl
        unfold splitV
        rw [e1]
        have := rsplit_early t A l c w hr hl hn64 hw hS0 (.inl ⟨hz, ht0⟩)
        rw [if_pos hz] at this
        exact this
    · have hpos := pos_sum hw0 (anyPos_true hp)
      rw [hp] at ec
      cases hf : fits l.sum
      · have e1 : splitC t l = 2 := by rw [ec, hf]; simp
        unfold splitV
        rw [e1]
        have := rsplit_early t A l c w hr hl hn64 hw hS0 (.inr hf)
        rw [if_neg (by omega)] at this
        exact this
      · have e1 : splitC t l = 0 := by rw [ec, hf]; simp
        unfold splitV
        rw [e1, if_pos rfl]
        exact rsplit_some t A l c w hr hl hn64 h2.1 ht hw0 hw hpos hf
  · have e1 : splitC t l = 1 := by
      unfold wrongB at hw
      rw [ec, hw]; rfl
    unfold splitV
    rw [e1]
    exact rsplit_form t A l c w hr hn hw
end Go.Proofs.Ytnfoneeplkjhbaa
