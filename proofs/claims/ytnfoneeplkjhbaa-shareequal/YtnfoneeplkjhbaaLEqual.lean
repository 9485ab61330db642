/-
  The walk of the law ShareEqual.
-/
import Derived.Test.YtnfoneeplkjhbaaKnown3
import Derived.Test.YtnfoneeplkjhbaaShPr2
import Derived.Test.YtnfoneeplkjhbaaRef1f
import Derived.Test.YtnfoneeplkjhbaaRef1h
namespace Go.Proofs.Ytnfoneeplkjhbaa
open Go.RowKit

theorem sum_ones (n : Nat) : (List.replicate n (1 : Int)).sum = n := by
  induction n with
  | zero => rfl
  | succ n ih => rw [List.replicate_succ, List.sum_cons, ih]; omega
theorem ones_getD (n i : Nat) (h : i < n) : (List.replicate n (1 : Int)).getD i 0 = 1 := by simp [List.getD_eq_getElem?_getD, h]
theorem even_ok (t : Int) (m : Nat) (ht : 0 ≤ t) (h1 : 1 ≤ m) (h2 : m ≤ 64) : evenC t m = 0 ∧ evenV t m = splitL t (List.replicate m 1) := by
  have e : splitC t (List.replicate m 1) = 0 := by
    have ha : (List.replicate m (1 : Int)).any (fun x => decide (x < 0)) = false := by
      rw [List.any_eq_false]; intro x hx; rw [(List.mem_replicate.1 hx).2]; simp
    have hb : (List.replicate m (1 : Int)).any (fun x => decide (0 < x)) = true := by
      rw [List.any_eq_true]; exact ⟨1, List.mem_replicate.2 ⟨by omega, rfl⟩, by simp⟩
    unfold splitC
    rw [ha, hb, sum_ones, fits_of (by unfold I64; omega), List.length_replicate, decide_eq_true h2, decide_eq_false (p := t < 0) (by omega)]
    simp
  unfold evenC evenV
  rw [if_neg (by omega), if_neg (by omega), Int.toNat_natCast]
  refine ⟨e, ?_⟩
  unfold splitV
  rw [if_pos e]

set_option maxRecDepth 8000 in
set_option maxHeartbeats 4000000 in
theorem equal_walk (T N : Int) (hT : 0 ≤ T ∧ T ≤ 18446744073709551615) (hN : 0 ≤ N ∧ N ≤ 255) (w : World) :
    Calls Try.prog 7 #[.int .u64 T, .int .u8 N] w fun e w' => e = .returned (.bool true) ∧ Below w.heap.size w w' := by
  have c0 := Lib.hid known3_any
  go_enter Try.func7, Try.ntmps7
  go_wp2_with (go_at_call 10; refine (c0.out _).mono ?_; rintro e w1 ⟨rfl, hw1⟩; have HW1 := Lib.hid hw1; clear hw1)
  have hk1 : 1 ≤ 1 + N % 64 := by omega
  have hk2 : 1 + N % 64 ≤ 64 := by omega
  have ht1 : 0 ≤ T / 2 := by omega
  have ht2 : T / 2 ≤ 9223372036854775807 := by omega
  generalize 1 + N % 64 = k at *
  generalize T / 2 = t at *
  obtain ⟨m, rfl⟩ := Int.eq_ofNat_of_zero_le (show 0 ≤ k by omega)
  clear hT hN
  obtain ⟨e1, e2⟩ := even_ok t m ht1 (by omega) (by omega)
  have hti : I64 t := by unfold I64; omega
  have hS : 0 < (List.replicate m (1 : Int)).sum := by rw [sum_ones]; omega
  have hw : ∀ x ∈ List.replicate m (1 : Int), 0 ≤ x := fun x hx => by rw [(List.mem_replicate.1 hx).2]; omega
  have hln : (splitL t (List.replicate m 1)).length = m := by rw [splitL_length, List.length_replicate]
  have hsum := splitL_sum t (List.replicate m 1) ht1 hw hS
  have hnn := splitL_nn t (List.replicate m 1) ht1 hw hS
  have HG : Hid (∀ i, i + 1 < m → (splitL t (List.replicate m 1)).getD (i + 1) 0 ≤ (splitL t (List.replicate m 1)).getD i 0) := Lib.hid fun i hi =>
    splitL_ge t (List.replicate m 1) ht1 hw hS i (i + 1) (by rw [List.length_replicate]; omega) (by rw [List.length_replicate]; omega) (.inr ⟨by rw [ones_getD _ _ (by omega), ones_getD _ _ (by omega)], by omega⟩)
  have hnear := splitL_near t (List.replicate m 1) ht1 hw hS 0 (m - 1) (by rw [List.length_replicate]; omega) (by rw [List.length_replicate]; omega) (by rw [ones_getD _ _ (by omega), ones_getD _ _ (by omega)])
  have hz := hnn _ (getD_mem (l := splitL t (List.replicate m 1)) (i := m - 1) (by omega))
  have hz0 := hnn _ (getD_mem (l := splitL t (List.replicate m 1)) (i := 0) (by omega))
  have hi64 : ∀ x ∈ splitL t (List.replicate m 1), I64 x := fun x hx => by
    obtain ⟨i, hi, rfl⟩ := List.getElem_of_mem hx
    have h1 := getD_le_sum _ hnn i hi
    have h2 := hnn _ hx
    rw [List.getD_eq_getElem?_getD, List.getElem?_eq_getElem hi, Option.getD_some] at h1
    unfold I64; omega
  have CE := even_any t m hti
  rw [e1, e2] at CE
  have CE2 := Lib.hid CE
  have CS : Hid (∀ W (A : Option Addr) (c : Nat), Ints W .i64 A (splitL t (List.replicate m 1)) → Calls Try.prog 22 #[.slice A m c] W fun e w' => ∃ v, e = .returned v ∧ BigV w' v t 66 ∧ Below W.heap.size W w') := Lib.hid fun W A c hA => by
    have h := sumInts_any A _ c W hA hi64 (by omega)
    rw [hsum, hln] at h
    refine h.mono ?_
    rintro e w' ⟨v, rfl, hV, hb⟩
    exact ⟨v, rfl, hV.more (by omega), hb⟩
  have CW := Lib.hid (whole_any t hti)
  have CC : Hid (∀ W va vb, BigV W va t 66 → BigV W vb t 66 → Calls Try.prog 24 #[va, vb] W fun e w' => e = .returned (.int .i64 0) ∧ Below W.heap.size W w') := Lib.hid fun W va vb h1 h2 => by
    have h := rcmp_any va vb t t 66 W h1 h2 (by omega)
    rw [show ord3 t t = 0 from by unfold ord3; simp] at h
    exact h
  have hup : ∀ i, i < m → (splitL t (List.replicate m 1)).getD i 0 ≤ 9223372036854775807 := fun i hi => (hi64 _ (getD_mem (by omega))).2
  generalize splitL t (List.replicate m 1) = a at *
  clear e1 e2 hS hw hsum hnn hi64 CE hti
  go_wp2_with (first
    | (go_at_call 13; refine (CE2.out _).mono ?_; rintro e w2 ⟨A, c, rfl, hA, hc1, hc2, hf, hb⟩; simp only [hln]; have HA := Lib.hid hA; have HW2 := Lib.hid (grew HW1.out hb); clear hA hf hb)
    | (go_at_call 22; refine (CS.out _ _ _ HA.out).mono ?_; rintro e w3 ⟨v, rfl, hV, hb⟩; have HV := Lib.hid hV; replace HA := Lib.hid (HA.out.below hb); have HW3 := Lib.hid (grew HW2.out hb); clear hV hb)
    | (go_at_call 25; refine (CW.out _).mono ?_; rintro e w4 ⟨v4, rfl, hV, hb⟩; have HV4 := Lib.hid (hV.more (show 2 ≤ 66 by omega)); replace HV := Lib.hid (HV.out.below hb); replace HA := Lib.hid (HA.out.below hb); have HW4 := Lib.hid (grew HW3.out hb); clear hV hb)
    | (go_at_call 24; refine (CC.out _ _ _ HV.out HV4.out).mono ?_; rintro e w5 ⟨rfl, hb⟩; replace HA := Lib.hid (HA.out.below hb); have HW5 := Lib.hid (grew HW4.out hb); clear hb))
  have HZ : Hid (a.getD 0 0 ≤ a.getD (m - 1) 0 + 1 ∧ 0 ≤ a.getD (m - 1) 0 ∧ 0 ≤ a.getD 0 0 ∧ a.getD 0 0 ≤ 9223372036854775807 ∧ a.getD (m - 1) 0 ≤ 9223372036854775807) := Lib.hid ⟨hnear, hz, hz0, hup 0 (by omega), hup (m - 1) (by omega)⟩
  clear hnear hz hz0 hup
  go_loopw [9] (fun i wr => ∃ k : Nat, 1 ≤ k ∧ k ≤ m ∧ i = .int .i64 k ∧ Hid (Below w5.heap.size w5 wr)) (fun i _ => m - (intOf i).toNat)
  case atStart => exact ⟨1, by omega, by omega, rfl, Lib.hid (Below.refl _ _)⟩
  case round =>
    obtain ⟨k, hk3, hk4, rfl, HB⟩ := hrel
    by_cases hlt : k < m
    · obtain ⟨i, rfl⟩ : ∃ i, k = i + 1 := ⟨k - 1, by omega⟩
      obtain ⟨b, off, rfl, hc⟩ := HA.out.below HB.out (by omega)
      have q1 := hc (i + 1) (by omega)
      have q2 := hc i (by omega)
      have hg := HG.out i hlt
      generalize a.getD (i + 1) 0 = x at *
      generalize a.getD i 0 = y at *
      have d1 : decide (y < x) = false := decide_eq_false (by omega)
      clear hc hg
      go_wp2
      go_quiet (fail)
      go_wp2
      go_roundw
      case rel => exact ⟨i + 1 + 1, by omega, by omega, by go_num, Lib.hid (below_drewN HB.out _)⟩
      case measure => simp [intOf]; omega
    · obtain rfl : k = m := by omega
      obtain ⟨n, rfl⟩ : ∃ n, k = n + 1 := ⟨k - 1, by omega⟩
      rw [Nat.add_sub_cancel] at HZ
      obtain ⟨b, off, rfl, hc⟩ := HA.out.below HB.out (by omega)
      have q1 := hc 0 (by omega)
      have q2 := hc n (by omega)
      generalize a.getD 0 0 = x at *
      generalize a.getD n 0 = y at *
      have z1 : IntKind.i64.wrap (x - y) = x - y := IntWalk.i64_in _ (by have := HZ.out; omega)
      have d1 : decide (x - y ≤ 1) = true := decide_eq_true (by have := HZ.out; omega)
      have d2 : decide (0 ≤ y) = true := decide_eq_true (by have := HZ.out; omega)
      rw [Nat.add_zero] at q1
      clear hc
      go_wp2
      go_quiet (fail)
      go_wp2
      go_ret
      exact ⟨rfl, below_drewN (grew HW5.out HB.out) _⟩

theorem equal_law (a0 : Int) (a1 : Int) (w : World) (h0 : (Lit.int .u64 a0).wf = true) (h1 : (Lit.int .u8 a1).wf = true) :
    Calls Try.prog 7 #[.int .u64 a0, .int .u8 a1] w fun e w' => e = .returned (.bool true) ∧ Below w.heap.size w w' := by
  refine equal_walk a0 a1 ?_ ?_ w
  · simp [Lit.wf, IntKind.min, IntKind.max, IntKind.bits, IntKind.signed] at h0; omega
  · simp [Lit.wf, IntKind.min, IntKind.max, IntKind.bits, IntKind.signed] at h1; omega
end Go.Proofs.Ytnfoneeplkjhbaa
