/-
  The walk of the law ShareOrders.
-/
import Derived.Test.YtnfoneeplkjhbaaKnown3
namespace Go.Proofs.Ytnfoneeplkjhbaa
open Go.RowKit

theorem ord_next (l : List Int) (i : Nat) (h : i + 1 < l.length) : leq l ((ordL l).getD i 0) ((ordL l).getD (i + 1) 0) ∧ (ordL l).getD i 0 ≠ (ordL l).getD (i + 1) 0 := by
  have hs : (ordL l).Pairwise (leq l) := ordTo_sorted l l.length
  have hl := ordL_length l
  have e1 : (ordL l).getD i 0 = (ordL l)[i] := by rw [List.getD_eq_getElem?_getD, List.getElem?_eq_getElem]; rfl
  have e2 : (ordL l).getD (i + 1) 0 = (ordL l)[i + 1] := by rw [List.getD_eq_getElem?_getD, List.getElem?_eq_getElem]; rfl
  rw [e1, e2]
  refine ⟨List.pairwise_iff_getElem.1 hs i (i + 1) (by omega) (by omega) (by omega), ?_⟩
  have := List.pairwise_iff_getElem.1 (ordL_nodup l) i (i + 1) (by omega) (by omega) (by omega)
  exact this
theorem ord_diff (l : List Int) (k i : Nat) (hk : k < i) (h : i < l.length) : (ordL l).getD k 0 ≠ (ordL l).getD i 0 := by
  have hl := ordL_length l
  have e1 : (ordL l).getD k 0 = (ordL l)[k] := by rw [List.getD_eq_getElem?_getD, List.getElem?_eq_getElem]; rfl
  have e2 : (ordL l).getD i 0 = (ordL l)[i] := by rw [List.getD_eq_getElem?_getD, List.getElem?_eq_getElem]; rfl
  rw [e1, e2]
  exact List.pairwise_iff_getElem.1 (ordL_nodup l) k i (by omega) (by omega) (by omega)

set_option maxRecDepth 8000 in
set_option maxHeartbeats 4000000 in
theorem orders_walk (A : Option Addr) (l : List Int) (c : Nat) (w : World) (hr : Ints w .i64 A l) (hn : l.length ≤ 9223372036854775807) :
    Calls Try.prog 8 #[.slice A l.length c] w fun e w' => e = .returned (.bool true) ∧ Below w.heap.size w w' := by
  have c0 := Lib.hid known3_any
  by_cases h70 : 70 < l.length
  · have hd : decide ((70 : Int) < (l.length : Int)) = true := by simp; omega
    clear hr
    go_enter Try.func8, Try.ntmps8
    go_wp2_with (go_at_call 10; refine (c0.out _).mono ?_; rintro e w1 ⟨rfl, hw1⟩)
    go_ret
    exact ⟨rfl, hw1⟩
  have hd : decide ((70 : Int) < (l.length : Int)) = false := by simp; omega
  have CO : Hid (∀ W, Below w.heap.size w W → Calls Try.prog 17 #[.slice A l.length c] W (OrderR W l)) := Lib.hid fun W hW => order_any A l c W (hr.below hW) (by omega)
  have HR := Lib.hid hr
  clear hr
  go_enter Try.func8, Try.ntmps8
  go_wp2_with (first
    | (go_at_call 10; refine (c0.out _).mono ?_; rintro e w1 ⟨rfl, hw1⟩; have HW1 := Lib.hid hw1; clear hw1)
    | (go_at_call 17; refine (CO.out _ HW1.out).mono ?_; rintro e w2 ⟨g, rfl, hg, hO, hb⟩; have HO := Lib.hid hO; have HW2 := Lib.hid (grew HW1.out hb); clear hO hb))
  go_loopw [4] (fun i wr => ∃ k : Nat, k ≤ l.length ∧ i = .int .i64 k ∧ Hid (RowK wr .i64 g (ordI l)) ∧ Hid (Below w.heap.size w wr)) (fun i _ => l.length - (intOf i).toNat)
  case atStart => exact ⟨0, Nat.zero_le _, rfl, HO, HW2⟩
  case round =>
    obtain ⟨i, hi, rfl, HO3, HW3⟩ := hrel
    generalize wr = w3 at *
    by_cases hlt : i < l.length
    · obtain ⟨b, off, rfl, hc⟩ := HR.out.below HW3.out (by omega)
      have r1 := (HO3.out i (by rw [ordI_length]; exact hlt)).1
      rw [ordI_getD _ _ hlt] at r1
      have r3 := (HO3.out (i - 1) (by rw [ordI_length]; omega)).1
      rw [ordI_getD _ _ (by omega)] at r3
      have hp := ordL_getD_lt l i hlt
      have hq := ordL_getD_lt l (i - 1) (by omega)
      have r2 := hc _ hp
      have r4 := hc _ hq
      have hcase : i = 0 ∨ (∃ m, i = m + 1 ∧ l.getD ((ordL l).getD i 0) 0 = l.getD ((ordL l).getD (i - 1) 0) 0 ∧ (ordL l).getD (i - 1) 0 < (ordL l).getD i 0) ∨ (∃ m, i = m + 1 ∧ l.getD ((ordL l).getD i 0) 0 < l.getD ((ordL l).getD (i - 1) 0) 0) := by
        rcases Nat.eq_zero_or_pos i with h | h
        · exact .inl h
        · obtain ⟨m, rfl⟩ : ∃ m, i = m + 1 := ⟨i - 1, by omega⟩
          have := ord_next l m hlt
          rw [Nat.add_sub_cancel]
          unfold leq at this
          rcases this with ⟨h1 | h1, h2⟩
          · exact .inr (.inr ⟨m, rfl, h1⟩)
          · exact .inr (.inl ⟨m, rfl, h1.1.symm, by omega⟩)
      have HD := Lib.hid (fun k hk => ord_diff l k i hk hlt)
      generalize hPe : (ordL l).getD i 0 = p at *
      generalize (ordL l).getD (i - 1) 0 = q at *
      generalize l.getD p 0 = lp at *
      generalize l.getD q 0 = lq at *
      have HPe := Lib.hid hPe
      clear hc hPe
      have d1 : decide ((p : Int) < 0) = false := decide_eq_false (by omega)
      have d2 : decide (l.length ≤ p) = false := decide_eq_false (by omega)
      have HQ : Hid (∀ W, Below w3.heap.size w3 W → RowK W .i64 g (ordI l) ∧ Below w.heap.size w W) := Lib.hid fun W hW => ⟨HO3.out.below hW, grew HW3.out hW⟩
      rcases hcase with rfl | ⟨m, rfl, rfl, hqp⟩ | ⟨m, rfl, hll⟩
      · go_wp2
        go_quiet (fail)
        go_wp2
        go_loopw [5] (fun j w5 => ∃ k : Nat, k ≤ 0 ∧ j = .int .i64 k ∧ Hid (Below w3.heap.size w3 w5)) (fun j _ => 0 - (intOf j).toNat)
        case atStart => exact ⟨0, Nat.zero_le _, rfl, Lib.hid (below_drewN (Below.refl _ _) _)⟩
        case round =>
          obtain ⟨k, hk, rfl, HW5⟩ := hrel
          obtain rfl : k = 0 := by omega
          go_wp2
          go_roundw
          case rel => exact ⟨0 + 1, by omega, by go_num, Lib.hid (HQ.out _ HW5.out).1, Lib.hid (HQ.out _ HW5.out).2⟩
          case measure => simp [intOf]; omega
      all_goals
        rw [Nat.add_sub_cancel] at r3
        first
          | (have d3 : decide (p ≤ q) = false := decide_eq_false (by omega))
          | (have d3 : (lp == lq) = false := beq_eq_false_iff_ne.2 (by omega)
             have d4 : decide (lq < lp) = false := decide_eq_false (by omega)
             clear hll)
        go_wp2
        go_quiet (fail)
        go_wp2
        go_loopw [5] (fun j w5 => ∃ k : Nat, k ≤ m + 1 ∧ j = .int .i64 k ∧ Hid (Below w3.heap.size w3 w5)) (fun j _ => m + 1 - (intOf j).toNat)
        case atStart => exact ⟨0, Nat.zero_le _, rfl, Lib.hid (below_drewN (Below.refl _ _) _)⟩
        case round =>
          obtain ⟨k, hk, rfl, HW5⟩ := hrel
          by_cases hkm : k < m + 1
          · have t1 := ((HQ.out _ HW5.out).1 k (by rw [ordI_length]; omega)).1
            rw [ordI_getD _ _ (by omega)] at t1
            have t2 := ((HQ.out _ HW5.out).1 (m + 1) (by rw [ordI_length]; omega)).1
            rw [ordI_getD _ _ (by omega), HPe.out] at t2
            have t3 := HD.out k hkm
            generalize (ordL l).getD k 0 = ok at *
            have d5 : ((ok : Int) == (p : Int)) = false := beq_eq_false_iff_ne.2 (by omega)
            have d6 : (ok == p) = false := beq_eq_false_iff_ne.2 t3
            clear t3
            go_wp2
            go_quiet (fail)
            go_wp2
            go_roundw
            case rel => exact ⟨k + 1, by omega, by go_num, Lib.hid (below_drewN HW5.out _)⟩
            case measure => simp [intOf]; omega
          · obtain rfl : k = m + 1 := by omega
            go_wp2
            go_roundw
            case rel => exact ⟨m + 1 + 1, by omega, by go_num, Lib.hid (HQ.out _ HW5.out).1, Lib.hid (HQ.out _ HW5.out).2⟩
            case measure => simp [intOf]; omega
    · go_wp2
      go_ret
      exact ⟨rfl, HW3.out⟩

theorem orders_law (A : Option Addr) (len cap : Nat) (zs : List Int) (w : World)
    (h : (A = none ∧ len = 0 ∧ cap = 0 ∧ zs = []) ∨
      ∃ x, A = some x ∧ len ≤ cap ∧ cap ≤ maxLen ∧ zs.length = cap ∧ (∀ i, i < zs.length → w.cell? (x.add i) = some (.int .i64 (zs.getD i 0))) ∧ ∀ n ∈ zs, (Lit.int .i64 n).wf = true) :
    Calls Try.prog 8 #[.slice A len cap] w fun e w' => e = .returned (.bool true) ∧ Below w.heap.size w w' := by
  obtain ⟨l, rfl, hr, hn, _⟩ := row_ints h
  exact orders_walk A l cap w hr hn
end Go.Proofs.Ytnfoneeplkjhbaa
