import Derived.Test.YtmpipjangbedkaaGreatMEv5
import Derived.Test.YtmpipjangbedkaaGreatMEv4
import Derived.Test.YtmpipjangbedkaaGreatMEv3
/-
  The walks of the program's unfolded, firstNumber.
-/
namespace Go.Proofs.YtmpipjangbedkaaGreat
set_option maxRecDepth 8000
open Go Go.RowKit
set_option linter.unusedVariables false

set_option maxRecDepth 8000 in
set_option maxHeartbeats 2000000 in
theorem unfolded_any (u : Nat) (hu : u < 18446744073709551616) (w : World) : Calls Tryz.prog 98 #[.int .u64 (u : Int)] w fun e w' => e = .returned (.int .i64 (unzig u)) ∧ w = w' := by
  obtain ⟨H, hH⟩ : ∃ H, H = u / 2 := ⟨_, rfl⟩
  have hhalf : (u : Int) / 2 = (H : Int) := by omega
  have hH63 : H < 9223372036854775808 := by omega
  have hw : IntKind.i64.wrap (H : Int) = (H : Int) := by simp [IntKind.wrap, IntKind.bits, IntKind.signed]; omega
  have hpar : bits .and .u64 (u : Int) 1 = ((u % 2 : Nat) : Int) := by
    rw [show (1 : Int) = ((1 : Nat) : Int) from rfl, u64_and_nat u 1 hu (by omega)]
    have : u &&& 1 = u % 2 := Nat.and_two_pow_sub_one_eq_mod u 1
    rw [this]
  have hnot := not_pos H hH63
  by_cases hodd : u % 2 = 1
  · rw [show unzig u = -(H : Int) - 1 from by unfold unzig; rw [if_pos hodd, hH]]
    rw [hodd] at hpar
    clear hH hodd
    go_enter Tryz.func98, Tryz.ntmps98
    go_wp2
    go_ret
    exact ⟨by first | rfl | (rw [hnot]; rfl), rfl⟩
  · rw [show unzig u = (H : Int) from by unfold unzig; rw [if_neg hodd, hH]]
    rw [show u % 2 = 0 by omega] at hpar
    clear hH hodd hnot
    go_enter Tryz.func98, Tryz.ntmps98
    go_wp2
    go_ret
    exact ⟨rfl, rfl⟩
/-- What firstNumber tells. -/
def fnOut : Option (Nat × Nat) → Array Value
  | none => #[.int .i64 0, .int .i64 0, .bool false]
  | some (u, p) => #[.int .i64 (unzig u), .int .i64 (p : Int), .bool true]
theorem andnot_128 (C : Nat) (h : C < 256) : bits .andNot .u8 (C : Int) 128 = ((C % 128 : Nat) : Int) := by
  rw [show (128 : Int) = ((128 : Nat) : Int) from rfl, u8_andNot_nat C 128 h (by omega)]
  have : C &&& 127 = C % 128 := Nat.and_two_pow_sub_one_eq_mod C 7
  rw [this]
theorem rdn_at {b : List Nat} {k U : Nat} (hk : k < 10) (h : k < b.length) : rdn b 0 (10 - k) k U = (if (k = 9 ∧ 1 < b.getD k 0) ∨ (b.getD k 0 = 0 ∧ 0 < k) then none else if b.getD k 0 < 128 then some (U + b.getD k 0 % 128 * 128 ^ k, k + 1) else rdn b 0 (10 - (k + 1)) (k + 1) (U + b.getD k 0 % 128 * 128 ^ k)) := by
  rw [show 10 - k = (10 - (k + 1)) + 1 by omega]
  rw [rdn]
  simp only [Nat.zero_add]
  rw [if_pos h]
theorem rdn_out {b : List Nat} {k U : Nat} (h : ¬ k < b.length) : rdn b 0 (10 - k) k U = none := by
  cases hf : 10 - k with
  | zero => rfl
  | succ f => rw [rdn]; simp only [Nat.zero_add]; rw [if_neg h]
set_option maxRecDepth 8000 in
set_option maxHeartbeats 4000000 in
theorem first_10 (A : Option Addr) (b : List Nat) (c n : Nat) (w : World) (hB : Byts w A b) (hO : Oct b) (hl : n ≤ 1000000000000) (hcl : n ≤ c) (hn : n = b.length) (hM : 10 < n) :
    Calls Tryz.prog 85 #[.slice A n c] w fun e w' => e = .returned (.tuple (fnOut (rdn b 0 10 0 0))) ∧ w = w' := by
  have HN := Lib.hid hn
  have HB := Lib.hid hB
  have HO := Lib.hid hO
  obtain ⟨R, hR⟩ : ∃ R, R = rdn b 0 10 0 0 := ⟨_, rfl⟩
  rw [← hR]
  have HR := Lib.hid hR.symm
  have CU := Lib.hid (fun u hu W => unfolded_any u hu W)
  have HNO : Hid (R = none → Value.tuple #[.int .i64 0, .int .i64 0, .bool false] = Value.tuple (fnOut R)) := Lib.hid (fun h => by rw [h]; rfl)
  clear hR hn hB hO
  go_enter Tryz.func85, Tryz.ntmps85
  go_wp2
  go_loop [5, 14] (fun u i => ∃ (U k : Nat), k ≤ 10 ∧ u = .int .u64 (U : Int) ∧ i = .int .i64 (k : Int) ∧ U < 128 ^ k ∧ U < 18446744073709551616 ∧ Hid (rdn b 0 (10 - k) k U = R)) (fun _ i => 10 - (intOf i).toNat)
  case atStart => exact ⟨0, 0, Nat.zero_le _, rfl, rfl, by simp, by omega, HR⟩
  case round =>
    obtain ⟨U, k, hk, rfl, rfl, hU, hU2, HRR⟩ := hrel
    by_cases hlt : k < 10
    · have hk10 : k < 10 := by omega
      have hkn : k < n := by omega
      obtain ⟨bb, off, rfl, hc⟩ := HB.out (by rw [← HN.out]; omega)
      have hcell := hc k (by rw [← HN.out]; exact hkn)
      have hC8 : b.getD k 0 < 256 := by
        have : b.getD k 0 ∈ b := by rw [List.getD_eq_getElem?_getD, List.getElem?_eq_getElem (by rw [← HN.out]; exact hkn)]; exact List.getElem_mem _
        have := HO.out _ this; omega
      have hun := rdn_at (U := U) hk10 (by rw [← HN.out]; exact hkn : k < b.length)
      generalize b.getD k 0 = C at *
      rw [HRR.out] at hun
      have HU := Lib.hid hun
      clear hun HRR hc
      obtain ⟨y, hy⟩ : ∃ y, y = C % 128 := ⟨_, rfl⟩
      obtain ⟨Y, hY⟩ : ∃ Y, Y = y * 128 ^ k := ⟨_, rfl⟩
      obtain ⟨V, hV⟩ : ∃ V, V = U + Y := ⟨_, rfl⟩
      have hand : bits .andNot .u8 (C : Int) 128 = (y : Int) := by rw [andnot_128 C hC8, hy]
      have hy8 : y < 128 := by omega
      rw [← hy, ← hY, ← hV] at HU
      by_cases hA : k = 9 ∧ 1 < C
      · have HRN : Hid (R = none) := Lib.hid (by rw [HU.out, if_pos (.inl hA)])
        have b9 : ((k : Int) == 9) = true := beq_iff_eq.2 (by omega)
        have hC1 : 1 < C := hA.2
        clear hA hy hY hV HU
        go_wp2
        go_ret3
        exact ⟨congrArg _ (HNO.out HRN.out), rfl⟩
      · have h128 : 128 ^ k = 2 ^ (7 * k) := by rw [Nat.pow_mul]
        have hV63 : V < 128 ^ (k + 1) := by
          rw [hV, hY, Nat.pow_succ]
          have : y * 128 ^ k ≤ 127 * 128 ^ k := Nat.mul_le_mul_right _ (by omega)
          omega
        have hV64 : V < 18446744073709551616 := by
          rcases Nat.lt_or_ge k 9 with h9 | h9
          · have : (128 : Nat) ^ (k + 1) ≤ 128 ^ 9 := Nat.pow_le_pow_right (by omega) (by omega)
            have h9' : (128 : Nat) ^ 9 = 9223372036854775808 := by decide
            omega
          · obtain rfl : k = 9 := by omega
            have h9' : (128 : Nat) ^ 9 = 9223372036854775808 := by decide
            rw [h9'] at hU hY
            have : C ≤ 1 := by omega
            omega
        have hshl : IntKind.u64.wrap ((y : Int) * 2 ^ (7 * k)) = (Y : Int) := by
          have e1 : (y : Int) * 2 ^ (7 * k) = (Y : Int) := by rw [hY, h128]; simp
          rw [e1]
          simp [IntKind.wrap, IntKind.bits, IntKind.signed]
          omega
        have hor : bits .or .u64 (U : Int) (Y : Int) = (V : Int) := by rw [hV, hY]; exact or_high U y k hU (by rw [← hY, ← hV]; exact hV64)
        have hwy : IntKind.u64.wrap (y : Int) = (y : Int) := by simp [IntKind.wrap, IntKind.bits, IntKind.signed]; omega
        have CU1 := Lib.hid (CU.out V hV64)
        have HV63 := Lib.hid hV63
        have HV64 := Lib.hid hV64
        have HkC : Hid (k = 9 → C ≤ 1) := Lib.hid (by intro h; omega)
        clear hy hY hV h128 hV63 hA hV64 hU
        by_cases hgo : C < 128
        · by_cases hz : C = 0 ∧ 0 < k
          · have HRN : Hid (R = none) := Lib.hid (by rw [HU.out, if_pos (.inr hz)])
            have bC : ((C : Int) == 0) = true := beq_iff_eq.2 (by omega)
            have hC1 : ¬ 1 < C := by omega
            have hk0 : 0 < k := hz.2
            clear hz HU
            rcases (by omega : k = 9 ∨ k ≠ 9) with h9 | h9
            · have b9 : ((k : Int) == 9) = true := beq_iff_eq.2 (by omega)
              clear h9
              go_wp2
              go_ret3
              exact ⟨congrArg _ (HNO.out HRN.out), rfl⟩
            · have b9 : ((k : Int) == 9) = false := beq_eq_false_iff_ne.2 (by omega)
              clear h9
              go_wp2
              go_ret3
              exact ⟨congrArg _ (HNO.out HRN.out), rfl⟩
          · have HRS : Hid (R = some (V, k + 1)) := Lib.hid (by rw [HU.out, if_neg (by have := HkC.out; omega), if_pos hgo])
            have HV : Hid (Value.tuple #[.int .i64 (unzig V), .int .i64 ((k : Int) + 1), .bool true] = Value.tuple (fnOut R)) := Lib.hid (by rw [HRS.out]; simp [fnOut])
            generalize unzig V = z at *
            clear HU HRS
            rcases (by omega : C = 0 ∧ k = 0 ∨ C ≠ 0) with ⟨h0, hk0⟩ | h0
            · have bC : ((C : Int) == 0) = true := beq_iff_eq.2 (by omega)
              have b9 : ((k : Int) == 9) = false := beq_eq_false_iff_ne.2 (by omega)
              have hkk : ¬ 0 < k := by omega
              clear hz h0 hk0
              go_wp2_with (go_at_call 98; (with_reducible refine (CU1.out _).mono ?_); rintro e' _ ⟨rfl, rfl⟩)
              go_ret3
              exact ⟨congrArg _ HV.out, rfl⟩
            · have bC : ((C : Int) == 0) = false := beq_eq_false_iff_ne.2 (by omega)
              clear hz
              rcases (by omega : k = 9 ∨ k ≠ 9) with h9 | h9
              · have b9 : ((k : Int) == 9) = true := beq_iff_eq.2 (by omega)
                have hC1 : ¬ 1 < C := by have := HkC.out h9; omega
                clear h9
                go_wp2_with (go_at_call 98; (with_reducible refine (CU1.out _).mono ?_); rintro e' _ ⟨rfl, rfl⟩)
                go_ret3
                exact ⟨congrArg _ HV.out, rfl⟩
              · have b9 : ((k : Int) == 9) = false := beq_eq_false_iff_ne.2 (by omega)
                clear h9
                go_wp2_with (go_at_call 98; (with_reducible refine (CU1.out _).mono ?_); rintro e' _ ⟨rfl, rfl⟩)
                go_ret3
                exact ⟨congrArg _ HV.out, rfl⟩
        · have h9 : k ≠ 9 := by intro h; have := HkC.out h; omega
          have HNX : Hid (rdn b 0 (10 - (k + 1)) (k + 1) V = R) := Lib.hid (by rw [HU.out, if_neg (by omega), if_neg hgo])
          have b9 : ((k : Int) == 9) = false := beq_eq_false_iff_ne.2 (by omega)
          clear h9 HU
          go_wp2
          go_round
          case rel => exact ⟨V, k + 1, by omega, rfl, by go_num, HV63.out, HV64.out, HNX⟩
          case measure => simp [intOf]; omega
    · have HRN : Hid (R = none) := Lib.hid (by
        rw [← HRR.out]
        rw [show 10 - k = 0 by omega]; rfl)
      go_wp2
      go_ret3
      exact ⟨congrArg _ (HNO.out HRN.out), rfl⟩
set_option maxRecDepth 8000 in
set_option maxHeartbeats 4000000 in
theorem first_n (A : Option Addr) (b : List Nat) (c n : Nat) (w : World) (hB : Byts w A b) (hO : Oct b) (hl : n ≤ 1000000000000) (hcl : n ≤ c) (hn : n = b.length) (hM : n ≤ 10) :
    Calls Tryz.prog 85 #[.slice A n c] w fun e w' => e = .returned (.tuple (fnOut (rdn b 0 10 0 0))) ∧ w = w' := by
  have HN := Lib.hid hn
  have HB := Lib.hid hB
  have HO := Lib.hid hO
  obtain ⟨R, hR⟩ : ∃ R, R = rdn b 0 10 0 0 := ⟨_, rfl⟩
  rw [← hR]
  have HR := Lib.hid hR.symm
  have CU := Lib.hid (fun u hu W => unfolded_any u hu W)
  have HNO : Hid (R = none → Value.tuple #[.int .i64 0, .int .i64 0, .bool false] = Value.tuple (fnOut R)) := Lib.hid (fun h => by rw [h]; rfl)
  clear hR hn hB hO
  go_enter Tryz.func85, Tryz.ntmps85
  go_wp2
  go_loop [5, 14] (fun u i => ∃ (U k : Nat), k ≤ n ∧ u = .int .u64 (U : Int) ∧ i = .int .i64 (k : Int) ∧ U < 128 ^ k ∧ U < 18446744073709551616 ∧ Hid (rdn b 0 (10 - k) k U = R)) (fun _ i => 10 - (intOf i).toNat)
  case atStart => exact ⟨0, 0, Nat.zero_le _, rfl, rfl, by simp, by omega, HR⟩
  case round =>
    obtain ⟨U, k, hk, rfl, rfl, hU, hU2, HRR⟩ := hrel
    by_cases hlt : k < n
    · have hk10 : k < 10 := by omega
      have hkn : k < n := by omega
      obtain ⟨bb, off, rfl, hc⟩ := HB.out (by rw [← HN.out]; omega)
      have hcell := hc k (by rw [← HN.out]; exact hkn)
      have hC8 : b.getD k 0 < 256 := by
        have : b.getD k 0 ∈ b := by rw [List.getD_eq_getElem?_getD, List.getElem?_eq_getElem (by rw [← HN.out]; exact hkn)]; exact List.getElem_mem _
        have := HO.out _ this; omega
      have hun := rdn_at (U := U) hk10 (by rw [← HN.out]; exact hkn : k < b.length)
      generalize b.getD k 0 = C at *
      rw [HRR.out] at hun
      have HU := Lib.hid hun
      clear hun HRR hc
      obtain ⟨y, hy⟩ : ∃ y, y = C % 128 := ⟨_, rfl⟩
      obtain ⟨Y, hY⟩ : ∃ Y, Y = y * 128 ^ k := ⟨_, rfl⟩
      obtain ⟨V, hV⟩ : ∃ V, V = U + Y := ⟨_, rfl⟩
      have hand : bits .andNot .u8 (C : Int) 128 = (y : Int) := by rw [andnot_128 C hC8, hy]
      have hy8 : y < 128 := by omega
      rw [← hy, ← hY, ← hV] at HU
      by_cases hA : k = 9 ∧ 1 < C
      · have HRN : Hid (R = none) := Lib.hid (by rw [HU.out, if_pos (.inl hA)])
        have b9 : ((k : Int) == 9) = true := beq_iff_eq.2 (by omega)
        have hC1 : 1 < C := hA.2
        clear hA hy hY hV HU
        go_wp2
        go_ret3
        exact ⟨congrArg _ (HNO.out HRN.out), rfl⟩
      · have h128 : 128 ^ k = 2 ^ (7 * k) := by rw [Nat.pow_mul]
        have hV63 : V < 128 ^ (k + 1) := by
          rw [hV, hY, Nat.pow_succ]
          have : y * 128 ^ k ≤ 127 * 128 ^ k := Nat.mul_le_mul_right _ (by omega)
          omega
        have hV64 : V < 18446744073709551616 := by
          rcases Nat.lt_or_ge k 9 with h9 | h9
          · have : (128 : Nat) ^ (k + 1) ≤ 128 ^ 9 := Nat.pow_le_pow_right (by omega) (by omega)
            have h9' : (128 : Nat) ^ 9 = 9223372036854775808 := by decide
            omega
          · obtain rfl : k = 9 := by omega
            have h9' : (128 : Nat) ^ 9 = 9223372036854775808 := by decide
            rw [h9'] at hU hY
            have : C ≤ 1 := by omega
            omega
        have hshl : IntKind.u64.wrap ((y : Int) * 2 ^ (7 * k)) = (Y : Int) := by
          have e1 : (y : Int) * 2 ^ (7 * k) = (Y : Int) := by rw [hY, h128]; simp
          rw [e1]
          simp [IntKind.wrap, IntKind.bits, IntKind.signed]
          omega
        have hor : bits .or .u64 (U : Int) (Y : Int) = (V : Int) := by rw [hV, hY]; exact or_high U y k hU (by rw [← hY, ← hV]; exact hV64)
        have hwy : IntKind.u64.wrap (y : Int) = (y : Int) := by simp [IntKind.wrap, IntKind.bits, IntKind.signed]; omega
        have CU1 := Lib.hid (CU.out V hV64)
        have HV63 := Lib.hid hV63
        have HV64 := Lib.hid hV64
        have HkC : Hid (k = 9 → C ≤ 1) := Lib.hid (by intro h; omega)
        clear hy hY hV h128 hV63 hA hV64 hU
        by_cases hgo : C < 128
        · by_cases hz : C = 0 ∧ 0 < k
          · have HRN : Hid (R = none) := Lib.hid (by rw [HU.out, if_pos (.inr hz)])
            have bC : ((C : Int) == 0) = true := beq_iff_eq.2 (by omega)
            have hC1 : ¬ 1 < C := by omega
            have hk0 : 0 < k := hz.2
            clear hz HU
            rcases (by omega : k = 9 ∨ k ≠ 9) with h9 | h9
            · have b9 : ((k : Int) == 9) = true := beq_iff_eq.2 (by omega)
              clear h9
              go_wp2
              go_ret3
              exact ⟨congrArg _ (HNO.out HRN.out), rfl⟩
            · have b9 : ((k : Int) == 9) = false := beq_eq_false_iff_ne.2 (by omega)
              clear h9
              go_wp2
              go_ret3
              exact ⟨congrArg _ (HNO.out HRN.out), rfl⟩
          · have HRS : Hid (R = some (V, k + 1)) := Lib.hid (by rw [HU.out, if_neg (by have := HkC.out; omega), if_pos hgo])
            have HV : Hid (Value.tuple #[.int .i64 (unzig V), .int .i64 ((k : Int) + 1), .bool true] = Value.tuple (fnOut R)) := Lib.hid (by rw [HRS.out]; simp [fnOut])
            generalize unzig V = z at *
            clear HU HRS
            rcases (by omega : C = 0 ∧ k = 0 ∨ C ≠ 0) with ⟨h0, hk0⟩ | h0
            · have bC : ((C : Int) == 0) = true := beq_iff_eq.2 (by omega)
              have b9 : ((k : Int) == 9) = false := beq_eq_false_iff_ne.2 (by omega)
              have hkk : ¬ 0 < k := by omega
              clear hz h0 hk0
              go_wp2_with (go_at_call 98; (with_reducible refine (CU1.out _).mono ?_); rintro e' _ ⟨rfl, rfl⟩)
              go_ret3
              exact ⟨congrArg _ HV.out, rfl⟩
            · have bC : ((C : Int) == 0) = false := beq_eq_false_iff_ne.2 (by omega)
              clear hz
              rcases (by omega : k = 9 ∨ k ≠ 9) with h9 | h9
              · have b9 : ((k : Int) == 9) = true := beq_iff_eq.2 (by omega)
                have hC1 : ¬ 1 < C := by have := HkC.out h9; omega
                clear h9
                go_wp2_with (go_at_call 98; (with_reducible refine (CU1.out _).mono ?_); rintro e' _ ⟨rfl, rfl⟩)
                go_ret3
                exact ⟨congrArg _ HV.out, rfl⟩
              · have b9 : ((k : Int) == 9) = false := beq_eq_false_iff_ne.2 (by omega)
                clear h9
                go_wp2_with (go_at_call 98; (with_reducible refine (CU1.out _).mono ?_); rintro e' _ ⟨rfl, rfl⟩)
                go_ret3
                exact ⟨congrArg _ HV.out, rfl⟩
        · have h9 : k ≠ 9 := by intro h; have := HkC.out h; omega
          have HNX : Hid (rdn b 0 (10 - (k + 1)) (k + 1) V = R) := Lib.hid (by rw [HU.out, if_neg (by omega), if_neg hgo])
          have b9 : ((k : Int) == 9) = false := beq_eq_false_iff_ne.2 (by omega)
          clear h9 HU
          go_wp2
          go_round
          case rel => exact ⟨V, k + 1, by omega, rfl, by go_num, HV63.out, HV64.out, HNX⟩
          case measure => simp [intOf]; omega
    · have HRN : Hid (R = none) := Lib.hid (by
        rw [← HRR.out]
        exact rdn_out (by rw [← HN.out]; omega))
      go_wp2
      go_ret3
      exact ⟨congrArg _ (HNO.out HRN.out), rfl⟩
theorem first_any (A : Option Addr) (b : List Nat) (c : Nat) (w : World) (hB : Byts w A b) (hO : Oct b) (hl : b.length ≤ 1000000000000) (hcl : b.length ≤ c) :
    Calls Tryz.prog 85 #[.slice A b.length c] w fun e w' => e = .returned (.tuple (fnOut (rdn b 0 10 0 0))) ∧ w = w' := by
  rcases Nat.lt_or_ge 10 b.length with h | h
  · exact first_10 A b c _ w hB hO hl hcl rfl h
  · exact first_n A b c _ w hB hO hl hcl rfl h
end Go.Proofs.YtmpipjangbedkaaGreat

/-
  The walk of the program's withValue.
-/
namespace Go.Proofs.YtmpipjangbedkaaGreat
set_option maxRecDepth 8000
open Go Go.RowKit
set_option linter.unusedVariables false

set_option maxRecDepth 8000 in
set_option maxHeartbeats 1000000 in
theorem pwith_77 (e : Ev) (n : Int) (w : World) : Calls Tryz.prog 86 #[e.v, .int .i32 77, .int .i64 n] w fun r w' => r = .returned ({ e with member := n }).v ∧ Below w.heap.size w w' := by
  unfold Ev.v
  go_enter Tryz.func86, Tryz.ntmps86
  go_wp2
  refine bodyPost_ret (v := ({ e with member := n } : Ev).v) (by simp [results, Tryz.results86, go_sem, Ev.v]) rfl ⟨rfl, ?_⟩
  exact ((Below.refl _ _).alloc (Nat.le_refl _) _).alloc (by simp) _
set_option maxRecDepth 8000 in
set_option maxHeartbeats 1000000 in
theorem pwith_65 (e : Ev) (n : Int) (w : World) : Calls Tryz.prog 86 #[e.v, .int .i32 65, .int .i64 n] w fun r w' => r = .returned ({ e with acc := n }).v ∧ Below w.heap.size w w' := by
  unfold Ev.v
  go_enter Tryz.func86, Tryz.ntmps86
  go_wp2
  refine bodyPost_ret (v := ({ e with acc := n } : Ev).v) (by simp [results, Tryz.results86, go_sem, Ev.v]) rfl ⟨rfl, ?_⟩
  exact ((Below.refl _ _).alloc (Nat.le_refl _) _).alloc (by simp) _
set_option maxRecDepth 8000 in
set_option maxHeartbeats 1000000 in
theorem pwith_73 (e : Ev) (n : Int) (w : World) : Calls Tryz.prog 86 #[e.v, .int .i32 73, .int .i64 n] w fun r w' => r = .returned ({ e with inst := n }).v ∧ Below w.heap.size w w' := by
  unfold Ev.v
  go_enter Tryz.func86, Tryz.ntmps86
  go_wp2
  refine bodyPost_ret (v := ({ e with inst := n } : Ev).v) (by simp [results, Tryz.results86, go_sem, Ev.v]) rfl ⟨rfl, ?_⟩
  exact ((Below.refl _ _).alloc (Nat.le_refl _) _).alloc (by simp) _
set_option maxRecDepth 8000 in
set_option maxHeartbeats 1000000 in
theorem pwith_83 (e : Ev) (n : Int) (w : World) : Calls Tryz.prog 86 #[e.v, .int .i32 83, .int .i64 n] w fun r w' => r = .returned ({ e with side := n }).v ∧ Below w.heap.size w w' := by
  unfold Ev.v
  go_enter Tryz.func86, Tryz.ntmps86
  go_wp2
  refine bodyPost_ret (v := ({ e with side := n } : Ev).v) (by simp [results, Tryz.results86, go_sem, Ev.v]) rfl ⟨rfl, ?_⟩
  exact ((Below.refl _ _).alloc (Nat.le_refl _) _).alloc (by simp) _
set_option maxRecDepth 8000 in
set_option maxHeartbeats 1000000 in
theorem pwith_68 (e : Ev) (n : Int) (w : World) : Calls Tryz.prog 86 #[e.v, .int .i32 68, .int .i64 n] w fun r w' => r = .returned ({ e with id := n }).v ∧ Below w.heap.size w w' := by
  unfold Ev.v
  go_enter Tryz.func86, Tryz.ntmps86
  go_wp2
  refine bodyPost_ret (v := ({ e with id := n } : Ev).v) (by simp [results, Tryz.results86, go_sem, Ev.v]) rfl ⟨rfl, ?_⟩
  exact ((Below.refl _ _).alloc (Nat.le_refl _) _).alloc (by simp) _
set_option maxRecDepth 8000 in
set_option maxHeartbeats 1000000 in
theorem pwith_81 (e : Ev) (n : Int) (w : World) : Calls Tryz.prog 86 #[e.v, .int .i32 81, .int .i64 n] w fun r w' => r = .returned ({ e with q := n }).v ∧ Below w.heap.size w w' := by
  unfold Ev.v
  go_enter Tryz.func86, Tryz.ntmps86
  go_wp2
  refine bodyPost_ret (v := ({ e with q := n } : Ev).v) (by simp [results, Tryz.results86, go_sem, Ev.v]) rfl ⟨rfl, ?_⟩
  exact ((Below.refl _ _).alloc (Nat.le_refl _) _).alloc (by simp) _
set_option maxRecDepth 8000 in
set_option maxHeartbeats 1000000 in
theorem pwith_80 (e : Ev) (n : Int) (w : World) : Calls Tryz.prog 86 #[e.v, .int .i32 80, .int .i64 n] w fun r w' => r = .returned ({ e with p := n }).v ∧ Below w.heap.size w w' := by
  unfold Ev.v
  go_enter Tryz.func86, Tryz.ntmps86
  go_wp2
  refine bodyPost_ret (v := ({ e with p := n } : Ev).v) (by simp [results, Tryz.results86, go_sem, Ev.v]) rfl ⟨rfl, ?_⟩
  exact ((Below.refl _ _).alloc (Nat.le_refl _) _).alloc (by simp) _
theorem pwith_any (e : Ev) (f : Nat) (hf : lett f) (n : Int) (w : World) : Calls Tryz.prog 86 #[e.v, .int .i32 (f : Int), .int .i64 n] w fun r w' => r = .returned (e.with f n).v ∧ Below w.heap.size w w' := by
  rcases hf with rfl | rfl | rfl | rfl | rfl | rfl | rfl
  · exact pwith_77 e n w
  · exact pwith_65 e n w
  · exact pwith_73 e n w
  · exact pwith_83 e n w
  · exact pwith_68 e n w
  · exact pwith_81 e n w
  · exact pwith_80 e n w
end Go.Proofs.YtmpipjangbedkaaGreat
