/-
  Reading numbers by sevens of bits; the walk of the reference's number.
-/
import Derived.Test.YtldceocbmmidmaaEv4
namespace Go.Proofs.Ytldceocbmmidmaa
open Go Go.RowKit
set_option linter.unusedVariables false

/-- Reading on at the i-th byte behind a place, with u so far. -/
def rdn (b : List Nat) (at' : Nat) : Nat → Nat → Nat → Option (Nat × Nat)
  | 0, _, _ => none
  | fuel + 1, i, u => if at' + i < b.length then
      (if (i = 9 ∧ 1 < b.getD (at' + i) 0) ∨ (b.getD (at' + i) 0 = 0 ∧ 0 < i) then none else
        if b.getD (at' + i) 0 < 128 then some (u + b.getD (at' + i) 0 % 128 * 128 ^ i, at' + i + 1) else rdn b at' fuel (i + 1) (u + b.getD (at' + i) 0 % 128 * 128 ^ i)) else none
def unzig (u : Nat) : Int := if u % 2 = 1 then -((u / 2 : Nat) : Int) - 1 else ((u / 2 : Nat) : Int)
/-- What number tells: the number, and the place behind it, or -1. -/
def rdOut : Option (Nat × Nat) → Int × Int
  | none => (0, -1)
  | some (u, p) => (unzig u, (p : Int))
theorem rdOut_odd {V p : Nat} (h : V % 2 = 1) : rdOut (some (V, p)) = (-((V / 2 : Nat) : Int) - 1, (p : Int)) := by
  show (unzig V, (p : Int)) = _
  unfold unzig
  rw [if_pos h]
theorem rdOut_even {V p : Nat} (h : ¬ V % 2 = 1) : rdOut (some (V, p)) = (((V / 2 : Nat) : Int), (p : Int)) := by
  show (unzig V, (p : Int)) = _
  unfold unzig
  rw [if_neg h]
theorem or_high (u y i : Nat) (hu : u < 128 ^ i) (h : u + y * 128 ^ i < 18446744073709551616) : bits .or .u64 (u : Int) ((y * 128 ^ i : Nat) : Int) = ((u + y * 128 ^ i : Nat) : Int) := by
  have h128 : 128 ^ i = 2 ^ (7 * i) := by rw [Nat.pow_mul]
  rw [u64_or_nat u _ (by omega) (by omega)]
  have : u ||| y * 128 ^ i = y * 128 ^ i + u := by
    rw [Nat.or_comm, h128, Nat.mul_comm]
    exact (Nat.two_pow_add_eq_or_of_lt (i := 7 * i) (by rw [← h128]; exact hu) y).symm
  rw [this, Nat.add_comm]
set_option maxRecDepth 8000 in
set_option maxHeartbeats 4000000 in
theorem rnum_any (A : Option Addr) (b : List Nat) (c : Nat) (a : Nat) (w : World) (hB : Byts w A b) (hO : Oct b) (hl : b.length ≤ 1000000000000) (ha : a ≤ 1000000000000) :
    Calls Try.prog 33 #[.slice A b.length c, .int .i64 (a : Int)] w fun e w' => e = .returned (.tuple #[.int .i64 (rdOut (rdn b a 10 0 0)).1, .int .i64 (rdOut (rdn b a 10 0 0)).2]) ∧ w = w' := by
  obtain ⟨n, hn⟩ : ∃ n, n = b.length := ⟨_, rfl⟩
  have HN := Lib.hid hn
  have HB := Lib.hid hB
  have HO := Lib.hid hO
  rw [← hn] at hl ⊢
  obtain ⟨R, hR⟩ : ∃ R, R = rdn b a 10 0 0 := ⟨_, rfl⟩
  rw [← hR]
  have HR := Lib.hid hR.symm
  clear hR hn hB hO
  go_enter Try.func33, Try.ntmps33
  go_wp2
  go_loop [6, 7] (fun u i => ∃ (U k : Nat), k ≤ 10 ∧ u = .int .u64 (U : Int) ∧ i = .int .i64 (k : Int) ∧ U < 128 ^ k ∧ U < 18446744073709551616 ∧ Hid (rdn b a (10 - k) k U = R)) (fun _ i => 10 - (intOf i).toNat)
  case atStart => exact ⟨0, 0, Nat.zero_le _, rfl, rfl, by simp, by omega, HR⟩
  case round =>
    obtain ⟨U, k, hk, rfl, rfl, hU, hU2, HRR⟩ := hrel
    by_cases hk10 : k < 10
    · by_cases hlt : a + k < n
      · obtain ⟨bb, off, rfl, hc⟩ := HB.out (by rw [← HN.out]; omega)
        have hcell := hc (a + k) (by rw [← HN.out]; exact hlt)
        have hC8 : b.getD (a + k) 0 < 256 := by
          have : b.getD (a + k) 0 ∈ b := by rw [List.getD_eq_getElem?_getD, List.getElem?_eq_getElem (by rw [← HN.out]; exact hlt)]; exact List.getElem_mem _
          have := HO.out _ this; omega
        have hun : rdn b a (10 - k) k U = (if (k = 9 ∧ 1 < b.getD (a + k) 0) ∨ (b.getD (a + k) 0 = 0 ∧ 0 < k) then none else if b.getD (a + k) 0 < 128 then some (U + b.getD (a + k) 0 % 128 * 128 ^ k, a + k + 1) else rdn b a (10 - (k + 1)) (k + 1) (U + b.getD (a + k) 0 % 128 * 128 ^ k)) := by
          rw [show 10 - k = (10 - (k + 1)) + 1 by omega]
          rw [rdn, if_pos (by rw [← HN.out]; exact hlt)]
        generalize b.getD (a + k) 0 = C at *
        rw [HRR.out] at hun
        have HU := Lib.hid hun
        clear hun HRR hc
        by_cases hbad : (k = 9 ∧ 1 < C) ∨ (C = 0 ∧ 0 < k)
        · rw [if_pos hbad] at HU
          have HRN : Hid (rdOut R = (0, -1)) := Lib.hid (by rw [HU.out]; rfl)
          rcases (by omega : (k = 9 ∧ 1 < C) ∨ (C = 0 ∧ k = 9) ∨ (C = 0 ∧ 0 < k ∧ k ≠ 9)) with ⟨rfl, hC⟩ | ⟨rfl, rfl⟩ | ⟨rfl, h1, h2⟩
          · go_wp2
            go_ret2
            exact ⟨by rw [HRN.out]; rfl, rfl⟩
          · go_wp2
            go_ret2
            exact ⟨by rw [HRN.out]; rfl, rfl⟩
          · have b9 : ((k : Int) == 9) = false := beq_eq_false_iff_ne.2 (by omega)
            go_wp2
            go_ret2
            exact ⟨by rw [HRN.out]; rfl, rfl⟩
        · rw [if_neg hbad] at HU
          obtain ⟨y, hy⟩ : ∃ y, y = C % 128 := ⟨_, rfl⟩
          obtain ⟨Y, hY⟩ : ∃ Y, Y = y * 128 ^ k := ⟨_, rfl⟩
          obtain ⟨V, hV⟩ : ∃ V, V = U + Y := ⟨_, rfl⟩
          have hand : bits .and .u8 (C : Int) 127 = (y : Int) := by
            rw [show (127 : Int) = ((127 : Nat) : Int) from rfl, u8_and_nat C 127 hC8 (by omega), hy]
            have : C &&& 127 = C % 128 := Nat.and_two_pow_sub_one_eq_mod C 7
            rw [this]
          have hy8 : y < 128 := by omega
          have h128 : 128 ^ k = 2 ^ (7 * k) := by rw [Nat.pow_mul]
          have hV63 : V < 128 ^ (k + 1) := by
            rw [hV, hY, Nat.pow_succ]
            have : y * 128 ^ k ≤ 127 * 128 ^ k := Nat.mul_le_mul_right _ (by omega)
            omega
          have hV64 : V < 18446744073709551616 := by
            rcases Nat.lt_or_ge k 9 with h9 | h9
            · have : (128 : Nat) ^ (k + 1) ≤ 128 ^ 9 := Nat.pow_le_pow_right (by omega) (by omega)
              have h9' : (128 : Nat) ^ 9 = 9223372036854775808 := by decide
              omega
            · obtain rfl : k = 9 := by omega
              have h9' : (128 : Nat) ^ 9 = 9223372036854775808 := by decide
              rw [h9'] at hU hY
              have : C ≤ 1 := by omega
              omega
          have hshl : IntKind.u64.wrap ((y : Int) * 2 ^ (7 * k)) = (Y : Int) := by
            have e1 : (y : Int) * 2 ^ (7 * k) = (Y : Int) := by rw [hY, h128]; simp
            rw [e1]
            simp [IntKind.wrap, IntKind.bits, IntKind.signed]
            omega
          have hor : bits .or .u64 (U : Int) (Y : Int) = (V : Int) := by rw [hV, hY]; exact or_high U y k hU (by rw [← hY, ← hV]; exact hV64)
          have hwy : IntKind.u64.wrap (y : Int) = (y : Int) := by simp [IntKind.wrap, IntKind.bits, IntKind.signed]; omega
          have hpar : bits .and .u64 (V : Int) 1 = ((V % 2 : Nat) : Int) := by
            rw [show (1 : Int) = ((1 : Nat) : Int) from rfl, u64_and_nat V 1 hV64 (by omega)]
            have : V &&& 1 = V % 2 := Nat.and_two_pow_sub_one_eq_mod V 1
            rw [this]
          obtain ⟨H, hH⟩ : ∃ H, H = V / 2 := ⟨_, rfl⟩
          have hhalf : (V : Int) / 2 = (H : Int) := by omega
          have hH63 : H < 9223372036854775808 := by omega
          rw [← hy, ← hY, ← hV] at HU
          by_cases hgo : C < 128
          · rw [if_pos hgo] at HU
            by_cases hodd : V % 2 = 1
            · have HRN : Hid (rdOut R = (-(H : Int) - 1, ((a + k + 1 : Nat) : Int))) := Lib.hid (by rw [HU.out, hH]; exact rdOut_odd hodd)
              rw [hodd] at hpar
              clear hy hY hV hH h128 hV63
              rcases (by omega : (k = 9 ∧ C = 1) ∨ (k < 9 ∧ C ≠ 0) ∨ (k = 0 ∧ C = 0)) with ⟨rfl, hC1⟩ | ⟨hk9, hC0⟩ | ⟨rfl, hC0⟩
              · rw [show (2 : Int) ^ (7 * 9) = 9223372036854775808 by decide] at hshl
                have bC : ((C : Int) == 0) = false := beq_eq_false_iff_ne.2 (by omega)
                have bC1 : ¬ (1 : Int) < (C : Int) := by omega
                clear hbad HU hC1
                go_wp2
                go_ret2
                exact ⟨by rw [HRN.out]; simp [Int.natCast_add], rfl⟩
              · have b9 : ((k : Int) == 9) = false := beq_eq_false_iff_ne.2 (by omega)
                have bC : ((C : Int) == 0) = false := beq_eq_false_iff_ne.2 (by omega)
                clear hbad HU
                go_wp2
                go_ret2
                exact ⟨by rw [HRN.out]; simp [Int.natCast_add], rfl⟩
              · rw [show (2 : Int) ^ (7 * 0) = 1 by decide, Int.mul_one] at hshl
                rw [hwy] at hshl
                have bC : ((C : Int) == 0) = true := beq_iff_eq.2 (by omega)
                have hYy : Y = y := by omega
                subst hYy
                simp only [Nat.add_zero] at hcell hlt
                clear hbad HU hC0 hshl
                go_wp2
                go_ret2
                exact ⟨by rw [HRN.out]; simp [Int.natCast_add], rfl⟩
            · have HRN : Hid (rdOut R = ((H : Int), ((a + k + 1 : Nat) : Int))) := Lib.hid (by rw [HU.out, hH]; exact rdOut_even hodd)
              rw [show V % 2 = 0 by omega] at hpar
              clear hy hY hV hH h128 hV63
              rcases (by omega : (k = 9 ∧ C = 1) ∨ (k < 9 ∧ C ≠ 0) ∨ (k = 0 ∧ C = 0)) with ⟨rfl, hC1⟩ | ⟨hk9, hC0⟩ | ⟨rfl, hC0⟩
              · rw [show (2 : Int) ^ (7 * 9) = 9223372036854775808 by decide] at hshl
                have bC : ((C : Int) == 0) = false := beq_eq_false_iff_ne.2 (by omega)
                have bC1 : ¬ (1 : Int) < (C : Int) := by omega
                clear hbad HU hC1
                go_wp2
                go_ret2
                exact ⟨by rw [HRN.out]; simp [Int.natCast_add], rfl⟩
              · have b9 : ((k : Int) == 9) = false := beq_eq_false_iff_ne.2 (by omega)
                have bC : ((C : Int) == 0) = false := beq_eq_false_iff_ne.2 (by omega)
                clear hbad HU
                go_wp2
                go_ret2
                exact ⟨by rw [HRN.out]; simp [Int.natCast_add], rfl⟩
              · rw [show (2 : Int) ^ (7 * 0) = 1 by decide, Int.mul_one] at hshl
                rw [hwy] at hshl
                have bC : ((C : Int) == 0) = true := beq_iff_eq.2 (by omega)
                have hYy : Y = y := by omega
                subst hYy
                simp only [Nat.add_zero] at hcell hlt
                clear hbad HU hC0 hshl
                go_wp2
                go_ret2
                exact ⟨by rw [HRN.out]; simp [Int.natCast_add], rfl⟩
          · rw [if_neg hgo] at HU
            have hk9 : k < 9 := by omega
            have b9 : ((k : Int) == 9) = false := beq_eq_false_iff_ne.2 (by omega)
            have bC : ((C : Int) == 0) = false := beq_eq_false_iff_ne.2 (by omega)
            have HV63 := Lib.hid hV63
            clear hy hY hV hH h128 hV63 hpar hhalf
            go_wp2
            go_round
            case rel => exact ⟨V, k + 1, by omega, rfl, by go_num, HV63.out, hV64, Lib.hid HU.out.symm⟩
            case measure => simp [intOf]; omega
      · have HRN : Hid (rdOut R = (0, -1)) := Lib.hid (by
          rw [← HRR.out, show 10 - k = (10 - (k + 1)) + 1 by omega, rdn, if_neg (by rw [← HN.out]; exact hlt)]; rfl)
        go_wp2
        go_ret2
        exact ⟨by rw [HRN.out]; rfl, rfl⟩
    · obtain rfl : k = 10 := by omega
      have HRN : Hid (rdOut R = (0, -1)) := Lib.hid (by rw [← HRR.out]; rfl)
      go_wp2
      go_ret2
      exact ⟨by rw [HRN.out]; rfl, rfl⟩
end Go.Proofs.Ytldceocbmmidmaa
