/-
  The walks of frame.Sum and of the reference's Crc.
-/
import Derived.Test.YtmopipclheohcaaByt
import Derived.Test.YtmopipclheohcaaNum
import Derived.Test.YtmopipclheohcaaProg
namespace Go.Proofs.Ytmopipclheohcaa
open Go.RowKit

theorem u32w (a : Nat) (h : a < 4294967296) : IntKind.u32.wrap (a : Int) = (a : Int) := by rw [IntKind.wrap_u32']; omega
theorem and1 (s : Nat) (h : s < 4294967296) : bits .and .u32 (s : Int) 1 = ((s % 2 : Nat) : Int) := by
  rw [show (1 : Int) = ((1 : Nat) : Int) from rfl, u32_and_nat s 1 h (by omega), Nat.and_one_is_mod]
theorem xorP (s : Nat) (h : s < 4294967296) : bits .xor .u32 (s : Int) 3988292384 = ((s ^^^ 3988292384 : Nat) : Int) := by
  rw [show (3988292384 : Int) = ((3988292384 : Nat) : Int) from rfl, u32_xor_nat s _ h (by omega)]
theorem notS (s : Nat) (h : s < 4294967296) : bits .xor .u32 4294967295 (s : Int) = ((4294967295 - s : Nat) : Int) := by
  rw [show (4294967295 : Int) = ((4294967295 : Nat) : Int) from rfl, u32_xor_nat _ s (by omega) h, ones_xor h]

theorem xorH (s : Nat) (h : s / 2 < 4294967296) : bits .xor .u32 ((s : Int) / 2) 3988292384 = ((s / 2 ^^^ 3988292384 : Nat) : Int) := by
  rw [show (s : Int) / 2 = ((s / 2 : Nat) : Int) from by omega]; exact xorP _ h
theorem divN2 (a : Nat) : (a : Int) / 2 = ((a / 2 : Nat) : Int) := by omega
theorem cstep_odd {s : Nat} (h : s % 2 = 1) : cstep s = s / 2 ^^^ 3988292384 := by unfold cstep; rw [if_pos h]
theorem cstep_even {s : Nat} (h : s % 2 = 0) : cstep s = s / 2 := by unfold cstep; rw [if_neg (by omega)]
theorem take_all {l : List Nat} {k : Nat} (h : ¬ k < l.length) : l.take k = l := List.take_of_length_le (by omega)

set_option maxRecDepth 8000 in
set_option maxHeartbeats 1000000 in
theorem sum_any (A : Option Addr) (l : List Nat) (c : Nat) (w : World) (hr : Byts w A l) (hl : Oct l) (hn : l.length ≤ 9223372036854775807) :
    Calls Try.prog 11 #[.slice A l.length c] w fun e w' => e = .returned (.int .u32 ((crc l : Nat) : Int)) ∧ w = w' := by
  go_enter Try.func11, Try.ntmps11
  go_wp2
  go_loop [3, 9] (fun s i => ∃ k : Nat, k ≤ l.length ∧ i = .int .i64 k ∧ s = .int .u32 ((cfold 4294967295 (l.take k) : Nat) : Int)) (fun _ i => l.length - (intOf i).toNat)
  case atStart => exact ⟨0, Nat.zero_le _, rfl, rfl⟩
  case round =>
    obtain ⟨k, hk, rfl, rfl⟩ := hrel
    have hS := cfold_lt (l.take k) (hl.take k) (s := 4294967295) (by omega)
    by_cases hlt : k < l.length
    · obtain ⟨b, off, rfl, hc⟩ := hr (by omega)
      have hcell := hc k hlt
      have hx := getD_oct hl k
      have HT := Lib.hid (cfold_take 4294967295 l k hlt)
      generalize cfold 4294967295 (l.take k) = S at *
      generalize l.getD k 0 = x at *
      have w1 := u32w x (by omega)
      have x1 := u32_xor_nat S x hS (by omega)
      have hS2 := xor_lt hS (show x < 4294967296 by omega)
      generalize S ^^^ x = T at *
      clear hc hr hl
      go_wp2
      clear w1 x1 hcell
      go_loop [3, 17] (fun s i => ∃ j : Nat, j ≤ 8 ∧ i = .int .i64 j ∧ s = .int .u32 ((csteps j T : Nat) : Int)) (fun _ i => 8 - (intOf i).toNat)
      case atStart => exact ⟨0, by omega, rfl, rfl⟩
      case round =>
        obtain ⟨j, hj, rfl, rfl⟩ := hrel
        have hR := csteps_lt j hS2
        by_cases hj8 : j < 8
        · have HR := Lib.hid (show csteps (j + 1) T = cstep (csteps j T) from rfl)
          generalize csteps j T = R at *
          have hR2 : R / 2 < 4294967296 := by omega
          have ha := and1 R hR
          rcases Nat.mod_two_eq_zero_or_one R with h0 | h1
          · rw [h0] at ha
            have HE := Lib.hid (cstep_even h0)
            clear h0
            go_wp2
            go_round
            case rel => exact ⟨j + 1, by omega, by go_num, by rw [HR.out, HE.out]; exact congrArg _ (divN2 R)⟩
            case measure => simp [intOf]; omega
          · rw [h1] at ha
            have HE := Lib.hid (cstep_odd h1)
            have hp := xorH R hR2
            clear h1
            go_wp2
            go_round
            case rel => exact ⟨j + 1, by omega, by go_num, by rw [HR.out, HE.out]⟩
            case measure => simp [intOf]; omega
        · obtain rfl : j = 8 := by omega
          go_wp2
          go_round
          case rel => exact ⟨k + 1, by omega, by go_num, by rw [HT.out]⟩
          case measure => simp [intOf]; omega
    · have hkl := take_all hlt
      obtain rfl : k = l.length := by omega
      rw [hkl] at hS ⊢
      have HC := Lib.hid (show crc l = 4294967295 - cfold 4294967295 l from rfl)
      generalize cfold 4294967295 l = S at *
      clear hkl hr hl
      go_wp2
      go_ret
      exact ⟨ret_int (by rw [HC.out]; exact notS S hS), rfl⟩
set_option maxRecDepth 8000 in
set_option maxHeartbeats 1000000 in
theorem rcrc_any (A : Option Addr) (l : List Nat) (c : Nat) (w : World) (hr : Byts w A l) (hl : Oct l) (hn : l.length ≤ 9223372036854775807) :
    Calls Try.prog 12 #[.slice A l.length c] w fun e w' => e = .returned (.int .u32 ((crc l : Nat) : Int)) ∧ w = w' := by
  go_enter Try.func12, Try.ntmps12
  go_wp2
  go_loop [3, 4] (fun s i => ∃ k : Nat, k ≤ l.length ∧ i = .int .i64 k ∧ s = .int .u32 ((cfold 4294967295 (l.take k) : Nat) : Int)) (fun _ i => l.length - (intOf i).toNat)
  case atStart => exact ⟨0, Nat.zero_le _, rfl, rfl⟩
  case round =>
    obtain ⟨k, hk, rfl, rfl⟩ := hrel
    have hS := cfold_lt (l.take k) (hl.take k) (s := 4294967295) (by omega)
    by_cases hlt : k < l.length
    · obtain ⟨b, off, rfl, hc⟩ := hr (by omega)
      have hcell := hc k hlt
      have hx := getD_oct hl k
      have HT := Lib.hid (cfold_take 4294967295 l k hlt)
      generalize cfold 4294967295 (l.take k) = S at *
      generalize l.getD k 0 = x at *
      have w1 := u32w x (by omega)
      have x1 := u32_xor_nat S x hS (by omega)
      have hS2 := xor_lt hS (show x < 4294967296 by omega)
      generalize S ^^^ x = T at *
      clear hc hr hl
      go_wp2
      clear w1 x1 hcell
      go_loop [3, 5] (fun s i => ∃ j : Nat, j ≤ 8 ∧ i = .int .i64 j ∧ s = .int .u32 ((csteps j T : Nat) : Int)) (fun _ i => 8 - (intOf i).toNat)
      case atStart => exact ⟨0, by omega, rfl, rfl⟩
      case round =>
        obtain ⟨j, hj, rfl, rfl⟩ := hrel
        have hR := csteps_lt j hS2
        by_cases hj8 : j < 8
        · have HR := Lib.hid (show csteps (j + 1) T = cstep (csteps j T) from rfl)
          generalize csteps j T = R at *
          have hR2 : R / 2 < 4294967296 := by omega
          have ha := and1 R hR
          rcases Nat.mod_two_eq_zero_or_one R with h0 | h1
          · rw [h0] at ha
            have HE := Lib.hid (cstep_even h0)
            clear h0
            go_wp2
            go_round
            case rel => exact ⟨j + 1, by omega, by go_num, by rw [HR.out, HE.out]; exact congrArg _ (divN2 R)⟩
            case measure => simp [intOf]; omega
          · rw [h1] at ha
            have HE := Lib.hid (cstep_odd h1)
            have hp := xorH R hR2
            clear h1
            go_wp2
            go_round
            case rel => exact ⟨j + 1, by omega, by go_num, by rw [HR.out, HE.out]⟩
            case measure => simp [intOf]; omega
        · obtain rfl : j = 8 := by omega
          go_wp2
          go_round
          case rel => exact ⟨k + 1, by omega, by go_num, by rw [HT.out]⟩
          case measure => simp [intOf]; omega
    · have hkl := take_all hlt
      obtain rfl : k = l.length := by omega
      rw [hkl] at hS ⊢
      have HC := Lib.hid (show crc l = 4294967295 - cfold 4294967295 l from rfl)
      generalize cfold 4294967295 l = S at *
      clear hkl hr hl
      go_wp2
      go_ret
      exact ⟨ret_int (by rw [HC.out]; exact notS S hS), rfl⟩
end Go.Proofs.Ytmopipclheohcaa
