/-
  The walk of amount's sum, beside package wide.
-/
import Derived.Test.YtiblbhppojfdaaaWd1
namespace Go.Proofs.Ytiblbhppojfdaaa
open Go.RowKit

set_option maxRecDepth 8000 in
set_option maxHeartbeats 400000 in
theorem asign_any (x : Int) (hx : I64 x) (w : World) :
    Calls Try.prog 74 #[.int .i64 x] w fun e w' => e = .returned (.int .u64 (sgnW x)) ∧ w = w' := by
  unfold I64 at hx
  go_enter Try.func74, Try.ntmps74
  go_wp2
  go_ret
  refine ⟨ret_int ?_, rfl⟩
  rw [IntKind.wrap_u64]
  unfold sgnW
  split <;> omega

set_option maxRecDepth 8000 in
set_option maxHeartbeats 1000000 in
theorem asum_any (A : Option Addr) (l : List Int) (c : Nat) (w : World) (hr : Ints w .i64 A l) (hl : ∀ x ∈ l, I64 x) (hn : l.length ≤ 9223372036854775807) :
    Calls Try.prog 57 #[.slice A l.length c] w fun e w' => e = .returned (.tuple #[.int .i64 (held l.sum), .bool (fits l.sum)]) ∧ w = w' := by
  go_enter Try.func57, Try.ntmps57
  go_wp2
  go_loop [4, 5, 12] (fun hi lo i => ∃ k : Nat, k ≤ l.length ∧ i = .int .i64 k ∧ hi = .int .u64 (lo64 (up64 (l.take k).sum)) ∧ lo = .int .u64 (lo64 (l.take k).sum)) (fun _ _ i => l.length - (intOf i).toNat)
  case atStart => exact ⟨0, Nat.zero_le _, rfl, rfl, rfl⟩
  case round =>
    obtain ⟨k, hk, rfl, rfl, rfl⟩ := hrel
    have hb := take_bound l hl k hk
    by_cases hlt : k < l.length
    · obtain ⟨b, off, rfl, hc⟩ := hr (by omega)
      have hcell := hc k hlt
      have hx := hl (l.getD k 0) (by rw [List.getD_eq_getElem?_getD, List.getElem?_eq_getElem hlt]; simp)
      have hts := take_sum l k hlt
      generalize (l.take k).sum = S at *
      generalize l.getD k 0 = x at *
      have H1 := Lib.hid (step_lo S x)
      have H2 := Lib.hid (step_hi S x hx)
      have hca := step_ca S x
      have C := Lib.hid (asign_any x hx)
      have HT := Lib.hid hts
      have n1 := lo64_nn S
      have n2 := lo64_nn x
      have n3 := lo64_nn (up64 S)
      have n4 := sgnW_nn x
      unfold I64 at hx
      clear hts hc hr hl
      have A1 := Lib.hid (bits_add64_0 (lo64 S) (lo64 x) n1 n2)
      have A2 := Lib.hid (bits_add64 (lo64 (up64 S)) (sgnW x) (up64 (lo64 S + lo64 x)) n3 n4 hca.1 hca.2)
      go_wp2_with (first | (go_at_call 74; refine (C.out _).mono ?_; rintro e w' ⟨rfl, rfl⟩) | simp only [wrapu, A1.out, A2.out])
      go_round
      case rel => exact ⟨k + 1, by omega, by go_num, by rw [HT.out, H2.out], by rw [HT.out, H1.out]⟩
      case measure => simp [intOf]; omega
    · have hkl : k = l.length := by omega
      subst hkl
      rw [List.take_length] at hb ⊢
      have h2 := two_words l.sum (by omega)
      have h1 := one_word l.sum
      have hw : I64 (wrap64 (lo64 l.sum)) := by unfold I64 wrap64; omega
      have C := Lib.hid (asign_any (wrap64 (lo64 l.sum)) hw)
      have n1 := lo64_nn l.sum
      have n2 := lo64_nn (up64 l.sum)
      have n3 := lo64_le l.sum
      by_cases h : I64 l.sum
      · have e1 : (lo64 (up64 l.sum) != sgnW (wrap64 (lo64 l.sum))) = false := by rw [h2.2 h]; simp
        have H1 := Lib.hid ((h1 h).trans (held_of h).symm)
        have H2 := Lib.hid (fits_of h).symm
        clear h2 h1 hw hb hr hl h
        go_wp2_with (first | (go_at_call 74; refine (C.out _).mono ?_; rintro e w' ⟨rfl, rfl⟩))
        go_ret2
        exact ⟨ret_two H1.out H2.out, rfl⟩
      · have e1 : (lo64 (up64 l.sum) != sgnW (wrap64 (lo64 l.sum))) = true := by rw [bne_iff_ne]; exact fun e => h (h2.1 e)
        have H1 := Lib.hid (held_not h).symm
        have H2 := Lib.hid (fits_not h).symm
        clear h2 h1 hw hb hr hl h
        go_wp2_with (first | (go_at_call 74; refine (C.out _).mono ?_; rintro e w' ⟨rfl, rfl⟩))
        go_ret2
        exact ⟨ret_two H1.out H2.out, rfl⟩
end Go.Proofs.Ytiblbhppojfdaaa
