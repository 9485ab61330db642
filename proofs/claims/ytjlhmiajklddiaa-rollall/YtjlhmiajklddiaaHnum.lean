/-
  The walk of novationhelp.Nums, of any ints.
-/
import Derived.Test.YtjlhmiajklddiaaOwnA
import Derived.Test.YtjlhmiajklddiaaMls
import Derived.Deep.QuietTactic
import Derived.BigQuiet
import Derived.WalkSmall
namespace Go.Proofs.Ytjlhmiajklddiaa
set_option maxRecDepth 8000
open Go Go.RowKit
set_option linter.unusedVariables false

set_option maxRecDepth 8000 in
set_option maxHeartbeats 4000000 in
theorem alike_nums (A B : Option Addr) (p q : List Int) (n m c d : Nat) (w : World) (hn : n = p.length) (hm : m = q.length) (hI : Ints w .i64 A p) (hJ : Ints w .i64 B q) (hl : n ≤ 9223372036854775807) : Calls Try.prog 13 #[.slice A n c, .slice B m d] w fun r w' => r = .returned (.bool (decide (p = q))) ∧ Below w.heap.size w w' := by
  have HN := Lib.hid hn
  have HM := Lib.hid hm
  have HI := Lib.hid hI
  have HJ := Lib.hid hJ
  by_cases hlen : n ≠ m
  · have HP : Hid (decide (p = q) = false) := Lib.hid (decide_eq_false (fun e => hlen (by rw [hn, hm, e])))
    rw [HP.out]
    have hne : ((n : Int) != (m : Int)) = true := by rw [bne_iff_ne]; omega
    clear hn hm hI hJ hlen
    go_enter Try.func13, Try.ntmps13
    go_wp2
    go_ret
    exact ⟨rfl, Below.refl _ _⟩
  have hlen := Classical.not_not.1 hlen
  subst hlen
  clear hn hm hI hJ
  go_enter Try.func13, Try.ntmps13
  go_wp2
  go_loopw [5] (fun i wr => ∃ k : Nat, k ≤ n ∧ i = .int .i64 (k : Int) ∧ Hid (Below w.heap.size w wr) ∧ Hid (∀ j, j < k → p.getD j 0 = q.getD j 0)) (fun i _ => n - (intOf i).toNat)
  case atStart => exact ⟨0, Nat.zero_le _, rfl, Lib.hid (Below.refl _ _), Lib.hid (fun j hj => absurd hj (Nat.not_lt_zero j))⟩
  case round =>
    obtain ⟨k, hk, rfl, HB, HA⟩ := hrel
    by_cases hlt : k < n
    · have hkl : k < p.length := by rw [← HN.out]; exact hlt
      have hkm : k < q.length := by rw [← HM.out]; exact hlt
      obtain ⟨b, off, rfl, hcells⟩ := (HI.out.below HB.out) (by omega)
      obtain ⟨b', off', rfl, hcells'⟩ := (HJ.out.below HB.out) (by omega)
      have g0 := hcells k hkl
      have h0 := hcells' k hkm
      obtain ⟨x, hx⟩ : ∃ x, x = p.getD k 0 := ⟨_, rfl⟩
      obtain ⟨y, hy⟩ : ∃ y, y = q.getD k 0 := ⟨_, rfl⟩
      rw [← hx] at g0
      rw [← hy] at h0
      have HX := Lib.hid hx
      have HY := Lib.hid hy
      clear hx hy hkl hkm hcells hcells'
      by_cases hxy : x = y
      · have HXY := Lib.hid hxy
        have hb : (x != y) = false := by rw [hxy]; exact bne_self_eq_false y
        clear hxy
        go_wp2
        go_quiet (fail)
        go_wp2
        go_roundw
        case rel => exact ⟨k + 1, by omega, by go_num, Lib.hid (below_drewN HB.out _), Lib.hid (fun j hj => by
          rcases Nat.lt_or_ge j k with h | h
          · exact HA.out j h
          · obtain rfl : j = k := by omega
            rw [← HX.out, ← HY.out]; exact HXY.out)⟩
        case measure => simp [intOf]; omega
      · have HXY := Lib.hid hxy
        have hb : (x != y) = true := bne_iff_ne.2 hxy
        clear hxy
        go_wp2
        go_quiet (fail)
        go_wp2
        go_ret
        exact ⟨by rw [decide_eq_false (fun e : p = q => HXY.out (by rw [HX.out, HY.out, e]))]; rfl, below_drewN HB.out _⟩
    · obtain rfl : k = n := by omega
      have HE : Hid (decide (p = q) = true) := Lib.hid (decide_eq_true (lists_all 0 (by rw [← HN.out, ← HM.out]) (fun i hi => HA.out i (by rw [HN.out]; exact hi))))
      go_wp2
      go_ret
      exact ⟨by rw [HE.out]; rfl, HB.out⟩
end Go.Proofs.Ytjlhmiajklddiaa
