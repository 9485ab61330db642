/-
  The walks of the program's rightInst, Right.
-/
import Derived.Test.YtldceocbmmidmaaPl3
namespace Go.Proofs.Ytldceocbmmidmaa
open Go Go.RowKit
set_option linter.unusedVariables false

set_option maxRecDepth 8000 in
set_option maxHeartbeats 4000000 in
theorem prinst_any (x : Ins) (w : World) : Calls Try.prog 25 #[x.v] w fun r w' => r = .returned (.bool (insOk x)) ∧ Below w.heap.size w w' := by
  obtain ⟨a0, a1, a2, a3⟩ := x
  unfold Ins.v
  dsimp only
  by_cases h0 : 0 ≤ a0
  · skip
    by_cases h1 : a0 < 4
    · skip
      by_cases h2 : 1 ≤ a1
      · skip
        by_cases h3 : a1 ≤ 1000000000000
        · skip
          by_cases h4 : 0 ≤ a2
          · skip
            by_cases h5 : a2 ≤ 1000000000
            · skip
              by_cases h6 : 0 ≤ a3
              · skip
                by_cases h7 : a3 ≤ 1000000000
                · skip
                  rw [show insOk ⟨a0, a1, a2, a3⟩ = true from by simp only [insOk, wIn, Bool.and_eq_true, decide_eq_true_eq]; omega]
                  go_enter Try.func25, Try.ntmps25
                  go_wp2
                  go_ret
                  exact ⟨rfl, (Below.refl _ _).alloc (Nat.le_refl _) _⟩
                · rw [show insOk ⟨a0, a1, a2, a3⟩ = false from by simp only [insOk, wIn, Bool.and_eq_false_iff, decide_eq_false_iff_not]; omega]
                  go_enter Try.func25, Try.ntmps25
                  go_wp2
                  go_ret
                  exact ⟨rfl, (Below.refl _ _).alloc (Nat.le_refl _) _⟩
              · rw [show insOk ⟨a0, a1, a2, a3⟩ = false from by simp only [insOk, wIn, Bool.and_eq_false_iff, decide_eq_false_iff_not]; omega]
                go_enter Try.func25, Try.ntmps25
                go_wp2
                go_ret
                exact ⟨rfl, (Below.refl _ _).alloc (Nat.le_refl _) _⟩
            · rw [show insOk ⟨a0, a1, a2, a3⟩ = false from by simp only [insOk, wIn, Bool.and_eq_false_iff, decide_eq_false_iff_not]; omega]
              go_enter Try.func25, Try.ntmps25
              go_wp2
              go_ret
              exact ⟨rfl, (Below.refl _ _).alloc (Nat.le_refl _) _⟩
          · rw [show insOk ⟨a0, a1, a2, a3⟩ = false from by simp only [insOk, wIn, Bool.and_eq_false_iff, decide_eq_false_iff_not]; omega]
            go_enter Try.func25, Try.ntmps25
            go_wp2
            go_ret
            exact ⟨rfl, (Below.refl _ _).alloc (Nat.le_refl _) _⟩
        · rw [show insOk ⟨a0, a1, a2, a3⟩ = false from by simp only [insOk, wIn, Bool.and_eq_false_iff, decide_eq_false_iff_not]; omega]
          go_enter Try.func25, Try.ntmps25
          go_wp2
          go_ret
          exact ⟨rfl, (Below.refl _ _).alloc (Nat.le_refl _) _⟩
      · rw [show insOk ⟨a0, a1, a2, a3⟩ = false from by simp only [insOk, wIn, Bool.and_eq_false_iff, decide_eq_false_iff_not]; omega]
        go_enter Try.func25, Try.ntmps25
        go_wp2
        go_ret
        exact ⟨rfl, (Below.refl _ _).alloc (Nat.le_refl _) _⟩
    · rw [show insOk ⟨a0, a1, a2, a3⟩ = false from by simp only [insOk, wIn, Bool.and_eq_false_iff, decide_eq_false_iff_not]; omega]
      go_enter Try.func25, Try.ntmps25
      go_wp2
      go_ret
      exact ⟨rfl, (Below.refl _ _).alloc (Nat.le_refl _) _⟩
  · rw [show insOk ⟨a0, a1, a2, a3⟩ = false from by simp only [insOk, wIn, Bool.and_eq_false_iff, decide_eq_false_iff_not]; omega]
    go_enter Try.func25, Try.ntmps25
    go_wp2
    go_ret
    exact ⟨rfl, (Below.refl _ _).alloc (Nat.le_refl _) _⟩
set_option maxRecDepth 8000 in
set_option maxHeartbeats 8000000 in
theorem pright_any (cf : Cfg) (A : Option Addr) (n c : Nat) (w : World) (hn : n = cf.insts.length) (hI : InsM w A cf.insts) : Calls Try.prog 11 #[cf.v (.slice A n c)] w fun r w' => r = .returned (.bool (planOk cf)) ∧ Below w.heap.size w w' := by
  have HN := Lib.hid hn
  have HC0 : Hid (CfAt (w.alloc (.cells (cf.cells (.slice A n c)).toArray 24)) w.heap.size cf (.slice A n c)) := Lib.hid (Rec.new w _ (cf.cells (.slice A n c)) _ rfl)
  have HB0 : Hid (Below w.heap.size w (w.alloc (.cells (cf.cells (.slice A n c)).toArray 24))) := Lib.hid ((Below.refl _ _).alloc (Nat.le_refl _) _)
  have HI := Lib.hid hI
  by_cases hlen : ¬ (1 ≤ n ∧ n ≤ 6)
  · have HP : Hid (planOk cf = false) := Lib.hid (plan_len (by rw [← hn]; exact hlen))
    rw [HP.out]
    have hcase : n = 0 ∨ 6 < n := by omega
    unfold Cfg.v
    clear hn hI hlen
    rcases hcase with rfl | h6
    · go_enter Try.func11, Try.ntmps11
      go_wp2
      go_ret
      exact ⟨rfl, (Below.refl _ _).alloc (Nat.le_refl _) _⟩
    · go_enter Try.func11, Try.ntmps11
      go_wp2
      go_ret
      exact ⟨rfl, (Below.refl _ _).alloc (Nat.le_refl _) _⟩
  have hlen := Classical.not_not.1 hlen
  have hn1 := hlen.1
  have hn6 := hlen.2
  have HLN := Lib.hid (show 1 ≤ cf.insts.length ∧ cf.insts.length ≤ 6 by rw [← hn]; exact hlen)
  have CI := Lib.hid (fun x W => prinst_any x W)
  unfold Cfg.v
  clear hn hI hlen
  go_enter Try.func11, Try.ntmps11
  go_wp2
  go_loopw [18] (fun i wr => ∃ k : Nat, k ≤ n ∧ i = .int .i64 (k : Int) ∧ Hid (CfAt wr w.heap.size cf (.slice A n c)) ∧ Hid (Below w.heap.size w wr) ∧ Hid (∀ j, j < k → insOk (cf.insts.getD j Ins.zero) = true)) (fun i _ => n - (intOf i).toNat)
  case atStart => exact ⟨0, Nat.zero_le _, rfl, HC0, HB0, Lib.hid (fun j hj => absurd hj (Nat.not_lt_zero j))⟩
  case round =>
    obtain ⟨k, hk, rfl, HC, HB, HA⟩ := hrel
    obtain ⟨d0, d1, d2, d3, d4, d5, d6⟩ := HC.out.reads
    by_cases hlt : k < n
    · have hkl : k < cf.insts.length := by rw [← HN.out]; exact hlt
      obtain ⟨b, off, rfl, hcells⟩ := (HI.out.below HB.out) (by omega)
      obtain ⟨e0, e1, e2, e3⟩ := hcells k hkl
      have HX := Lib.hid hkl
      obtain ⟨x, hx⟩ : ∃ x, x = cf.insts.getD k Ins.zero := ⟨_, rfl⟩
      rw [← hx] at e0 e1 e2 e3
      have CX := Lib.hid (CI.out x)
      have HXX := Lib.hid hx
      clear hcells hkl hx
      cases hok : insOk x with
      | false =>
        rw [hok] at CX
        have HF : Hid (planOk cf = false) := Lib.hid (plan_ins HX.out (by rw [← HXX.out]; exact hok))
        clear hok
        unfold Ins.v at CX
        go_wp2_with (go_at_call 25; (with_reducible refine (CX.out _).mono ?_); rintro r w5 ⟨rfl, hb5⟩; have HB5 := Lib.hid (((Below.refl _ wr).alloc (Nat.le_refl _) _).trans (hb5.mono (by simp))); clear hb5)
        go_ret
        exact ⟨by rw [HF.out]; rfl, HB.out.trans (HB5.out.mono HB.out.size)⟩
      | true =>
        rw [hok] at CX
        have HA2 : Hid (∀ j, j < k + 1 → insOk (cf.insts.getD j Ins.zero) = true) := Lib.hid (fun j hj => by
          rcases Nat.lt_or_eq_of_le (Nat.le_of_lt_succ hj) with h | h
          · exact HA.out j h
          · rw [h, ← HXX.out]; exact hok)
        clear hok
        unfold Ins.v at CX
        go_wp2_with (go_at_call 25; (with_reducible refine (CX.out _).mono ?_); rintro r w5 ⟨rfl, hb5⟩; have HB5 := Lib.hid (((Below.refl _ wr).alloc (Nat.le_refl _) _).trans (hb5.mono (by simp))); clear hb5)
        go_roundw
        case rel => exact ⟨k + 1, by omega, by go_num, Lib.hid (HC.out.keep HB5.out), Lib.hid (HB.out.trans (HB5.out.mono HB.out.size)), HA2⟩
        case measure => simp [intOf]; omega
    · obtain rfl : k = n := by omega
      have HP : Hid (planOk cf = restOk cf) := Lib.hid (plan_all HLN.out (fun i hi => HA.out i (by rw [HN.out]; exact hi)))
      clear hlt HA HLN HN
      by_cases h0 : 0 ≤ cf.skin
      · skip
        by_cases h1 : 0 ≤ cf.times
        · skip
          by_cases h2 : cf.times ≤ 4
          · skip
            by_cases h3 : 0 ≤ cf.port
            · skip
              by_cases h4 : cf.port ≤ 1000000
              · skip
                by_cases h5 : 0 ≤ cf.bid
                · skip
                  by_cases h6 : cf.bid ≤ 1000000
                  · skip
                    by_cases h7 : 1 ≤ cf.lot
                    · skip
                      by_cases h8 : cf.lot ≤ 4611686018427387904
                      · skip
                        by_cases h9 : 0 ≤ cf.hedge
                        · skip
                          have HR : Hid (restOk cf = true) := Lib.hid (by simp only [restOk, wIn, Bool.and_eq_true, decide_eq_true_eq]; omega)
                          go_wp2
                          go_ret
                          exact ⟨by rw [HP.out, HR.out]; rfl, HB.out⟩
                        · have HR : Hid (restOk cf = false) := Lib.hid (by simp only [restOk, wIn, Bool.and_eq_false_iff, decide_eq_false_iff_not]; omega)
                          go_wp2
                          go_ret
                          exact ⟨by rw [HP.out, HR.out]; rfl, HB.out⟩
                      · have HR : Hid (restOk cf = false) := Lib.hid (by simp only [restOk, wIn, Bool.and_eq_false_iff, decide_eq_false_iff_not]; omega)
                        go_wp2
                        go_ret
                        exact ⟨by rw [HP.out, HR.out]; rfl, HB.out⟩
                    · have HR : Hid (restOk cf = false) := Lib.hid (by simp only [restOk, wIn, Bool.and_eq_false_iff, decide_eq_false_iff_not]; omega)
                      go_wp2
                      go_ret
                      exact ⟨by rw [HP.out, HR.out]; rfl, HB.out⟩
                  · have HR : Hid (restOk cf = false) := Lib.hid (by simp only [restOk, wIn, Bool.and_eq_false_iff, decide_eq_false_iff_not]; omega)
                    go_wp2
                    go_ret
                    exact ⟨by rw [HP.out, HR.out]; rfl, HB.out⟩
                · have HR : Hid (restOk cf = false) := Lib.hid (by simp only [restOk, wIn, Bool.and_eq_false_iff, decide_eq_false_iff_not]; omega)
                  go_wp2
                  go_ret
                  exact ⟨by rw [HP.out, HR.out]; rfl, HB.out⟩
              · have HR : Hid (restOk cf = false) := Lib.hid (by simp only [restOk, wIn, Bool.and_eq_false_iff, decide_eq_false_iff_not]; omega)
                go_wp2
                go_ret
                exact ⟨by rw [HP.out, HR.out]; rfl, HB.out⟩
            · have HR : Hid (restOk cf = false) := Lib.hid (by simp only [restOk, wIn, Bool.and_eq_false_iff, decide_eq_false_iff_not]; omega)
              go_wp2
              go_ret
              exact ⟨by rw [HP.out, HR.out]; rfl, HB.out⟩
          · have HR : Hid (restOk cf = false) := Lib.hid (by simp only [restOk, wIn, Bool.and_eq_false_iff, decide_eq_false_iff_not]; omega)
            go_wp2
            go_ret
            exact ⟨by rw [HP.out, HR.out]; rfl, HB.out⟩
        · have HR : Hid (restOk cf = false) := Lib.hid (by simp only [restOk, wIn, Bool.and_eq_false_iff, decide_eq_false_iff_not]; omega)
          go_wp2
          go_ret
          exact ⟨by rw [HP.out, HR.out]; rfl, HB.out⟩
      · have HR : Hid (restOk cf = false) := Lib.hid (by simp only [restOk, wIn, Bool.and_eq_false_iff, decide_eq_false_iff_not]; omega)
        go_wp2
        go_ret
        exact ⟨by rw [HP.out, HR.out]; rfl, HB.out⟩
end Go.Proofs.Ytldceocbmmidmaa
