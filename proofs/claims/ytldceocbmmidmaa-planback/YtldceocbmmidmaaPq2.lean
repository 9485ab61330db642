/-
  The walks of slices.Equal of instruments, of the program's Same.
-/
import Derived.Test.YtldceocbmmidmaaPq1
namespace Go.Proofs.Ytldceocbmmidmaa
open Go Go.RowKit
set_option linter.unusedVariables false

set_option maxRecDepth 8000 in
set_option maxHeartbeats 4000000 in
theorem inseq_any (l r : List Ins) (A B : Option Addr) (n m c d : Nat) (w : World) (hn : n = l.length) (hm : m = r.length) (hI : InsM w A l) (hJ : InsM w B r) (hl : n ≤ 1000000000) : Calls Try.prog 27 #[.slice A n c, .slice B m d] w fun e w' => ∃ j, e = .returned (.bool (decide (l = r))) ∧ w' = w.drewN j := by
  have HN := Lib.hid hn
  have HM := Lib.hid hm
  have HI := Lib.hid hI
  have HJ := Lib.hid hJ
  by_cases hlen : n ≠ m
  · have HP : Hid (decide (l = r) = false) := Lib.hid (decide_eq_false (fun e => hlen (by rw [hn, hm, e])))
    rw [HP.out]
    have hne : ((n : Int) != (m : Int)) = true := by rw [bne_iff_ne]; omega
    clear hn hm hI hJ hlen
    go_enter Try.func27, Try.ntmps27
    go_wp2
    go_ret
    exact ⟨0, rfl, rfl⟩
  have hlen := Classical.not_not.1 hlen
  subst hlen
  clear hn hm hI hJ
  go_enter Try.func27, Try.ntmps27
  go_wp2
  go_loopw [13] (fun i wr => ∃ k j : Nat, k ≤ n ∧ i = .int .i64 (k : Int) ∧ wr = w.drewN j ∧ Hid (∀ j, j < k → l.getD j Ins.zero = r.getD j Ins.zero)) (fun i _ => n - (intOf i).toNat)
  case atStart => exact ⟨0, 0, Nat.zero_le _, rfl, rfl, Lib.hid (fun j hj => absurd hj (Nat.not_lt_zero j))⟩
  case round =>
    obtain ⟨k, j, hk, rfl, rfl, HA⟩ := hrel
    by_cases hlt : k < n
    · have hkl : k < l.length := by rw [← HN.out]; exact hlt
      have hkm : k < r.length := by rw [← HM.out]; exact hlt
      obtain ⟨b, off, rfl, hcells⟩ := HI.out (by omega)
      obtain ⟨b', off', rfl, hcells'⟩ := HJ.out (by omega)
      obtain ⟨g0, g1, g2, g3⟩ := hcells k hkl
      obtain ⟨h0, h1, h2, h3⟩ := hcells' k hkm
      obtain ⟨x, hx⟩ : ∃ x, x = l.getD k Ins.zero := ⟨_, rfl⟩
      obtain ⟨y, hy⟩ : ∃ y, y = r.getD k Ins.zero := ⟨_, rfl⟩
      rw [← hx] at g0 g1 g2 g3
      rw [← hy] at h0 h1 h2 h3
      have HX := Lib.hid hx
      have HY := Lib.hid hy
      have heq : ∀ W : World, (binOp .neq 41 x.v y.v).run Try.prog W = .ok (.bool (!decide (x = y))) W := fun W => run_ins_ne x y W
      unfold Ins.v at heq
      clear hx hy hkl hkm hcells hcells'
      by_cases hxy : x = y
      · have HXY := Lib.hid hxy
        rw [decide_eq_true hxy] at heq
        clear hxy
        go_wp2
        go_quiet (fail)
        go_wp2
        go_roundw
        case rel => exact ⟨k + 1, _, by omega, by go_num, rfl, Lib.hid (fun j hj => by
          rcases Nat.lt_or_ge j k with h | h
          · exact HA.out j h
          · obtain rfl : j = k := by omega
            rw [← HX.out, ← HY.out]; exact HXY.out)⟩
        case measure => simp [intOf]; omega
      · have HXY := Lib.hid hxy
        rw [decide_eq_false hxy] at heq
        clear hxy
        have HP : Hid (decide (l = r) = false) := Lib.hid (decide_eq_false (fun e => HXY.out (by rw [HX.out, HY.out, e])))
        go_wp2
        go_quiet (fail)
        go_wp2
        go_ret
        exact ⟨_, by rw [HP.out]; rfl, World.drewN_drewN ..⟩
    · obtain rfl : k = n := by omega
      have HP : Hid (decide (l = r) = true) := Lib.hid (decide_eq_true (ins_all (by rw [← HN.out, ← HM.out]) (fun i hi => HA.out i (by rw [HN.out]; exact hi))))
      go_wp2
      go_ret
      exact ⟨_, by rw [HP.out]; rfl, rfl⟩
set_option maxRecDepth 8000 in
set_option maxHeartbeats 8000000 in
theorem psame_any (p q : Cfg) (A B : Option Addr) (n m c d : Nat) (w : World) (hn : n = p.insts.length) (hm : m = q.insts.length) (hI : InsM w A p.insts) (hJ : InsM w B q.insts) (hl : n ≤ 1000000000) : Calls Try.prog 13 #[p.v (.slice A n c), q.v (.slice B m d)] w fun r w' => r = .returned (.bool (decide (p = q))) ∧ Below w.heap.size w w' := by
  have hb1 : Below w.heap.size w (w.alloc (.cells (p.cells (.slice A n c)).toArray 24)) := (Below.refl _ _).alloc (Nat.le_refl _) _
  have HB0 : Hid (Below w.heap.size w ((w.alloc (.cells (p.cells (.slice A n c)).toArray 24)).alloc (.cells (q.cells (.slice B m d)).toArray 24))) := Lib.hid (hb1.alloc hb1.size _)
  have CE := Lib.hid (fun W (h : Below w.heap.size w W) => inseq_any p.insts q.insts A B n m c d W hn hm (hI.below h) (hJ.below h) hl)
  by_cases hpq : p.insts = q.insts
  · rw [decide_eq_true hpq] at CE
    have hcc := cfg_cases hpq
    simp only [Cfg.cells] at HB0
    unfold Cfg.v
    clear hn hm hI hJ hb1 hpq
    rcases hcc with ⟨q0, qf⟩ | ⟨q0, q1, qf⟩ | ⟨q0, q1, q2, qf⟩ | ⟨q0, q1, q2, q3, qf⟩ | ⟨q0, q1, q2, q3, q4, qf⟩ | ⟨q0, q1, q2, q3, q4, q5, qf⟩ | ⟨q0, q1, q2, q3, q4, q5, qf⟩
    · have HQ := Lib.hid qf
      have b0 : (p.skin == q.skin) = false := beq_eq_false_iff_ne.2 q0
      clear qf q0
      go_enter Try.func13, Try.ntmps13
      go_wp2_with (go_at_call 27; (with_reducible refine (CE.out _ HB0.out).mono ?_); rintro r _ ⟨jj, rfl, rfl⟩)
      go_ret
      exact ⟨by rw [HQ.out]; rfl, below_drewN HB0.out _⟩
    · have HQ := Lib.hid qf
      have b0 : (p.skin == q.skin) = true := beq_iff_eq.2 q0
      have b1 : (p.times == q.times) = false := beq_eq_false_iff_ne.2 q1
      clear qf q0 q1
      go_enter Try.func13, Try.ntmps13
      go_wp2_with (go_at_call 27; (with_reducible refine (CE.out _ HB0.out).mono ?_); rintro r _ ⟨jj, rfl, rfl⟩)
      go_ret
      exact ⟨by rw [HQ.out]; rfl, below_drewN HB0.out _⟩
    · have HQ := Lib.hid qf
      have b0 : (p.skin == q.skin) = true := beq_iff_eq.2 q0
      have b1 : (p.times == q.times) = true := beq_iff_eq.2 q1
      have b2 : (p.port == q.port) = false := beq_eq_false_iff_ne.2 q2
      clear qf q0 q1 q2
      go_enter Try.func13, Try.ntmps13
      go_wp2_with (go_at_call 27; (with_reducible refine (CE.out _ HB0.out).mono ?_); rintro r _ ⟨jj, rfl, rfl⟩)
      go_ret
      exact ⟨by rw [HQ.out]; rfl, below_drewN HB0.out _⟩
    · have HQ := Lib.hid qf
      have b0 : (p.skin == q.skin) = true := beq_iff_eq.2 q0
      have b1 : (p.times == q.times) = true := beq_iff_eq.2 q1
      have b2 : (p.port == q.port) = true := beq_iff_eq.2 q2
      have b3 : (p.bid == q.bid) = false := beq_eq_false_iff_ne.2 q3
      clear qf q0 q1 q2 q3
      go_enter Try.func13, Try.ntmps13
      go_wp2_with (go_at_call 27; (with_reducible refine (CE.out _ HB0.out).mono ?_); rintro r _ ⟨jj, rfl, rfl⟩)
      go_ret
      exact ⟨by rw [HQ.out]; rfl, below_drewN HB0.out _⟩
    · have HQ := Lib.hid qf
      have b0 : (p.skin == q.skin) = true := beq_iff_eq.2 q0
      have b1 : (p.times == q.times) = true := beq_iff_eq.2 q1
      have b2 : (p.port == q.port) = true := beq_iff_eq.2 q2
      have b3 : (p.bid == q.bid) = true := beq_iff_eq.2 q3
      have b4 : (p.lot == q.lot) = false := beq_eq_false_iff_ne.2 q4
      clear qf q0 q1 q2 q3 q4
      go_enter Try.func13, Try.ntmps13
      go_wp2_with (go_at_call 27; (with_reducible refine (CE.out _ HB0.out).mono ?_); rintro r _ ⟨jj, rfl, rfl⟩)
      go_ret
      exact ⟨by rw [HQ.out]; rfl, below_drewN HB0.out _⟩
    · have HQ := Lib.hid qf
      have b0 : (p.skin == q.skin) = true := beq_iff_eq.2 q0
      have b1 : (p.times == q.times) = true := beq_iff_eq.2 q1
      have b2 : (p.port == q.port) = true := beq_iff_eq.2 q2
      have b3 : (p.bid == q.bid) = true := beq_iff_eq.2 q3
      have b4 : (p.lot == q.lot) = true := beq_iff_eq.2 q4
      have b5 : (p.hedge == q.hedge) = false := beq_eq_false_iff_ne.2 q5
      clear qf q0 q1 q2 q3 q4 q5
      go_enter Try.func13, Try.ntmps13
      go_wp2_with (go_at_call 27; (with_reducible refine (CE.out _ HB0.out).mono ?_); rintro r _ ⟨jj, rfl, rfl⟩)
      go_ret
      exact ⟨by rw [HQ.out]; rfl, below_drewN HB0.out _⟩
    · have HQ := Lib.hid qf
      have b0 : (p.skin == q.skin) = true := beq_iff_eq.2 q0
      have b1 : (p.times == q.times) = true := beq_iff_eq.2 q1
      have b2 : (p.port == q.port) = true := beq_iff_eq.2 q2
      have b3 : (p.bid == q.bid) = true := beq_iff_eq.2 q3
      have b4 : (p.lot == q.lot) = true := beq_iff_eq.2 q4
      have b5 : (p.hedge == q.hedge) = true := beq_iff_eq.2 q5
      clear qf q0 q1 q2 q3 q4 q5
      go_enter Try.func13, Try.ntmps13
      go_wp2_with (go_at_call 27; (with_reducible refine (CE.out _ HB0.out).mono ?_); rintro r _ ⟨jj, rfl, rfl⟩)
      go_ret
      exact ⟨by rw [HQ.out]; rfl, below_drewN HB0.out _⟩
  · rw [decide_eq_false hpq] at CE
    have HQ : Hid (decide (p = q) = false) := Lib.hid (decide_eq_false (fun e => hpq (by rw [e])))
    simp only [Cfg.cells] at HB0
    unfold Cfg.v
    clear hn hm hI hJ hb1 hpq
    go_enter Try.func13, Try.ntmps13
    go_wp2_with (go_at_call 27; (with_reducible refine (CE.out _ HB0.out).mono ?_); rintro r _ ⟨jj, rfl, rfl⟩)
    go_ret
    exact ⟨by rw [HQ.out]; rfl, below_drewN HB0.out _⟩
end Go.Proofs.Ytldceocbmmidmaa
