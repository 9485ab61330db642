/-
  The walk of the reference's RightPlan.
-/
import Derived.Test.YtldceocbmmidmaaPl1
namespace Go.Proofs.Ytldceocbmmidmaa
open Go Go.RowKit
set_option linter.unusedVariables false

/-- A config in a block of its own. -/
def CfAt (W : World) (b : Nat) (cf : Cfg) (v : Value) : Prop := Rec W b 24 (cf.cells v)
theorem CfAt.reads {W : World} {b : Nat} {cf : Cfg} {v : Value} (h : CfAt W b cf v) : W.cell? ⟨b, 0, none⟩ = some v ∧ W.cell? ⟨b, 1, none⟩ = some (.int .i64 cf.skin) ∧ W.cell? ⟨b, 2, none⟩ = some (.int .i64 cf.times) ∧ W.cell? ⟨b, 3, none⟩ = some (.int .i64 cf.port) ∧ W.cell? ⟨b, 4, none⟩ = some (.int .i64 cf.bid) ∧ W.cell? ⟨b, 5, none⟩ = some (.int .i64 cf.lot) ∧ W.cell? ⟨b, 6, none⟩ = some (.int .i64 cf.hedge) :=
  ⟨Rec.cell h 0 rfl, Rec.cell h 1 rfl, Rec.cell h 2 rfl, Rec.cell h 3 rfl, Rec.cell h 4 rfl, Rec.cell h 5 rfl, Rec.cell h 6 rfl⟩
theorem CfAt.keep {W W' : World} {b : Nat} {cf : Cfg} {v : Value} (h : CfAt W b cf v) (hb : Below W.heap.size W W') : CfAt W' b cf v := Rec.keep h hb
theorem wIn_refl (n lo hi : Int) (b : Bool) (h : wIn n lo hi = b) : ∀ w : World, Calls Try.prog 26 #[.int .i64 n, .int .i64 lo, .int .i64 hi] w fun e w' => e = .returned (.bool b) ∧ w = w' := fun w => by
  have := within_any n lo hi w
  rw [h] at this
  exact this
/-- Which of the instrument's bounds is broken first. -/
theorem ins_cases (x : Ins) : (wIn x.bucket 0 3 = false ∧ insOk x = false) ∨ (wIn x.bucket 0 3 = true ∧ wIn x.price 1 1000000000000 = false ∧ insOk x = false) ∨ (wIn x.bucket 0 3 = true ∧ wIn x.price 1 1000000000000 = true ∧ wIn x.rate 0 1000000000 = false ∧ insOk x = false) ∨ (wIn x.bucket 0 3 = true ∧ wIn x.price 1 1000000000000 = true ∧ wIn x.rate 0 1000000000 = true ∧ wIn x.slip 0 1000000000 = false ∧ insOk x = false) ∨ (wIn x.bucket 0 3 = true ∧ wIn x.price 1 1000000000000 = true ∧ wIn x.rate 0 1000000000 = true ∧ wIn x.slip 0 1000000000 = true ∧ insOk x = true) := by
  unfold insOk
  generalize wIn x.bucket 0 3 = a
  generalize wIn x.price 1 1000000000000 = b
  generalize wIn x.rate 0 1000000000 = c
  generalize wIn x.slip 0 1000000000 = d
  revert a b c d
  decide
theorem rest_cases (c : Cfg) : (¬ 0 ≤ c.skin ∧ restOk c = false) ∨ (0 ≤ c.skin ∧ wIn c.times 0 4 = false ∧ restOk c = false) ∨ (0 ≤ c.skin ∧ wIn c.times 0 4 = true ∧ wIn c.port 0 1000000 = false ∧ restOk c = false) ∨ (0 ≤ c.skin ∧ wIn c.times 0 4 = true ∧ wIn c.port 0 1000000 = true ∧ wIn c.bid 0 1000000 = false ∧ restOk c = false) ∨ (0 ≤ c.skin ∧ wIn c.times 0 4 = true ∧ wIn c.port 0 1000000 = true ∧ wIn c.bid 0 1000000 = true ∧ wIn c.lot 1 4611686018427387904 = false ∧ restOk c = false) ∨
    (0 ≤ c.skin ∧ wIn c.times 0 4 = true ∧ wIn c.port 0 1000000 = true ∧ wIn c.bid 0 1000000 = true ∧ wIn c.lot 1 4611686018427387904 = true ∧ ¬ 0 ≤ c.hedge ∧ restOk c = false) ∨ (0 ≤ c.skin ∧ wIn c.times 0 4 = true ∧ wIn c.port 0 1000000 = true ∧ wIn c.bid 0 1000000 = true ∧ wIn c.lot 1 4611686018427387904 = true ∧ 0 ≤ c.hedge ∧ restOk c = true) := by
  unfold restOk
  by_cases h1 : 0 ≤ c.skin <;> by_cases h2 : 0 ≤ c.hedge <;> simp only [h1, h2, decide_true, decide_false, not_true, not_false_iff, true_and, false_and] <;> generalize wIn c.times 0 4 = a <;> generalize wIn c.port 0 1000000 = b <;> generalize wIn c.bid 0 1000000 = d <;> generalize wIn c.lot 1 4611686018427387904 = e <;> revert a b d e <;> decide
set_option maxRecDepth 8000 in
set_option maxHeartbeats 8000000 in
theorem rplan_any (cf : Cfg) (A : Option Addr) (n c : Nat) (w : World) (hn : n = cf.insts.length) (hI : InsM w A cf.insts) : Calls Try.prog 12 #[cf.v (.slice A n c)] w fun r w' => r = .returned (.bool (planOk cf)) ∧ Below w.heap.size w w' := by
  have HN := Lib.hid hn
  have HC0 : Hid (CfAt (w.alloc (.cells (cf.cells (.slice A n c)).toArray 24)) w.heap.size cf (.slice A n c)) := Lib.hid (Rec.new w _ (cf.cells (.slice A n c)) _ rfl)
  have HB0 : Hid (Below w.heap.size w (w.alloc (.cells (cf.cells (.slice A n c)).toArray 24))) := Lib.hid ((Below.refl _ _).alloc (Nat.le_refl _) _)
  have HI := Lib.hid hI
  by_cases hlen : ¬ (1 ≤ n ∧ n ≤ 6)
  · have HP : Hid (planOk cf = false) := Lib.hid (plan_len (by rw [← hn]; exact hlen))
    rw [HP.out]
    have hcase : n = 0 ∨ 6 < n := by omega
    unfold Cfg.v
    clear hn hI hlen
    rcases hcase with rfl | h6
    · go_enter Try.func12, Try.ntmps12
      go_wp2
      go_ret
      exact ⟨rfl, (Below.refl _ _).alloc (Nat.le_refl _) _⟩
    · go_enter Try.func12, Try.ntmps12
      go_wp2
      go_ret
      exact ⟨rfl, (Below.refl _ _).alloc (Nat.le_refl _) _⟩
  have hlen := Classical.not_not.1 hlen
  have hn1 := hlen.1
  have hn6 := hlen.2
  have HLN := Lib.hid (show 1 ≤ cf.insts.length ∧ cf.insts.length ≤ 6 by rw [← hn]; exact hlen)
  unfold Cfg.v
  clear hn hI hlen
  go_enter Try.func12, Try.ntmps12
  go_wp2
  go_loopw [3] (fun i wr => ∃ k : Nat, k ≤ n ∧ i = .int .i64 (k : Int) ∧ Hid (CfAt wr w.heap.size cf (.slice A n c)) ∧ Hid (Below w.heap.size w wr) ∧ Hid (∀ j, j < k → insOk (cf.insts.getD j Ins.zero) = true)) (fun i _ => n - (intOf i).toNat)
  case atStart => exact ⟨0, Nat.zero_le _, rfl, HC0, HB0, Lib.hid (fun j hj => absurd hj (Nat.not_lt_zero j))⟩
  case round =>
    obtain ⟨k, hk, rfl, HC, HB, HA⟩ := hrel
    obtain ⟨d0, d1, d2, d3, d4, d5, d6⟩ := HC.out.reads
    by_cases hlt : k < n
    · have hkl : k < cf.insts.length := by rw [← HN.out]; exact hlt
      obtain ⟨b, off, rfl, hcells⟩ := (HI.out.below HB.out) (by omega)
      obtain ⟨e0, e1, e2, e3⟩ := hcells k hkl
      have HX := Lib.hid hkl
      obtain ⟨x, hx⟩ : ∃ x, x = cf.insts.getD k Ins.zero := ⟨_, rfl⟩
      rw [← hx] at e0 e1 e2 e3
      have HXE := Lib.hid hx
      clear hx hkl hcells
      rcases ins_cases x with ⟨q1, qf⟩ | ⟨q1, q2, qf⟩ | ⟨q1, q2, q3, qf⟩ | ⟨q1, q2, q3, q4, qf⟩ | ⟨q1, q2, q3, q4, qf⟩
      · have C1 := Lib.hid (wIn_refl _ _ _ _ q1)
        have HQ := Lib.hid qf
        clear q1 qf
        go_wp2_with (first
        | (go_at_call 26; (with_reducible refine (C1.out _).mono ?_); rintro r _ ⟨rfl, rfl⟩))
        go_ret
        exact ⟨by rw [plan_ins HX.out (by rw [← HXE.out]; exact HQ.out)]; rfl, HB.out.alloc HB.out.size _⟩
      · have C1 := Lib.hid (wIn_refl _ _ _ _ q1)
        have C2 := Lib.hid (wIn_refl _ _ _ _ q2)
        have HQ := Lib.hid qf
        clear q1 q2 qf
        go_wp2_with (first
        | (go_at_call 26; (with_reducible refine (C1.out _).mono ?_); rintro r _ ⟨rfl, rfl⟩)
        | (go_at_call 26; (with_reducible refine (C2.out _).mono ?_); rintro r _ ⟨rfl, rfl⟩))
        go_ret
        exact ⟨by rw [plan_ins HX.out (by rw [← HXE.out]; exact HQ.out)]; rfl, HB.out.alloc HB.out.size _⟩
      · have C1 := Lib.hid (wIn_refl _ _ _ _ q1)
        have C2 := Lib.hid (wIn_refl _ _ _ _ q2)
        have C3 := Lib.hid (wIn_refl _ _ _ _ q3)
        have HQ := Lib.hid qf
        clear q1 q2 q3 qf
        go_wp2_with (first
        | (go_at_call 26; (with_reducible refine (C1.out _).mono ?_); rintro r _ ⟨rfl, rfl⟩)
        | (go_at_call 26; (with_reducible refine (C2.out _).mono ?_); rintro r _ ⟨rfl, rfl⟩)
        | (go_at_call 26; (with_reducible refine (C3.out _).mono ?_); rintro r _ ⟨rfl, rfl⟩))
        go_ret
        exact ⟨by rw [plan_ins HX.out (by rw [← HXE.out]; exact HQ.out)]; rfl, HB.out.alloc HB.out.size _⟩
      · have C1 := Lib.hid (wIn_refl _ _ _ _ q1)
        have C2 := Lib.hid (wIn_refl _ _ _ _ q2)
        have C3 := Lib.hid (wIn_refl _ _ _ _ q3)
        have C4 := Lib.hid (wIn_refl _ _ _ _ q4)
        have HQ := Lib.hid qf
        clear q1 q2 q3 q4 qf
        go_wp2_with (first
        | (go_at_call 26; (with_reducible refine (C1.out _).mono ?_); rintro r _ ⟨rfl, rfl⟩)
        | (go_at_call 26; (with_reducible refine (C2.out _).mono ?_); rintro r _ ⟨rfl, rfl⟩)
        | (go_at_call 26; (with_reducible refine (C3.out _).mono ?_); rintro r _ ⟨rfl, rfl⟩)
        | (go_at_call 26; (with_reducible refine (C4.out _).mono ?_); rintro r _ ⟨rfl, rfl⟩))
        go_ret
        exact ⟨by rw [plan_ins HX.out (by rw [← HXE.out]; exact HQ.out)]; rfl, HB.out.alloc HB.out.size _⟩
      · have C1 := Lib.hid (wIn_refl _ _ _ _ q1)
        have C2 := Lib.hid (wIn_refl _ _ _ _ q2)
        have C3 := Lib.hid (wIn_refl _ _ _ _ q3)
        have C4 := Lib.hid (wIn_refl _ _ _ _ q4)
        have HQ := Lib.hid qf
        clear q1 q2 q3 q4 qf
        go_wp2_with (first
        | (go_at_call 26; (with_reducible refine (C1.out _).mono ?_); rintro r _ ⟨rfl, rfl⟩)
        | (go_at_call 26; (with_reducible refine (C2.out _).mono ?_); rintro r _ ⟨rfl, rfl⟩)
        | (go_at_call 26; (with_reducible refine (C3.out _).mono ?_); rintro r _ ⟨rfl, rfl⟩)
        | (go_at_call 26; (with_reducible refine (C4.out _).mono ?_); rintro r _ ⟨rfl, rfl⟩))
        go_roundw
        case rel => exact ⟨k + 1, by omega, by go_num, Lib.hid (HC.out.keep ((Below.refl _ _).alloc (Nat.le_refl _) _)), Lib.hid (HB.out.alloc HB.out.size _), Lib.hid (fun j hj => by
          rcases Nat.lt_or_ge j k with h | h
          · exact HA.out j h
          · obtain rfl : j = k := by omega
            rw [← HXE.out]; exact HQ.out)⟩
        case measure => simp [intOf]; omega
    · obtain rfl : k = n := by omega
      have HP : Hid (planOk cf = restOk cf) := Lib.hid (plan_all HLN.out (fun j hj => HA.out j (by rw [HN.out]; exact hj)))
      rcases rest_cases cf with ⟨q0, qf⟩ | ⟨q0, q1, qf⟩ | ⟨q0, q1, q2, qf⟩ | ⟨q0, q1, q2, q3, qf⟩ | ⟨q0, q1, q2, q3, q4, qf⟩ | ⟨q0, q1, q2, q3, q4, q5, qf⟩ | ⟨q0, q1, q2, q3, q4, q5, qf⟩
      · have HQ := Lib.hid qf
        clear qf
        go_wp2
        go_ret
        exact ⟨by rw [HP.out, HQ.out]; rfl, HB.out⟩
      · have HQ := Lib.hid qf
        have C1 := Lib.hid (wIn_refl _ _ _ _ q1)
        clear qf q1
        go_wp2_with (first
        | (go_at_call 26; (with_reducible refine (C1.out _).mono ?_); rintro r _ ⟨rfl, rfl⟩))
        go_ret
        exact ⟨by rw [HP.out, HQ.out]; rfl, HB.out⟩
      · have HQ := Lib.hid qf
        have C1 := Lib.hid (wIn_refl _ _ _ _ q1)
        have C2 := Lib.hid (wIn_refl _ _ _ _ q2)
        clear qf q1 q2
        go_wp2_with (first
        | (go_at_call 26; (with_reducible refine (C1.out _).mono ?_); rintro r _ ⟨rfl, rfl⟩)
        | (go_at_call 26; (with_reducible refine (C2.out _).mono ?_); rintro r _ ⟨rfl, rfl⟩))
        go_ret
        exact ⟨by rw [HP.out, HQ.out]; rfl, HB.out⟩
      · have HQ := Lib.hid qf
        have C1 := Lib.hid (wIn_refl _ _ _ _ q1)
        have C2 := Lib.hid (wIn_refl _ _ _ _ q2)
        have C3 := Lib.hid (wIn_refl _ _ _ _ q3)
        clear qf q1 q2 q3
        go_wp2_with (first
        | (go_at_call 26; (with_reducible refine (C1.out _).mono ?_); rintro r _ ⟨rfl, rfl⟩)
        | (go_at_call 26; (with_reducible refine (C2.out _).mono ?_); rintro r _ ⟨rfl, rfl⟩)
        | (go_at_call 26; (with_reducible refine (C3.out _).mono ?_); rintro r _ ⟨rfl, rfl⟩))
        go_ret
        exact ⟨by rw [HP.out, HQ.out]; rfl, HB.out⟩
      · have HQ := Lib.hid qf
        have C1 := Lib.hid (wIn_refl _ _ _ _ q1)
        have C2 := Lib.hid (wIn_refl _ _ _ _ q2)
        have C3 := Lib.hid (wIn_refl _ _ _ _ q3)
        have C4 := Lib.hid (wIn_refl _ _ _ _ q4)
        clear qf q1 q2 q3 q4
        go_wp2_with (first
        | (go_at_call 26; (with_reducible refine (C1.out _).mono ?_); rintro r _ ⟨rfl, rfl⟩)
        | (go_at_call 26; (with_reducible refine (C2.out _).mono ?_); rintro r _ ⟨rfl, rfl⟩)
        | (go_at_call 26; (with_reducible refine (C3.out _).mono ?_); rintro r _ ⟨rfl, rfl⟩)
        | (go_at_call 26; (with_reducible refine (C4.out _).mono ?_); rintro r _ ⟨rfl, rfl⟩))
        go_ret
        exact ⟨by rw [HP.out, HQ.out]; rfl, HB.out⟩
      · have HQ := Lib.hid qf
        have HD5 : Hid (decide (0 ≤ cf.hedge) = false) := Lib.hid (decide_eq_false q5)
        have C1 := Lib.hid (wIn_refl _ _ _ _ q1)
        have C2 := Lib.hid (wIn_refl _ _ _ _ q2)
        have C3 := Lib.hid (wIn_refl _ _ _ _ q3)
        have C4 := Lib.hid (wIn_refl _ _ _ _ q4)
        clear qf q1 q2 q3 q4
        go_wp2_with (first
        | (go_at_call 26; (with_reducible refine (C1.out _).mono ?_); rintro r _ ⟨rfl, rfl⟩)
        | (go_at_call 26; (with_reducible refine (C2.out _).mono ?_); rintro r _ ⟨rfl, rfl⟩)
        | (go_at_call 26; (with_reducible refine (C3.out _).mono ?_); rintro r _ ⟨rfl, rfl⟩)
        | (go_at_call 26; (with_reducible refine (C4.out _).mono ?_); rintro r _ ⟨rfl, rfl⟩))
        go_ret
        exact ⟨by rw [HP.out, HQ.out, ← HD5.out]; rfl, HB.out⟩
      · have HQ := Lib.hid qf
        have C1 := Lib.hid (wIn_refl _ _ _ _ q1)
        have C2 := Lib.hid (wIn_refl _ _ _ _ q2)
        have C3 := Lib.hid (wIn_refl _ _ _ _ q3)
        have C4 := Lib.hid (wIn_refl _ _ _ _ q4)
        clear qf q1 q2 q3 q4
        go_wp2_with (first
        | (go_at_call 26; (with_reducible refine (C1.out _).mono ?_); rintro r _ ⟨rfl, rfl⟩)
        | (go_at_call 26; (with_reducible refine (C2.out _).mono ?_); rintro r _ ⟨rfl, rfl⟩)
        | (go_at_call 26; (with_reducible refine (C3.out _).mono ?_); rintro r _ ⟨rfl, rfl⟩)
        | (go_at_call 26; (with_reducible refine (C4.out _).mono ?_); rintro r _ ⟨rfl, rfl⟩))
        go_ret
        exact ⟨by rw [HP.out, HQ.out]; rfl, HB.out⟩
end Go.Proofs.Ytldceocbmmidmaa
