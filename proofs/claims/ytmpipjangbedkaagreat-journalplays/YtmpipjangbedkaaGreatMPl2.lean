import Derived.Test.YtmpipjangbedkaaGreatMInv
import Derived.Deep.QuietTactic
import Derived.BigQuiet
import Derived.WalkSmall
/-
  The walk of the reference's RightPlan.
-/
namespace Go.Proofs.YtmpipjangbedkaaGreat
set_option maxRecDepth 8000
open Go Go.RowKit
set_option linter.unusedVariables false

/-- A config in a block of its own. -/
def CfAt (W : World) (b : Nat) (cf : Cfg) (v : Value) : Prop := Rec W b 31 (cf.cells v)
theorem CfAt.reads {W : World} {b : Nat} {cf : Cfg} {v : Value} (h : CfAt W b cf v) : W.cell? ⟨b, 0, none⟩ = some v ∧ W.cell? ⟨b, 1, none⟩ = some (.int .i64 cf.skin) ∧ W.cell? ⟨b, 2, none⟩ = some (.int .i64 cf.times) ∧ W.cell? ⟨b, 3, none⟩ = some (.int .i64 cf.port) ∧ W.cell? ⟨b, 4, none⟩ = some (.int .i64 cf.bid) ∧ W.cell? ⟨b, 5, none⟩ = some (.int .i64 cf.lot) ∧ W.cell? ⟨b, 6, none⟩ = some (.int .i64 cf.hedge) :=
  ⟨Rec.cell h 0 rfl, Rec.cell h 1 rfl, Rec.cell h 2 rfl, Rec.cell h 3 rfl, Rec.cell h 4 rfl, Rec.cell h 5 rfl, Rec.cell h 6 rfl⟩
theorem CfAt.keep {W W' : World} {b : Nat} {cf : Cfg} {v : Value} (h : CfAt W b cf v) (hb : Below W.heap.size W W') : CfAt W' b cf v := Rec.keep h hb
theorem wIn_refl (n lo hi : Int) (b : Bool) (h : wIn n lo hi = b) : ∀ w : World, Calls Tryz.prog 66 #[.int .i64 n, .int .i64 lo, .int .i64 hi] w fun e w' => e = .returned (.bool b) ∧ w = w' := fun w => by
  have := within_any n lo hi w
  rw [h] at this
  exact this
/-- Which of the instrument's bounds is broken first. -/
theorem ins_cases (x : Ins) : (wIn x.bucket 0 3 = false ∧ insOk x = false) ∨ (wIn x.bucket 0 3 = true ∧ wIn x.price 1 1000000000000 = false ∧ insOk x = false) ∨ (wIn x.bucket 0 3 = true ∧ wIn x.price 1 1000000000000 = true ∧ wIn x.rate 0 1000000000 = false ∧ insOk x = false) ∨ (wIn x.bucket 0 3 = true ∧ wIn x.price 1 1000000000000 = true ∧ wIn x.rate 0 1000000000 = true ∧ wIn x.slip 0 1000000000 = false ∧ insOk x = false) ∨ (wIn x.bucket 0 3 = true ∧ wIn x.price 1 1000000000000 = true ∧ wIn x.rate 0 1000000000 = true ∧ wIn x.slip 0 1000000000 = true ∧ insOk x = true) := by
  unfold insOk
  generalize wIn x.bucket 0 3 = a
  generalize wIn x.price 1 1000000000000 = b
  generalize wIn x.rate 0 1000000000 = c
  generalize wIn x.slip 0 1000000000 = d
  revert a b c d
  decide
theorem rest_cases (c : Cfg) : (¬ 0 ≤ c.skin ∧ restOk c = false) ∨ (0 ≤ c.skin ∧ wIn c.times 0 4 = false ∧ restOk c = false) ∨ (0 ≤ c.skin ∧ wIn c.times 0 4 = true ∧ wIn c.port 0 1000000 = false ∧ restOk c = false) ∨ (0 ≤ c.skin ∧ wIn c.times 0 4 = true ∧ wIn c.port 0 1000000 = true ∧ wIn c.bid 0 1000000 = false ∧ restOk c = false) ∨ (0 ≤ c.skin ∧ wIn c.times 0 4 = true ∧ wIn c.port 0 1000000 = true ∧ wIn c.bid 0 1000000 = true ∧ wIn c.lot 1 4611686018427387904 = false ∧ restOk c = false) ∨
    (0 ≤ c.skin ∧ wIn c.times 0 4 = true ∧ wIn c.port 0 1000000 = true ∧ wIn c.bid 0 1000000 = true ∧ wIn c.lot 1 4611686018427387904 = true ∧ ¬ 0 ≤ c.hedge ∧ restOk c = false) ∨ (0 ≤ c.skin ∧ wIn c.times 0 4 = true ∧ wIn c.port 0 1000000 = true ∧ wIn c.bid 0 1000000 = true ∧ wIn c.lot 1 4611686018427387904 = true ∧ 0 ≤ c.hedge ∧ restOk c = true) := by
  unfold restOk
  by_cases h1 : 0 ≤ c.skin <;> by_cases h2 : 0 ≤ c.hedge <;> simp only [h1, h2, decide_true, decide_false, not_true, not_false_iff, true_and, false_and] <;> generalize wIn c.times 0 4 = a <;> generalize wIn c.port 0 1000000 = b <;> generalize wIn c.bid 0 1000000 = d <;> generalize wIn c.lot 1 4611686018427387904 = e <;> revert a b d e <;> decide
set_option maxRecDepth 8000 in
set_option maxHeartbeats 8000000 in
theorem rplan_any (cf : Cfg) (A : Option Addr) (n c : Nat) (w : World) (hn : n = cf.insts.length) (hI : InsM w A cf.insts) : Calls Tryz.prog 38 #[cf.v (.slice A n c)] w fun r w' => r = .returned (.bool (planOk cf)) ∧ Below w.heap.size w w' := by
  have HN := Lib.hid hn
  have HC0 : Hid (CfAt (w.alloc (.cells (cf.cells (.slice A n c)).toArray 31)) w.heap.size cf (.slice A n c)) := Lib.hid (Rec.new w _ (cf.cells (.slice A n c)) _ rfl)
  have HB0 : Hid (Below w.heap.size w (w.alloc (.cells (cf.cells (.slice A n c)).toArray 31))) := Lib.hid ((Below.refl _ _).alloc (Nat.le_refl _) _)
  have HI := Lib.hid hI
  by_cases hlen : ¬ (1 ≤ n ∧ n ≤ 6)
  · have HP : Hid (planOk cf = false) := Lib.hid (plan_len (by rw [← hn]; exact hlen))
    rw [HP.out]
    have hcase : n = 0 ∨ 6 < n := by omega
    unfold Cfg.v
    clear hn hI hlen
    rcases hcase with rfl | h6
    · go_enter Tryz.func38, Tryz.ntmps38
      go_wp2
      go_ret
      exact ⟨rfl, (Below.refl _ _).alloc (Nat.le_refl _) _⟩
    · go_enter Tryz.func38, Tryz.ntmps38
      go_wp2
      go_ret
      exact ⟨rfl, (Below.refl _ _).alloc (Nat.le_refl _) _⟩
  have hlen := Classical.not_not.1 hlen
  have hn1 := hlen.1
  have hn6 := hlen.2
  have HLN := Lib.hid (show 1 ≤ cf.insts.length ∧ cf.insts.length ≤ 6 by rw [← hn]; exact hlen)
  unfold Cfg.v
  clear hn hI hlen
  go_enter Tryz.func38, Tryz.ntmps38
  go_wp2
  go_loopw [3] (fun i wr => ∃ k : Nat, k ≤ n ∧ i = .int .i64 (k : Int) ∧ Hid (CfAt wr w.heap.size cf (.slice A n c)) ∧ Hid (Below w.heap.size w wr) ∧ Hid (∀ j, j < k → insOk (cf.insts.getD j Ins.zero) = true)) (fun i _ => n - (intOf i).toNat)
  case atStart => exact ⟨0, Nat.zero_le _, rfl, HC0, HB0, Lib.hid (fun j hj => absurd hj (Nat.not_lt_zero j))⟩
  case round =>
    obtain ⟨k, hk, rfl, HC, HB, HA⟩ := hrel
    obtain ⟨d0, d1, d2, d3, d4, d5, d6⟩ := HC.out.reads
    by_cases hlt : k < n
    · have hkl : k < cf.insts.length := by rw [← HN.out]; exact hlt
      obtain ⟨b, off, rfl, hcells⟩ := (HI.out.below HB.out) (by omega)
      obtain ⟨e0, e1, e2, e3⟩ := hcells k hkl
      have HX := Lib.hid hkl
      obtain ⟨x, hx⟩ : ∃ x, x = cf.insts.getD k Ins.zero := ⟨_, rfl⟩
      rw [← hx] at e0 e1 e2 e3
      have HXE := Lib.hid hx
      clear hx hkl hcells
      rcases ins_cases x with ⟨q1, qf⟩ | ⟨q1, q2, qf⟩ | ⟨q1, q2, q3, qf⟩ | ⟨q1, q2, q3, q4, qf⟩ | ⟨q1, q2, q3, q4, qf⟩
      · have C1 := Lib.hid (wIn_refl _ _ _ _ q1)
        have HQ := Lib.hid qf
        clear q1 qf
        go_wp2_with (first
        | (go_at_call 66; (with_reducible refine (C1.out _).mono ?_); rintro r _ ⟨rfl, rfl⟩))
        go_ret
        exact ⟨by rw [plan_ins HX.out (by rw [← HXE.out]; exact HQ.out)]; rfl, HB.out.alloc HB.out.size _⟩
      · have C1 := Lib.hid (wIn_refl _ _ _ _ q1)
        have C2 := Lib.hid (wIn_refl _ _ _ _ q2)
        have HQ := Lib.hid qf
        clear q1 q2 qf
        go_wp2_with (first
        | (go_at_call 66; (with_reducible refine (C1.out _).mono ?_); rintro r _ ⟨rfl, rfl⟩)
        | (go_at_call 66; (with_reducible refine (C2.out _).mono ?_); rintro r _ ⟨rfl, rfl⟩))
        go_ret
        exact ⟨by rw [plan_ins HX.out (by rw [← HXE.out]; exact HQ.out)]; rfl, HB.out.alloc HB.out.size _⟩
      · have C1 := Lib.hid (wIn_refl _ _ _ _ q1)
        have C2 := Lib.hid (wIn_refl _ _ _ _ q2)
        have C3 := Lib.hid (wIn_refl _ _ _ _ q3)
        have HQ := Lib.hid qf
        clear q1 q2 q3 qf
        go_wp2_with (first
        | (go_at_call 66; (with_reducible refine (C1.out _).mono ?_); rintro r _ ⟨rfl, rfl⟩)
        | (go_at_call 66; (with_reducible refine (C2.out _).mono ?_); rintro r _ ⟨rfl, rfl⟩)
        | (go_at_call 66; (with_reducible refine (C3.out _).mono ?_); rintro r _ ⟨rfl, rfl⟩))
        go_ret
        exact ⟨by rw [plan_ins HX.out (by rw [← HXE.out]; exact HQ.out)]; rfl, HB.out.alloc HB.out.size _⟩
      · have C1 := Lib.hid (wIn_refl _ _ _ _ q1)
        have C2 := Lib.hid (wIn_refl _ _ _ _ q2)
        have C3 := Lib.hid (wIn_refl _ _ _ _ q3)
        have C4 := Lib.hid (wIn_refl _ _ _ _ q4)
        have HQ := Lib.hid qf
        clear q1 q2 q3 q4 qf
        go_wp2_with (first
        | (go_at_call 66; (with_reducible refine (C1.out _).mono ?_); rintro r _ ⟨rfl, rfl⟩)
        | (go_at_call 66; (with_reducible refine (C2.out _).mono ?_); rintro r _ ⟨rfl, rfl⟩)
        | (go_at_call 66; (with_reducible refine (C3.out _).mono ?_); rintro r _ ⟨rfl, rfl⟩)
        | (go_at_call 66; (with_reducible refine (C4.out _).mono ?_); rintro r _ ⟨rfl, rfl⟩))
        go_ret
        exact ⟨by rw [plan_ins HX.out (by rw [← HXE.out]; exact HQ.out)]; rfl, HB.out.alloc HB.out.size _⟩
      · have C1 := Lib.hid (wIn_refl _ _ _ _ q1)
        have C2 := Lib.hid (wIn_refl _ _ _ _ q2)
        have C3 := Lib.hid (wIn_refl _ _ _ _ q3)
        have C4 := Lib.hid (wIn_refl _ _ _ _ q4)
        have HQ := Lib.hid qf
        clear q1 q2 q3 q4 qf
        go_wp2_with (first
        | (go_at_call 66; (with_reducible refine (C1.out _).mono ?_); rintro r _ ⟨rfl, rfl⟩)
        | (go_at_call 66; (with_reducible refine (C2.out _).mono ?_); rintro r _ ⟨rfl, rfl⟩)
        | (go_at_call 66; (with_reducible refine (C3.out _).mono ?_); rintro r _ ⟨rfl, rfl⟩)
        | (go_at_call 66; (with_reducible refine (C4.out _).mono ?_); rintro r _ ⟨rfl, rfl⟩))
        go_roundw
        case rel => exact ⟨k + 1, by omega, by go_num, Lib.hid (HC.out.keep ((Below.refl _ _).alloc (Nat.le_refl _) _)), Lib.hid (HB.out.alloc HB.out.size _), Lib.hid (fun j hj => by
          rcases Nat.lt_or_ge j k with h | h
          · exact HA.out j h
          · obtain rfl : j = k := by omega
            rw [← HXE.out]; exact HQ.out)⟩
        case measure => simp [intOf]; omega
    · obtain rfl : k = n := by omega
      have HP : Hid (planOk cf = restOk cf) := Lib.hid (plan_all HLN.out (fun j hj => HA.out j (by rw [HN.out]; exact hj)))
      rcases rest_cases cf with ⟨q0, qf⟩ | ⟨q0, q1, qf⟩ | ⟨q0, q1, q2, qf⟩ | ⟨q0, q1, q2, q3, qf⟩ | ⟨q0, q1, q2, q3, q4, qf⟩ | ⟨q0, q1, q2, q3, q4, q5, qf⟩ | ⟨q0, q1, q2, q3, q4, q5, qf⟩
      · have HQ := Lib.hid qf
        clear qf
        go_wp2
        go_ret
        exact ⟨by rw [HP.out, HQ.out]; rfl, HB.out⟩
      · have HQ := Lib.hid qf
        have C1 := Lib.hid (wIn_refl _ _ _ _ q1)
        clear qf q1
        go_wp2_with (first
        | (go_at_call 66; (with_reducible refine (C1.out _).mono ?_); rintro r _ ⟨rfl, rfl⟩))
        go_ret
        exact ⟨by rw [HP.out, HQ.out]; rfl, HB.out⟩
      · have HQ := Lib.hid qf
        have C1 := Lib.hid (wIn_refl _ _ _ _ q1)
        have C2 := Lib.hid (wIn_refl _ _ _ _ q2)
        clear qf q1 q2
        go_wp2_with (first
        | (go_at_call 66; (with_reducible refine (C1.out _).mono ?_); rintro r _ ⟨rfl, rfl⟩)
        | (go_at_call 66; (with_reducible refine (C2.out _).mono ?_); rintro r _ ⟨rfl, rfl⟩))
        go_ret
        exact ⟨by rw [HP.out, HQ.out]; rfl, HB.out⟩
      · have HQ := Lib.hid qf
        have C1 := Lib.hid (wIn_refl _ _ _ _ q1)
        have C2 := Lib.hid (wIn_refl _ _ _ _ q2)
        have C3 := Lib.hid (wIn_refl _ _ _ _ q3)
        clear qf q1 q2 q3
        go_wp2_with (first
        | (go_at_call 66; (with_reducible refine (C1.out _).mono ?_); rintro r _ ⟨rfl, rfl⟩)
        | (go_at_call 66; (with_reducible refine (C2.out _).mono ?_); rintro r _ ⟨rfl, rfl⟩)
        | (go_at_call 66; (with_reducible refine (C3.out _).mono ?_); rintro r _ ⟨rfl, rfl⟩))
        go_ret
        exact ⟨by rw [HP.out, HQ.out]; rfl, HB.out⟩
      · have HQ := Lib.hid qf
        have C1 := Lib.hid (wIn_refl _ _ _ _ q1)
        have C2 := Lib.hid (wIn_refl _ _ _ _ q2)
        have C3 := Lib.hid (wIn_refl _ _ _ _ q3)
        have C4 := Lib.hid (wIn_refl _ _ _ _ q4)
        clear qf q1 q2 q3 q4
        go_wp2_with (first
        | (go_at_call 66; (with_reducible refine (C1.out _).mono ?_); rintro r _ ⟨rfl, rfl⟩)
        | (go_at_call 66; (with_reducible refine (C2.out _).mono ?_); rintro r _ ⟨rfl, rfl⟩)
        | (go_at_call 66; (with_reducible refine (C3.out _).mono ?_); rintro r _ ⟨rfl, rfl⟩)
        | (go_at_call 66; (with_reducible refine (C4.out _).mono ?_); rintro r _ ⟨rfl, rfl⟩))
        go_ret
        exact ⟨by rw [HP.out, HQ.out]; rfl, HB.out⟩
      · have HQ := Lib.hid qf
        have HD5 : Hid (decide (0 ≤ cf.hedge) = false) := Lib.hid (decide_eq_false q5)
        have C1 := Lib.hid (wIn_refl _ _ _ _ q1)
        have C2 := Lib.hid (wIn_refl _ _ _ _ q2)
        have C3 := Lib.hid (wIn_refl _ _ _ _ q3)
        have C4 := Lib.hid (wIn_refl _ _ _ _ q4)
        clear qf q1 q2 q3 q4
        go_wp2_with (first
        | (go_at_call 66; (with_reducible refine (C1.out _).mono ?_); rintro r _ ⟨rfl, rfl⟩)
        | (go_at_call 66; (with_reducible refine (C2.out _).mono ?_); rintro r _ ⟨rfl, rfl⟩)
        | (go_at_call 66; (with_reducible refine (C3.out _).mono ?_); rintro r _ ⟨rfl, rfl⟩)
        | (go_at_call 66; (with_reducible refine (C4.out _).mono ?_); rintro r _ ⟨rfl, rfl⟩))
        go_ret
        exact ⟨by rw [HP.out, HQ.out, ← HD5.out]; rfl, HB.out⟩
      · have HQ := Lib.hid qf
        have C1 := Lib.hid (wIn_refl _ _ _ _ q1)
        have C2 := Lib.hid (wIn_refl _ _ _ _ q2)
        have C3 := Lib.hid (wIn_refl _ _ _ _ q3)
        have C4 := Lib.hid (wIn_refl _ _ _ _ q4)
        clear qf q1 q2 q3 q4
        go_wp2_with (first
        | (go_at_call 66; (with_reducible refine (C1.out _).mono ?_); rintro r _ ⟨rfl, rfl⟩)
        | (go_at_call 66; (with_reducible refine (C2.out _).mono ?_); rintro r _ ⟨rfl, rfl⟩)
        | (go_at_call 66; (with_reducible refine (C3.out _).mono ?_); rintro r _ ⟨rfl, rfl⟩)
        | (go_at_call 66; (with_reducible refine (C4.out _).mono ?_); rintro r _ ⟨rfl, rfl⟩))
        go_ret
        exact ⟨by rw [HP.out, HQ.out]; rfl, HB.out⟩
end Go.Proofs.YtmpipjangbedkaaGreat

/-
  The walk of the reference's SamePlan.
-/
namespace Go.Proofs.YtmpipjangbedkaaGreat
set_option maxRecDepth 8000
open Go Go.RowKit
set_option linter.unusedVariables false

def Ins.v (x : Ins) : Value := .agg #[.int .i64 x.bucket, .int .i64 x.price, .int .i64 x.rate, .int .i64 x.slip]
theorem ins_eq (x y : Ins) : decide (x = y) = (decide (x.bucket = y.bucket) && (decide (x.price = y.price) && (decide (x.rate = y.rate) && decide (x.slip = y.slip)))) := by
  obtain ⟨a0, a1, a2, a3⟩ := x
  obtain ⟨b0, b1, b2, b3⟩ := y
  simp [Bool.decide_and]
set_option maxRecDepth 8000 in
set_option maxHeartbeats 1000000 in
theorem run_ins_ne (x y : Ins) (W : World) : (binOp .neq 70 x.v y.v).run Tryz.prog W = .ok (.bool (!decide (x = y))) W := by
  rw [ins_eq]
  unfold Ins.v
  simp [go_sem]
  repeat' split
  all_goals simp_all
theorem cfg_len {a b : Cfg} (h : a.insts.length ≠ b.insts.length) : decide (a = b) = false := decide_eq_false (fun e => h (by rw [e]))
theorem cfg_ins {a b : Cfg} {i : Nat} (h : a.insts.getD i Ins.zero ≠ b.insts.getD i Ins.zero) : decide (a = b) = false := decide_eq_false (fun e => h (by rw [e]))
theorem ins_all {a b : List Ins} (hl : a.length = b.length) (h : ∀ i, i < a.length → a.getD i Ins.zero = b.getD i Ins.zero) : a = b := by
  refine List.ext_getElem hl fun i h1 h2 => ?_
  have := h i h1
  rw [List.getD_eq_getElem?_getD, List.getElem?_eq_getElem h1, List.getD_eq_getElem?_getD, List.getElem?_eq_getElem h2] at this
  exact this
theorem cfg_cases {a b : Cfg} (h : a.insts = b.insts) : (a.skin ≠ b.skin ∧ decide (a = b) = false) ∨ (a.skin = b.skin ∧ a.times ≠ b.times ∧ decide (a = b) = false) ∨ (a.skin = b.skin ∧ a.times = b.times ∧ a.port ≠ b.port ∧ decide (a = b) = false) ∨ (a.skin = b.skin ∧ a.times = b.times ∧ a.port = b.port ∧ a.bid ≠ b.bid ∧ decide (a = b) = false) ∨ (a.skin = b.skin ∧ a.times = b.times ∧ a.port = b.port ∧ a.bid = b.bid ∧ a.lot ≠ b.lot ∧ decide (a = b) = false) ∨ (a.skin = b.skin ∧ a.times = b.times ∧ a.port = b.port ∧ a.bid = b.bid ∧ a.lot = b.lot ∧ a.hedge ≠ b.hedge ∧ decide (a = b) = false) ∨ (a.skin = b.skin ∧ a.times = b.times ∧ a.port = b.port ∧ a.bid = b.bid ∧ a.lot = b.lot ∧ a.hedge = b.hedge ∧ decide (a = b) = true) := by
  by_cases q0 : a.skin = b.skin
  · skip
    by_cases q1 : a.times = b.times
    · skip
      by_cases q2 : a.port = b.port
      · skip
        by_cases q3 : a.bid = b.bid
        · skip
          by_cases q4 : a.lot = b.lot
          · skip
            by_cases q5 : a.hedge = b.hedge
            · skip
              exact .inr (.inr (.inr (.inr (.inr (.inr (⟨q0, q1, q2, q3, q4, q5, decide_eq_true (by cases a; cases b; simp only at h q0 q1 q2 q3 q4 q5; subst h; subst q0; subst q1; subst q2; subst q3; subst q4; subst q5; rfl)⟩))))))
            · exact .inr (.inr (.inr (.inr (.inr (.inl ⟨q0, q1, q2, q3, q4, q5, decide_eq_false (fun e => q5 (by rw [e]))⟩)))))
          · exact .inr (.inr (.inr (.inr (.inl ⟨q0, q1, q2, q3, q4, decide_eq_false (fun e => q4 (by rw [e]))⟩))))
        · exact .inr (.inr (.inr (.inl ⟨q0, q1, q2, q3, decide_eq_false (fun e => q3 (by rw [e]))⟩)))
      · exact .inr (.inr (.inl ⟨q0, q1, q2, decide_eq_false (fun e => q2 (by rw [e]))⟩))
    · exact .inr (.inl ⟨q0, q1, decide_eq_false (fun e => q1 (by rw [e]))⟩)
  · exact .inl ⟨q0, decide_eq_false (fun e => q0 (by rw [e]))⟩
set_option maxRecDepth 8000 in
set_option maxHeartbeats 8000000 in
theorem rsame_any (p q : Cfg) (A B : Option Addr) (n m c d : Nat) (w : World) (hn : n = p.insts.length) (hm : m = q.insts.length) (hI : InsM w A p.insts) (hJ : InsM w B q.insts) (hl : n ≤ 1000000000) : Calls Tryz.prog 22 #[p.v (.slice A n c), q.v (.slice B m d)] w fun r w' => r = .returned (.bool (decide (p = q))) ∧ Below w.heap.size w w' := by
  have HN := Lib.hid hn
  have HM := Lib.hid hm
  have HI := Lib.hid hI
  have HJ := Lib.hid hJ
  have hb1 : Below w.heap.size w (w.alloc (.cells (p.cells (.slice A n c)).toArray 31)) := (Below.refl _ _).alloc (Nat.le_refl _) _
  have HB0 : Hid (Below w.heap.size w ((w.alloc (.cells (p.cells (.slice A n c)).toArray 31)).alloc (.cells (q.cells (.slice B m d)).toArray 31))) := Lib.hid (hb1.alloc hb1.size _)
  have HC0 : Hid (CfAt ((w.alloc (.cells (p.cells (.slice A n c)).toArray 31)).alloc (.cells (q.cells (.slice B m d)).toArray 31)) w.heap.size p (.slice A n c)) := Lib.hid ((show CfAt (w.alloc (.cells (p.cells (.slice A n c)).toArray 31)) w.heap.size p (.slice A n c) from Rec.new w _ (p.cells (.slice A n c)) _ rfl).keep ((Below.refl _ _).alloc (Nat.le_refl _) _))
  have HD0 : Hid (CfAt ((w.alloc (.cells (p.cells (.slice A n c)).toArray 31)).alloc (.cells (q.cells (.slice B m d)).toArray 31)) (w.heap.size + 1) q (.slice B m d)) := Lib.hid (Rec.new _ _ _ _ (by simp))
  by_cases hlen : n ≠ m
  · have HP : Hid (decide (p = q) = false) := Lib.hid (cfg_len (by rw [← hn, ← hm]; exact hlen))
    rw [HP.out]
    have hne : ((n : Int) != (m : Int)) = true := by rw [bne_iff_ne]; omega
    unfold Cfg.v
    clear hn hm hI hJ hb1 hlen
    go_enter Tryz.func22, Tryz.ntmps22
    go_wp2
    go_ret
    exact ⟨rfl, HB0.out⟩
  have hlen := Classical.not_not.1 hlen
  subst hlen
  unfold Cfg.v
  clear hn hm hI hJ hb1
  go_enter Tryz.func22, Tryz.ntmps22
  go_wp2
  go_loopw [5] (fun i wr => ∃ k : Nat, k ≤ n ∧ i = .int .i64 (k : Int) ∧ Hid (CfAt wr w.heap.size p (.slice A n c)) ∧ Hid (CfAt wr (w.heap.size + 1) q (.slice B n d)) ∧ Hid (Below w.heap.size w wr) ∧ Hid (∀ j, j < k → p.insts.getD j Ins.zero = q.insts.getD j Ins.zero)) (fun i _ => n - (intOf i).toNat)
  case atStart => exact ⟨0, Nat.zero_le _, rfl, HC0, HD0, HB0, Lib.hid (fun j hj => absurd hj (Nat.not_lt_zero j))⟩
  case round =>
    obtain ⟨k, hk, rfl, HC, HD, HB, HA⟩ := hrel
    obtain ⟨d0, d1, d2, d3, d4, d5, d6⟩ := HC.out.reads
    obtain ⟨e0, e1, e2, e3, e4, e5, e6⟩ := HD.out.reads
    by_cases hlt : k < n
    · have hkl : k < p.insts.length := by rw [← HN.out]; exact hlt
      have hkm : k < q.insts.length := by rw [← HM.out]; exact hlt
      obtain ⟨b, off, rfl, hcells⟩ := (HI.out.below HB.out) (by omega)
      obtain ⟨b', off', rfl, hcells'⟩ := (HJ.out.below HB.out) (by omega)
      obtain ⟨g0, g1, g2, g3⟩ := hcells k hkl
      obtain ⟨h0, h1, h2, h3⟩ := hcells' k hkm
      obtain ⟨x, hx⟩ : ∃ x, x = p.insts.getD k Ins.zero := ⟨_, rfl⟩
      obtain ⟨y, hy⟩ : ∃ y, y = q.insts.getD k Ins.zero := ⟨_, rfl⟩
      rw [← hx] at g0 g1 g2 g3
      rw [← hy] at h0 h1 h2 h3
      have HX := Lib.hid hx
      have HY := Lib.hid hy
      have heq : ∀ W : World, (binOp .neq 70 x.v y.v).run Tryz.prog W = .ok (.bool (!decide (x = y))) W := fun W => run_ins_ne x y W
      unfold Ins.v at heq
      clear hx hy hkl hkm hcells hcells' HC0 HD0 HB0
      by_cases hxy : x = y
      · have HXY := Lib.hid hxy
        rw [decide_eq_true hxy] at heq
        clear hxy
        go_wp2
        go_quiet (fail)
        go_wp2
        go_roundw
        case rel => exact ⟨k + 1, by omega, by go_num, Lib.hid (HC.out.keep (below_drewN (Below.refl _ _) _)), Lib.hid (HD.out.keep (below_drewN (Below.refl _ _) _)), Lib.hid (below_drewN HB.out _), Lib.hid (fun j hj => by
          rcases Nat.lt_or_ge j k with h | h
          · exact HA.out j h
          · obtain rfl : j = k := by omega
            rw [← HX.out, ← HY.out]; exact HXY.out)⟩
        case measure => simp [intOf]; omega
      · have HXY := Lib.hid hxy
        rw [decide_eq_false hxy] at heq
        clear hxy
        go_wp2
        go_quiet (fail)
        go_wp2
        go_ret
        exact ⟨by rw [cfg_ins (by rw [← HX.out, ← HY.out]; exact HXY.out)]; rfl, below_drewN HB.out _⟩
    · obtain rfl : k = n := by omega
      have hall := ins_all (by rw [← HN.out, ← HM.out]) (fun i hi => HA.out i (by rw [HN.out]; exact hi))
      rcases cfg_cases hall with ⟨q0, qf⟩ | ⟨q0, q1, qf⟩ | ⟨q0, q1, q2, qf⟩ | ⟨q0, q1, q2, q3, qf⟩ | ⟨q0, q1, q2, q3, q4, qf⟩ | ⟨q0, q1, q2, q3, q4, q5, qf⟩ | ⟨q0, q1, q2, q3, q4, q5, qf⟩
      · have HQ := Lib.hid qf
        have b0 : (p.skin == q.skin) = false := beq_eq_false_iff_ne.2 q0
        clear hall qf q0
        go_wp2
        go_ret
        exact ⟨by rw [HQ.out]; rfl, HB.out⟩
      · have HQ := Lib.hid qf
        have b0 : (p.skin == q.skin) = true := beq_iff_eq.2 q0
        have b1 : (p.times == q.times) = false := beq_eq_false_iff_ne.2 q1
        clear hall qf q0 q1
        go_wp2
        go_ret
        exact ⟨by rw [HQ.out]; rfl, HB.out⟩
      · have HQ := Lib.hid qf
        have b0 : (p.skin == q.skin) = true := beq_iff_eq.2 q0
        have b1 : (p.times == q.times) = true := beq_iff_eq.2 q1
        have b2 : (p.port == q.port) = false := beq_eq_false_iff_ne.2 q2
        clear hall qf q0 q1 q2
        go_wp2
        go_ret
        exact ⟨by rw [HQ.out]; rfl, HB.out⟩
      · have HQ := Lib.hid qf
        have b0 : (p.skin == q.skin) = true := beq_iff_eq.2 q0
        have b1 : (p.times == q.times) = true := beq_iff_eq.2 q1
        have b2 : (p.port == q.port) = true := beq_iff_eq.2 q2
        have b3 : (p.bid == q.bid) = false := beq_eq_false_iff_ne.2 q3
        clear hall qf q0 q1 q2 q3
        go_wp2
        go_ret
        exact ⟨by rw [HQ.out]; rfl, HB.out⟩
      · have HQ := Lib.hid qf
        have b0 : (p.skin == q.skin) = true := beq_iff_eq.2 q0
        have b1 : (p.times == q.times) = true := beq_iff_eq.2 q1
        have b2 : (p.port == q.port) = true := beq_iff_eq.2 q2
        have b3 : (p.bid == q.bid) = true := beq_iff_eq.2 q3
        have b4 : (p.lot == q.lot) = false := beq_eq_false_iff_ne.2 q4
        clear hall qf q0 q1 q2 q3 q4
        go_wp2
        go_ret
        exact ⟨by rw [HQ.out]; rfl, HB.out⟩
      · have HQ := Lib.hid qf
        have b0 : (p.skin == q.skin) = true := beq_iff_eq.2 q0
        have b1 : (p.times == q.times) = true := beq_iff_eq.2 q1
        have b2 : (p.port == q.port) = true := beq_iff_eq.2 q2
        have b3 : (p.bid == q.bid) = true := beq_iff_eq.2 q3
        have b4 : (p.lot == q.lot) = true := beq_iff_eq.2 q4
        have b5 : (p.hedge == q.hedge) = false := beq_eq_false_iff_ne.2 q5
        clear hall qf q0 q1 q2 q3 q4 q5
        go_wp2
        go_ret
        exact ⟨by rw [HQ.out]; rfl, HB.out⟩
      · have HQ := Lib.hid qf
        have b0 : (p.skin == q.skin) = true := beq_iff_eq.2 q0
        have b1 : (p.times == q.times) = true := beq_iff_eq.2 q1
        have b2 : (p.port == q.port) = true := beq_iff_eq.2 q2
        have b3 : (p.bid == q.bid) = true := beq_iff_eq.2 q3
        have b4 : (p.lot == q.lot) = true := beq_iff_eq.2 q4
        have b5 : (p.hedge == q.hedge) = true := beq_iff_eq.2 q5
        clear hall qf q0 q1 q2 q3 q4 q5
        go_wp2
        go_ret
        exact ⟨by rw [HQ.out]; rfl, HB.out⟩
theorem ints_all {a b : List Int} (hl : a.length = b.length) (h : ∀ i, i < a.length → a.getD i 0 = b.getD i 0) : a = b := by
  refine List.ext_getElem hl fun i h1 h2 => ?_
  have := h i h1
  rw [List.getD_eq_getElem?_getD, List.getElem?_eq_getElem h1, List.getD_eq_getElem?_getD, List.getElem?_eq_getElem h2] at this
  exact this
end Go.Proofs.YtmpipjangbedkaaGreat
