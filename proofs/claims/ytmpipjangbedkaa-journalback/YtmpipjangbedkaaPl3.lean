/-
  The walk of the reference's SamePlan.
-/
import Derived.Test.YtmpipjangbedkaaMDag
import Derived.Deep.QuietTactic
import Derived.BigQuiet
import Derived.WalkSmall
namespace Go.Proofs.Ytmpipjangbedkaa
set_option maxRecDepth 8000
open Go Go.RowKit
set_option linter.unusedVariables false

def Ins.v (x : Ins) : Value := .agg #[.int .i64 x.bucket, .int .i64 x.price, .int .i64 x.rate, .int .i64 x.slip]
theorem ins_eq (x y : Ins) : decide (x = y) = (decide (x.bucket = y.bucket) && (decide (x.price = y.price) && (decide (x.rate = y.rate) && decide (x.slip = y.slip)))) := by
  obtain ⟨a0, a1, a2, a3⟩ := x
  obtain ⟨b0, b1, b2, b3⟩ := y
  simp [Bool.decide_and]
set_option maxRecDepth 8000 in
set_option maxHeartbeats 1000000 in
theorem run_ins_ne (x y : Ins) (W : World) : (binOp .neq 61 x.v y.v).run Try.prog W = .ok (.bool (!decide (x = y))) W := by
  rw [ins_eq]
  unfold Ins.v
  simp [go_sem]
  repeat' split
  all_goals simp_all
theorem cfg_len {a b : Cfg} (h : a.insts.length ≠ b.insts.length) : decide (a = b) = false := decide_eq_false (fun e => h (by rw [e]))
theorem cfg_ins {a b : Cfg} {i : Nat} (h : a.insts.getD i Ins.zero ≠ b.insts.getD i Ins.zero) : decide (a = b) = false := decide_eq_false (fun e => h (by rw [e]))
theorem ins_all {a b : List Ins} (hl : a.length = b.length) (h : ∀ i, i < a.length → a.getD i Ins.zero = b.getD i Ins.zero) : a = b := by
  refine List.ext_getElem hl fun i h1 h2 => ?_
  have := h i h1
  rw [List.getD_eq_getElem?_getD, List.getElem?_eq_getElem h1, List.getD_eq_getElem?_getD, List.getElem?_eq_getElem h2] at this
  exact this
theorem cfg_cases {a b : Cfg} (h : a.insts = b.insts) : (a.skin ≠ b.skin ∧ decide (a = b) = false) ∨ (a.skin = b.skin ∧ a.times ≠ b.times ∧ decide (a = b) = false) ∨ (a.skin = b.skin ∧ a.times = b.times ∧ a.port ≠ b.port ∧ decide (a = b) = false) ∨ (a.skin = b.skin ∧ a.times = b.times ∧ a.port = b.port ∧ a.bid ≠ b.bid ∧ decide (a = b) = false) ∨ (a.skin = b.skin ∧ a.times = b.times ∧ a.port = b.port ∧ a.bid = b.bid ∧ a.lot ≠ b.lot ∧ decide (a = b) = false) ∨ (a.skin = b.skin ∧ a.times = b.times ∧ a.port = b.port ∧ a.bid = b.bid ∧ a.lot = b.lot ∧ a.hedge ≠ b.hedge ∧ decide (a = b) = false) ∨ (a.skin = b.skin ∧ a.times = b.times ∧ a.port = b.port ∧ a.bid = b.bid ∧ a.lot = b.lot ∧ a.hedge = b.hedge ∧ decide (a = b) = true) := by
  by_cases q0 : a.skin = b.skin
  · skip
    by_cases q1 : a.times = b.times
    · skip
      by_cases q2 : a.port = b.port
      · skip
        by_cases q3 : a.bid = b.bid
        · skip
          by_cases q4 : a.lot = b.lot
          · skip
            by_cases q5 : a.hedge = b.hedge
            · skip
              exact .inr (.inr (.inr (.inr (.inr (.inr (⟨q0, q1, q2, q3, q4, q5, decide_eq_true (by cases a; cases b; simp only at h q0 q1 q2 q3 q4 q5; subst h; subst q0; subst q1; subst q2; subst q3; subst q4; subst q5; rfl)⟩))))))
            · exact .inr (.inr (.inr (.inr (.inr (.inl ⟨q0, q1, q2, q3, q4, q5, decide_eq_false (fun e => q5 (by rw [e]))⟩)))))
          · exact .inr (.inr (.inr (.inr (.inl ⟨q0, q1, q2, q3, q4, decide_eq_false (fun e => q4 (by rw [e]))⟩))))
        · exact .inr (.inr (.inr (.inl ⟨q0, q1, q2, q3, decide_eq_false (fun e => q3 (by rw [e]))⟩)))
      · exact .inr (.inr (.inl ⟨q0, q1, q2, decide_eq_false (fun e => q2 (by rw [e]))⟩))
    · exact .inr (.inl ⟨q0, q1, decide_eq_false (fun e => q1 (by rw [e]))⟩)
  · exact .inl ⟨q0, decide_eq_false (fun e => q0 (by rw [e]))⟩
set_option maxRecDepth 8000 in
set_option maxHeartbeats 8000000 in
theorem rsame_any (p q : Cfg) (A B : Option Addr) (n m c d : Nat) (w : World) (hn : n = p.insts.length) (hm : m = q.insts.length) (hI : InsM w A p.insts) (hJ : InsM w B q.insts) (hl : n ≤ 1000000000) : Calls Try.prog 16 #[p.v (.slice A n c), q.v (.slice B m d)] w fun r w' => r = .returned (.bool (decide (p = q))) ∧ Below w.heap.size w w' := by
  have HN := Lib.hid hn
  have HM := Lib.hid hm
  have HI := Lib.hid hI
  have HJ := Lib.hid hJ
  have hb1 : Below w.heap.size w (w.alloc (.cells (p.cells (.slice A n c)).toArray 28)) := (Below.refl _ _).alloc (Nat.le_refl _) _
  have HB0 : Hid (Below w.heap.size w ((w.alloc (.cells (p.cells (.slice A n c)).toArray 28)).alloc (.cells (q.cells (.slice B m d)).toArray 28))) := Lib.hid (hb1.alloc hb1.size _)
  have HC0 : Hid (CfAt ((w.alloc (.cells (p.cells (.slice A n c)).toArray 28)).alloc (.cells (q.cells (.slice B m d)).toArray 28)) w.heap.size p (.slice A n c)) := Lib.hid ((show CfAt (w.alloc (.cells (p.cells (.slice A n c)).toArray 28)) w.heap.size p (.slice A n c) from Rec.new w _ (p.cells (.slice A n c)) _ rfl).keep ((Below.refl _ _).alloc (Nat.le_refl _) _))
  have HD0 : Hid (CfAt ((w.alloc (.cells (p.cells (.slice A n c)).toArray 28)).alloc (.cells (q.cells (.slice B m d)).toArray 28)) (w.heap.size + 1) q (.slice B m d)) := Lib.hid (Rec.new _ _ _ _ (by simp))
  by_cases hlen : n ≠ m
  · have HP : Hid (decide (p = q) = false) := Lib.hid (cfg_len (by rw [← hn, ← hm]; exact hlen))
    rw [HP.out]
    have hne : ((n : Int) != (m : Int)) = true := by rw [bne_iff_ne]; omega
    unfold Cfg.v
    clear hn hm hI hJ hb1 hlen
    go_enter Try.func16, Try.ntmps16
    go_wp2
    go_ret
    exact ⟨rfl, HB0.out⟩
  have hlen := Classical.not_not.1 hlen
  subst hlen
  unfold Cfg.v
  clear hn hm hI hJ hb1
  go_enter Try.func16, Try.ntmps16
  go_wp2
  go_loopw [5] (fun i wr => ∃ k : Nat, k ≤ n ∧ i = .int .i64 (k : Int) ∧ Hid (CfAt wr w.heap.size p (.slice A n c)) ∧ Hid (CfAt wr (w.heap.size + 1) q (.slice B n d)) ∧ Hid (Below w.heap.size w wr) ∧ Hid (∀ j, j < k → p.insts.getD j Ins.zero = q.insts.getD j Ins.zero)) (fun i _ => n - (intOf i).toNat)
  case atStart => exact ⟨0, Nat.zero_le _, rfl, HC0, HD0, HB0, Lib.hid (fun j hj => absurd hj (Nat.not_lt_zero j))⟩
  case round =>
    obtain ⟨k, hk, rfl, HC, HD, HB, HA⟩ := hrel
    obtain ⟨d0, d1, d2, d3, d4, d5, d6⟩ := HC.out.reads
    obtain ⟨e0, e1, e2, e3, e4, e5, e6⟩ := HD.out.reads
    by_cases hlt : k < n
    · have hkl : k < p.insts.length := by rw [← HN.out]; exact hlt
      have hkm : k < q.insts.length := by rw [← HM.out]; exact hlt
      obtain ⟨b, off, rfl, hcells⟩ := (HI.out.below HB.out) (by omega)
      obtain ⟨b', off', rfl, hcells'⟩ := (HJ.out.below HB.out) (by omega)
      obtain ⟨g0, g1, g2, g3⟩ := hcells k hkl
      obtain ⟨h0, h1, h2, h3⟩ := hcells' k hkm
      obtain ⟨x, hx⟩ : ∃ x, x = p.insts.getD k Ins.zero := ⟨_, rfl⟩
      obtain ⟨y, hy⟩ : ∃ y, y = q.insts.getD k Ins.zero := ⟨_, rfl⟩
      rw [← hx] at g0 g1 g2 g3
      rw [← hy] at h0 h1 h2 h3
      have HX := Lib.hid hx
      have HY := Lib.hid hy
      have heq : ∀ W : World, (binOp .neq 61 x.v y.v).run Try.prog W = .ok (.bool (!decide (x = y))) W := fun W => run_ins_ne x y W
      unfold Ins.v at heq
      clear hx hy hkl hkm hcells hcells' HC0 HD0 HB0
      by_cases hxy : x = y
      · have HXY := Lib.hid hxy
        rw [decide_eq_true hxy] at heq
        clear hxy
        go_wp2
        go_quiet (fail)
        go_wp2
        go_roundw
        case rel => exact ⟨k + 1, by omega, by go_num, Lib.hid (HC.out.keep (below_drewN (Below.refl _ _) _)), Lib.hid (HD.out.keep (below_drewN (Below.refl _ _) _)), Lib.hid (below_drewN HB.out _), Lib.hid (fun j hj => by
          rcases Nat.lt_or_ge j k with h | h
          · exact HA.out j h
          · obtain rfl : j = k := by omega
            rw [← HX.out, ← HY.out]; exact HXY.out)⟩
        case measure => simp [intOf]; omega
      · have HXY := Lib.hid hxy
        rw [decide_eq_false hxy] at heq
        clear hxy
        go_wp2
        go_quiet (fail)
        go_wp2
        go_ret
        exact ⟨by rw [cfg_ins (by rw [← HX.out, ← HY.out]; exact HXY.out)]; rfl, below_drewN HB.out _⟩
    · obtain rfl : k = n := by omega
      have hall := ins_all (by rw [← HN.out, ← HM.out]) (fun i hi => HA.out i (by rw [HN.out]; exact hi))
      rcases cfg_cases hall with ⟨q0, qf⟩ | ⟨q0, q1, qf⟩ | ⟨q0, q1, q2, qf⟩ | ⟨q0, q1, q2, q3, qf⟩ | ⟨q0, q1, q2, q3, q4, qf⟩ | ⟨q0, q1, q2, q3, q4, q5, qf⟩ | ⟨q0, q1, q2, q3, q4, q5, qf⟩
      · have HQ := Lib.hid qf
        have b0 : (p.skin == q.skin) = false := beq_eq_false_iff_ne.2 q0
        clear hall qf q0
        go_wp2
        go_ret
        exact ⟨by rw [HQ.out]; rfl, HB.out⟩
      · have HQ := Lib.hid qf
        have b0 : (p.skin == q.skin) = true := beq_iff_eq.2 q0
        have b1 : (p.times == q.times) = false := beq_eq_false_iff_ne.2 q1
        clear hall qf q0 q1
        go_wp2
        go_ret
        exact ⟨by rw [HQ.out]; rfl, HB.out⟩
      · have HQ := Lib.hid qf
        have b0 : (p.skin == q.skin) = true := beq_iff_eq.2 q0
        have b1 : (p.times == q.times) = true := beq_iff_eq.2 q1
        have b2 : (p.port == q.port) = false := beq_eq_false_iff_ne.2 q2
        clear hall qf q0 q1 q2
        go_wp2
        go_ret
        exact ⟨by rw [HQ.out]; rfl, HB.out⟩
      · have HQ := Lib.hid qf
        have b0 : (p.skin == q.skin) = true := beq_iff_eq.2 q0
        have b1 : (p.times == q.times) = true := beq_iff_eq.2 q1
        have b2 : (p.port == q.port) = true := beq_iff_eq.2 q2
        have b3 : (p.bid == q.bid) = false := beq_eq_false_iff_ne.2 q3
        clear hall qf q0 q1 q2 q3
        go_wp2
        go_ret
        exact ⟨by rw [HQ.out]; rfl, HB.out⟩
      · have HQ := Lib.hid qf
        have b0 : (p.skin == q.skin) = true := beq_iff_eq.2 q0
        have b1 : (p.times == q.times) = true := beq_iff_eq.2 q1
        have b2 : (p.port == q.port) = true := beq_iff_eq.2 q2
        have b3 : (p.bid == q.bid) = true := beq_iff_eq.2 q3
        have b4 : (p.lot == q.lot) = false := beq_eq_false_iff_ne.2 q4
        clear hall qf q0 q1 q2 q3 q4
        go_wp2
        go_ret
        exact ⟨by rw [HQ.out]; rfl, HB.out⟩
      · have HQ := Lib.hid qf
        have b0 : (p.skin == q.skin) = true := beq_iff_eq.2 q0
        have b1 : (p.times == q.times) = true := beq_iff_eq.2 q1
        have b2 : (p.port == q.port) = true := beq_iff_eq.2 q2
        have b3 : (p.bid == q.bid) = true := beq_iff_eq.2 q3
        have b4 : (p.lot == q.lot) = true := beq_iff_eq.2 q4
        have b5 : (p.hedge == q.hedge) = false := beq_eq_false_iff_ne.2 q5
        clear hall qf q0 q1 q2 q3 q4 q5
        go_wp2
        go_ret
        exact ⟨by rw [HQ.out]; rfl, HB.out⟩
      · have HQ := Lib.hid qf
        have b0 : (p.skin == q.skin) = true := beq_iff_eq.2 q0
        have b1 : (p.times == q.times) = true := beq_iff_eq.2 q1
        have b2 : (p.port == q.port) = true := beq_iff_eq.2 q2
        have b3 : (p.bid == q.bid) = true := beq_iff_eq.2 q3
        have b4 : (p.lot == q.lot) = true := beq_iff_eq.2 q4
        have b5 : (p.hedge == q.hedge) = true := beq_iff_eq.2 q5
        clear hall qf q0 q1 q2 q3 q4 q5
        go_wp2
        go_ret
        exact ⟨by rw [HQ.out]; rfl, HB.out⟩
theorem ints_all {a b : List Int} (hl : a.length = b.length) (h : ∀ i, i < a.length → a.getD i 0 = b.getD i 0) : a = b := by
  refine List.ext_getElem hl fun i h1 h2 => ?_
  have := h i h1
  rw [List.getD_eq_getElem?_getD, List.getElem?_eq_getElem h1, List.getD_eq_getElem?_getD, List.getElem?_eq_getElem h2] at this
  exact this
end Go.Proofs.Ytmpipjangbedkaa
