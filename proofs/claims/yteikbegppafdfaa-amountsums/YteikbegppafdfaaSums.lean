/-
  The walk of the law AmountSums.
-/
import Derived.Test.YteikbegppafdfaaRef1f
import Derived.Test.YteikbegppafdfaaBack
namespace Go.Proofs.Yteikbegppafdfaa
open Go.RowKit

set_option maxHeartbeats 1000000 in
theorem sums_walk (A : Option Addr) (l : List Int) (cap : Nat) (w : World) (hr : Ints w .i64 A l) (hl : ∀ x ∈ l, I64 x) (hn : l.length ≤ 9223372036854775807) :
    Calls Try.prog 4 #[.slice A l.length cap] w fun e w' => e = .returned (.bool true) ∧ Below w.heap.size w w' := by
  have c0 := Lib.hid known_any
  by_cases h60 : 60 < l.length
  · have hd : decide ((60 : Int) < (l.length : Int)) = true := by simp; omega
    clear hl hr
    go_enter Try.func4, Try.ntmps4
    go_wp2_with (go_at_call 7; refine (c0.out _).mono ?_; rintro e w1 ⟨rfl, hw1⟩)
    go_ret
    exact ⟨rfl, hw1⟩
  have hd : decide ((60 : Int) < (l.length : Int)) = false := by simp; omega
  have CS : Hid (∀ W, Below w.heap.size w W → Calls Try.prog 19 #[.slice A l.length cap] W fun e w' => e = .returned (.tuple #[.int .i64 (held l.sum), .bool (fits l.sum)]) ∧ W = w') := Lib.hid fun W hW => sum_any A l cap W (hr.below hW) hl hn
  have CI : Hid (∀ W, Below w.heap.size w W → Calls Try.prog 21 #[.slice A l.length cap] W fun e w' => ∃ v, e = .returned v ∧ BigV w' v l.sum (l.length + 2) ∧ Below w.heap.size w w') := Lib.hid fun W hW => by
    refine (sumInts_any A l cap W (hr.below hW) hl (by omega)).mono ?_
    rintro e w1 ⟨v, rfl, hV, hb⟩
    exact ⟨v, rfl, hV, hW.trans (hb.mono hW.size)⟩
  have CT : Hid (∀ W v, BigV W v l.sum (l.length + 2) → Below w.heap.size w W → Calls Try.prog 13 #[.int .i64 (held l.sum), .bool (fits l.sum), v] W fun e w' => e = .returned (.bool true) ∧ Below w.heap.size w w') := Lib.hid fun W v hV hW => by
    refine (told_any l.sum v _ W hV).mono ?_
    rintro e w1 ⟨rfl, hb⟩
    exact ⟨rfl, hW.trans (hb.mono hW.size)⟩
  by_cases h0 : l.length = 0
  · have CL : Hid (∀ W, Calls Try.prog 20 #[.slice A 0 cap] W fun e w' => e = .returned (.tuple #[.int .i64 0, .bool false]) ∧ W = w') := Lib.hid fun W => least_none A cap W
    rw [h0] at CS CI CT ⊢
    generalize held l.sum = hs at *
    generalize fits l.sum = fs at *
    generalize l.sum = sm at *
    clear hl hr h0 hd hn h60
    go_enter Try.func4, Try.ntmps4
    go_wp2_with (first
      | (go_at_call 7; refine (c0.out _).mono ?_; rintro e w1 ⟨rfl, hw1⟩; have HW1 := Lib.hid hw1; clear hw1)
      | (go_at_call 19; refine (CS.out _ HW1.out).mono ?_; rintro e w' ⟨rfl, rfl⟩)
      | (go_at_call 20; refine (CL.out _).mono ?_; rintro e w' ⟨rfl, rfl⟩)
      | (go_at_call 21; refine (CI.out _ HW1.out).mono ?_; rintro e w2 ⟨v, rfl, hV, hw2⟩; have HV := Lib.hid hV; have HW2 := Lib.hid hw2; clear hV hw2)
      | (go_at_call 13; refine (CT.out _ _ HV.out HW2.out).mono ?_; rintro e w3 ⟨rfl, hw3⟩; have HW3 := Lib.hid hw3; clear hw3))
    go_ret
    exact ⟨rfl, HW3.out⟩
  · have CL : Hid (∀ W, Below w.heap.size w W → Calls Try.prog 20 #[.slice A l.length cap] W (LeastAt l W)) := Lib.hid fun W hW => least_some A l cap W (hr.below hW) (by omega) hn
    have HR := Lib.hid hr
    have hgt : decide ((0 : Int) < (l.length : Int)) = true := by simp; omega
    have hgt2 : decide (0 < l.length) = true := by simp; omega
    generalize held l.sum = hs at *
    generalize fits l.sum = fs at *
    generalize l.sum = sm at *
    clear hl hr
    go_enter Try.func4, Try.ntmps4
    go_wp2_with (first
      | (go_at_call 7; refine (c0.out _).mono ?_; rintro e w1 ⟨rfl, hw1⟩; have HW1 := Lib.hid hw1; clear hw1)
      | (go_at_call 19; refine (CS.out _ HW1.out).mono ?_; rintro e w' ⟨rfl, rfl⟩)
      | (go_at_call 20; refine (CL.out _ HW1.out).mono ?_; rintro e w' ⟨⟨k, hk1, hk2, hk3, rfl⟩, rfl⟩; have HK2 := Lib.hid hk2; have HK3 := Lib.hid hk3; clear hk2 hk3; have hk4 : decide ((k : Int) < 0) = false := (by simp); have hk5 : decide (l.length ≤ k) = false := (by simp; omega))
      | (go_at_call 21; refine (CI.out _ HW1.out).mono ?_; rintro e w2 ⟨v, rfl, hV, hw2⟩; have HV := Lib.hid hV; have HW2 := Lib.hid hw2; clear hV hw2)
      | (go_at_call 13; refine (CT.out _ _ HV.out HW2.out).mono ?_; rintro e w3 ⟨rfl, hw3⟩; have HW3 := Lib.hid hw3; clear hw3))
    go_loopw [7] (fun i wr => ∃ m : Nat, m ≤ l.length ∧ i = .int .i64 m ∧ Hid (Below w.heap.size w wr)) (fun i _ => l.length - (intOf i).toNat)
    case atStart => exact ⟨0, Nat.zero_le _, rfl, HW3⟩
    case round =>
      obtain ⟨m, hm, rfl, HB⟩ := hrel
      by_cases hlt : m < l.length
      · obtain ⟨b, off, rfl, hc⟩ := HR.out.below HB.out (by omega)
        have q1 := hc m hlt
        have q2 := hc k hk1
        have p1 := HK2.out m hlt
        have p2 := HK3.out m
        generalize l.getD m 0 = x at *
        generalize l.getD k 0 = y at *
        have d1 : decide (x < y) = false := by simp; omega
        clear hc
        by_cases hmk : m < k
        · have d2 : decide (m < k) = true := by simp; omega
          have d3 : (x == y) = false := beq_eq_false_iff_ne.2 (by have := p2 hmk; omega)
          clear p1 p2
          go_wp2
          go_quiet (fail)
          go_wp2
          go_roundw
          case rel => exact ⟨m + 1, by omega, by go_num, Lib.hid (below_drewN HB.out _)⟩
          case measure => simp [intOf]; omega
        · have d2 : decide (m < k) = false := by simp; omega
          clear p1 p2
          go_wp2
          go_quiet (fail)
          go_wp2
          go_roundw
          case rel => exact ⟨m + 1, by omega, by go_num, Lib.hid (below_drewN HB.out _)⟩
          case measure => simp [intOf]; omega
      · go_wp2
        go_ret
        exact ⟨rfl, HB.out⟩

theorem sums_law (A : Option Addr) (len cap : Nat) (zs : List Int) (w : World)
    (h : (A = none ∧ len = 0 ∧ cap = 0 ∧ zs = []) ∨
      ∃ x, A = some x ∧ len ≤ cap ∧ cap ≤ maxLen ∧ zs.length = cap ∧ (∀ i, i < zs.length → w.cell? (x.add i) = some (.int .i64 (zs.getD i 0))) ∧ ∀ n ∈ zs, (Lit.int .i64 n).wf = true) :
    Calls Try.prog 4 #[.slice A len cap] w fun e w' => e = .returned (.bool true) ∧ Below w.heap.size w w' := by
  obtain ⟨l, rfl, hr, hn, hl⟩ := row_ints h
  exact sums_walk A l cap w hr (fun x hx => wf_i64 (hl x hx)) hn
end Go.Proofs.Yteikbegppafdfaa
