/-
  The walk of novationlaw7.PlanReads.
-/
import Derived.Test.YtldceocbmmidmaaKnown7
namespace Go.Proofs.Ytldceocbmmidmaa
open Go Go.RowKit
set_option linter.unusedVariables false

set_option maxRecDepth 100000 in
set_option maxHeartbeats 4000000 in
theorem preads_walk (A : Option Addr) (b : List Nat) (c n : Nat) (w : World) (hn : n = b.length) (hB : Byts w A b) (hO : Oct b) (hl : n ≤ 9223372036854775807) (hcl : n ≤ c) :
    Calls Try.prog 5 #[.slice A n c] w fun e w' => e = .returned (.bool true) ∧ Below w.heap.size w w' := by
  have CK := Lib.hid (known_any w)
  by_cases h : 300 < n
  · clear hB hO hcl hn
    go_enter Try.func5, Try.ntmps5
    go_wp2_with (go_at_call 8; refine CK.out.mono ?_; rintro e w1 ⟨rfl, HB⟩)
    go_ret
    exact ⟨rfl, HB⟩
  · obtain ⟨g, hg⟩ : ∃ g, g = (readP b).getD Cfg.zero := ⟨_, rfl⟩
    obtain ⟨k, hk⟩ : ∃ k : Int, k = (if (readP b).isSome then 0 else 13) := ⟨_, rfl⟩
    have CR : Hid (∀ W, Below w.heap.size w W → Calls Try.prog 20 #[.slice A n c] W fun e w' => ∃ A' m c', m = g.insts.length ∧ e = .returned (.tuple #[g.v (.slice A' m c'), .int .i64 k]) ∧ InsM w' A' g.insts ∧ Below W.heap.size W w') := Lib.hid (fun W hb => by
      refine (preadplan_any A b n c W hn (hB.below hb) hO (by omega) hcl).mono fun e w' hp => ?_
      obtain ⟨A', m, c', hm, he, hi, hb'⟩ := planK_form hp
      rw [← hg] at hm he hi
      rw [← hk] at he
      exact ⟨A', m, c', hm, he, own_insM hi, hb'⟩)
    have CQ : Hid (∀ W, Below w.heap.size w W → Calls Try.prog 21 #[.slice A n c] W fun e w' => ∃ A' m c', m = g.insts.length ∧ e = .returned (.tuple #[g.v (.slice A' m c'), .int .i64 k]) ∧ InsM w' A' g.insts ∧ Below W.heap.size W w') := Lib.hid (fun W hb => by
      subst hn
      refine (rreadplan_any A b c W (hB.below hb) hO (by omega)).mono fun e w' hp => ?_
      obtain ⟨A', m, c', hm, he, hi, hb'⟩ := planK_form hp
      rw [← hg] at hm he hi
      rw [← hk] at he
      exact ⟨A', m, c', hm, he, own_insM hi, hb'⟩)
    have HL6 : Hid (g.insts.length ≤ 6) := Lib.hid (by
      rw [hg]
      cases hr : readP b with
      | none => exact Nat.zero_le _
      | some c' => exact (plan_len6 (readP_is hO hr).2.1).2)
    have CS : Hid (∀ A1 m1 c1 A2 m2 c2 W, m1 = g.insts.length → m2 = g.insts.length → InsM W A1 g.insts → InsM W A2 g.insts → Calls Try.prog 14 #[g.v (.slice A1 m1 c1), g.v (.slice A2 m2 c2)] W fun r w' => r = .returned (.bool true) ∧ Below W.heap.size W w') := Lib.hid (fun A1 m1 c1 A2 m2 c2 W h1 h2 h3 h4 => by
      have := rsame_any g g A1 A2 m1 m2 c1 c2 W h1 h2 h3 h4 (by have := HL6.out; omega)
      rw [decide_eq_true (rfl : g = g)] at this
      exact this)
    have hkk : (k == k) = true := by simp
    clear hB hO hcl hn hg hk
    unfold Cfg.v at CR CQ CS
    go_enter Try.func5, Try.ntmps5
    go_wp2_with (first
      | (go_at_call 8; (with_reducible refine CK.out.mono ?_); rintro e w1 ⟨rfl, hb⟩; have HB := Lib.hid hb; clear hb)
      | (go_at_call 20; (with_reducible refine (CR.out _ HB.out).mono ?_); rintro r w2 ⟨A2, m2, c2, hm2, rfl, hi2, hb2⟩; have hb3 : Below w2.heap.size w2 (w2.alloc (.cells #[.slice A2 m2 c2, .int .i64 g.skin, .int .i64 g.times, .int .i64 g.port, .int .i64 g.bid, .int .i64 g.lot, .int .i64 g.hedge] 24)) := (Below.refl _ _).alloc (Nat.le_refl _) _; have H3 : Hid (CfAt (w2.alloc (.cells #[.slice A2 m2 c2, .int .i64 g.skin, .int .i64 g.times, .int .i64 g.port, .int .i64 g.bid, .int .i64 g.lot, .int .i64 g.hedge] 24)) w2.heap.size g (.slice A2 m2 c2)) := Lib.hid (Rec.new w2 _ (g.cells (.slice A2 m2 c2)) _ rfl); have I3 := Lib.hid (hi2.below hb3); have hb4 := HB.out.trans (hb2.mono HB.out.size); have HB3 := Lib.hid (hb4.trans (hb3.mono hb4.size)); have HM2 := Lib.hid hm2; clear hi2 hb2 hb3 hb4 hm2)
      | (go_at_call 21; (with_reducible refine (CQ.out _ HB3.out).mono ?_); rintro r w4 ⟨A4, m4, c4, hm4, rfl, hi4, hb4⟩; have hb5 : Below w4.heap.size w4 (w4.alloc (.cells #[.slice A4 m4 c4, .int .i64 g.skin, .int .i64 g.times, .int .i64 g.port, .int .i64 g.bid, .int .i64 g.lot, .int .i64 g.hedge] 24)) := (Below.refl _ _).alloc (Nat.le_refl _) _; have H5 : Hid (CfAt (w4.alloc (.cells #[.slice A4 m4 c4, .int .i64 g.skin, .int .i64 g.times, .int .i64 g.port, .int .i64 g.bid, .int .i64 g.lot, .int .i64 g.hedge] 24)) w4.heap.size g (.slice A4 m4 c4)) := Lib.hid (Rec.new w4 _ (g.cells (.slice A4 m4 c4)) _ rfl); have I5 := Lib.hid (hi4.below hb5); have hb6 := hb4.trans (hb5.mono hb4.size); have HB5 := Lib.hid (HB3.out.trans (hb6.mono HB3.out.size)); have H6 := Lib.hid (CfAt.keep H3.out hb6); have I6 := Lib.hid (I3.out.below hb6); have CS1 := Lib.hid (CS.out A2 m2 c2 A4 m4 c4 _ HM2.out hm4 I6.out I5.out); obtain ⟨a0, a1, a2, a3, a4, a5, a6⟩ := H6.out.reads; obtain ⟨e0, e1, e2, e3, e4, e5, e6⟩ := H5.out.reads; clear hi4 hb4 hb5 hb6 hm4)
      | (go_at_call 14; (with_reducible refine CS1.out.mono ?_); rintro r w7 ⟨rfl, hb7⟩; have HB7 := Lib.hid (HB5.out.trans (hb7.mono HB5.out.size)); clear hb7))
    go_ret
    exact ⟨rfl, HB7.out⟩
end Go.Proofs.Ytldceocbmmidmaa
