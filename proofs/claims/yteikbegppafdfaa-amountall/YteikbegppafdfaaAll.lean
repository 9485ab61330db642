/-
  The walk of the law AmountAll.
-/
import Derived.Test.YteikbegppafdfaaRef1g
import Derived.Test.YteikbegppafdfaaBack
namespace Go.Proofs.Yteikbegppafdfaa
open Go.RowKit

/-- Two Bigs in structs of their own: what the law keeps. -/
def AllS (w : World) (bx bY : Nat) (nx : Bool) (X : Option Addr) (lx cx : Nat) (ny : Bool) (Y : Option Addr) (ly cy : Nat) (a b : Int) (W : World) : Prop :=
  Box2 W bx (.bool nx) (.slice X lx cx) ∧ Box2 W bY (.bool ny) (.slice Y ly cy) ∧ BigV W (.agg #[.bool nx, .slice X lx cx]) a 2 ∧ BigV W (.agg #[.bool ny, .slice Y ly cy]) b 2 ∧ Below w.heap.size w W
theorem AllS.below {w w1 w2 : World} {bx bY : Nat} {nx : Bool} {X : Option Addr} {lx cx : Nat} {ny : Bool} {Y : Option Addr} {ly cy : Nat} {a b : Int} (h : AllS w bx bY nx X lx cx ny Y ly cy a b w1) (hb : Below w1.heap.size w1 w2) : AllS w bx bY nx X lx cx ny Y ly cy a b w2 := by
  obtain ⟨h1, h2, h3, h4, h5⟩ := h
  exact ⟨h1.below hb, h2.below hb, h3.below hb, h4.below hb, h5.trans (hb.mono h5.size)⟩

theorem all_plus {w W : World} {bx bY : Nat} {nx : Bool} {X : Option Addr} {lx cx : Nat} {ny : Bool} {Y : Option Addr} {ly cy : Nat} {a b : Int} (h : AllS w bx bY nx X lx cx ny Y ly cy a b W) :
    Calls Try.prog 14 #[.agg #[.bool nx, .slice X lx cx], .agg #[.bool ny, .slice Y ly cy]] W fun e w1 => ∃ v, e = .returned v ∧ BigV w1 v (a + b) (2 + 1) ∧ AllS w bx bY nx X lx cx ny Y ly cy a b w1 := by
  refine (plus_any _ _ _ _ 2 W h.2.2.1 h.2.2.2.1 (by omega)).mono ?_
  rintro e w1 ⟨v, rfl, hV, hb⟩
  exact ⟨v, rfl, hV, h.below hb⟩
theorem all_less {w W : World} {bx bY : Nat} {nx : Bool} {X : Option Addr} {lx cx : Nat} {ny : Bool} {Y : Option Addr} {ly cy : Nat} {a b : Int} (h : AllS w bx bY nx X lx cx ny Y ly cy a b W) :
    Calls Try.prog 15 #[.agg #[.bool nx, .slice X lx cx], .agg #[.bool ny, .slice Y ly cy]] W fun e w1 => ∃ v, e = .returned v ∧ BigV w1 v (a - b) (2 + 1) ∧ AllS w bx bY nx X lx cx ny Y ly cy a b w1 := by
  refine (less_any _ _ _ _ 2 W h.2.2.1 h.2.2.2.1 (by omega)).mono ?_
  rintro e w1 ⟨v, rfl, hV, hb⟩
  exact ⟨v, rfl, hV, h.below hb⟩
theorem all_times {w W : World} {bx bY : Nat} {nx : Bool} {X : Option Addr} {lx cx : Nat} {ny : Bool} {Y : Option Addr} {ly cy : Nat} {a b : Int} (h : AllS w bx bY nx X lx cx ny Y ly cy a b W) :
    Calls Try.prog 16 #[.agg #[.bool nx, .slice X lx cx], .agg #[.bool ny, .slice Y ly cy]] W fun e w1 => ∃ v, e = .returned v ∧ BigV w1 v (a * b) (2 * 2 + 1) ∧ AllS w bx bY nx X lx cx ny Y ly cy a b w1 := by
  refine (times_any _ _ _ _ 2 W h.2.2.1 h.2.2.2.1 (by omega)).mono ?_
  rintro e w1 ⟨v, rfl, hV, hb⟩
  exact ⟨v, rfl, hV, h.below hb⟩
theorem all_turned {w W : World} {bx bY : Nat} {nx : Bool} {X : Option Addr} {lx cx : Nat} {ny : Bool} {Y : Option Addr} {ly cy : Nat} {a b : Int} (h : AllS w bx bY nx X lx cx ny Y ly cy a b W) :
    Calls Try.prog 17 #[.agg #[.bool nx, .slice X lx cx]] W fun e w1 => ∃ v, e = .returned v ∧ BigV w1 v (-a) (2) ∧ AllS w bx bY nx X lx cx ny Y ly cy a b w1 := by
  refine (turned_any _ _ 2 W h.2.2.1).mono ?_
  rintro e w1 ⟨v, rfl, hV, hb⟩
  exact ⟨v, rfl, hV, h.below hb⟩
theorem all_told {w W : World} {bx bY : Nat} {nx : Bool} {X : Option Addr} {lx cx : Nat} {ny : Bool} {Y : Option Addr} {ly cy : Nat} {a b : Int} (h : AllS w bx bY nx X lx cx ny Y ly cy a b W) {x : Int} {v : Value} {n : Nat} (hV : BigV W v x n) :
    Calls Try.prog 13 #[.int .i64 (held x), .bool (fits x), v] W fun e w1 => e = .returned (.bool true) ∧ AllS w bx bY nx X lx cx ny Y ly cy a b w1 := by
  refine (told_any x v n W hV).mono ?_
  rintro e w1 ⟨rfl, hb⟩
  exact ⟨rfl, h.below hb⟩

set_option maxHeartbeats 2000000 in
theorem all_walk (a b : Int) (w0 : (Lit.int .i64 a).wf = true) (w1 : (Lit.int .i64 b).wf = true) (w : World) :
    Calls Try.prog 3 #[.int .i64 a, .int .i64 b] w fun e w' => e = .returned (.bool true) ∧ Below w.heap.size w w' := by
  have ha := wf_i64 w0
  have hb := wf_i64 w1
  have c0 := Lib.hid known_any
  have c1 := Lib.hid (add_any a b ha hb)
  have c2 := Lib.hid (sub_any a b ha hb)
  have c3 := Lib.hid (mul_any a b ha hb)
  have c4 := Lib.hid (neg_any a ha)
  have c5 := Lib.hid (size_any a ha)
  have cw : Hid (∀ (x : Int) W, I64 x → Below w.heap.size w W → Calls Try.prog 8 #[.int .i64 x] W fun e w1 => ∃ (ng : Bool) (A2 : Option Addr) (n2 c3 : Nat), e = .returned (.agg #[.bool ng, .slice A2 n2 c3]) ∧ BigV w1 (.agg #[.bool ng, .slice A2 n2 c3]) x 2 ∧ Below W.heap.size W w1 ∧ Below w.heap.size w w1) := Lib.hid fun x W hx hW => by
    refine (whole_any x hx W).mono ?_
    rintro e w1 ⟨v, rfl, hV, hb⟩
    obtain ⟨ng, A2, n2, c3, rfl⟩ := hV.form
    exact ⟨ng, A2, n2, c3, rfl, hV, hb, hW.trans (hb.mono hW.size)⟩
  have HA := Lib.hid ha
  have HB := Lib.hid hb
  unfold I64 at ha hb
  clear hb w0 w1
  have hu : a < 0 → IntKind.u64.wrap (-IntKind.u64.wrap a) = (a.natAbs : Int) := fun h => by rw [IntKind.wrap_u64, IntKind.wrap_u64]; omega
  have hu2 : 0 ≤ a → IntKind.u64.wrap a = (a.natAbs : Int) := fun h => by rw [IntKind.wrap_u64]; omega
  generalize (a.natAbs : Int) = sz at *
  go_enter Try.func3, Try.ntmps3
  go_wp2_with (go_at_call 7; refine (c0.out _).mono ?_; rintro e w1 ⟨rfl, hw1⟩; have HW1 := Lib.hid hw1; clear hw1)
  refine (cw.out a _ HA.out HW1.out).mono ?_
  rintro e w2 ⟨nx, X, lx, cx, rfl, hVx, -, hw2⟩
  have HVX := Lib.hid hVx
  have HW2 := Lib.hid hw2
  clear hVx hw2
  go_wp2_with fail
  refine (cw.out b _ HB.out HW2.out).mono ?_
  rintro e w3 ⟨ny, Y, ly, cy, rfl, hVy, hb3, hw3⟩
  have hS : AllS w w3.heap.size (w3.heap.size + 1) nx X lx cx ny Y ly cy a b ((w3.alloc (.cells #[.bool nx, .slice X lx cx] 25)).alloc (.cells #[.bool ny, .slice Y ly cy] 25)) := by
    have k1 : Below w3.heap.size w3 ((w3.alloc (.cells #[.bool nx, .slice X lx cx] 25)).alloc (.cells #[.bool ny, .slice Y ly cy] 25)) := ((Below.refl _ _).alloc (Nat.le_refl _) _).alloc (by simp) _
    exact ⟨(Box2.new w3 _ _ _ _ rfl).alloc _, Box2.new _ _ _ _ _ (by simp), (HVX.out.below hb3).below k1, hVy.below k1, hw3.trans (k1.mono hw3.size)⟩
  have HS := Lib.hid hS
  clear hS hVy hb3 hw3
  go_wp2_with (first
    | (go_at_call 9; refine (c1.out _).mono ?_; rintro e w' ⟨rfl, rfl⟩)
    | (go_at_call 10; refine (c2.out _).mono ?_; rintro e w' ⟨rfl, rfl⟩)
    | (go_at_call 11; refine (c3.out _).mono ?_; rintro e w' ⟨rfl, rfl⟩)
    | (go_at_call 12; refine (c4.out _).mono ?_; rintro e w' ⟨rfl, rfl⟩))
  all_goals
    go_wp2_with (first
      | (go_at_call 14; refine (all_plus HS.out).mono ?_; rintro e w4 ⟨v, rfl, hV, hS⟩; have HV := Lib.hid hV; have HS := Lib.hid hS; clear hV; obtain ⟨g0, g1, -, -⟩ := hS.1; obtain ⟨g2, g3, -, -⟩ := hS.2.1; clear hS)
      | (go_at_call 15; refine (all_less HS.out).mono ?_; rintro e w4 ⟨v, rfl, hV, hS⟩; have HV := Lib.hid hV; have HS := Lib.hid hS; clear hV; obtain ⟨g0, g1, -, -⟩ := hS.1; obtain ⟨g2, g3, -, -⟩ := hS.2.1; clear hS)
      | (go_at_call 16; refine (all_times HS.out).mono ?_; rintro e w4 ⟨v, rfl, hV, hS⟩; have HV := Lib.hid hV; have HS := Lib.hid hS; clear hV; obtain ⟨g0, g1, -, -⟩ := hS.1; obtain ⟨g2, g3, -, -⟩ := hS.2.1; clear hS)
      | (go_at_call 17; refine (all_turned HS.out).mono ?_; rintro e w4 ⟨v, rfl, hV, hS⟩; have HV := Lib.hid hV; have HS := Lib.hid hS; clear hV; obtain ⟨g0, g1, -, -⟩ := hS.1; obtain ⟨g2, g3, -, -⟩ := hS.2.1; clear hS)
      | (go_at_call 13; refine (all_told HS.out HV.out).mono ?_; rintro e w4 ⟨rfl, hS⟩; have HS := Lib.hid hS; obtain ⟨g0, g1, -, -⟩ := hS.1; obtain ⟨g2, g3, -, -⟩ := hS.2.1; clear hS)
      | (go_at_call 18; refine (c5.out _).mono ?_; rintro e w' ⟨rfl, rfl⟩))
    go_ret
    exact ⟨rfl, HS.out.2.2.2.2⟩
end Go.Proofs.Yteikbegppafdfaa
