/-
  The walk of the reference's Split, of what may not be, and of nothing.
-/
import Derived.Test.YtnfoneeplkjhbaaRfWr
import Derived.Test.YtnfoneeplkjhbaaKnown3
import Derived.Test.YtnfoneeplkjhbaaRef1f
import Derived.Test.YtnfoneeplkjhbaaRef1h
import Derived.Test.YtnfoneeplkjhbaaOv2
namespace Go.Proofs.Ytnfoneeplkjhbaa
open Go.RowKit

theorem sum_told (A : Option Addr) (l : List Int) (c : Nat) (w : World) (hr : Ints w .i64 A l) (hl : ∀ x ∈ l, I64 x) (hn : l.length ≤ 64) :
    Calls Try.prog 22 #[.slice A l.length c] w fun e w1 => ∃ (ng : Bool) (A1 : Option Addr) (n1 c1 : Nat), e = .returned (.agg #[.bool ng, .slice A1 n1 c1]) ∧ BigV w1 (.agg #[.bool ng, .slice A1 n1 c1]) l.sum 66 ∧ Below w.heap.size w w1 := by
  refine (sumInts_any A l c w hr hl (by omega)).mono ?_
  rintro e w1 ⟨v, rfl, hV, hb⟩
  obtain ⟨ng, A1, n1, c1, rfl⟩ := hV.form
  exact ⟨ng, A1, n1, c1, rfl, hV.more (by omega), hb⟩

set_option maxRecDepth 8000 in
set_option maxHeartbeats 1000000 in
theorem rsplit_form (t : Int) (A : Option Addr) (l : List Int) (c : Nat) (w : World) (hr : Ints w .i64 A l) (hn : l.length ≤ 9223372036854775807) (h : wrongB t l = true) :
    Calls Try.prog 12 #[.int .i64 t, .slice A l.length c] w (SliceC w [] 1) := by
  have C := wrong_any t A l c w hr hn
  rw [h] at C
  have C1 := Lib.hid C
  have F := Lib.hid (sliceC_nil w w 1 (Below.refl _ _))
  clear hr h C
  go_enter Try.func12, Try.ntmps12
  go_wp2_with (go_at_call 49; refine C1.out.mono ?_; rintro e w' ⟨rfl, rfl⟩)
  go_ret2
  exact F.out

/-- A Big in its struct, in a block of the call's own. -/
def BigB (w : World) (b : Nat) (ng : Bool) (A : Option Addr) (n c : Nat) (x : Int) (m : Nat) (W : World) : Prop :=
  Box2 W b (.bool ng) (.slice A n c) ∧ BigV W (.agg #[.bool ng, .slice A n c]) x m ∧ w.heap.size ≤ b ∧ Below w.heap.size w W
theorem BigB.below {w W W' : World} {b : Nat} {ng : Bool} {A : Option Addr} {n c m : Nat} {x : Int} (h : BigB w b ng A n c x m W) (hb : Below W.heap.size W W') : BigB w b ng A n c x m W' :=
  ⟨h.1.below hb, h.2.1.below hb, h.2.2.1, h.2.2.2.trans (hb.mono h.2.2.2.size)⟩
theorem BigB.new {w W : World} {ng : Bool} {A : Option Addr} {n c m : Nat} {x : Int} (h : BigV W (.agg #[.bool ng, .slice A n c]) x m) (hb : Below w.heap.size w W) (t : TypeId) : BigB w W.heap.size ng A n c x m (W.alloc (.cells #[.bool ng, .slice A n c] t)) :=
  ⟨Box2.new W _ _ t _ rfl, h.below ((Below.refl _ _).alloc (Nat.le_refl _) _), hb.size, grew1 hb _⟩

set_option maxRecDepth 8000 in
set_option maxHeartbeats 2000000 in
theorem rsplit_early (t : Int) (A : Option Addr) (l : List Int) (c : Nat) (w : World) (hr : Ints w .i64 A l) (hl : ∀ x ∈ l, I64 x) (hn : l.length ≤ 64) (h : wrongB t l = false) (hS : 0 ≤ l.sum) (hc : (l.sum = 0 ∧ t ≠ 0) ∨ fits l.sum = false) :
    Calls Try.prog 12 #[.int .i64 t, .slice A l.length c] w (SliceC w [] (if l.sum = 0 then 1 else 2)) := by
  have C := wrong_any t A l c w hr (by omega)
  rw [h] at C
  have C1 := Lib.hid C
  have C2 := Lib.hid (sum_told A l c w hr hl hn)
  have C3 : Hid (∀ W v, BigV W v l.sum 66 → Calls Try.prog 23 #[v] W fun e w' => e = .returned (.int .i64 (ord3 l.sum 0)) ∧ Below W.heap.size W w') := Lib.hid fun W v hv => sign_any v _ 66 W hv
  have C4 : Hid (∀ W v, BigV W v l.sum 66 → Calls Try.prog 38 #[v] W fun e w' => e = .returned (.tuple #[.int .i64 (held l.sum), .bool (fits l.sum)]) ∧ Below W.heap.size W w') := Lib.hid fun W v hv => int_any v _ 66 W hv
  have F := Lib.hid (fun code w' => sliceC_nil w w' code)
  clear hr hl h C
  by_cases h0 : l.sum = 0
  · rw [if_pos h0]
    have ht : t ≠ 0 := by
      rcases hc with h | h
      · exact h.2
      · rw [h0] at h; exact absurd h (by decide)
    have d1 : (t != 0) = true := bne_iff_ne.2 ht
    rw [h0, show ord3 0 0 = 0 from rfl] at C3
    clear hc C4
    go_enter Try.func12, Try.ntmps12
    go_wp2_with (first
      | (go_at_call 49; refine C1.out.mono ?_; rintro e w' ⟨rfl, rfl⟩)
      | (go_at_call 22; refine C2.out.mono ?_; rintro e w1 ⟨ng, A1, n1, k1, rfl, hV, hb⟩; rw [h0] at hV; have HX := Lib.hid (BigB.new hV hb 42); obtain ⟨i1, i2, i3, i4⟩ := HX.out.1; clear hV hb)
      | (go_at_call 23; refine (C3.out _ _ HX.out.2.1).mono ?_; rintro e w2 ⟨rfl, hb⟩; replace HX := Lib.hid (HX.out.below hb); clear hb))
    go_ret2
    exact F.out _ _ HX.out.2.2.2
  · rw [if_neg h0]
    have hf : fits l.sum = false := hc.resolve_left fun h => h0 h.1
    rw [hf] at C4
    have hp : ord3 l.sum 0 = 1 := by unfold ord3; rw [if_neg (by omega), if_pos (by omega)]
    rw [hp] at C3
    generalize held l.sum = hs at *
    generalize l.sum = sm at *
    clear hc hf hp
    go_enter Try.func12, Try.ntmps12
    go_wp2_with (first
      | (go_at_call 49; refine C1.out.mono ?_; rintro e w' ⟨rfl, rfl⟩)
      | (go_at_call 22; refine C2.out.mono ?_; rintro e w1 ⟨ng, A1, n1, k1, rfl, hV, hb⟩; have HX := Lib.hid (BigB.new hV hb 42); obtain ⟨i1, i2, i3, i4⟩ := HX.out.1; clear hV hb)
      | (go_at_call 23; refine (C3.out _ _ HX.out.2.1).mono ?_; rintro e w2 ⟨rfl, hb⟩; replace HX := Lib.hid (HX.out.below hb); clear hb i1 i2 i3 i4; obtain ⟨i1, i2, i3, i4⟩ := HX.out.1)
      | (go_at_call 38; refine (C4.out _ _ HX.out.2.1).mono ?_; rintro e w3 ⟨rfl, hb⟩; replace HX := Lib.hid (HX.out.below hb); clear hb))
    go_ret2
    exact F.out _ _ HX.out.2.2.2
end Go.Proofs.Ytnfoneeplkjhbaa
