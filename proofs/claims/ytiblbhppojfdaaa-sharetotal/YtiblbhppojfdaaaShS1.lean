/-
  The walk of package share's Split.
-/
import Derived.Test.YtiblbhppojfdaaaShOr3
import Derived.Test.YtiblbhppojfdaaaShFill
import Derived.Test.YtiblbhppojfdaaaSh2
import Derived.Test.YtiblbhppojfdaaaAmtS
namespace Go.Proofs.Ytiblbhppojfdaaa
open Go.RowKit

/-- A slice of numbers that is new, and a code. -/
def SliceC (w : World) (l : List Int) (code : Int) (e : Ending) (w' : World) : Prop :=
  ∃ (A : Option Addr) (c : Nat), e = .returned (.tuple #[.slice A l.length c, .int .i64 code]) ∧ Ints w' .i64 A l ∧ l.length ≤ c ∧ c ≤ 9223372036854775807 ∧ (∀ b o s, A = some ⟨b, o, s⟩ → w.heap.size ≤ b) ∧ Below w.heap.size w w'
theorem sliceC_nil (w w' : World) (code : Int) (hb : Below w.heap.size w w') : SliceC w [] code (.returned (.tuple #[.slice none 0 0, .int .i64 code])) w' :=
  ⟨none, 0, rfl, fun h => absurd h (by simp), by simp, by omega, (fun _ _ _ e => by cases e), hb⟩

set_option maxRecDepth 8000 in
set_option maxHeartbeats 1000000 in
/-- Split of what may not be. -/
theorem split_form (t : Int) (A : Option Addr) (l : List Int) (c : Nat) (w : World) (hr : Ints w .i64 A l) (hn : l.length ≤ 9223372036854775807) (h : t < 0 ∨ areW l = false ∨ (0 < t ∧ anyPos l = false)) :
    Calls Try.prog 30 #[.int .i64 t, .slice A l.length c] w (SliceC w [] 1) := by
  have C1 := Lib.hid (areW_any A l c w hr hn)
  have C2 := Lib.hid (anyPos_any A l c w hr hn)
  have F := Lib.hid (sliceC_nil w w 1 (Below.refl _ _))
  clear hr
  by_cases ht : t < 0
  · have d1 : decide (t < 0) = true := decide_eq_true ht
    clear h ht C1 C2
    go_enter Try.func30, Try.ntmps30
    go_wp2
    go_ret2
    exact F.out
  · have d1 : decide (t < 0) = false := decide_eq_false ht
    cases ha : areW l
    · rw [ha] at C1
      clear h ha C2 ht
      go_enter Try.func30, Try.ntmps30
      go_wp2_with (go_at_call 55; refine C1.out.mono ?_; rintro e w' ⟨rfl, rfl⟩)
      go_ret2
      exact F.out
    · rw [ha] at C1
      obtain ⟨h1, h2⟩ : 0 < t ∧ anyPos l = false := by
        rcases h with h | h | h
        · exact absurd h ht
        · rw [ha] at h; cases h
        · exact h
      have d2 : decide (0 < t) = true := decide_eq_true h1
      rw [h2] at C2
      clear h ha ht h1 h2
      go_enter Try.func30, Try.ntmps30
      go_wp2_with (first
        | (go_at_call 55; refine C1.out.mono ?_; rintro e w' ⟨rfl, rfl⟩)
        | (go_at_call 56; refine C2.out.mono ?_; rintro e w' ⟨rfl, rfl⟩))
      go_ret2
      exact F.out

/-- What is decided ahead of the weights' sum. -/
def MayS (t : Int) (l : List Int) : Prop := 0 ≤ t ∧ areW l = true ∧ (0 < t → anyPos l = true)

set_option maxRecDepth 8000 in
set_option maxHeartbeats 1000000 in
theorem split_over (t : Int) (A : Option Addr) (l : List Int) (c : Nat) (w : World) (hr : Ints w .i64 A l) (hl : ∀ x ∈ l, I64 x) (hn : l.length ≤ 9223372036854775807) (h : MayS t l) (hs : fits l.sum = false) :
    Calls Try.prog 30 #[.int .i64 t, .slice A l.length c] w (SliceC w [] 2) := by
  obtain ⟨h0, h1, h2⟩ := h
  have C1 := Lib.hid (areW_any A l c w hr hn)
  have C2 := Lib.hid (anyPos_any A l c w hr hn)
  have C3 := Lib.hid (asum_any A l c w hr hl hn)
  have F := Lib.hid (sliceC_nil w w 2 (Below.refl _ _))
  rw [h1] at C1
  rw [hs] at C3
  generalize held l.sum = sm at *
  have d1 : decide (t < 0) = false := decide_eq_false (by omega)
  clear hr hl h1 hs
  by_cases ht : 0 < t
  · have d2 : decide (0 < t) = true := decide_eq_true ht
    rw [h2 ht] at C2
    clear ht h2 h0
    go_enter Try.func30, Try.ntmps30
    go_wp2_with (first
      | (go_at_call 55; refine C1.out.mono ?_; rintro e w' ⟨rfl, rfl⟩)
      | (go_at_call 56; refine C2.out.mono ?_; rintro e w' ⟨rfl, rfl⟩)
      | (go_at_call 57; refine C3.out.mono ?_; rintro e w' ⟨rfl, rfl⟩))
    go_ret2
    exact F.out
  · have d2 : decide (0 < t) = false := decide_eq_false ht
    clear ht h2 h0 C2
    go_enter Try.func30, Try.ntmps30
    go_wp2_with (first
      | (go_at_call 55; refine C1.out.mono ?_; rintro e w' ⟨rfl, rfl⟩)
      | (go_at_call 57; refine C3.out.mono ?_; rintro e w' ⟨rfl, rfl⟩))
    go_ret2
    exact F.out

set_option maxRecDepth 8000 in
set_option maxHeartbeats 1000000 in
/-- Split of nothing. -/
theorem split_none (A : Option Addr) (l : List Int) (c : Nat) (w : World) (hr : Ints w .i64 A l) (hl : ∀ x ∈ l, I64 x) (hn : l.length ≤ 1000000) (h : MayS 0 l) (hs : fits l.sum = true) :
    Calls Try.prog 30 #[.int .i64 0, .slice A l.length c] w (SliceC w (splitL 0 l) 0) := by
  obtain ⟨h0, h1, h2⟩ := h
  have C1 := Lib.hid (areW_any A l c w hr (by omega))
  have C3 := Lib.hid (asum_any A l c w hr hl (by omega))
  have hmk := made_i64 l.length (by omega)
  have F : Hid (SliceC w (splitL 0 l) 0 (.returned (.tuple #[.slice (some ⟨w.heap.size, 0, none⟩) l.length l.length, .int .i64 0])) (w.alloc (.cells (madeCells #[.int .i64 0] l.length) 2))) := Lib.hid <| by
    rw [splitL_zero]
    exact ⟨some ⟨w.heap.size, 0, none⟩, l.length, by rw [List.length_replicate], (RowK.new w .i64 l.length _ _ rfl).ints, by simp, by omega, (fun b o s e => by injection e with e; injection e with e; omega), (Below.refl _ _).alloc (Nat.le_refl _) _⟩
  rw [h1] at C1
  rw [hs] at C3
  generalize held l.sum = sm at *
  clear hr hl h1 hs h0 h2
  go_enter Try.func30, Try.ntmps30
  go_wp2_with (first
    | (go_at_call 55; refine C1.out.mono ?_; rintro e w' ⟨rfl, rfl⟩)
    | (go_at_call 57; refine C3.out.mono ?_; rintro e w' ⟨rfl, rfl⟩))
  go_ret2
  exact F.out
end Go.Proofs.Ytiblbhppojfdaaa
