/-
  The walk of the first layer's known sums.
-/
import Derived.Test.YteikbegppafdfaaAmt2
namespace Go.Proofs.Yteikbegppafdfaa
open Go.RowKit

theorem ints_new (w : World) (k : IntKind) (l : List Int) (t : TypeId) (cs : Array Value) (h : cs.toList = l.map fun x => Value.int k x) (n : Nat) (hn : n = w.heap.size) : Ints (w.alloc (.cells cs t)) k (some ⟨n, 0, none⟩) l := by
  subst hn
  intro _
  refine ⟨_, _, rfl, fun i hi => ?_⟩
  rw [Nat.zero_add, World.cell?_alloc_new, ← Array.getElem?_toList, h, List.getElem?_map, List.getD_eq_getElem?_getD, List.getElem?_eq_getElem hi]
  rfl

theorem least_311 (A : Option Addr) (c : Nat) (w : World) (hr : Ints w .i64 A [3, 1, 1]) :
    Calls Try.prog 20 #[.slice A 3 c] w fun e w' => e = .returned (.tuple #[.int .i64 1, .bool true]) ∧ w = w' := by
  refine (least_some A [3, 1, 1] c w hr (by simp) (by simp)).mono ?_
  rintro e w' ⟨⟨k, h1, h2, h3, rfl⟩, rfl⟩
  have : k = 1 := by
    have e0 := h2 1 (by simp)
    match k, h1 with
    | 0, _ => simp at e0
    | 1, _ => rfl
    | 2, _ => have := h3 1 (by omega); simp at this
  subst this
  exact ⟨rfl, rfl⟩

theorem sum_edge (A : Option Addr) (c : Nat) (w : World) (hr : Ints w .i64 A [9223372036854775807, 1, -1]) :
    Calls Try.prog 19 #[.slice A 3 c] w fun e w' => e = .returned (.tuple #[.int .i64 9223372036854775807, .bool true]) ∧ w = w' := by
  have h := sum_any A [9223372036854775807, 1, -1] c w hr (by intro x hx; simp at hx; unfold I64; omega) (by simp)
  exact h

set_option maxHeartbeats 400000 in
theorem known_any (w : World) : Calls Try.prog 7 #[] w fun e w' => e = .returned (.bool true) ∧ Below w.heap.size w w' := by
  have c1 := Lib.hid (add_any 2 3 (by unfold I64; omega) (by unfold I64; omega))
  have c2 := Lib.hid (mul_any (-4) 5 (by unfold I64; omega) (by unfold I64; omega))
  have c3 := Lib.hid (sub_any 2 5 (by unfold I64; omega) (by unfold I64; omega))
  have c4 := Lib.hid (neg_any 7 (by unfold I64; omega))
  have c5 := Lib.hid (neg_any (-9223372036854775808) (by unfold I64; omega))
  have c6 := Lib.hid (size_any (-9) (by unfold I64; omega))
  rw [show held (2 + 3) = 5 from by decide, show fits (2 + 3) = true from by decide] at c1
  rw [show held (-4 * 5) = -20 from by decide, show fits (-4 * 5) = true from by decide] at c2
  rw [show held (2 - 5) = -3 from by decide, show fits (2 - 5) = true from by decide] at c3
  rw [show held (-7) = -7 from by decide, show fits (-7) = true from by decide] at c4
  rw [show held (- -9223372036854775808) = 0 from by decide, show fits (- -9223372036854775808) = false from by decide] at c5
  go_enter Try.func7, Try.ntmps7
  go_wp2_with (first
    | (go_at_call 9; refine (c1.out _).mono ?_; rintro e w' ⟨rfl, rfl⟩)
    | (go_at_call 11; refine (c2.out _).mono ?_; rintro e w' ⟨rfl, rfl⟩)
    | (go_at_call 10; refine (c3.out _).mono ?_; rintro e w' ⟨rfl, rfl⟩)
    | (go_at_call 19; refine (sum_edge _ _ _ (ints_new _ _ _ _ _ rfl _ rfl)).mono ?_; rintro e w' ⟨rfl, rfl⟩)
    | (go_at_call 20; refine (least_311 _ _ _ (ints_new _ _ _ _ _ rfl _ (by simp))).mono ?_; rintro e w' ⟨rfl, rfl⟩)
    | (go_at_call 18; refine (c6.out _).mono ?_; rintro e w' ⟨rfl, rfl⟩)
    | (go_at_call 12; first | ((with_reducible refine (c4.out _).mono ?_); rintro e w' ⟨rfl, rfl⟩) | ((with_reducible refine (c5.out _).mono ?_); rintro e w' ⟨rfl, rfl⟩)))
  go_ret
  exact ⟨rfl, ((Below.refl _ _).alloc (Nat.le_refl _) _).alloc (by simp) _⟩
end Go.Proofs.Yteikbegppafdfaa
