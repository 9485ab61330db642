/-
  The walks of the library's Repeat, at one weight, and of package share's Even.
-/
import Derived.Test.YtiblbhppojfdaaaShS2
import Derived.Test.YtiblbhppojfdaaaWd5
import Derived.Laws.IdiomCopy
namespace Go.Proofs.Ytiblbhppojfdaaa
open Go.RowKit

set_option maxRecDepth 8000 in
set_option maxHeartbeats 400000 in
theorem bits_mul (x y : Nat) (hx : x < 18446744073709551616) (hy : y < 18446744073709551616) (w : World) :
    Calls Try.prog 77 #[.int .u64 x, .int .u64 y] w fun e w' => e = .returned (.tuple #[.int .u64 ((x * y / 18446744073709551616 : Nat) : Int), .int .u64 ((x * y % 18446744073709551616 : Nat) : Int)]) ∧ w = w' := by
  have C := Lib.hid (bits_mul64 x y hx hy)
  have e1 := wrapN x hx
  have e2 := wrapN y hy
  have e3 := wrapN (x * y / 18446744073709551616) (Nat.div_lt_of_lt_mul (Nat.mul_lt_mul'' hx hy))
  have e4 := wrapN (x * y % 18446744073709551616) (by omega)
  generalize x * y / 18446744073709551616 = p at *
  generalize x * y % 18446744073709551616 = q at *
  go_enter Try.func77, Try.ntmps77
  go_wp2_with (go_at_call 39; refine (C.out _).mono ?_; rintro e w' ⟨rfl, rfl⟩)
  go_ret2
  exact ⟨by simp, rfl⟩

/-- m ones, then 0. -/
def onesTo (n m : Nat) : List Int := fillTo (List.replicate n 1) m
theorem onesTo_length (n m : Nat) : (onesTo n m).length = n := by unfold onesTo; rw [fillTo_length, List.length_replicate]
theorem onesTo_all (n : Nat) : onesTo n n = List.replicate n 1 := fillTo_all _ _ (by simp)
theorem onesTo_zero (n : Nat) : List.replicate n 0 = onesTo n 0 := fillTo_zero _ _ (by simp)
theorem onesTo_step (n m : Nat) (h : m < n) : (onesTo n m).set m 1 = onesTo n (m + 1) := by
  have := fillTo_step (List.replicate n 1) m (by simpa using h)
  rw [show (List.replicate n (1 : Int)).getD m 0 = 1 from by simp [List.getD_eq_getElem?_getD, h]] at this
  exact this
theorem onesTo_getD (n m i : Nat) (h : i < m) (hn : i < n) : (onesTo n m).getD i 0 = 1 := by
  unfold onesTo
  rw [fillTo_getD _ _ _ (by simpa using hn), if_pos h]
  simp [List.getD_eq_getElem?_getD, hn]
theorem ones_put (g n : Nat) (B : Nat) (hB : B ≤ g) (w0 : World) : ∀ (k m : Nat) (w : World), m + k ≤ n → RowK w .i64 g (onesTo n m) → Below B w0 w →
    RowK (w.setCells g m (List.replicate k (.int .i64 1))) .i64 g (onesTo n (m + k)) ∧ Below B w0 (w.setCells g m (List.replicate k (.int .i64 1)))
  | 0, m, w, _, hR, hb => ⟨hR, hb⟩
  | k + 1, m, w, hk, hR, hb => by
    have h1 := hR.set m (by rw [onesTo_length]; omega) 1
    rw [onesTo_step n m (by omega)] at h1
    have := ones_put g n B hB w0 k (m + 1) _ (by omega) h1 (hb.setCell (p := ⟨g, m, none⟩) hB _)
    rw [show m + (k + 1) = m + 1 + k from by omega]
    exact this
theorem size_setCells (g : Nat) : ∀ (vs : List Value) (o : Nat) (w : World), (w.setCells g o vs).heap.size = w.heap.size
  | [], _, _ => rfl
  | v :: r, o, w => by rw [World.setCells, size_setCells g r]; simp [World.setCell]

theorem ones_copy (g n m : Nat) (h2 : m < n) (w : World) (hR : RowK w .i64 g (onesTo n m)) (ty : TypeId) :
    (Builtin.copy_ #[49, 49] ty #[.slice (some ⟨g, m, none⟩) (n - m) (n - m), .slice (some ⟨g, 0, none⟩) m n]).run Try.prog w = .ok (goInt (Nat.min m (n - m))) (w.setCells g m (List.replicate (Nat.min m (n - m)) (.int .i64 1))) := by
  have hm : Nat.min m (n - m) ≤ m ∧ Nat.min m (n - m) ≤ n - m := ⟨Nat.min_le_left _ _, Nat.min_le_right _ _⟩
  have h := run_copy_cells (P := Try.prog) w 49 49 ty 2 g m (n - m) (n - m) ⟨g, 0, none⟩ m n (List.replicate (Nat.min m (n - m)) (.int .i64 1)) Try.underlying49 (by kernel_rfl) (by simp) ?_ ?_ ?_ ?_
  · rw [List.length_replicate] at h; exact h
  · intro j v hv
    obtain ⟨hj, rfl⟩ : j < Nat.min m (n - m) ∧ v = .int .i64 1 := by
      rw [List.getElem?_replicate] at hv
      split at hv
      · rename_i hj; exact ⟨hj, by injection hv with hv; exact hv.symm⟩
      · cases hv
    rw [Go.WideShapes.add_plain, (hR (0 + j) (by rw [onesTo_length]; omega)).1, onesTo_getD _ _ _ (by omega) (by omega)]
  · intro j hj
    rw [List.length_replicate] at hj
    rw [(hR (m + j) (by rw [onesTo_length]; omega)).1]; rfl
  · intro j hj
    rw [List.length_replicate] at hj
    exact (hR (m + j) (by rw [onesTo_length]; omega)).2
  · intro v hv
    rw [(List.mem_replicate.1 hv).2]; rfl
end Go.Proofs.Ytiblbhppojfdaaa
