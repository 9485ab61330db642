/-
  The walks of wire's value, withValue, sideWord, sideOf.
-/
import Derived.Test.YtjkbnljjmbfmiaaDoorPv1
import Derived.Test.YtjkbnljjmbfmiaaDoorWr3
namespace Go.Proofs.YtjkbnljjmbfmiaaDoor
open Go Go.RowKit
set_option linter.unusedVariables false

set_option maxRecDepth 8000 in
set_option maxHeartbeats 1000000 in
theorem wvalue_77 (e : Ev) (w : World) : Calls Tryd.prog 42 #[e.v, .int .i32 77] w fun r w' => r = .returned (.int .i64 e.member) ∧ Below w.heap.size w w' := by
  unfold Ev.v
  go_enter Tryd.func42, Tryd.ntmps42
  go_wp2
  go_ret
  exact ⟨rfl, (Below.refl _ _).alloc (Nat.le_refl _) _⟩
set_option maxRecDepth 8000 in
set_option maxHeartbeats 1000000 in
theorem wvalue_65 (e : Ev) (w : World) : Calls Tryd.prog 42 #[e.v, .int .i32 65] w fun r w' => r = .returned (.int .i64 e.acc) ∧ Below w.heap.size w w' := by
  unfold Ev.v
  go_enter Tryd.func42, Tryd.ntmps42
  go_wp2
  go_ret
  exact ⟨rfl, (Below.refl _ _).alloc (Nat.le_refl _) _⟩
set_option maxRecDepth 8000 in
set_option maxHeartbeats 1000000 in
theorem wvalue_73 (e : Ev) (w : World) : Calls Tryd.prog 42 #[e.v, .int .i32 73] w fun r w' => r = .returned (.int .i64 e.inst) ∧ Below w.heap.size w w' := by
  unfold Ev.v
  go_enter Tryd.func42, Tryd.ntmps42
  go_wp2
  go_ret
  exact ⟨rfl, (Below.refl _ _).alloc (Nat.le_refl _) _⟩
set_option maxRecDepth 8000 in
set_option maxHeartbeats 1000000 in
theorem wvalue_68 (e : Ev) (w : World) : Calls Tryd.prog 42 #[e.v, .int .i32 68] w fun r w' => r = .returned (.int .i64 e.id) ∧ Below w.heap.size w w' := by
  unfold Ev.v
  go_enter Tryd.func42, Tryd.ntmps42
  go_wp2
  go_ret
  exact ⟨rfl, (Below.refl _ _).alloc (Nat.le_refl _) _⟩
set_option maxRecDepth 8000 in
set_option maxHeartbeats 1000000 in
theorem wvalue_81 (e : Ev) (w : World) : Calls Tryd.prog 42 #[e.v, .int .i32 81] w fun r w' => r = .returned (.int .i64 e.q) ∧ Below w.heap.size w w' := by
  unfold Ev.v
  go_enter Tryd.func42, Tryd.ntmps42
  go_wp2
  go_ret
  exact ⟨rfl, (Below.refl _ _).alloc (Nat.le_refl _) _⟩
set_option maxRecDepth 8000 in
set_option maxHeartbeats 1000000 in
theorem wvalue_80 (e : Ev) (w : World) : Calls Tryd.prog 42 #[e.v, .int .i32 80] w fun r w' => r = .returned (.int .i64 e.p) ∧ Below w.heap.size w w' := by
  unfold Ev.v
  go_enter Tryd.func42, Tryd.ntmps42
  go_wp2
  go_ret
  exact ⟨rfl, (Below.refl _ _).alloc (Nat.le_refl _) _⟩
set_option maxRecDepth 8000 in
set_option maxHeartbeats 1000000 in
theorem wwith_77 (e : Ev) (n : Int) (w : World) : Calls Tryd.prog 49 #[e.v, .int .i32 77, .int .i64 n] w fun r w' => r = .returned ({ e with member := n }).v ∧ Below w.heap.size w w' := by
  unfold Ev.v
  go_enter Tryd.func49, Tryd.ntmps49
  go_wp2
  refine bodyPost_ret (v := ({ e with member := n } : Ev).v) (by simp [results, Tryd.results49, go_sem, Ev.v]) rfl ⟨rfl, ?_⟩
  exact ((Below.refl _ _).alloc (Nat.le_refl _) _).alloc (by simp) _
set_option maxRecDepth 8000 in
set_option maxHeartbeats 1000000 in
theorem wwith_65 (e : Ev) (n : Int) (w : World) : Calls Tryd.prog 49 #[e.v, .int .i32 65, .int .i64 n] w fun r w' => r = .returned ({ e with acc := n }).v ∧ Below w.heap.size w w' := by
  unfold Ev.v
  go_enter Tryd.func49, Tryd.ntmps49
  go_wp2
  refine bodyPost_ret (v := ({ e with acc := n } : Ev).v) (by simp [results, Tryd.results49, go_sem, Ev.v]) rfl ⟨rfl, ?_⟩
  exact ((Below.refl _ _).alloc (Nat.le_refl _) _).alloc (by simp) _
set_option maxRecDepth 8000 in
set_option maxHeartbeats 1000000 in
theorem wwith_73 (e : Ev) (n : Int) (w : World) : Calls Tryd.prog 49 #[e.v, .int .i32 73, .int .i64 n] w fun r w' => r = .returned ({ e with inst := n }).v ∧ Below w.heap.size w w' := by
  unfold Ev.v
  go_enter Tryd.func49, Tryd.ntmps49
  go_wp2
  refine bodyPost_ret (v := ({ e with inst := n } : Ev).v) (by simp [results, Tryd.results49, go_sem, Ev.v]) rfl ⟨rfl, ?_⟩
  exact ((Below.refl _ _).alloc (Nat.le_refl _) _).alloc (by simp) _
set_option maxRecDepth 8000 in
set_option maxHeartbeats 1000000 in
theorem wwith_83 (e : Ev) (n : Int) (w : World) : Calls Tryd.prog 49 #[e.v, .int .i32 83, .int .i64 n] w fun r w' => r = .returned ({ e with side := n }).v ∧ Below w.heap.size w w' := by
  unfold Ev.v
  go_enter Tryd.func49, Tryd.ntmps49
  go_wp2
  refine bodyPost_ret (v := ({ e with side := n } : Ev).v) (by simp [results, Tryd.results49, go_sem, Ev.v]) rfl ⟨rfl, ?_⟩
  exact ((Below.refl _ _).alloc (Nat.le_refl _) _).alloc (by simp) _
set_option maxRecDepth 8000 in
set_option maxHeartbeats 1000000 in
theorem wwith_68 (e : Ev) (n : Int) (w : World) : Calls Tryd.prog 49 #[e.v, .int .i32 68, .int .i64 n] w fun r w' => r = .returned ({ e with id := n }).v ∧ Below w.heap.size w w' := by
  unfold Ev.v
  go_enter Tryd.func49, Tryd.ntmps49
  go_wp2
  refine bodyPost_ret (v := ({ e with id := n } : Ev).v) (by simp [results, Tryd.results49, go_sem, Ev.v]) rfl ⟨rfl, ?_⟩
  exact ((Below.refl _ _).alloc (Nat.le_refl _) _).alloc (by simp) _
set_option maxRecDepth 8000 in
set_option maxHeartbeats 1000000 in
theorem wwith_81 (e : Ev) (n : Int) (w : World) : Calls Tryd.prog 49 #[e.v, .int .i32 81, .int .i64 n] w fun r w' => r = .returned ({ e with q := n }).v ∧ Below w.heap.size w w' := by
  unfold Ev.v
  go_enter Tryd.func49, Tryd.ntmps49
  go_wp2
  refine bodyPost_ret (v := ({ e with q := n } : Ev).v) (by simp [results, Tryd.results49, go_sem, Ev.v]) rfl ⟨rfl, ?_⟩
  exact ((Below.refl _ _).alloc (Nat.le_refl _) _).alloc (by simp) _
set_option maxRecDepth 8000 in
set_option maxHeartbeats 1000000 in
theorem wwith_80 (e : Ev) (n : Int) (w : World) : Calls Tryd.prog 49 #[e.v, .int .i32 80, .int .i64 n] w fun r w' => r = .returned ({ e with p := n }).v ∧ Below w.heap.size w w' := by
  unfold Ev.v
  go_enter Tryd.func49, Tryd.ntmps49
  go_wp2
  refine bodyPost_ret (v := ({ e with p := n } : Ev).v) (by simp [results, Tryd.results49, go_sem, Ev.v]) rfl ⟨rfl, ?_⟩
  exact ((Below.refl _ _).alloc (Nat.le_refl _) _).alloc (by simp) _
theorem wvalue_any (e : Ev) (f : Nat) (hf : lett f) (h83 : f ≠ 83) (w : World) : Calls Tryd.prog 42 #[e.v, .int .i32 (f : Int)] w fun r w' => r = .returned (.int .i64 (e.val f)) ∧ Below w.heap.size w w' := by
  rcases hf with rfl | rfl | rfl | rfl | rfl | rfl | rfl
  · exact wvalue_77 e w
  · exact wvalue_65 e w
  · exact wvalue_73 e w
  · exact absurd rfl h83
  · exact wvalue_68 e w
  · exact wvalue_81 e w
  · exact wvalue_80 e w
theorem wwith_any (e : Ev) (f : Nat) (hf : lett f) (n : Int) (w : World) : Calls Tryd.prog 49 #[e.v, .int .i32 (f : Int), .int .i64 n] w fun r w' => r = .returned (e.with f n).v ∧ Below w.heap.size w w' := by
  rcases hf with rfl | rfl | rfl | rfl | rfl | rfl | rfl
  · exact wwith_77 e n w
  · exact wwith_65 e n w
  · exact wwith_73 e n w
  · exact wwith_83 e n w
  · exact wwith_68 e n w
  · exact wwith_81 e n w
  · exact wwith_80 e n w
end Go.Proofs.YtjkbnljjmbfmiaaDoor
