/-
  Events as plain data; the walks of the reference's Kind, value, with.
-/
import Derived.Test.YtjkbnljjmbfmiaaDoorTpB
import Derived.Lib.Hide
namespace Go.Proofs.YtjkbnljjmbfmiaaDoor
open Go Go.RowKit
set_option linter.unusedVariables false

/-- An event. -/
structure Ev where
  kind : Int
  member : Int
  acc : Int
  inst : Int
  side : Int
  id : Int
  q : Int
  p : Int
  deriving DecidableEq
def Ev.zero : Ev := ⟨0, 0, 0, 0, 0, 0, 0, 0⟩
/-- What holds of each. -/
structure Ev.Ok (e : Ev) : Prop where
  kind : I64 e.kind
  member : I64 e.member
  acc : I64 e.acc
  inst : I64 e.inst
  side : I64 e.side
  id : I64 e.id
  q : I64 e.q
  p : I64 e.p
def Ev.cells (e : Ev) : List Value := [.int .i64 e.kind, .int .i64 e.member, .int .i64 e.acc, .int .i64 e.inst, .int .i64 e.side, .int .i64 e.id, .int .i64 e.q, .int .i64 e.p]
def Ev.v (e : Ev) : Value := .agg #[.int .i64 e.kind, .int .i64 e.member, .int .i64 e.acc, .int .i64 e.inst, .int .i64 e.side, .int .i64 e.id, .int .i64 e.q, .int .i64 e.p]
/-- A field by its letter. -/
def Ev.val (e : Ev) (f : Nat) : Int := if f = 77 then e.member else if f = 65 then e.acc else if f = 73 then e.inst else if f = 83 then e.side else if f = 68 then e.id else if f = 81 then e.q else e.p
def Ev.with (e : Ev) (f : Nat) (n : Int) : Ev := if f = 77 then { e with member := n } else if f = 65 then { e with acc := n } else if f = 73 then { e with inst := n } else if f = 83 then { e with side := n } else if f = 68 then { e with id := n } else if f = 81 then { e with q := n } else { e with p := n }
theorem Ev.Ok.val {e : Ev} (h : e.Ok) (f : Nat) : I64 (e.val f) := by
  unfold Ev.val
  repeat' split
  · exact h.member
  · exact h.acc
  · exact h.inst
  · exact h.side
  · exact h.id
  · exact h.q
  · exact h.p
theorem Ev.Ok.with {e : Ev} (h : e.Ok) (f : Nat) (n : Int) (hn : I64 n) : (e.with f n).Ok := by
  unfold Ev.with
  obtain ⟨h0, h1, h2, h3, h4, h5, h6, h7⟩ := h
  repeat' split
  all_goals constructor <;> assumption
set_option maxRecDepth 8000 in
set_option maxHeartbeats 1000000 in
theorem kind_any (k : Int) (w : World) : Calls Tryd.prog 32 #[.int .i64 k] w fun e w' => e = .returned (.bool (decide (1 ≤ k ∧ k ≤ 22))) ∧ w = w' := by
  by_cases h : 1 ≤ k
  · by_cases h2 : k ≤ 22
    · have : decide (1 ≤ k ∧ k ≤ 22) = true := by simp; omega
      rw [this]; clear this
      go_enter Tryd.func32, Tryd.ntmps32
      go_wp2
      go_ret
      exact ⟨rfl, rfl⟩
    · have : decide (1 ≤ k ∧ k ≤ 22) = false := by simp; omega
      rw [this]; clear this
      go_enter Tryd.func32, Tryd.ntmps32
      go_wp2
      go_ret
      exact ⟨rfl, rfl⟩
  · have : decide (1 ≤ k ∧ k ≤ 22) = false := by simp; omega
    rw [this]; clear this
    go_enter Tryd.func32, Tryd.ntmps32
    go_wp2
    go_ret
    exact ⟨rfl, rfl⟩
set_option maxRecDepth 8000 in
set_option maxHeartbeats 1000000 in
theorem value_77 (e : Ev) (w : World) : Calls Tryd.prog 31 #[e.v, .int .u8 77] w fun r w' => r = .returned (.int .i64 e.member) ∧ Below w.heap.size w w' := by
  unfold Ev.v
  go_enter Tryd.func31, Tryd.ntmps31
  go_wp2
  go_ret
  exact ⟨rfl, (Below.refl _ _).alloc (Nat.le_refl _) _⟩
set_option maxRecDepth 8000 in
set_option maxHeartbeats 1000000 in
theorem with_77 (e : Ev) (n : Int) (w : World) : Calls Tryd.prog 44 #[e.v, .int .u8 77, .int .i64 n] w fun r w' => r = .returned ({ e with member := n }).v ∧ Below w.heap.size w w' := by
  unfold Ev.v
  go_enter Tryd.func44, Tryd.ntmps44
  go_wp2
  refine bodyPost_ret (v := ({ e with member := n } : Ev).v) (by simp [results, Tryd.results44, go_sem, Ev.v]) rfl ⟨rfl, ?_⟩
  exact ((Below.refl _ _).alloc (Nat.le_refl _) _).alloc (by simp) _
set_option maxRecDepth 8000 in
set_option maxHeartbeats 1000000 in
theorem value_65 (e : Ev) (w : World) : Calls Tryd.prog 31 #[e.v, .int .u8 65] w fun r w' => r = .returned (.int .i64 e.acc) ∧ Below w.heap.size w w' := by
  unfold Ev.v
  go_enter Tryd.func31, Tryd.ntmps31
  go_wp2
  go_ret
  exact ⟨rfl, (Below.refl _ _).alloc (Nat.le_refl _) _⟩
set_option maxRecDepth 8000 in
set_option maxHeartbeats 1000000 in
theorem with_65 (e : Ev) (n : Int) (w : World) : Calls Tryd.prog 44 #[e.v, .int .u8 65, .int .i64 n] w fun r w' => r = .returned ({ e with acc := n }).v ∧ Below w.heap.size w w' := by
  unfold Ev.v
  go_enter Tryd.func44, Tryd.ntmps44
  go_wp2
  refine bodyPost_ret (v := ({ e with acc := n } : Ev).v) (by simp [results, Tryd.results44, go_sem, Ev.v]) rfl ⟨rfl, ?_⟩
  exact ((Below.refl _ _).alloc (Nat.le_refl _) _).alloc (by simp) _
set_option maxRecDepth 8000 in
set_option maxHeartbeats 1000000 in
theorem value_73 (e : Ev) (w : World) : Calls Tryd.prog 31 #[e.v, .int .u8 73] w fun r w' => r = .returned (.int .i64 e.inst) ∧ Below w.heap.size w w' := by
  unfold Ev.v
  go_enter Tryd.func31, Tryd.ntmps31
  go_wp2
  go_ret
  exact ⟨rfl, (Below.refl _ _).alloc (Nat.le_refl _) _⟩
set_option maxRecDepth 8000 in
set_option maxHeartbeats 1000000 in
theorem with_73 (e : Ev) (n : Int) (w : World) : Calls Tryd.prog 44 #[e.v, .int .u8 73, .int .i64 n] w fun r w' => r = .returned ({ e with inst := n }).v ∧ Below w.heap.size w w' := by
  unfold Ev.v
  go_enter Tryd.func44, Tryd.ntmps44
  go_wp2
  refine bodyPost_ret (v := ({ e with inst := n } : Ev).v) (by simp [results, Tryd.results44, go_sem, Ev.v]) rfl ⟨rfl, ?_⟩
  exact ((Below.refl _ _).alloc (Nat.le_refl _) _).alloc (by simp) _
set_option maxRecDepth 8000 in
set_option maxHeartbeats 1000000 in
theorem value_83 (e : Ev) (w : World) : Calls Tryd.prog 31 #[e.v, .int .u8 83] w fun r w' => r = .returned (.int .i64 e.side) ∧ Below w.heap.size w w' := by
  unfold Ev.v
  go_enter Tryd.func31, Tryd.ntmps31
  go_wp2
  go_ret
  exact ⟨rfl, (Below.refl _ _).alloc (Nat.le_refl _) _⟩
set_option maxRecDepth 8000 in
set_option maxHeartbeats 1000000 in
theorem with_83 (e : Ev) (n : Int) (w : World) : Calls Tryd.prog 44 #[e.v, .int .u8 83, .int .i64 n] w fun r w' => r = .returned ({ e with side := n }).v ∧ Below w.heap.size w w' := by
  unfold Ev.v
  go_enter Tryd.func44, Tryd.ntmps44
  go_wp2
  refine bodyPost_ret (v := ({ e with side := n } : Ev).v) (by simp [results, Tryd.results44, go_sem, Ev.v]) rfl ⟨rfl, ?_⟩
  exact ((Below.refl _ _).alloc (Nat.le_refl _) _).alloc (by simp) _
set_option maxRecDepth 8000 in
set_option maxHeartbeats 1000000 in
theorem value_68 (e : Ev) (w : World) : Calls Tryd.prog 31 #[e.v, .int .u8 68] w fun r w' => r = .returned (.int .i64 e.id) ∧ Below w.heap.size w w' := by
  unfold Ev.v
  go_enter Tryd.func31, Tryd.ntmps31
  go_wp2
  go_ret
  exact ⟨rfl, (Below.refl _ _).alloc (Nat.le_refl _) _⟩
set_option maxRecDepth 8000 in
set_option maxHeartbeats 1000000 in
theorem with_68 (e : Ev) (n : Int) (w : World) : Calls Tryd.prog 44 #[e.v, .int .u8 68, .int .i64 n] w fun r w' => r = .returned ({ e with id := n }).v ∧ Below w.heap.size w w' := by
  unfold Ev.v
  go_enter Tryd.func44, Tryd.ntmps44
  go_wp2
  refine bodyPost_ret (v := ({ e with id := n } : Ev).v) (by simp [results, Tryd.results44, go_sem, Ev.v]) rfl ⟨rfl, ?_⟩
  exact ((Below.refl _ _).alloc (Nat.le_refl _) _).alloc (by simp) _
set_option maxRecDepth 8000 in
set_option maxHeartbeats 1000000 in
theorem value_81 (e : Ev) (w : World) : Calls Tryd.prog 31 #[e.v, .int .u8 81] w fun r w' => r = .returned (.int .i64 e.q) ∧ Below w.heap.size w w' := by
  unfold Ev.v
  go_enter Tryd.func31, Tryd.ntmps31
  go_wp2
  go_ret
  exact ⟨rfl, (Below.refl _ _).alloc (Nat.le_refl _) _⟩
set_option maxRecDepth 8000 in
set_option maxHeartbeats 1000000 in
theorem with_81 (e : Ev) (n : Int) (w : World) : Calls Tryd.prog 44 #[e.v, .int .u8 81, .int .i64 n] w fun r w' => r = .returned ({ e with q := n }).v ∧ Below w.heap.size w w' := by
  unfold Ev.v
  go_enter Tryd.func44, Tryd.ntmps44
  go_wp2
  refine bodyPost_ret (v := ({ e with q := n } : Ev).v) (by simp [results, Tryd.results44, go_sem, Ev.v]) rfl ⟨rfl, ?_⟩
  exact ((Below.refl _ _).alloc (Nat.le_refl _) _).alloc (by simp) _
set_option maxRecDepth 8000 in
set_option maxHeartbeats 1000000 in
theorem value_else (e : Ev) (f : Nat) (w : World) (h1 : f ≠ 77) (h2 : f ≠ 65) (h3 : f ≠ 73) (h4 : f ≠ 83) (h5 : f ≠ 68) (h6 : f ≠ 81) : Calls Tryd.prog 31 #[e.v, .int .u8 (f : Int)] w fun r w' => r = .returned (.int .i64 e.p) ∧ Below w.heap.size w w' := by
  have b1 : ((f : Int) == 77) = false := beq_eq_false_iff_ne.2 (by omega)
  have b2 : ((f : Int) == 65) = false := beq_eq_false_iff_ne.2 (by omega)
  have b3 : ((f : Int) == 73) = false := beq_eq_false_iff_ne.2 (by omega)
  have b4 : ((f : Int) == 83) = false := beq_eq_false_iff_ne.2 (by omega)
  have b5 : ((f : Int) == 68) = false := beq_eq_false_iff_ne.2 (by omega)
  have b6 : ((f : Int) == 81) = false := beq_eq_false_iff_ne.2 (by omega)
  unfold Ev.v
  clear h1 h2 h3 h4 h5 h6
  go_enter Tryd.func31, Tryd.ntmps31
  go_wp2
  go_ret
  exact ⟨rfl, (Below.refl _ _).alloc (Nat.le_refl _) _⟩
set_option maxRecDepth 8000 in
set_option maxHeartbeats 1000000 in
theorem with_else (e : Ev) (f : Nat) (n : Int) (w : World) (h1 : f ≠ 77) (h2 : f ≠ 65) (h3 : f ≠ 73) (h4 : f ≠ 83) (h5 : f ≠ 68) (h6 : f ≠ 81) : Calls Tryd.prog 44 #[e.v, .int .u8 (f : Int), .int .i64 n] w fun r w' => r = .returned ({ e with p := n } : Ev).v ∧ Below w.heap.size w w' := by
  have b1 : ((f : Int) == 77) = false := beq_eq_false_iff_ne.2 (by omega)
  have b2 : ((f : Int) == 65) = false := beq_eq_false_iff_ne.2 (by omega)
  have b3 : ((f : Int) == 73) = false := beq_eq_false_iff_ne.2 (by omega)
  have b4 : ((f : Int) == 83) = false := beq_eq_false_iff_ne.2 (by omega)
  have b5 : ((f : Int) == 68) = false := beq_eq_false_iff_ne.2 (by omega)
  have b6 : ((f : Int) == 81) = false := beq_eq_false_iff_ne.2 (by omega)
  unfold Ev.v
  clear h1 h2 h3 h4 h5 h6
  go_enter Tryd.func44, Tryd.ntmps44
  go_wp2
  refine bodyPost_ret (v := ({ e with p := n } : Ev).v) (by simp [results, Tryd.results44, go_sem, Ev.v]) rfl ⟨rfl, ?_⟩
  exact ((Below.refl _ _).alloc (Nat.le_refl _) _).alloc (by simp) _
theorem value_any (e : Ev) (f : Nat) (w : World) : Calls Tryd.prog 31 #[e.v, .int .u8 (f : Int)] w fun r w' => r = .returned (.int .i64 (e.val f)) ∧ Below w.heap.size w w' := by
  unfold Ev.val
  by_cases h77 : f = 77
  · rw [if_pos h77]; subst h77; exact value_77 e w
  rw [if_neg h77]
  by_cases h65 : f = 65
  · rw [if_pos h65]; subst h65; exact value_65 e w
  rw [if_neg h65]
  by_cases h73 : f = 73
  · rw [if_pos h73]; subst h73; exact value_73 e w
  rw [if_neg h73]
  by_cases h83 : f = 83
  · rw [if_pos h83]; subst h83; exact value_83 e w
  rw [if_neg h83]
  by_cases h68 : f = 68
  · rw [if_pos h68]; subst h68; exact value_68 e w
  rw [if_neg h68]
  by_cases h81 : f = 81
  · rw [if_pos h81]; subst h81; exact value_81 e w
  rw [if_neg h81]
  exact value_else e f w h77 h65 h73 h83 h68 h81
theorem with_any (e : Ev) (f : Nat) (n : Int) (w : World) : Calls Tryd.prog 44 #[e.v, .int .u8 (f : Int), .int .i64 n] w fun r w' => r = .returned (e.with f n).v ∧ Below w.heap.size w w' := by
  unfold Ev.with
  by_cases h77 : f = 77
  · rw [if_pos h77]; subst h77; exact with_77 e n w
  rw [if_neg h77]
  by_cases h65 : f = 65
  · rw [if_pos h65]; subst h65; exact with_65 e n w
  rw [if_neg h65]
  by_cases h73 : f = 73
  · rw [if_pos h73]; subst h73; exact with_73 e n w
  rw [if_neg h73]
  by_cases h83 : f = 83
  · rw [if_pos h83]; subst h83; exact with_83 e n w
  rw [if_neg h83]
  by_cases h68 : f = 68
  · rw [if_pos h68]; subst h68; exact with_68 e n w
  rw [if_neg h68]
  by_cases h81 : f = 81
  · rw [if_pos h81]; subst h81; exact with_81 e n w
  rw [if_neg h81]
  exact with_else e f n w h77 h65 h73 h83 h68 h81
end Go.Proofs.YtjkbnljjmbfmiaaDoor
