/-
  The walks of the program's isKind, value, withValue, Fields, sideBounds, quantityBounds, priceBounds.
-/
import Derived.Test.YtmpipjangbedkaaMBst
namespace Go.Proofs.Ytmpipjangbedkaa
set_option maxRecDepth 8000
open Go Go.RowKit
set_option linter.unusedVariables false

set_option maxRecDepth 8000 in
set_option maxHeartbeats 1000000 in
theorem iskind_any (k : Int) (w : World) : Calls Try.prog 60 #[.int .i64 k] w fun e w' => e = .returned (.bool (decide (1 ≤ k ∧ k ≤ 22))) ∧ w = w' := by
  by_cases h : 1 ≤ k
  · by_cases h2 : k ≤ 22
    · have : decide (1 ≤ k ∧ k ≤ 22) = true := by simp; omega
      rw [this]; clear this
      go_enter Try.func60, Try.ntmps60
      go_wp2
      go_ret
      exact ⟨rfl, rfl⟩
    · have : decide (1 ≤ k ∧ k ≤ 22) = false := by simp; omega
      rw [this]; clear this
      go_enter Try.func60, Try.ntmps60
      go_wp2
      go_ret
      exact ⟨rfl, rfl⟩
  · have : decide (1 ≤ k ∧ k ≤ 22) = false := by simp; omega
    rw [this]; clear this
    go_enter Try.func60, Try.ntmps60
    go_wp2
    go_ret
    exact ⟨rfl, rfl⟩
set_option maxRecDepth 8000 in
set_option maxHeartbeats 1000000 in
theorem pvalue_77 (e : Ev) (w : World) : Calls Try.prog 51 #[e.v, .int .i32 77] w fun r w' => r = .returned (.int .i64 e.member) ∧ Below w.heap.size w w' := by
  unfold Ev.v
  go_enter Try.func51, Try.ntmps51
  go_wp2
  go_ret
  exact ⟨rfl, (Below.refl _ _).alloc (Nat.le_refl _) _⟩
set_option maxRecDepth 8000 in
set_option maxHeartbeats 1000000 in
theorem pvalue_65 (e : Ev) (w : World) : Calls Try.prog 51 #[e.v, .int .i32 65] w fun r w' => r = .returned (.int .i64 e.acc) ∧ Below w.heap.size w w' := by
  unfold Ev.v
  go_enter Try.func51, Try.ntmps51
  go_wp2
  go_ret
  exact ⟨rfl, (Below.refl _ _).alloc (Nat.le_refl _) _⟩
set_option maxRecDepth 8000 in
set_option maxHeartbeats 1000000 in
theorem pvalue_73 (e : Ev) (w : World) : Calls Try.prog 51 #[e.v, .int .i32 73] w fun r w' => r = .returned (.int .i64 e.inst) ∧ Below w.heap.size w w' := by
  unfold Ev.v
  go_enter Try.func51, Try.ntmps51
  go_wp2
  go_ret
  exact ⟨rfl, (Below.refl _ _).alloc (Nat.le_refl _) _⟩
set_option maxRecDepth 8000 in
set_option maxHeartbeats 1000000 in
theorem pvalue_83 (e : Ev) (w : World) : Calls Try.prog 51 #[e.v, .int .i32 83] w fun r w' => r = .returned (.int .i64 e.side) ∧ Below w.heap.size w w' := by
  unfold Ev.v
  go_enter Try.func51, Try.ntmps51
  go_wp2
  go_ret
  exact ⟨rfl, (Below.refl _ _).alloc (Nat.le_refl _) _⟩
set_option maxRecDepth 8000 in
set_option maxHeartbeats 1000000 in
theorem pvalue_68 (e : Ev) (w : World) : Calls Try.prog 51 #[e.v, .int .i32 68] w fun r w' => r = .returned (.int .i64 e.id) ∧ Below w.heap.size w w' := by
  unfold Ev.v
  go_enter Try.func51, Try.ntmps51
  go_wp2
  go_ret
  exact ⟨rfl, (Below.refl _ _).alloc (Nat.le_refl _) _⟩
set_option maxRecDepth 8000 in
set_option maxHeartbeats 1000000 in
theorem pvalue_81 (e : Ev) (w : World) : Calls Try.prog 51 #[e.v, .int .i32 81] w fun r w' => r = .returned (.int .i64 e.q) ∧ Below w.heap.size w w' := by
  unfold Ev.v
  go_enter Try.func51, Try.ntmps51
  go_wp2
  go_ret
  exact ⟨rfl, (Below.refl _ _).alloc (Nat.le_refl _) _⟩
set_option maxRecDepth 8000 in
set_option maxHeartbeats 1000000 in
theorem pvalue_80 (e : Ev) (w : World) : Calls Try.prog 51 #[e.v, .int .i32 80] w fun r w' => r = .returned (.int .i64 e.p) ∧ Below w.heap.size w w' := by
  unfold Ev.v
  go_enter Try.func51, Try.ntmps51
  go_wp2
  go_ret
  exact ⟨rfl, (Below.refl _ _).alloc (Nat.le_refl _) _⟩
/-- The letters of fields. -/
def lett (f : Nat) : Prop := f = 77 ∨ f = 65 ∨ f = 73 ∨ f = 83 ∨ f = 68 ∨ f = 81 ∨ f = 80
theorem pvalue_any (e : Ev) (f : Nat) (hf : lett f) (w : World) : Calls Try.prog 51 #[e.v, .int .i32 (f : Int)] w fun r w' => r = .returned (.int .i64 (e.val f)) ∧ Below w.heap.size w w' := by
  rcases hf with rfl | rfl | rfl | rfl | rfl | rfl | rfl
  · exact pvalue_77 e w
  · exact pvalue_65 e w
  · exact pvalue_73 e w
  · exact pvalue_83 e w
  · exact pvalue_68 e w
  · exact pvalue_81 e w
  · exact pvalue_80 e w
set_option maxRecDepth 8000 in
set_option maxHeartbeats 1000000 in
theorem pfields_1 (w : World) : Calls Try.prog 49 #[.int .i64 1] w fun e w' => e = .returned (.string (bstr (fieldsOf 1))) ∧ w = w' := by
  have H : Hid (.string (bstr (fieldsOf 1)) = Value.string { data := #[77] }) := Lib.hid (congrArg Value.string (by decide +kernel))
  rw [H.out]
  clear H
  go_enter Try.func49, Try.ntmps49
  go_wp2
  go_ret
  exact ⟨rfl, rfl⟩
set_option maxRecDepth 8000 in
set_option maxHeartbeats 1000000 in
theorem pfields_2 (w : World) : Calls Try.prog 49 #[.int .i64 2] w fun e w' => e = .returned (.string (bstr (fieldsOf 2))) ∧ w = w' := by
  have H : Hid (.string (bstr (fieldsOf 2)) = Value.string { data := #[77, 65, 83] }) := Lib.hid (congrArg Value.string (by decide +kernel))
  rw [H.out]
  clear H
  go_enter Try.func49, Try.ntmps49
  go_wp2
  go_ret
  exact ⟨rfl, rfl⟩
set_option maxRecDepth 8000 in
set_option maxHeartbeats 1000000 in
theorem pfields_3 (w : World) : Calls Try.prog 49 #[.int .i64 3] w fun e w' => e = .returned (.string (bstr (fieldsOf 3))) ∧ w = w' := by
  have H : Hid (.string (bstr (fieldsOf 3)) = Value.string { data := #[65, 81] }) := Lib.hid (congrArg Value.string (by decide +kernel))
  rw [H.out]
  clear H
  go_enter Try.func49, Try.ntmps49
  go_wp2
  go_ret
  exact ⟨rfl, rfl⟩
set_option maxRecDepth 8000 in
set_option maxHeartbeats 1000000 in
theorem pfields_4 (w : World) : Calls Try.prog 49 #[.int .i64 4] w fun e w' => e = .returned (.string (bstr (fieldsOf 4))) ∧ w = w' := by
  have H : Hid (.string (bstr (fieldsOf 4)) = Value.string { data := #[65, 81] }) := Lib.hid (congrArg Value.string (by decide +kernel))
  rw [H.out]
  clear H
  go_enter Try.func49, Try.ntmps49
  go_wp2
  go_ret
  exact ⟨rfl, rfl⟩
set_option maxRecDepth 8000 in
set_option maxHeartbeats 1000000 in
theorem pfields_5 (w : World) : Calls Try.prog 49 #[.int .i64 5] w fun e w' => e = .returned (.string (bstr (fieldsOf 5))) ∧ w = w' := by
  have H : Hid (.string (bstr (fieldsOf 5)) = Value.string { data := #[77, 81] }) := Lib.hid (congrArg Value.string (by decide +kernel))
  rw [H.out]
  clear H
  go_enter Try.func49, Try.ntmps49
  go_wp2
  go_ret
  exact ⟨rfl, rfl⟩
set_option maxRecDepth 8000 in
set_option maxHeartbeats 1000000 in
theorem pfields_6 (w : World) : Calls Try.prog 49 #[.int .i64 6] w fun e w' => e = .returned (.string (bstr (fieldsOf 6))) ∧ w = w' := by
  have H : Hid (.string (bstr (fieldsOf 6)) = Value.string { data := #[65, 81] }) := Lib.hid (congrArg Value.string (by decide +kernel))
  rw [H.out]
  clear H
  go_enter Try.func49, Try.ntmps49
  go_wp2
  go_ret
  exact ⟨rfl, rfl⟩
set_option maxRecDepth 8000 in
set_option maxHeartbeats 1000000 in
theorem pfields_7 (w : World) : Calls Try.prog 49 #[.int .i64 7] w fun e w' => e = .returned (.string (bstr (fieldsOf 7))) ∧ w = w' := by
  have H : Hid (.string (bstr (fieldsOf 7)) = Value.string { data := #[65, 73, 83, 81, 80] }) := Lib.hid (congrArg Value.string (by decide +kernel))
  rw [H.out]
  clear H
  go_enter Try.func49, Try.ntmps49
  go_wp2
  go_ret
  exact ⟨rfl, rfl⟩
set_option maxRecDepth 8000 in
set_option maxHeartbeats 1000000 in
theorem pfields_8 (w : World) : Calls Try.prog 49 #[.int .i64 8] w fun e w' => e = .returned (.string (bstr (fieldsOf 8))) ∧ w = w' := by
  have H : Hid (.string (bstr (fieldsOf 8)) = Value.string { data := #[65, 68] }) := Lib.hid (congrArg Value.string (by decide +kernel))
  rw [H.out]
  clear H
  go_enter Try.func49, Try.ntmps49
  go_wp2
  go_ret
  exact ⟨rfl, rfl⟩
set_option maxRecDepth 8000 in
set_option maxHeartbeats 1000000 in
theorem pfields_9 (w : World) : Calls Try.prog 49 #[.int .i64 9] w fun e w' => e = .returned (.string (bstr (fieldsOf 9))) ∧ w = w' := by
  have H : Hid (.string (bstr (fieldsOf 9)) = Value.string { data := #[73, 80] }) := Lib.hid (congrArg Value.string (by decide +kernel))
  rw [H.out]
  clear H
  go_enter Try.func49, Try.ntmps49
  go_wp2
  go_ret
  exact ⟨rfl, rfl⟩
set_option maxRecDepth 8000 in
set_option maxHeartbeats 1000000 in
theorem pfields_10 (w : World) : Calls Try.prog 49 #[.int .i64 10] w fun e w' => e = .returned (.string (bstr (fieldsOf 10))) ∧ w = w' := by
  have H : Hid (.string (bstr (fieldsOf 10)) = Value.string { data := #[81] }) := Lib.hid (congrArg Value.string (by decide +kernel))
  rw [H.out]
  clear H
  go_enter Try.func49, Try.ntmps49
  go_wp2
  go_ret
  exact ⟨rfl, rfl⟩
set_option maxRecDepth 8000 in
set_option maxHeartbeats 1000000 in
theorem pfields_11 (w : World) : Calls Try.prog 49 #[.int .i64 11] w fun e w' => e = .returned (.string (bstr (fieldsOf 11))) ∧ w = w' := by
  have H : Hid (.string (bstr (fieldsOf 11)) = Value.string { data := #[77] }) := Lib.hid (congrArg Value.string (by decide +kernel))
  rw [H.out]
  clear H
  go_enter Try.func49, Try.ntmps49
  go_wp2
  go_ret
  exact ⟨rfl, rfl⟩
set_option maxRecDepth 8000 in
set_option maxHeartbeats 1000000 in
theorem pfields_12 (w : World) : Calls Try.prog 49 #[.int .i64 12] w fun e w' => e = .returned (.string (bstr (fieldsOf 12))) ∧ w = w' := by
  have H : Hid (.string (bstr (fieldsOf 12)) = Value.string { data := #[77] }) := Lib.hid (congrArg Value.string (by decide +kernel))
  rw [H.out]
  clear H
  go_enter Try.func49, Try.ntmps49
  go_wp2
  go_ret
  exact ⟨rfl, rfl⟩
set_option maxRecDepth 8000 in
set_option maxHeartbeats 1000000 in
theorem pfields_13 (w : World) : Calls Try.prog 49 #[.int .i64 13] w fun e w' => e = .returned (.string (bstr (fieldsOf 13))) ∧ w = w' := by
  have H : Hid (.string (bstr (fieldsOf 13)) = Value.string { data := #[77] }) := Lib.hid (congrArg Value.string (by decide +kernel))
  rw [H.out]
  clear H
  go_enter Try.func49, Try.ntmps49
  go_wp2
  go_ret
  exact ⟨rfl, rfl⟩
set_option maxRecDepth 8000 in
set_option maxHeartbeats 1000000 in
theorem pfields_14 (w : World) : Calls Try.prog 49 #[.int .i64 14] w fun e w' => e = .returned (.string (bstr (fieldsOf 14))) ∧ w = w' := by
  have H : Hid (.string (bstr (fieldsOf 14)) = Value.string { data := #[77, 65] }) := Lib.hid (congrArg Value.string (by decide +kernel))
  rw [H.out]
  clear H
  go_enter Try.func49, Try.ntmps49
  go_wp2
  go_ret
  exact ⟨rfl, rfl⟩
set_option maxRecDepth 8000 in
set_option maxHeartbeats 1000000 in
theorem pfields_15 (w : World) : Calls Try.prog 49 #[.int .i64 15] w fun e w' => e = .returned (.string (bstr (fieldsOf 15))) ∧ w = w' := by
  have H : Hid (.string (bstr (fieldsOf 15)) = Value.string { data := #[] }) := Lib.hid (congrArg Value.string (by decide +kernel))
  rw [H.out]
  clear H
  go_enter Try.func49, Try.ntmps49
  go_wp2
  go_ret
  exact ⟨rfl, rfl⟩
set_option maxRecDepth 8000 in
set_option maxHeartbeats 1000000 in
theorem pfields_16 (w : World) : Calls Try.prog 49 #[.int .i64 16] w fun e w' => e = .returned (.string (bstr (fieldsOf 16))) ∧ w = w' := by
  have H : Hid (.string (bstr (fieldsOf 16)) = Value.string { data := #[] }) := Lib.hid (congrArg Value.string (by decide +kernel))
  rw [H.out]
  clear H
  go_enter Try.func49, Try.ntmps49
  go_wp2
  go_ret
  exact ⟨rfl, rfl⟩
set_option maxRecDepth 8000 in
set_option maxHeartbeats 1000000 in
theorem pfields_17 (w : World) : Calls Try.prog 49 #[.int .i64 17] w fun e w' => e = .returned (.string (bstr (fieldsOf 17))) ∧ w = w' := by
  have H : Hid (.string (bstr (fieldsOf 17)) = Value.string { data := #[65, 68, 81, 80] }) := Lib.hid (congrArg Value.string (by decide +kernel))
  rw [H.out]
  clear H
  go_enter Try.func49, Try.ntmps49
  go_wp2
  go_ret
  exact ⟨rfl, rfl⟩
set_option maxRecDepth 8000 in
set_option maxHeartbeats 1000000 in
theorem pfields_18 (w : World) : Calls Try.prog 49 #[.int .i64 18] w fun e w' => e = .returned (.string (bstr (fieldsOf 18))) ∧ w = w' := by
  have H : Hid (.string (bstr (fieldsOf 18)) = Value.string { data := #[] }) := Lib.hid (congrArg Value.string (by decide +kernel))
  rw [H.out]
  clear H
  go_enter Try.func49, Try.ntmps49
  go_wp2
  go_ret
  exact ⟨rfl, rfl⟩
set_option maxRecDepth 8000 in
set_option maxHeartbeats 1000000 in
theorem pfields_19 (w : World) : Calls Try.prog 49 #[.int .i64 19] w fun e w' => e = .returned (.string (bstr (fieldsOf 19))) ∧ w = w' := by
  have H : Hid (.string (bstr (fieldsOf 19)) = Value.string { data := #[77, 68, 80] }) := Lib.hid (congrArg Value.string (by decide +kernel))
  rw [H.out]
  clear H
  go_enter Try.func49, Try.ntmps49
  go_wp2
  go_ret
  exact ⟨rfl, rfl⟩
set_option maxRecDepth 8000 in
set_option maxHeartbeats 1000000 in
theorem pfields_20 (w : World) : Calls Try.prog 49 #[.int .i64 20] w fun e w' => e = .returned (.string (bstr (fieldsOf 20))) ∧ w = w' := by
  have H : Hid (.string (bstr (fieldsOf 20)) = Value.string { data := #[] }) := Lib.hid (congrArg Value.string (by decide +kernel))
  rw [H.out]
  clear H
  go_enter Try.func49, Try.ntmps49
  go_wp2
  go_ret
  exact ⟨rfl, rfl⟩
set_option maxRecDepth 8000 in
set_option maxHeartbeats 1000000 in
theorem pfields_21 (w : World) : Calls Try.prog 49 #[.int .i64 21] w fun e w' => e = .returned (.string (bstr (fieldsOf 21))) ∧ w = w' := by
  have H : Hid (.string (bstr (fieldsOf 21)) = Value.string { data := #[] }) := Lib.hid (congrArg Value.string (by decide +kernel))
  rw [H.out]
  clear H
  go_enter Try.func49, Try.ntmps49
  go_wp2
  go_ret
  exact ⟨rfl, rfl⟩
set_option maxRecDepth 8000 in
set_option maxHeartbeats 1000000 in
theorem pfields_22 (w : World) : Calls Try.prog 49 #[.int .i64 22] w fun e w' => e = .returned (.string (bstr (fieldsOf 22))) ∧ w = w' := by
  have H : Hid (.string (bstr (fieldsOf 22)) = Value.string { data := #[77, 81] }) := Lib.hid (congrArg Value.string (by decide +kernel))
  rw [H.out]
  clear H
  go_enter Try.func49, Try.ntmps49
  go_wp2
  go_ret
  exact ⟨rfl, rfl⟩
set_option maxRecDepth 8000 in
set_option maxHeartbeats 1000000 in
theorem pfields_else (k : Int) (w : World) (h : k < 1 ∨ 22 < k) : Calls Try.prog 49 #[.int .i64 k] w fun e w' => e = .returned (.string (bstr (fieldsOf k))) ∧ w = w' := by
  have hf : fieldsOf k = [] := by
    unfold fieldsOf
    repeat rw [if_neg (by omega)]
  have H : Hid (.string (bstr (fieldsOf k)) = Value.string { data := #[] }) := Lib.hid (by rw [hf]; exact congrArg Value.string (by decide +kernel))
  rw [H.out]
  have b1 : (k == 1) = false := beq_eq_false_iff_ne.2 (by omega)
  have b2 : (k == 2) = false := beq_eq_false_iff_ne.2 (by omega)
  have b3 : (k == 3) = false := beq_eq_false_iff_ne.2 (by omega)
  have b4 : (k == 4) = false := beq_eq_false_iff_ne.2 (by omega)
  have b5 : (k == 5) = false := beq_eq_false_iff_ne.2 (by omega)
  have b6 : (k == 6) = false := beq_eq_false_iff_ne.2 (by omega)
  have b7 : (k == 7) = false := beq_eq_false_iff_ne.2 (by omega)
  have b8 : (k == 8) = false := beq_eq_false_iff_ne.2 (by omega)
  have b9 : (k == 9) = false := beq_eq_false_iff_ne.2 (by omega)
  have b10 : (k == 10) = false := beq_eq_false_iff_ne.2 (by omega)
  have b11 : (k == 11) = false := beq_eq_false_iff_ne.2 (by omega)
  have b12 : (k == 12) = false := beq_eq_false_iff_ne.2 (by omega)
  have b13 : (k == 13) = false := beq_eq_false_iff_ne.2 (by omega)
  have b14 : (k == 14) = false := beq_eq_false_iff_ne.2 (by omega)
  have b15 : (k == 15) = false := beq_eq_false_iff_ne.2 (by omega)
  have b16 : (k == 16) = false := beq_eq_false_iff_ne.2 (by omega)
  have b17 : (k == 17) = false := beq_eq_false_iff_ne.2 (by omega)
  have b18 : (k == 18) = false := beq_eq_false_iff_ne.2 (by omega)
  have b19 : (k == 19) = false := beq_eq_false_iff_ne.2 (by omega)
  have b20 : (k == 20) = false := beq_eq_false_iff_ne.2 (by omega)
  have b21 : (k == 21) = false := beq_eq_false_iff_ne.2 (by omega)
  have b22 : (k == 22) = false := beq_eq_false_iff_ne.2 (by omega)
  clear H hf h
  go_enter Try.func49, Try.ntmps49
  go_wp2
  go_ret
  exact ⟨rfl, rfl⟩
theorem pfields_any (k : Int) (w : World) : Calls Try.prog 49 #[.int .i64 k] w fun e w' => e = .returned (.string (bstr (fieldsOf k))) ∧ w = w' := by
  by_cases h1 : k = 1
  · subst h1; exact pfields_1 w
  by_cases h2 : k = 2
  · subst h2; exact pfields_2 w
  by_cases h3 : k = 3
  · subst h3; exact pfields_3 w
  by_cases h4 : k = 4
  · subst h4; exact pfields_4 w
  by_cases h5 : k = 5
  · subst h5; exact pfields_5 w
  by_cases h6 : k = 6
  · subst h6; exact pfields_6 w
  by_cases h7 : k = 7
  · subst h7; exact pfields_7 w
  by_cases h8 : k = 8
  · subst h8; exact pfields_8 w
  by_cases h9 : k = 9
  · subst h9; exact pfields_9 w
  by_cases h10 : k = 10
  · subst h10; exact pfields_10 w
  by_cases h11 : k = 11
  · subst h11; exact pfields_11 w
  by_cases h12 : k = 12
  · subst h12; exact pfields_12 w
  by_cases h13 : k = 13
  · subst h13; exact pfields_13 w
  by_cases h14 : k = 14
  · subst h14; exact pfields_14 w
  by_cases h15 : k = 15
  · subst h15; exact pfields_15 w
  by_cases h16 : k = 16
  · subst h16; exact pfields_16 w
  by_cases h17 : k = 17
  · subst h17; exact pfields_17 w
  by_cases h18 : k = 18
  · subst h18; exact pfields_18 w
  by_cases h19 : k = 19
  · subst h19; exact pfields_19 w
  by_cases h20 : k = 20
  · subst h20; exact pfields_20 w
  by_cases h21 : k = 21
  · subst h21; exact pfields_21 w
  by_cases h22 : k = 22
  · subst h22; exact pfields_22 w
  exact pfields_else k w (by omega)
set_option maxRecDepth 8000 in
set_option maxHeartbeats 1000000 in
theorem pside_any (k : Int) (w : World) : Calls Try.prog 68 #[.int .i64 k] w fun e w' => e = .returned (.tuple #[.int .i64 1, .int .i64 2]) ∧ w = w' := by
  by_cases h2 : k = 2
  · subst h2
    go_enter Try.func68, Try.ntmps68
    go_wp2
    go_ret2
    exact ⟨rfl, rfl⟩
  · have b2 : (k == 2) = false := beq_eq_false_iff_ne.2 h2
    clear h2
    go_enter Try.func68, Try.ntmps68
    go_wp2
    go_ret2
    exact ⟨rfl, rfl⟩
set_option maxRecDepth 8000 in
set_option maxHeartbeats 1000000 in
theorem pquant_any (k : Int) (w : World) : Calls Try.prog 69 #[.int .i64 k] w fun e w' => e = .returned (.tuple #[.int .i64 (loQ k), .int .i64 (hiQ k)]) ∧ w = w' := by
  by_cases h6 : k = 6
  · subst h6
    rw [show loQ 6 = 0 from rfl, show hiQ 6 = 1000000000000 from rfl]
    go_enter Try.func69, Try.ntmps69
    go_wp2
    go_ret2
    exact ⟨rfl, rfl⟩
  by_cases h7 : k = 7
  · subst h7
    rw [show loQ 7 = 1 from rfl, show hiQ 7 = 1000000000 from rfl]
    go_enter Try.func69, Try.ntmps69
    go_wp2
    go_ret2
    exact ⟨rfl, rfl⟩
  by_cases h17 : k = 17
  · subst h17
    rw [show loQ 17 = 1 from rfl, show hiQ 17 = 1000000000 from rfl]
    go_enter Try.func69, Try.ntmps69
    go_wp2
    go_ret2
    exact ⟨rfl, rfl⟩
  by_cases h10 : k = 10
  · subst h10
    rw [show loQ 10 = 1 from rfl, show hiQ 10 = 1000000 from rfl]
    go_enter Try.func69, Try.ntmps69
    go_wp2
    go_ret2
    exact ⟨rfl, rfl⟩
  rw [show loQ k = 1 from by unfold loQ; rw [if_neg h6], show hiQ k = 9223372036854775807 from by unfold hiQ; rw [if_neg h6, if_neg (by omega), if_neg h10]]
  have b6 : (k == 6) = false := beq_eq_false_iff_ne.2 h6
  have b7 : (k == 7) = false := beq_eq_false_iff_ne.2 h7
  have b17 : (k == 17) = false := beq_eq_false_iff_ne.2 h17
  have b10 : (k == 10) = false := beq_eq_false_iff_ne.2 h10
  clear h6 h7 h17 h10
  go_enter Try.func69, Try.ntmps69
  go_wp2
  go_ret2
  exact ⟨rfl, rfl⟩
set_option maxRecDepth 8000 in
set_option maxHeartbeats 1000000 in
theorem pprice_any (k : Int) (w : World) : Calls Try.prog 70 #[.int .i64 k] w fun e w' => e = .returned (.tuple #[.int .i64 (loP k), .int .i64 (hiP k)]) ∧ w = w' := by
  by_cases h : k = 19
  · subst h
    rw [show loP 19 = -1152921504606846976 from rfl, show hiP 19 = 1152921504606846976 from rfl]
    go_enter Try.func70, Try.ntmps70
    go_wp2
    go_ret2
    exact ⟨rfl, rfl⟩
  · rw [show loP k = 1 from by unfold loP; rw [if_neg h], show hiP k = 1000000000000 from by unfold hiP; rw [if_neg h]]
    have b : (k == 19) = false := beq_eq_false_iff_ne.2 h
    clear h
    go_enter Try.func70, Try.ntmps70
    go_wp2
    go_ret2
    exact ⟨rfl, rfl⟩
end Go.Proofs.Ytmpipjangbedkaa
