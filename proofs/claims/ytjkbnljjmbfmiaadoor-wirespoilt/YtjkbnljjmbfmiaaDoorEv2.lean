/-
  The walks of the reference's Fields, quantities, prices, bounds.
-/
import Derived.Test.YtjkbnljjmbfmiaaDoorBst
import Derived.Test.YtjkbnljjmbfmiaaDoorEv1
namespace Go.Proofs.YtjkbnljjmbfmiaaDoor
open Go Go.RowKit
set_option linter.unusedVariables false

/-- The letters of a kind's fields. -/
def fieldsOf (k : Int) : List Nat :=
  if k = 1 ∨ k = 11 ∨ k = 12 ∨ k = 13 then [77] else if k = 2 then [77, 65, 83] else if k = 3 ∨ k = 4 ∨ k = 6 then [65, 81] else if k = 5 ∨ k = 22 then [77, 81] else
  if k = 7 then [65, 73, 83, 81, 80] else if k = 8 then [65, 68] else if k = 9 then [73, 80] else if k = 10 then [81] else if k = 14 then [77, 65] else if k = 17 then [65, 68, 81, 80] else if k = 19 then [77, 68, 80] else []
set_option maxRecDepth 8000 in
set_option maxHeartbeats 1000000 in
theorem fields_1 (w : World) : Calls Tryd.prog 29 #[.int .i64 1] w fun e w' => e = .returned (.string (bstr (fieldsOf 1))) ∧ w = w' := by
  have H : Hid (.string (bstr (fieldsOf 1)) = Value.string { data := #[77] }) := Lib.hid (congrArg Value.string (by decide +kernel))
  rw [H.out]
  clear H
  go_enter Tryd.func29, Tryd.ntmps29
  go_wp2
  go_ret
  exact ⟨rfl, rfl⟩
set_option maxRecDepth 8000 in
set_option maxHeartbeats 1000000 in
theorem fields_2 (w : World) : Calls Tryd.prog 29 #[.int .i64 2] w fun e w' => e = .returned (.string (bstr (fieldsOf 2))) ∧ w = w' := by
  have H : Hid (.string (bstr (fieldsOf 2)) = Value.string { data := #[77, 65, 83] }) := Lib.hid (congrArg Value.string (by decide +kernel))
  rw [H.out]
  clear H
  go_enter Tryd.func29, Tryd.ntmps29
  go_wp2
  go_ret
  exact ⟨rfl, rfl⟩
set_option maxRecDepth 8000 in
set_option maxHeartbeats 1000000 in
theorem fields_3 (w : World) : Calls Tryd.prog 29 #[.int .i64 3] w fun e w' => e = .returned (.string (bstr (fieldsOf 3))) ∧ w = w' := by
  have H : Hid (.string (bstr (fieldsOf 3)) = Value.string { data := #[65, 81] }) := Lib.hid (congrArg Value.string (by decide +kernel))
  rw [H.out]
  clear H
  go_enter Tryd.func29, Tryd.ntmps29
  go_wp2
  go_ret
  exact ⟨rfl, rfl⟩
set_option maxRecDepth 8000 in
set_option maxHeartbeats 1000000 in
theorem fields_4 (w : World) : Calls Tryd.prog 29 #[.int .i64 4] w fun e w' => e = .returned (.string (bstr (fieldsOf 4))) ∧ w = w' := by
  have H : Hid (.string (bstr (fieldsOf 4)) = Value.string { data := #[65, 81] }) := Lib.hid (congrArg Value.string (by decide +kernel))
  rw [H.out]
  clear H
  go_enter Tryd.func29, Tryd.ntmps29
  go_wp2
  go_ret
  exact ⟨rfl, rfl⟩
set_option maxRecDepth 8000 in
set_option maxHeartbeats 1000000 in
theorem fields_5 (w : World) : Calls Tryd.prog 29 #[.int .i64 5] w fun e w' => e = .returned (.string (bstr (fieldsOf 5))) ∧ w = w' := by
  have H : Hid (.string (bstr (fieldsOf 5)) = Value.string { data := #[77, 81] }) := Lib.hid (congrArg Value.string (by decide +kernel))
  rw [H.out]
  clear H
  go_enter Tryd.func29, Tryd.ntmps29
  go_wp2
  go_ret
  exact ⟨rfl, rfl⟩
set_option maxRecDepth 8000 in
set_option maxHeartbeats 1000000 in
theorem fields_6 (w : World) : Calls Tryd.prog 29 #[.int .i64 6] w fun e w' => e = .returned (.string (bstr (fieldsOf 6))) ∧ w = w' := by
  have H : Hid (.string (bstr (fieldsOf 6)) = Value.string { data := #[65, 81] }) := Lib.hid (congrArg Value.string (by decide +kernel))
  rw [H.out]
  clear H
  go_enter Tryd.func29, Tryd.ntmps29
  go_wp2
  go_ret
  exact ⟨rfl, rfl⟩
set_option maxRecDepth 8000 in
set_option maxHeartbeats 1000000 in
theorem fields_7 (w : World) : Calls Tryd.prog 29 #[.int .i64 7] w fun e w' => e = .returned (.string (bstr (fieldsOf 7))) ∧ w = w' := by
  have H : Hid (.string (bstr (fieldsOf 7)) = Value.string { data := #[65, 73, 83, 81, 80] }) := Lib.hid (congrArg Value.string (by decide +kernel))
  rw [H.out]
  clear H
  go_enter Tryd.func29, Tryd.ntmps29
  go_wp2
  go_ret
  exact ⟨rfl, rfl⟩
set_option maxRecDepth 8000 in
set_option maxHeartbeats 1000000 in
theorem fields_8 (w : World) : Calls Tryd.prog 29 #[.int .i64 8] w fun e w' => e = .returned (.string (bstr (fieldsOf 8))) ∧ w = w' := by
  have H : Hid (.string (bstr (fieldsOf 8)) = Value.string { data := #[65, 68] }) := Lib.hid (congrArg Value.string (by decide +kernel))
  rw [H.out]
  clear H
  go_enter Tryd.func29, Tryd.ntmps29
  go_wp2
  go_ret
  exact ⟨rfl, rfl⟩
set_option maxRecDepth 8000 in
set_option maxHeartbeats 1000000 in
theorem fields_9 (w : World) : Calls Tryd.prog 29 #[.int .i64 9] w fun e w' => e = .returned (.string (bstr (fieldsOf 9))) ∧ w = w' := by
  have H : Hid (.string (bstr (fieldsOf 9)) = Value.string { data := #[73, 80] }) := Lib.hid (congrArg Value.string (by decide +kernel))
  rw [H.out]
  clear H
  go_enter Tryd.func29, Tryd.ntmps29
  go_wp2
  go_ret
  exact ⟨rfl, rfl⟩
set_option maxRecDepth 8000 in
set_option maxHeartbeats 1000000 in
theorem fields_10 (w : World) : Calls Tryd.prog 29 #[.int .i64 10] w fun e w' => e = .returned (.string (bstr (fieldsOf 10))) ∧ w = w' := by
  have H : Hid (.string (bstr (fieldsOf 10)) = Value.string { data := #[81] }) := Lib.hid (congrArg Value.string (by decide +kernel))
  rw [H.out]
  clear H
  go_enter Tryd.func29, Tryd.ntmps29
  go_wp2
  go_ret
  exact ⟨rfl, rfl⟩
set_option maxRecDepth 8000 in
set_option maxHeartbeats 1000000 in
theorem fields_11 (w : World) : Calls Tryd.prog 29 #[.int .i64 11] w fun e w' => e = .returned (.string (bstr (fieldsOf 11))) ∧ w = w' := by
  have H : Hid (.string (bstr (fieldsOf 11)) = Value.string { data := #[77] }) := Lib.hid (congrArg Value.string (by decide +kernel))
  rw [H.out]
  clear H
  go_enter Tryd.func29, Tryd.ntmps29
  go_wp2
  go_ret
  exact ⟨rfl, rfl⟩
set_option maxRecDepth 8000 in
set_option maxHeartbeats 1000000 in
theorem fields_12 (w : World) : Calls Tryd.prog 29 #[.int .i64 12] w fun e w' => e = .returned (.string (bstr (fieldsOf 12))) ∧ w = w' := by
  have H : Hid (.string (bstr (fieldsOf 12)) = Value.string { data := #[77] }) := Lib.hid (congrArg Value.string (by decide +kernel))
  rw [H.out]
  clear H
  go_enter Tryd.func29, Tryd.ntmps29
  go_wp2
  go_ret
  exact ⟨rfl, rfl⟩
set_option maxRecDepth 8000 in
set_option maxHeartbeats 1000000 in
theorem fields_13 (w : World) : Calls Tryd.prog 29 #[.int .i64 13] w fun e w' => e = .returned (.string (bstr (fieldsOf 13))) ∧ w = w' := by
  have H : Hid (.string (bstr (fieldsOf 13)) = Value.string { data := #[77] }) := Lib.hid (congrArg Value.string (by decide +kernel))
  rw [H.out]
  clear H
  go_enter Tryd.func29, Tryd.ntmps29
  go_wp2
  go_ret
  exact ⟨rfl, rfl⟩
set_option maxRecDepth 8000 in
set_option maxHeartbeats 1000000 in
theorem fields_14 (w : World) : Calls Tryd.prog 29 #[.int .i64 14] w fun e w' => e = .returned (.string (bstr (fieldsOf 14))) ∧ w = w' := by
  have H : Hid (.string (bstr (fieldsOf 14)) = Value.string { data := #[77, 65] }) := Lib.hid (congrArg Value.string (by decide +kernel))
  rw [H.out]
  clear H
  go_enter Tryd.func29, Tryd.ntmps29
  go_wp2
  go_ret
  exact ⟨rfl, rfl⟩
set_option maxRecDepth 8000 in
set_option maxHeartbeats 1000000 in
theorem fields_15 (w : World) : Calls Tryd.prog 29 #[.int .i64 15] w fun e w' => e = .returned (.string (bstr (fieldsOf 15))) ∧ w = w' := by
  have H : Hid (.string (bstr (fieldsOf 15)) = Value.string { data := #[] }) := Lib.hid (congrArg Value.string (by decide +kernel))
  rw [H.out]
  clear H
  go_enter Tryd.func29, Tryd.ntmps29
  go_wp2
  go_ret
  exact ⟨rfl, rfl⟩
set_option maxRecDepth 8000 in
set_option maxHeartbeats 1000000 in
theorem fields_16 (w : World) : Calls Tryd.prog 29 #[.int .i64 16] w fun e w' => e = .returned (.string (bstr (fieldsOf 16))) ∧ w = w' := by
  have H : Hid (.string (bstr (fieldsOf 16)) = Value.string { data := #[] }) := Lib.hid (congrArg Value.string (by decide +kernel))
  rw [H.out]
  clear H
  go_enter Tryd.func29, Tryd.ntmps29
  go_wp2
  go_ret
  exact ⟨rfl, rfl⟩
set_option maxRecDepth 8000 in
set_option maxHeartbeats 1000000 in
theorem fields_17 (w : World) : Calls Tryd.prog 29 #[.int .i64 17] w fun e w' => e = .returned (.string (bstr (fieldsOf 17))) ∧ w = w' := by
  have H : Hid (.string (bstr (fieldsOf 17)) = Value.string { data := #[65, 68, 81, 80] }) := Lib.hid (congrArg Value.string (by decide +kernel))
  rw [H.out]
  clear H
  go_enter Tryd.func29, Tryd.ntmps29
  go_wp2
  go_ret
  exact ⟨rfl, rfl⟩
set_option maxRecDepth 8000 in
set_option maxHeartbeats 1000000 in
theorem fields_18 (w : World) : Calls Tryd.prog 29 #[.int .i64 18] w fun e w' => e = .returned (.string (bstr (fieldsOf 18))) ∧ w = w' := by
  have H : Hid (.string (bstr (fieldsOf 18)) = Value.string { data := #[] }) := Lib.hid (congrArg Value.string (by decide +kernel))
  rw [H.out]
  clear H
  go_enter Tryd.func29, Tryd.ntmps29
  go_wp2
  go_ret
  exact ⟨rfl, rfl⟩
set_option maxRecDepth 8000 in
set_option maxHeartbeats 1000000 in
theorem fields_19 (w : World) : Calls Tryd.prog 29 #[.int .i64 19] w fun e w' => e = .returned (.string (bstr (fieldsOf 19))) ∧ w = w' := by
  have H : Hid (.string (bstr (fieldsOf 19)) = Value.string { data := #[77, 68, 80] }) := Lib.hid (congrArg Value.string (by decide +kernel))
  rw [H.out]
  clear H
  go_enter Tryd.func29, Tryd.ntmps29
  go_wp2
  go_ret
  exact ⟨rfl, rfl⟩
set_option maxRecDepth 8000 in
set_option maxHeartbeats 1000000 in
theorem fields_20 (w : World) : Calls Tryd.prog 29 #[.int .i64 20] w fun e w' => e = .returned (.string (bstr (fieldsOf 20))) ∧ w = w' := by
  have H : Hid (.string (bstr (fieldsOf 20)) = Value.string { data := #[] }) := Lib.hid (congrArg Value.string (by decide +kernel))
  rw [H.out]
  clear H
  go_enter Tryd.func29, Tryd.ntmps29
  go_wp2
  go_ret
  exact ⟨rfl, rfl⟩
set_option maxRecDepth 8000 in
set_option maxHeartbeats 1000000 in
theorem fields_21 (w : World) : Calls Tryd.prog 29 #[.int .i64 21] w fun e w' => e = .returned (.string (bstr (fieldsOf 21))) ∧ w = w' := by
  have H : Hid (.string (bstr (fieldsOf 21)) = Value.string { data := #[] }) := Lib.hid (congrArg Value.string (by decide +kernel))
  rw [H.out]
  clear H
  go_enter Tryd.func29, Tryd.ntmps29
  go_wp2
  go_ret
  exact ⟨rfl, rfl⟩
set_option maxRecDepth 8000 in
set_option maxHeartbeats 1000000 in
theorem fields_22 (w : World) : Calls Tryd.prog 29 #[.int .i64 22] w fun e w' => e = .returned (.string (bstr (fieldsOf 22))) ∧ w = w' := by
  have H : Hid (.string (bstr (fieldsOf 22)) = Value.string { data := #[77, 81] }) := Lib.hid (congrArg Value.string (by decide +kernel))
  rw [H.out]
  clear H
  go_enter Tryd.func29, Tryd.ntmps29
  go_wp2
  go_ret
  exact ⟨rfl, rfl⟩
set_option maxRecDepth 8000 in
set_option maxHeartbeats 1000000 in
theorem fields_else (k : Int) (w : World) (h : k < 1 ∨ 22 < k) : Calls Tryd.prog 29 #[.int .i64 k] w fun e w' => e = .returned (.string (bstr (fieldsOf k))) ∧ w = w' := by
  have hf : fieldsOf k = [] := by
    unfold fieldsOf
    repeat rw [if_neg (by omega)]
  have H : Hid (.string (bstr (fieldsOf k)) = Value.string { data := #[] }) := Lib.hid (by rw [hf]; exact congrArg Value.string (by decide +kernel))
  rw [H.out]
  have b1 : (k == 1) = false := beq_eq_false_iff_ne.2 (by omega)
  have b2 : (k == 2) = false := beq_eq_false_iff_ne.2 (by omega)
  have b3 : (k == 3) = false := beq_eq_false_iff_ne.2 (by omega)
  have b4 : (k == 4) = false := beq_eq_false_iff_ne.2 (by omega)
  have b5 : (k == 5) = false := beq_eq_false_iff_ne.2 (by omega)
  have b6 : (k == 6) = false := beq_eq_false_iff_ne.2 (by omega)
  have b7 : (k == 7) = false := beq_eq_false_iff_ne.2 (by omega)
  have b8 : (k == 8) = false := beq_eq_false_iff_ne.2 (by omega)
  have b9 : (k == 9) = false := beq_eq_false_iff_ne.2 (by omega)
  have b10 : (k == 10) = false := beq_eq_false_iff_ne.2 (by omega)
  have b11 : (k == 11) = false := beq_eq_false_iff_ne.2 (by omega)
  have b12 : (k == 12) = false := beq_eq_false_iff_ne.2 (by omega)
  have b13 : (k == 13) = false := beq_eq_false_iff_ne.2 (by omega)
  have b14 : (k == 14) = false := beq_eq_false_iff_ne.2 (by omega)
  have b15 : (k == 15) = false := beq_eq_false_iff_ne.2 (by omega)
  have b16 : (k == 16) = false := beq_eq_false_iff_ne.2 (by omega)
  have b17 : (k == 17) = false := beq_eq_false_iff_ne.2 (by omega)
  have b18 : (k == 18) = false := beq_eq_false_iff_ne.2 (by omega)
  have b19 : (k == 19) = false := beq_eq_false_iff_ne.2 (by omega)
  have b20 : (k == 20) = false := beq_eq_false_iff_ne.2 (by omega)
  have b21 : (k == 21) = false := beq_eq_false_iff_ne.2 (by omega)
  have b22 : (k == 22) = false := beq_eq_false_iff_ne.2 (by omega)
  clear H hf h
  go_enter Tryd.func29, Tryd.ntmps29
  go_wp2
  go_ret
  exact ⟨rfl, rfl⟩
theorem fields_any (k : Int) (w : World) : Calls Tryd.prog 29 #[.int .i64 k] w fun e w' => e = .returned (.string (bstr (fieldsOf k))) ∧ w = w' := by
  by_cases h1 : k = 1
  · subst h1; exact fields_1 w
  by_cases h2 : k = 2
  · subst h2; exact fields_2 w
  by_cases h3 : k = 3
  · subst h3; exact fields_3 w
  by_cases h4 : k = 4
  · subst h4; exact fields_4 w
  by_cases h5 : k = 5
  · subst h5; exact fields_5 w
  by_cases h6 : k = 6
  · subst h6; exact fields_6 w
  by_cases h7 : k = 7
  · subst h7; exact fields_7 w
  by_cases h8 : k = 8
  · subst h8; exact fields_8 w
  by_cases h9 : k = 9
  · subst h9; exact fields_9 w
  by_cases h10 : k = 10
  · subst h10; exact fields_10 w
  by_cases h11 : k = 11
  · subst h11; exact fields_11 w
  by_cases h12 : k = 12
  · subst h12; exact fields_12 w
  by_cases h13 : k = 13
  · subst h13; exact fields_13 w
  by_cases h14 : k = 14
  · subst h14; exact fields_14 w
  by_cases h15 : k = 15
  · subst h15; exact fields_15 w
  by_cases h16 : k = 16
  · subst h16; exact fields_16 w
  by_cases h17 : k = 17
  · subst h17; exact fields_17 w
  by_cases h18 : k = 18
  · subst h18; exact fields_18 w
  by_cases h19 : k = 19
  · subst h19; exact fields_19 w
  by_cases h20 : k = 20
  · subst h20; exact fields_20 w
  by_cases h21 : k = 21
  · subst h21; exact fields_21 w
  by_cases h22 : k = 22
  · subst h22; exact fields_22 w
  exact fields_else k w (by omega)
/-- What a field of a kind may be. -/
def loQ (k : Int) : Int := if k = 6 then 0 else 1
def hiQ (k : Int) : Int := if k = 6 then 1000000000000 else if k = 7 ∨ k = 17 then 1000000000 else if k = 10 then 1000000 else 9223372036854775807
def loP (k : Int) : Int := if k = 19 then -1152921504606846976 else 1
def hiP (k : Int) : Int := if k = 19 then 1152921504606846976 else 1000000000000
def loF (k : Int) (f : Nat) : Int := if f = 77 then 1 else if f = 65 then 1 else if f = 73 then 0 else if f = 83 then 1 else if f = 68 then 1 else if f = 81 then loQ k else loP k
def hiF (k : Int) (f : Nat) : Int := if f = 77 then 12 else if f = 65 then 24 else if f = 73 then 5 else if f = 83 then 2 else if f = 68 then 1099511627776 else if f = 81 then hiQ k else hiP k
set_option maxRecDepth 8000 in
set_option maxHeartbeats 1000000 in
theorem quant_any (k : Int) (w : World) : Calls Tryd.prog 55 #[.int .i64 k] w fun e w' => e = .returned (.tuple #[.int .i64 (loQ k), .int .i64 (hiQ k)]) ∧ w = w' := by
  by_cases h6 : k = 6
  · subst h6
    rw [show loQ 6 = 0 from rfl, show hiQ 6 = 1000000000000 from rfl]
    go_enter Tryd.func55, Tryd.ntmps55
    go_wp2
    go_ret2
    exact ⟨rfl, rfl⟩
  by_cases h7 : k = 7
  · subst h7
    rw [show loQ 7 = 1 from rfl, show hiQ 7 = 1000000000 from rfl]
    go_enter Tryd.func55, Tryd.ntmps55
    go_wp2
    go_ret2
    exact ⟨rfl, rfl⟩
  by_cases h17 : k = 17
  · subst h17
    rw [show loQ 17 = 1 from rfl, show hiQ 17 = 1000000000 from rfl]
    go_enter Tryd.func55, Tryd.ntmps55
    go_wp2
    go_ret2
    exact ⟨rfl, rfl⟩
  by_cases h10 : k = 10
  · subst h10
    rw [show loQ 10 = 1 from rfl, show hiQ 10 = 1000000 from rfl]
    go_enter Tryd.func55, Tryd.ntmps55
    go_wp2
    go_ret2
    exact ⟨rfl, rfl⟩
  rw [show loQ k = 1 from by unfold loQ; rw [if_neg h6], show hiQ k = 9223372036854775807 from by unfold hiQ; rw [if_neg h6, if_neg (by omega), if_neg h10]]
  have b6 : (k == 6) = false := beq_eq_false_iff_ne.2 h6
  have b7 : (k == 7) = false := beq_eq_false_iff_ne.2 h7
  have b17 : (k == 17) = false := beq_eq_false_iff_ne.2 h17
  have b10 : (k == 10) = false := beq_eq_false_iff_ne.2 h10
  clear h6 h7 h17 h10
  go_enter Tryd.func55, Tryd.ntmps55
  go_wp2
  go_ret2
  exact ⟨rfl, rfl⟩
set_option maxRecDepth 8000 in
set_option maxHeartbeats 1000000 in
theorem prices_any (k : Int) (w : World) : Calls Tryd.prog 56 #[.int .i64 k] w fun e w' => e = .returned (.tuple #[.int .i64 (loP k), .int .i64 (hiP k)]) ∧ w = w' := by
  by_cases h : k = 19
  · subst h
    rw [show loP 19 = -1152921504606846976 from rfl, show hiP 19 = 1152921504606846976 from rfl]
    go_enter Tryd.func56, Tryd.ntmps56
    go_wp2
    go_ret2
    exact ⟨rfl, rfl⟩
  · rw [show loP k = 1 from by unfold loP; rw [if_neg h], show hiP k = 1000000000000 from by unfold hiP; rw [if_neg h]]
    have b : (k == 19) = false := beq_eq_false_iff_ne.2 h
    clear h
    go_enter Tryd.func56, Tryd.ntmps56
    go_wp2
    go_ret2
    exact ⟨rfl, rfl⟩
set_option maxRecDepth 8000 in
set_option maxHeartbeats 2000000 in
theorem bounds_any (k : Int) (f : Nat) (w : World) : Calls Tryd.prog 43 #[.int .i64 k, .int .u8 (f : Int)] w fun e w' => e = .returned (.tuple #[.int .i64 (loF k f), .int .i64 (hiF k f)]) ∧ w = w' := by
  by_cases h77 : f = 77
  · subst h77
    rw [show loF k 77 = 1 from rfl, show hiF k 77 = 12 from rfl]
    go_enter Tryd.func43, Tryd.ntmps43
    go_wp2
    go_ret2
    exact ⟨rfl, rfl⟩
  by_cases h65 : f = 65
  · subst h65
    rw [show loF k 65 = 1 from rfl, show hiF k 65 = 24 from rfl]
    go_enter Tryd.func43, Tryd.ntmps43
    go_wp2
    go_ret2
    exact ⟨rfl, rfl⟩
  by_cases h73 : f = 73
  · subst h73
    rw [show loF k 73 = 0 from rfl, show hiF k 73 = 5 from rfl]
    go_enter Tryd.func43, Tryd.ntmps43
    go_wp2
    go_ret2
    exact ⟨rfl, rfl⟩
  by_cases h83 : f = 83
  · subst h83
    rw [show loF k 83 = 1 from rfl, show hiF k 83 = 2 from rfl]
    go_enter Tryd.func43, Tryd.ntmps43
    go_wp2
    go_ret2
    exact ⟨rfl, rfl⟩
  by_cases h68 : f = 68
  · subst h68
    rw [show loF k 68 = 1 from rfl, show hiF k 68 = 1099511627776 from rfl]
    go_enter Tryd.func43, Tryd.ntmps43
    go_wp2
    go_ret2
    exact ⟨rfl, rfl⟩
  by_cases h81 : f = 81
  · subst h81
    rw [show loF k 81 = loQ k from rfl, show hiF k 81 = hiQ k from rfl]
    have C := Lib.hid (quant_any k w)
    generalize loQ k = lo at *
    generalize hiQ k = hi at *
    go_enter Tryd.func43, Tryd.ntmps43
    go_wp2_with (go_at_call 55; (with_reducible refine C.out.mono ?_); rintro e _ ⟨rfl, rfl⟩)
    go_ret2
    exact ⟨rfl, rfl⟩
  rw [show loF k f = loP k from by unfold loF; rw [if_neg h77, if_neg h65, if_neg h73, if_neg h83, if_neg h68, if_neg h81], show hiF k f = hiP k from by unfold hiF; rw [if_neg h77, if_neg h65, if_neg h73, if_neg h83, if_neg h68, if_neg h81]]
  have b77 : ((f : Int) == 77) = false := beq_eq_false_iff_ne.2 (by omega)
  have b65 : ((f : Int) == 65) = false := beq_eq_false_iff_ne.2 (by omega)
  have b73 : ((f : Int) == 73) = false := beq_eq_false_iff_ne.2 (by omega)
  have b83 : ((f : Int) == 83) = false := beq_eq_false_iff_ne.2 (by omega)
  have b68 : ((f : Int) == 68) = false := beq_eq_false_iff_ne.2 (by omega)
  have b81 : ((f : Int) == 81) = false := beq_eq_false_iff_ne.2 (by omega)
  have C := Lib.hid (prices_any k w)
  generalize loP k = lo at *
  generalize hiP k = hi at *
  clear h77 h65 h73 h83 h68 h81
  go_enter Tryd.func43, Tryd.ntmps43
  go_wp2_with (go_at_call 56; (with_reducible refine C.out.mono ?_); rintro e _ ⟨rfl, rfl⟩)
  go_ret2
  exact ⟨rfl, rfl⟩
end Go.Proofs.YtjkbnljjmbfmiaaDoor
