/-
  Is a letter in a string of letters: the walks of strings.ContainsRune and what it calls, of letters below 128; the program's bounds.
-/
import Derived.Test.YtjkbnljjmbfmiaaDoorPv1
import Derived.Lib.Bytealg
import Derived.Lib.IndexLaws
namespace Go.Proofs.YtjkbnljjmbfmiaaDoor
open Go Go.RowKit
set_option linter.unusedVariables false

theorem bstr_list (l : List Nat) : (bstr l).data.toList = l.map UInt8.ofNat := by unfold bstr; rw [bstr_data]; simp
theorem index_mem (l : List Nat) (hO : Oct l) (f : Nat) (hf : f < 256) : decide (0 ≤ Lib.indexByte (l.map UInt8.ofNat) (UInt8.ofNat f)) = decide (f ∈ l) := by
  induction l with
  | nil => simp [Lib.indexByte]
  | cons x l ih =>
    have hx := hO x (List.mem_cons_self ..)
    have ih := ih (fun y hy => hO y (List.mem_cons_of_mem _ hy))
    have hge := Lib.indexByte_ge (l.map UInt8.ofNat) (UInt8.ofNat f)
    rw [List.map_cons]
    unfold Lib.indexByte
    by_cases hxf : x = f
    · subst hxf; simp
    · have hne : ¬ UInt8.ofNat x = UInt8.ofNat f := by
        intro h
        have := congrArg UInt8.toNat h
        simp at this
        omega
      have h1 : (UInt8.ofNat x == UInt8.ofNat f) = false := beq_eq_false_iff_ne.2 hne
      rw [h1]
      have h2 : decide (f ∈ x :: l) = decide (f ∈ l) := by
        congr 1
        simp only [List.mem_cons, eq_iff_iff]
        exact ⟨fun h => h.resolve_left (fun e => hxf e.symm), .inr⟩
      rw [h2, ← ih]
      simp only [Bool.false_eq_true, if_false]
      split
      · rename_i h
        have : Lib.indexByte (l.map UInt8.ofNat) (UInt8.ofNat f) = -1 := by simpa using h
        rw [this]
      · congr 1
        rename_i h
        have : Lib.indexByte (l.map UInt8.ofNat) (UInt8.ofNat f) ≠ -1 := by simpa using h
        simp only [eq_iff_iff]
        omega
/-- Where a letter stands. -/
def idx (l : List Nat) (f : Nat) : Int := Lib.indexByte (l.map UInt8.ofNat) (UInt8.ofNat f)
theorem run_ibs (l : List Nat) (f : Nat) (w : World) : (Extern.BytealgIndexByte.indexByte #[.string (bstr l), .int .u8 (f : Int)]).run Tryd.prog w = .ok (.int .i64 (idx l f)) w := by
  rw [Lib.run_indexByteString, bstr_list]
  simp [idx]
set_option maxRecDepth 8000 in
set_option maxHeartbeats 1000000 in
theorem slib_any (l : List Nat) (f : Nat) (w : World) : Calls Tryd.prog 80 #[.string (bstr l), .int .u8 (f : Int)] w fun e w' => e = .returned (.int .i64 (idx l f)) ∧ w = w' := by
  have hr := run_ibs l f w
  generalize bstr l = S at *
  generalize idx l f = X at *
  go_enter Tryd.func80, Tryd.ntmps80
  go_wp2
  rw [run_callFunc_extern Tryd.func88 (by kernel_rfl) (by kernel_rfl) (by kernel_rfl) (e := Extern.BytealgIndexByte.indexByte) (by kernel_rfl), hr]
  simp only [Result.andThen]
  rw [Oper.upon_value]
  go_wp2
  go_ret
  exact ⟨rfl, rfl⟩
set_option maxRecDepth 8000 in
set_option maxHeartbeats 1000000 in
theorem strib_any (l : List Nat) (f : Nat) (w : World) : Calls Tryd.prog 66 #[.string (bstr l), .int .u8 (f : Int)] w fun e w' => e = .returned (.int .i64 (idx l f)) ∧ w = w' := by
  have C := Lib.hid (fun W => slib_any l f W)
  generalize bstr l = S at *
  generalize idx l f = X at *
  go_enter Tryd.func66, Tryd.ntmps66
  go_wp2_with (go_at_call 80; (with_reducible refine (C.out _).mono ?_); rintro e' _ ⟨rfl, rfl⟩)
  go_ret
  exact ⟨rfl, rfl⟩
set_option maxRecDepth 8000 in
set_option maxHeartbeats 1000000 in
theorem irune_any (l : List Nat) (f : Nat) (hf : f < 128) (w : World) : Calls Tryd.prog 59 #[.string (bstr l), .int .i32 (f : Int)] w fun e w' => e = .returned (.int .i64 (idx l f)) ∧ w = w' := by
  have C := Lib.hid (fun W => strib_any l f W)
  generalize bstr l = S at *
  generalize idx l f = X at *
  have hw : IntKind.u8.wrap (f : Int) = (f : Int) := by simp [IntKind.wrap, IntKind.bits, IntKind.signed]; omega
  have h1 : decide ((f : Int) < 128) = true := by simp; omega
  go_enter Tryd.func59, Tryd.ntmps59
  go_wp2_with (go_at_call 66; (with_reducible refine (C.out _).mono ?_); rintro e' _ ⟨rfl, rfl⟩)
  go_ret
  exact ⟨rfl, rfl⟩
set_option maxRecDepth 8000 in
set_option maxHeartbeats 1000000 in
theorem has_any (l : List Nat) (hO : Oct l) (f : Nat) (hf : f < 128) (w : World) : Calls Tryd.prog 50 #[.string (bstr l), .int .i32 (f : Int)] w fun e w' => e = .returned (.bool (decide (f ∈ l))) ∧ w = w' := by
  have C := Lib.hid (fun W => irune_any l f hf W)
  have HX : Hid (decide (0 ≤ idx l f) = decide (f ∈ l)) := Lib.hid (index_mem l hO f (by omega))
  generalize bstr l = S at *
  generalize idx l f = X at *
  rw [← HX.out]
  clear hO hf HX
  go_enter Tryd.func50, Tryd.ntmps50
  go_wp2_with (go_at_call 59; (with_reducible refine (C.out _).mono ?_); rintro e' _ ⟨rfl, rfl⟩)
  go_ret
  exact ⟨rfl, rfl⟩
/-- The bounds of a field, 0 and 0 of one that the kind doesn't have. -/
def loA (k : Int) (f : Nat) : Int := if f ∈ fieldsOf k then loF k f else 0
def hiA (k : Int) (f : Nat) : Int := if f ∈ fieldsOf k then hiF k f else 0
theorem lett_lt {f : Nat} (h : lett f) : f < 128 := by unfold lett at h; omega
theorem fields_octs (k : Int) : Oct (fieldsOf k) := by
  unfold fieldsOf
  repeat' split
  all_goals (unfold Oct; decide)
set_option maxRecDepth 8000 in
set_option maxHeartbeats 2000000 in
theorem pbounds_any (k : Int) (f : Nat) (hf : lett f) (w : World) : Calls Tryd.prog 37 #[.int .i64 k, .int .i32 (f : Int)] w fun e w' => e = .returned (.tuple #[.int .i64 (loA k f), .int .i64 (hiA k f)]) ∧ w = w' := by
  have CF := Lib.hid (fun W => pfields_any k W)
  have CH := Lib.hid (fun W => has_any (fieldsOf k) (fields_octs k) f (lett_lt hf) W)
  by_cases hm : f ∈ fieldsOf k
  · rw [show loA k f = loF k f from if_pos hm, show hiA k f = hiF k f from if_pos hm]
    rw [decide_eq_true hm] at CH
    clear hm
    generalize bstr (fieldsOf k) = S at *
    rcases hf with rfl | rfl | rfl | rfl | rfl | rfl | rfl
    · rw [show loF k 77 = 1 from rfl, show hiF k 77 = 12 from rfl]
      replace CH : Hid (∀ W, Calls Tryd.prog 50 #[.string S, .int .i32 77] W fun e w' => e = .returned (.bool true) ∧ W = w') := CH
      show Calls Tryd.prog 37 #[.int .i64 k, .int .i32 77] w _
      go_enter Tryd.func37, Tryd.ntmps37
      go_wp2_with (first
        | (go_at_call 26; (with_reducible refine (CF.out _).mono ?_); rintro e' _ ⟨rfl, rfl⟩)
        | (go_at_call 50; (with_reducible refine (CH.out _).mono ?_); rintro e' _ ⟨rfl, rfl⟩))
      go_ret2
      exact ⟨rfl, rfl⟩
    · rw [show loF k 65 = 1 from rfl, show hiF k 65 = 24 from rfl]
      replace CH : Hid (∀ W, Calls Tryd.prog 50 #[.string S, .int .i32 65] W fun e w' => e = .returned (.bool true) ∧ W = w') := CH
      show Calls Tryd.prog 37 #[.int .i64 k, .int .i32 65] w _
      go_enter Tryd.func37, Tryd.ntmps37
      go_wp2_with (first
        | (go_at_call 26; (with_reducible refine (CF.out _).mono ?_); rintro e' _ ⟨rfl, rfl⟩)
        | (go_at_call 50; (with_reducible refine (CH.out _).mono ?_); rintro e' _ ⟨rfl, rfl⟩))
      go_ret2
      exact ⟨rfl, rfl⟩
    · rw [show loF k 73 = 0 from rfl, show hiF k 73 = 5 from rfl]
      replace CH : Hid (∀ W, Calls Tryd.prog 50 #[.string S, .int .i32 73] W fun e w' => e = .returned (.bool true) ∧ W = w') := CH
      show Calls Tryd.prog 37 #[.int .i64 k, .int .i32 73] w _
      go_enter Tryd.func37, Tryd.ntmps37
      go_wp2_with (first
        | (go_at_call 26; (with_reducible refine (CF.out _).mono ?_); rintro e' _ ⟨rfl, rfl⟩)
        | (go_at_call 50; (with_reducible refine (CH.out _).mono ?_); rintro e' _ ⟨rfl, rfl⟩))
      go_ret2
      exact ⟨rfl, rfl⟩
    · rw [show loF k 83 = 1 from rfl, show hiF k 83 = 2 from rfl]
      replace CH : Hid (∀ W, Calls Tryd.prog 50 #[.string S, .int .i32 83] W fun e w' => e = .returned (.bool true) ∧ W = w') := CH
      show Calls Tryd.prog 37 #[.int .i64 k, .int .i32 83] w _
      have C := Lib.hid (fun W => pside_any k W)
      go_enter Tryd.func37, Tryd.ntmps37
      go_wp2_with (first
        | (go_at_call 26; (with_reducible refine (CF.out _).mono ?_); rintro e' _ ⟨rfl, rfl⟩)
        | (go_at_call 50; (with_reducible refine (CH.out _).mono ?_); rintro e' _ ⟨rfl, rfl⟩)
        | (go_at_call 51; (with_reducible refine (C.out _).mono ?_); rintro e' _ ⟨rfl, rfl⟩))
      go_ret2
      exact ⟨rfl, rfl⟩
    · rw [show loF k 68 = 1 from rfl, show hiF k 68 = 1099511627776 from rfl]
      replace CH : Hid (∀ W, Calls Tryd.prog 50 #[.string S, .int .i32 68] W fun e w' => e = .returned (.bool true) ∧ W = w') := CH
      show Calls Tryd.prog 37 #[.int .i64 k, .int .i32 68] w _
      go_enter Tryd.func37, Tryd.ntmps37
      go_wp2_with (first
        | (go_at_call 26; (with_reducible refine (CF.out _).mono ?_); rintro e' _ ⟨rfl, rfl⟩)
        | (go_at_call 50; (with_reducible refine (CH.out _).mono ?_); rintro e' _ ⟨rfl, rfl⟩))
      go_ret2
      exact ⟨rfl, rfl⟩
    · rw [show loF k 81 = loQ k from rfl, show hiF k 81 = hiQ k from rfl]
      replace CH : Hid (∀ W, Calls Tryd.prog 50 #[.string S, .int .i32 81] W fun e w' => e = .returned (.bool true) ∧ W = w') := CH
      show Calls Tryd.prog 37 #[.int .i64 k, .int .i32 81] w _
      have C := Lib.hid (fun W => pquant_any k W)
      generalize loQ k = lo at *
      generalize hiQ k = hi at *
      go_enter Tryd.func37, Tryd.ntmps37
      go_wp2_with (first
        | (go_at_call 26; (with_reducible refine (CF.out _).mono ?_); rintro e' _ ⟨rfl, rfl⟩)
        | (go_at_call 50; (with_reducible refine (CH.out _).mono ?_); rintro e' _ ⟨rfl, rfl⟩)
        | (go_at_call 52; (with_reducible refine (C.out _).mono ?_); rintro e' _ ⟨rfl, rfl⟩))
      go_ret2
      exact ⟨rfl, rfl⟩
    · rw [show loF k 80 = loP k from rfl, show hiF k 80 = hiP k from rfl]
      replace CH : Hid (∀ W, Calls Tryd.prog 50 #[.string S, .int .i32 80] W fun e w' => e = .returned (.bool true) ∧ W = w') := CH
      show Calls Tryd.prog 37 #[.int .i64 k, .int .i32 80] w _
      have C := Lib.hid (fun W => pprice_any k W)
      generalize loP k = lo at *
      generalize hiP k = hi at *
      go_enter Tryd.func37, Tryd.ntmps37
      go_wp2_with (first
        | (go_at_call 26; (with_reducible refine (CF.out _).mono ?_); rintro e' _ ⟨rfl, rfl⟩)
        | (go_at_call 50; (with_reducible refine (CH.out _).mono ?_); rintro e' _ ⟨rfl, rfl⟩)
        | (go_at_call 53; (with_reducible refine (C.out _).mono ?_); rintro e' _ ⟨rfl, rfl⟩))
      go_ret2
      exact ⟨rfl, rfl⟩
  · rw [show loA k f = 0 from if_neg hm, show hiA k f = 0 from if_neg hm]
    rw [decide_eq_false hm] at CH
    clear hm
    generalize bstr (fieldsOf k) = S at *
    clear hf
    go_enter Tryd.func37, Tryd.ntmps37
    go_wp2_with (first
      | (go_at_call 26; (with_reducible refine (CF.out _).mono ?_); rintro e' _ ⟨rfl, rfl⟩)
      | (go_at_call 50; (with_reducible refine (CH.out _).mono ?_); rintro e' _ ⟨rfl, rfl⟩))
    go_ret2
    exact ⟨rfl, rfl⟩
end Go.Proofs.YtjkbnljjmbfmiaaDoor
