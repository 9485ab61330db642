import Derived.Test.YtmpipjangbedkaaGreatMEv3
import Derived.Lib.Bytealg
import Derived.Lib.IndexLaws
import Derived.WalkSmall
/-
  Is a letter in a string of letters: the walks of strings.ContainsRune and what it calls, of letters below 128; the program's bounds.
-/
namespace Go.Proofs.YtmpipjangbedkaaGreat
set_option maxRecDepth 8000
open Go Go.RowKit
set_option linter.unusedVariables false

theorem bstr_list (l : List Nat) : (bstr l).data.toList = l.map UInt8.ofNat := by unfold bstr; rw [bstr_data]; simp
theorem index_mem (l : List Nat) (hO : Oct l) (f : Nat) (hf : f < 256) : decide (0 ≤ Lib.indexByte (l.map UInt8.ofNat) (UInt8.ofNat f)) = decide (f ∈ l) := by
  induction l with
  | nil => simp [Lib.indexByte]
  | cons x l ih =>
    have hx := hO x (List.mem_cons_self ..)
    have ih := ih (fun y hy => hO y (List.mem_cons_of_mem _ hy))
    have hge := Lib.indexByte_ge (l.map UInt8.ofNat) (UInt8.ofNat f)
    rw [List.map_cons]
    unfold Lib.indexByte
    by_cases hxf : x = f
    · subst hxf; simp
    · have hne : ¬ UInt8.ofNat x = UInt8.ofNat f := by
        intro h
        have := congrArg UInt8.toNat h
        simp at this
        omega
      have h1 : (UInt8.ofNat x == UInt8.ofNat f) = false := beq_eq_false_iff_ne.2 hne
      rw [h1]
      have h2 : decide (f ∈ x :: l) = decide (f ∈ l) := by
        congr 1
        simp only [List.mem_cons, eq_iff_iff]
        exact ⟨fun h => h.resolve_left (fun e => hxf e.symm), .inr⟩
      rw [h2, ← ih]
      simp only [Bool.false_eq_true, if_false]
      split
      · rename_i h
        have : Lib.indexByte (l.map UInt8.ofNat) (UInt8.ofNat f) = -1 := by simpa using h
        rw [this]
      · congr 1
        rename_i h
        have : Lib.indexByte (l.map UInt8.ofNat) (UInt8.ofNat f) ≠ -1 := by simpa using h
        simp only [eq_iff_iff]
        omega
/-- Where a letter stands. -/
def idx (l : List Nat) (f : Nat) : Int := Lib.indexByte (l.map UInt8.ofNat) (UInt8.ofNat f)
theorem run_ibs (l : List Nat) (f : Nat) (w : World) : (Extern.BytealgIndexByte.indexByte #[.string (bstr l), .int .u8 (f : Int)]).run Tryz.prog w = .ok (.int .i64 (idx l f)) w := by
  rw [Lib.run_indexByteString, bstr_list]
  simp [idx]
set_option maxRecDepth 8000 in
set_option maxHeartbeats 1000000 in
theorem slib_any (l : List Nat) (f : Nat) (w : World) : Calls Tryz.prog 109 #[.string (bstr l), .int .u8 (f : Int)] w fun e w' => e = .returned (.int .i64 (idx l f)) ∧ w = w' := by
  have hr := run_ibs l f w
  generalize bstr l = S at *
  generalize idx l f = X at *
  go_enter Tryz.func109, Tryz.ntmps109
  go_wp2
  rw [run_callFunc_extern Tryz.func110 (by kernel_rfl) (by kernel_rfl) (by kernel_rfl) (e := Extern.BytealgIndexByte.indexByte) (by kernel_rfl), hr]
  simp only [Result.andThen]
  rw [Oper.upon_value]
  go_wp2
  go_ret
  exact ⟨rfl, rfl⟩
set_option maxRecDepth 8000 in
set_option maxHeartbeats 1000000 in
theorem strib_any (l : List Nat) (f : Nat) (w : World) : Calls Tryz.prog 105 #[.string (bstr l), .int .u8 (f : Int)] w fun e w' => e = .returned (.int .i64 (idx l f)) ∧ w = w' := by
  have C := Lib.hid (fun W => slib_any l f W)
  generalize bstr l = S at *
  generalize idx l f = X at *
  go_enter Tryz.func105, Tryz.ntmps105
  go_wp2_with (go_at_call 109; (with_reducible refine (C.out _).mono ?_); rintro e' _ ⟨rfl, rfl⟩)
  go_ret
  exact ⟨rfl, rfl⟩
set_option maxRecDepth 8000 in
set_option maxHeartbeats 1000000 in
theorem irune_any (l : List Nat) (f : Nat) (hf : f < 128) (w : World) : Calls Tryz.prog 104 #[.string (bstr l), .int .i32 (f : Int)] w fun e w' => e = .returned (.int .i64 (idx l f)) ∧ w = w' := by
  have C := Lib.hid (fun W => strib_any l f W)
  generalize bstr l = S at *
  generalize idx l f = X at *
  have hw : IntKind.u8.wrap (f : Int) = (f : Int) := by simp [IntKind.wrap, IntKind.bits, IntKind.signed]; omega
  have h1 : decide ((f : Int) < 128) = true := by simp; omega
  go_enter Tryz.func104, Tryz.ntmps104
  go_wp2_with (go_at_call 105; (with_reducible refine (C.out _).mono ?_); rintro e' _ ⟨rfl, rfl⟩)
  go_ret
  exact ⟨rfl, rfl⟩
set_option maxRecDepth 8000 in
set_option maxHeartbeats 1000000 in
theorem has_any (l : List Nat) (hO : Oct l) (f : Nat) (hf : f < 128) (w : World) : Calls Tryz.prog 99 #[.string (bstr l), .int .i32 (f : Int)] w fun e w' => e = .returned (.bool (decide (f ∈ l))) ∧ w = w' := by
  have C := Lib.hid (fun W => irune_any l f hf W)
  have HX : Hid (decide (0 ≤ idx l f) = decide (f ∈ l)) := Lib.hid (index_mem l hO f (by omega))
  generalize bstr l = S at *
  generalize idx l f = X at *
  rw [← HX.out]
  clear hO hf HX
  go_enter Tryz.func99, Tryz.ntmps99
  go_wp2_with (go_at_call 104; (with_reducible refine (C.out _).mono ?_); rintro e' _ ⟨rfl, rfl⟩)
  go_ret
  exact ⟨rfl, rfl⟩
/-- The bounds of a field, 0 and 0 of one that the kind doesn't have. -/
def loA (k : Int) (f : Nat) : Int := if f ∈ fieldsOf k then loF k f else 0
def hiA (k : Int) (f : Nat) : Int := if f ∈ fieldsOf k then hiF k f else 0
theorem lett_lt {f : Nat} (h : lett f) : f < 128 := by unfold lett at h; omega
theorem fields_octs (k : Int) : Oct (fieldsOf k) := by
  unfold fieldsOf
  repeat' split
  all_goals (unfold Oct; decide)
set_option maxRecDepth 8000 in
set_option maxHeartbeats 2000000 in
theorem pbounds_any (k : Int) (f : Nat) (hf : lett f) (w : World) : Calls Tryz.prog 93 #[.int .i64 k, .int .i32 (f : Int)] w fun e w' => e = .returned (.tuple #[.int .i64 (loA k f), .int .i64 (hiA k f)]) ∧ w = w' := by
  have CF := Lib.hid (fun W => pfields_any k W)
  have CH := Lib.hid (fun W => has_any (fieldsOf k) (fields_octs k) f (lett_lt hf) W)
  by_cases hm : f ∈ fieldsOf k
  · rw [show loA k f = loF k f from if_pos hm, show hiA k f = hiF k f from if_pos hm]
    rw [decide_eq_true hm] at CH
    clear hm
    generalize bstr (fieldsOf k) = S at *
    rcases hf with rfl | rfl | rfl | rfl | rfl | rfl | rfl
    · rw [show loF k 77 = 1 from rfl, show hiF k 77 = 12 from rfl]
      replace CH : Hid (∀ W, Calls Tryz.prog 99 #[.string S, .int .i32 77] W fun e w' => e = .returned (.bool true) ∧ W = w') := CH
      show Calls Tryz.prog 93 #[.int .i64 k, .int .i32 77] w _
      go_enter Tryz.func93, Tryz.ntmps93
      go_wp2_with (first
        | (go_at_call 78; (with_reducible refine (CF.out _).mono ?_); rintro e' _ ⟨rfl, rfl⟩)
        | (go_at_call 99; (with_reducible refine (CH.out _).mono ?_); rintro e' _ ⟨rfl, rfl⟩))
      go_ret2
      exact ⟨rfl, rfl⟩
    · rw [show loF k 65 = 1 from rfl, show hiF k 65 = 24 from rfl]
      replace CH : Hid (∀ W, Calls Tryz.prog 99 #[.string S, .int .i32 65] W fun e w' => e = .returned (.bool true) ∧ W = w') := CH
      show Calls Tryz.prog 93 #[.int .i64 k, .int .i32 65] w _
      go_enter Tryz.func93, Tryz.ntmps93
      go_wp2_with (first
        | (go_at_call 78; (with_reducible refine (CF.out _).mono ?_); rintro e' _ ⟨rfl, rfl⟩)
        | (go_at_call 99; (with_reducible refine (CH.out _).mono ?_); rintro e' _ ⟨rfl, rfl⟩))
      go_ret2
      exact ⟨rfl, rfl⟩
    · rw [show loF k 73 = 0 from rfl, show hiF k 73 = 5 from rfl]
      replace CH : Hid (∀ W, Calls Tryz.prog 99 #[.string S, .int .i32 73] W fun e w' => e = .returned (.bool true) ∧ W = w') := CH
      show Calls Tryz.prog 93 #[.int .i64 k, .int .i32 73] w _
      go_enter Tryz.func93, Tryz.ntmps93
      go_wp2_with (first
        | (go_at_call 78; (with_reducible refine (CF.out _).mono ?_); rintro e' _ ⟨rfl, rfl⟩)
        | (go_at_call 99; (with_reducible refine (CH.out _).mono ?_); rintro e' _ ⟨rfl, rfl⟩))
      go_ret2
      exact ⟨rfl, rfl⟩
    · rw [show loF k 83 = 1 from rfl, show hiF k 83 = 2 from rfl]
      replace CH : Hid (∀ W, Calls Tryz.prog 99 #[.string S, .int .i32 83] W fun e w' => e = .returned (.bool true) ∧ W = w') := CH
      show Calls Tryz.prog 93 #[.int .i64 k, .int .i32 83] w _
      have C := Lib.hid (fun W => pside_any k W)
      go_enter Tryz.func93, Tryz.ntmps93
      go_wp2_with (first
        | (go_at_call 78; (with_reducible refine (CF.out _).mono ?_); rintro e' _ ⟨rfl, rfl⟩)
        | (go_at_call 99; (with_reducible refine (CH.out _).mono ?_); rintro e' _ ⟨rfl, rfl⟩)
        | (go_at_call 100; (with_reducible refine (C.out _).mono ?_); rintro e' _ ⟨rfl, rfl⟩))
      go_ret2
      exact ⟨rfl, rfl⟩
    · rw [show loF k 68 = 1 from rfl, show hiF k 68 = 1099511627776 from rfl]
      replace CH : Hid (∀ W, Calls Tryz.prog 99 #[.string S, .int .i32 68] W fun e w' => e = .returned (.bool true) ∧ W = w') := CH
      show Calls Tryz.prog 93 #[.int .i64 k, .int .i32 68] w _
      go_enter Tryz.func93, Tryz.ntmps93
      go_wp2_with (first
        | (go_at_call 78; (with_reducible refine (CF.out _).mono ?_); rintro e' _ ⟨rfl, rfl⟩)
        | (go_at_call 99; (with_reducible refine (CH.out _).mono ?_); rintro e' _ ⟨rfl, rfl⟩))
      go_ret2
      exact ⟨rfl, rfl⟩
    · rw [show loF k 81 = loQ k from rfl, show hiF k 81 = hiQ k from rfl]
      replace CH : Hid (∀ W, Calls Tryz.prog 99 #[.string S, .int .i32 81] W fun e w' => e = .returned (.bool true) ∧ W = w') := CH
      show Calls Tryz.prog 93 #[.int .i64 k, .int .i32 81] w _
      have C := Lib.hid (fun W => pquant_any k W)
      generalize loQ k = lo at *
      generalize hiQ k = hi at *
      go_enter Tryz.func93, Tryz.ntmps93
      go_wp2_with (first
        | (go_at_call 78; (with_reducible refine (CF.out _).mono ?_); rintro e' _ ⟨rfl, rfl⟩)
        | (go_at_call 99; (with_reducible refine (CH.out _).mono ?_); rintro e' _ ⟨rfl, rfl⟩)
        | (go_at_call 101; (with_reducible refine (C.out _).mono ?_); rintro e' _ ⟨rfl, rfl⟩))
      go_ret2
      exact ⟨rfl, rfl⟩
    · rw [show loF k 80 = loP k from rfl, show hiF k 80 = hiP k from rfl]
      replace CH : Hid (∀ W, Calls Tryz.prog 99 #[.string S, .int .i32 80] W fun e w' => e = .returned (.bool true) ∧ W = w') := CH
      show Calls Tryz.prog 93 #[.int .i64 k, .int .i32 80] w _
      have C := Lib.hid (fun W => pprice_any k W)
      generalize loP k = lo at *
      generalize hiP k = hi at *
      go_enter Tryz.func93, Tryz.ntmps93
      go_wp2_with (first
        | (go_at_call 78; (with_reducible refine (CF.out _).mono ?_); rintro e' _ ⟨rfl, rfl⟩)
        | (go_at_call 99; (with_reducible refine (CH.out _).mono ?_); rintro e' _ ⟨rfl, rfl⟩)
        | (go_at_call 102; (with_reducible refine (C.out _).mono ?_); rintro e' _ ⟨rfl, rfl⟩))
      go_ret2
      exact ⟨rfl, rfl⟩
  · rw [show loA k f = 0 from if_neg hm, show hiA k f = 0 from if_neg hm]
    rw [decide_eq_false hm] at CH
    clear hm
    generalize bstr (fieldsOf k) = S at *
    clear hf
    go_enter Tryz.func93, Tryz.ntmps93
    go_wp2_with (first
      | (go_at_call 78; (with_reducible refine (CF.out _).mono ?_); rintro e' _ ⟨rfl, rfl⟩)
      | (go_at_call 99; (with_reducible refine (CH.out _).mono ?_); rintro e' _ ⟨rfl, rfl⟩))
    go_ret2
    exact ⟨rfl, rfl⟩
end Go.Proofs.YtmpipjangbedkaaGreat

/-
  The walk of the program's Right.
-/
namespace Go.Proofs.YtmpipjangbedkaaGreat
set_option maxRecDepth 8000
open Go Go.RowKit
set_option linter.unusedVariables false

/-- All letters of fields. -/
def seven : List Nat := [77, 65, 73, 83, 68, 81, 80]
theorem lett_seven {f : Nat} : lett f ↔ f ∈ seven := by unfold lett seven; simp
def inA (e : Ev) (f : Nat) : Bool := decide (loA e.kind f ≤ e.val f) && decide (e.val f ≤ hiA e.kind f)
theorem fold_val (e : Ev) (g : Nat) (hg : lett g) : ∀ (l : List Nat) (x : Ev), (∀ f ∈ l, lett f) → (l.foldl (fun b f => b.with f (e.val f)) x).val g = if g ∈ l then e.val g else x.val g := by
  intro l
  induction l with
  | nil => intro x _; simp
  | cons f l ih =>
    intro x hl
    have hf := hl f (List.mem_cons_self ..)
    rw [List.foldl_cons, ih _ (fun y hy => hl y (List.mem_cons_of_mem _ hy))]
    by_cases hm : g ∈ l
    · rw [if_pos hm, if_pos (List.mem_cons_of_mem _ hm)]
    · rw [if_neg hm]
      by_cases hgf : g = f
      · subst hgf
        rw [val_with_same x _ hg, if_pos (List.mem_cons_self ..)]
      · rw [val_with_other x _ hf hg hgf, if_neg (by simp [hgf, hm])]
theorem ev_ext {x y : Ev} (hk : x.kind = y.kind) (h : ∀ f ∈ seven, x.val f = y.val f) : x = y := by
  have h0 := h 77 (by simp [seven])
  have h1 := h 65 (by simp [seven])
  have h2 := h 73 (by simp [seven])
  have h3 := h 83 (by simp [seven])
  have h4 := h 68 (by simp [seven])
  have h5 := h 81 (by simp [seven])
  have h6 := h 80 (by simp [seven])
  obtain ⟨a0, a1, a2, a3, a4, a5, a6, a7⟩ := x
  obtain ⟨b0, b1, b2, b3, b4, b5, b6, b7⟩ := y
  simp [Ev.val] at hk h0 h1 h2 h3 h4 h5 h6
  simp [*]
theorem fold_kind (e : Ev) : ∀ (l : List Nat) (x : Ev), (l.foldl (fun b f => b.with f (e.val f)) x).kind = x.kind := by
  intro l
  induction l with
  | nil => intro x; rfl
  | cons f l ih => intro x; rw [List.foldl_cons, ih, kind_with]
/-- Right is: of its kind's fields each within bounds, of the others each 0. -/
theorem right_seven (e : Ev) : rightE e = (decide (1 ≤ e.kind ∧ e.kind ≤ 22) && seven.all (inA e)) := by
  unfold rightE
  congr 1
  rw [Bool.eq_iff_iff, Bool.and_eq_true, List.all_eq_true, List.all_eq_true, decide_eq_true_eq]
  have hfl : ∀ f ∈ fieldsOf e.kind, lett f := fields_letters e.kind
  constructor
  · rintro ⟨h1, h2⟩ f hf
    have hl := lett_seven.2 hf
    unfold inA loA hiA
    by_cases hm : f ∈ fieldsOf e.kind
    · rw [if_pos hm, if_pos hm]; exact h1 f hm
    · rw [if_neg hm, if_neg hm]
      have h3 : (bareOf e (fieldsOf e.kind)).val f = 0 := by
        unfold bareOf
        rw [fold_val e f hl _ _ hfl, if_neg hm]
        rcases hl with rfl | rfl | rfl | rfl | rfl | rfl | rfl <;> rfl
      rw [h2] at h3
      rw [h3]
      rfl
  · intro h
    refine ⟨fun f hm => ?_, ?_⟩
    · have := h f (lett_seven.1 (hfl f hm))
      unfold inA loA hiA at this
      rw [if_pos hm, if_pos hm] at this
      exact this
    · refine ev_ext (by unfold bareOf; rw [fold_kind]) fun f hf => ?_
      have hl := lett_seven.2 hf
      unfold bareOf
      rw [fold_val e f hl _ _ hfl]
      by_cases hm : f ∈ fieldsOf e.kind
      · rw [if_pos hm]
      · rw [if_neg hm]
        have := h f hf
        unfold inA loA hiA at this
        rw [if_neg hm, if_neg hm] at this
        simp at this
        have h0 : e.val f = 0 := by omega
        rw [h0]
        rcases hl with rfl | rfl | rfl | rfl | rfl | rfl | rfl <;> rfl
/-- All letters, as a string. -/
def letters : ByteArray := { data := #[77, 65, 73, 83, 68, 81, 80] }
theorem letters_get : ∀ k (h : k < letters.size), (letters[k]'h).toNat = seven.getD k 0 := by
  intro k h
  have : k < 7 := h
  rcases (by omega : k = 0 ∨ k = 1 ∨ k = 2 ∨ k = 3 ∨ k = 4 ∨ k = 5 ∨ k = 6) with rfl | rfl | rfl | rfl | rfl | rfl | rfl <;> rfl
theorem seven_at {k : Nat} (h : k < 7) : seven.getD k 0 ∈ seven := by
  rw [List.getD_eq_getElem?_getD, List.getElem?_eq_getElem (by simpa [seven] using h)]
  exact List.getElem_mem _
theorem right_not {e : Ev} {f : Nat} (hf : lett f) (h : e.val f < loA e.kind f ∨ hiA e.kind f < e.val f) : rightE e = false := by
  rw [right_seven]
  have : seven.all (inA e) = false := by
    rw [List.all_eq_false]
    refine ⟨f, lett_seven.1 hf, ?_⟩
    unfold inA
    rcases h with h | h
    · rw [decide_eq_false (show ¬ loA e.kind f ≤ e.val f by omega)]; simp
    · rw [decide_eq_false (show ¬ e.val f ≤ hiA e.kind f by omega)]; simp
  rw [this]
  simp
theorem right_yes {e : Ev} (hk : 1 ≤ e.kind ∧ e.kind ≤ 22) (h : ∀ j, j < 7 → loA e.kind (seven.getD j 0) ≤ e.val (seven.getD j 0) ∧ e.val (seven.getD j 0) ≤ hiA e.kind (seven.getD j 0)) : rightE e = true := by
  rw [right_seven, decide_eq_true hk, Bool.true_and, List.all_eq_true]
  intro f hf
  obtain ⟨j, hj, rfl⟩ := List.getElem_of_mem hf
  have := h j (by simpa [seven] using hj)
  rw [List.getD_eq_getElem?_getD, List.getElem?_eq_getElem hj] at this
  simp only [Option.getD_some] at this
  unfold inA
  rw [decide_eq_true this.1, decide_eq_true this.2]
  rfl
set_option maxRecDepth 8000 in
set_option maxHeartbeats 4000000 in
theorem pright_any (e : Ev) (w : World) : Calls Tryz.prog 77 #[e.v] w fun r w' => r = .returned (.bool (rightE e)) ∧ Below w.heap.size w w' := by
  have CK := Lib.hid (fun W => iskind_any e.kind W)
  by_cases hk : ¬ (1 ≤ e.kind ∧ e.kind ≤ 22)
  · rw [right_kind hk]
    rw [decide_eq_false hk] at CK
    unfold Ev.v
    clear hk
    go_enter Tryz.func77, Tryz.ntmps77
    go_wp2_with (go_at_call 92; (with_reducible refine (CK.out _).mono ?_); rintro e' _ ⟨rfl, rfl⟩)
    go_ret
    exact ⟨rfl, (Below.refl _ _).alloc (Nat.le_refl _) _⟩
  have hk := Classical.not_not.1 hk
  rw [decide_eq_true hk] at CK
  have HK := Lib.hid hk
  have HE1 : Hid (EvAt (w.alloc (.cells e.cells.toArray 51)) w.heap.size e) := Lib.hid (Rec.new w _ e.cells _ rfl)
  have CV := Lib.hid (fun f hf W => pvalue_any e f hf W)
  have CB := Lib.hid (fun f hf W => pbounds_any e.kind f hf W)
  unfold Ev.v at CV ⊢
  clear hk
  go_enter Tryz.func77, Tryz.ntmps77
  go_wp2_with (go_at_call 92; (with_reducible refine (CK.out _).mono ?_); rintro e' _ ⟨rfl, rfl⟩)
  have HI0 : Hid (((w.alloc (.cells e.cells.toArray 51)).iter letters 0).heap[w.heap.size + 1]? = some (.stringIter letters 0)) := Lib.hid (by
    have := World.iter_heap (w.alloc (.cells e.cells.toArray 51)) letters 0
    simpa using this)
  have HW0 : Hid (EvAt ((w.alloc (.cells e.cells.toArray 51)).iter letters 0) w.heap.size e ∧ Below w.heap.size w ((w.alloc (.cells e.cells.toArray 51)).iter letters 0)) := Lib.hid ⟨HE1.out.keep ((Below.refl _ _).alloc (Nat.le_refl _) _), ((Below.refl _ _).alloc (Nat.le_refl _) _).alloc (by simp) _⟩
  clear CK HE1
  go_loopw [] (fun wr => ∃ k : Nat, k ≤ 7 ∧ Hid (wr.heap[w.heap.size + 1]? = some (.stringIter letters k)) ∧ Hid (EvAt wr w.heap.size e) ∧ Hid (Below w.heap.size w wr) ∧ Hid (∀ j, j < k → loA e.kind (seven.getD j 0) ≤ e.val (seven.getD j 0) ∧ e.val (seven.getD j 0) ≤ hiA e.kind (seven.getD j 0))) (fun wr => 7 - wr.iterPos (w.heap.size + 1))
  case atStart => exact ⟨0, Nat.zero_le _, HI0, Lib.hid HW0.out.1, Lib.hid HW0.out.2, Lib.hid (fun j hj => absurd hj (Nat.not_lt_zero j))⟩
  case round =>
    obtain ⟨k, hk, HI, HE, HB, HA⟩ := hrel
    have hpos : wr.iterPos (w.heap.size + 1) = k := iterPos_of HI.out
    by_cases hlt : k < 7
    · obtain ⟨f, hf⟩ : ∃ f, f = seven.getD k 0 := ⟨_, rfl⟩
      have hl : lett f := by rw [hf]; exact lett_seven.2 (seven_at hlt)
      have hnx : ∀ ty, (Instr.next (.pointer (some ⟨w.heap.size + 1, 0, none⟩)) true ty).run Tryz.prog wr = .ok (.tuple #[.bool true, .int .i64 k, .int .i32 (f : Int)]) (wr.iterAt (w.heap.size + 1) letters (k + 1)) := fun ty => by
        rw [Lib.run_next_ascii_at wr _ letters k ty HI.out hlt (by rw [letters_get k hlt, ← hf]; exact lett_lt hl), letters_get k hlt, ← hf]
      have HI2 := Lib.hid (Lib.iterAt_heap wr (w.heap.size + 1) letters k (k + 1) HI.out)
      have HE2 : Hid (EvAt (wr.iterAt (w.heap.size + 1) letters (k + 1)) w.heap.size e) := Lib.hid ((Lib.iterAt_other wr (w.heap.size + 1) w.heap.size letters (k + 1) (by omega)).trans HE.out)
      have HB2 := Lib.hid (Lib.below_iterAt HB.out (k := w.heap.size + 1) (by omega) letters (k + 1))
      generalize wr.iterAt (w.heap.size + 1) letters (k + 1) = wi at *
      obtain ⟨c0, c1, c2, c3, c4, c5, c6, c7⟩ := HE2.out.reads
      have CV1 := Lib.hid (CV.out f hl)
      have CB1 := Lib.hid (CB.out f hl)
      have HL := Lib.hid hl
      obtain ⟨v, hv⟩ : ∃ v, v = e.val f := ⟨_, rfl⟩
      obtain ⟨lo, hlo⟩ : ∃ lo, lo = loA e.kind f := ⟨_, rfl⟩
      obtain ⟨hi, hhi⟩ : ∃ hi, hi = hiA e.kind f := ⟨_, rfl⟩
      rw [← hv] at CV1
      rw [← hlo, ← hhi] at CB1
      have HF := Lib.hid hf
      have HV := Lib.hid hv
      have HLo := Lib.hid hlo
      have HHi := Lib.hid hhi
      have hcase : v < lo ∨ (¬ v < lo ∧ hi < v) ∨ (¬ v < lo ∧ ¬ hi < v) := by omega
      clear hv hlo hhi hf hl CV CB
      rcases hcase with h1 | ⟨h1, h2⟩ | ⟨h1, h2⟩
      · have HR : Hid (rightE e = false) := Lib.hid (right_not HL.out (.inl (by rw [← HV.out, ← HLo.out]; exact h1)))
        go_wp2_with (first
          | (go_at_call 93; (with_reducible refine (CB1.out _).mono ?_); rintro r _ ⟨rfl, rfl⟩)
          | (go_at_call 80; (with_reducible refine (CV1.out _).mono ?_); rintro r w2 ⟨rfl, hb2⟩; have HB3 := Lib.hid hb2; clear hb2))
        go_ret
        exact ⟨by rw [HR.out]; rfl, HB2.out.trans (HB3.out.mono HB2.out.size)⟩
      · have HR : Hid (rightE e = false) := Lib.hid (right_not HL.out (.inr (by rw [← HV.out, ← HHi.out]; exact h2)))
        go_wp2_with (first
          | (go_at_call 93; (with_reducible refine (CB1.out _).mono ?_); rintro r _ ⟨rfl, rfl⟩)
          | (go_at_call 80; (with_reducible refine (CV1.out _).mono ?_); rintro r w2 ⟨rfl, hb2⟩; have HB3 := Lib.hid hb2; clear hb2))
        go_ret
        exact ⟨by rw [HR.out]; rfl, HB2.out.trans (HB3.out.mono HB2.out.size)⟩
      · go_wp2_with (first
          | (go_at_call 93; (with_reducible refine (CB1.out _).mono ?_); rintro r _ ⟨rfl, rfl⟩)
          | (go_at_call 80; (with_reducible refine (CV1.out _).mono ?_); rintro r w2 ⟨rfl, hb2⟩; have HB3 := Lib.hid hb2; have HI3 := Lib.hid ((hb2.block _ (Array.getElem?_eq_some_iff.1 HI2.out).1).trans HI2.out); clear hb2))
        go_roundw
        case rel => exact ⟨k + 1, by omega, HI3, Lib.hid (HE2.out.keep HB3.out), Lib.hid (HB2.out.trans (HB3.out.mono HB2.out.size)), Lib.hid (fun j hj => by
              rcases Nat.lt_or_ge j k with hj' | hj'
              · exact HA.out j hj'
              · obtain rfl : j = k := by omega
                rw [← HF.out, ← HV.out, ← HLo.out, ← HHi.out]; omega)⟩
        case measure =>
          rw [hpos, iterPos_of HI3.out]
          omega
    · obtain rfl : k = 7 := by omega
      have hnx : ∀ ty, (Instr.next (.pointer (some ⟨w.heap.size + 1, 0, none⟩)) true ty).run Tryz.prog wr = .ok (.tuple #[.bool false]) wr := fun ty => Lib.run_next_end_at wr _ letters 7 ty HI.out (by decide)
      have HR : Hid (rightE e = true) := Lib.hid (right_yes HK.out HA.out)
      go_wp2
      go_ret
      exact ⟨by rw [HR.out]; rfl, HB.out⟩
end Go.Proofs.YtmpipjangbedkaaGreat
