import Derived.Test.YtmpipjangbedkaaGreatMByt
import Derived.Laws.BytesString
import Derived.Laws.Cells
import Derived.Lib.SmallJoins
import Derived.Lib.Hide
/-
  Bytes as a string; literals of bytes.
-/
namespace Go.Proofs.YtmpipjangbedkaaGreat
set_option maxRecDepth 8000
open Go Go.RowKit
set_option linter.unusedVariables false

/-- The string of bytes. -/
def bstr (l : List Nat) : ByteArray := (l.map Int.ofNat).foldl (fun r n => r.push (UInt8.ofNat n.toNat)) ByteArray.empty
theorem run_bstr (W : World) (A : Option Addr) (l : List Nat) (n c : Nat) (hn : n = l.length) (hB : Byts W A l) : (convert 26 9 (.slice A n c)).run Tryz.prog W = .ok (.string (bstr l)) W := by
  subst hn
  rw [run_convert_bytes_string W _ _ _ A l.length c Tryz.underlying26 Tryz.underlying5 Tryz.underlying9]
  cases A with
  | none =>
    have : l = [] := by
      cases l with
      | nil => rfl
      | cons x l => obtain ⟨b, off, e, _⟩ := hB (by simp); cases e
    subst this
    rfl
  | some a =>
    have h := run_loadCells_list (P := Tryz.prog) W a (l.map byteV) (by
      by_cases h0 : l = []
      · subst h0; intro j v hv; simp at hv
      · obtain ⟨b, off, e, _⟩ := hB (List.length_pos_iff.2 h0)
        injection e with e; subst e
        exact byts_news hB)
    rw [List.length_map] at h
    rw [show l.map byteV = (l.map Int.ofNat).map (Value.int .u8) from by rw [List.map_map]; rfl] at h
    exact run_bytesToString W a l.length c _ h
theorem byts_mark (w : World) (t : TypeId) (fr : Nat × Nat) (cs : Array Value) (l : List Nat) (h : cs.toList = l.map byteV) (n : Nat) (hn : n = w.heap.size) : Byts (w.alloc (.cells cs t fr)) (some ⟨n, 0, none⟩) l := by
  intro _
  refine ⟨_, _, rfl, fun i hi => ?_⟩
  rw [Nat.zero_add, Go.Joins.cell_alloc_mark_at w cs t fr n i hn, ← Array.getElem?_toList, h, List.getElem?_map, List.getD_eq_getElem?_getD, List.getElem?_eq_getElem hi]
  rfl
/-- A literal of bytes, made of a constant. -/
theorem lit_bytes (w : World) (cs : Array Value) (l : List Nat) (h : cs.toList = l.map byteV) (n c : Nat) : ∃ W, (convert 26 26 (.slice (some ⟨w.heap.size, 0, none⟩) n c)).run Tryz.prog (w.alloc (.cells cs 5)) = .ok (.slice (some ⟨w.heap.size, 0, none⟩) n c) W ∧ Below w.heap.size w W ∧ Byts W (some ⟨w.heap.size, 0, none⟩) l :=
  ⟨_, Go.Joins.run_convert_bytes_const_at w 26 5 cs n c _ rfl Tryz.underlying26 Tryz.underlying5, (Below.refl _ _).alloc (Nat.le_refl _) _, byts_mark w _ _ _ _ h _ rfl⟩
theorem bstr_data (l : List Nat) : ∀ r : ByteArray, ((l.map Int.ofNat).foldl (fun r n => r.push (UInt8.ofNat n.toNat)) r).data.toList = r.data.toList ++ l.map UInt8.ofNat := by
  induction l with
  | nil => intro r; simp
  | cons x l ih =>
    intro r
    rw [List.map_cons, List.foldl_cons, ih]
    simp [ByteArray.push]
theorem bstr_cat (a b : List Nat) : bstr a ++ bstr b = bstr (a ++ b) := by
  have h : (bstr a ++ bstr b).data.toList = (bstr (a ++ b)).data.toList := by
    rw [Go.Joins.data_append]
    unfold bstr
    rw [bstr_data, bstr_data, bstr_data]
    simp
  exact ByteArray.ext (Array.toList_inj.1 h)
theorem bstr_size (a : List Nat) : (bstr a).size = a.length := by
  show (bstr a).data.size = _
  rw [← Array.length_toList]
  unfold bstr
  rw [bstr_data]
  simp
end Go.Proofs.YtmpipjangbedkaaGreat

/-
  Events as plain data; the walks of the reference's Kind, value, with.
-/
namespace Go.Proofs.YtmpipjangbedkaaGreat
set_option maxRecDepth 8000
open Go Go.RowKit
set_option linter.unusedVariables false

/-- An event. -/
structure Ev where
  kind : Int
  member : Int
  acc : Int
  inst : Int
  side : Int
  id : Int
  q : Int
  p : Int
  deriving DecidableEq
def Ev.zero : Ev := ⟨0, 0, 0, 0, 0, 0, 0, 0⟩
/-- What holds of each. -/
structure Ev.Ok (e : Ev) : Prop where
  kind : I64 e.kind
  member : I64 e.member
  acc : I64 e.acc
  inst : I64 e.inst
  side : I64 e.side
  id : I64 e.id
  q : I64 e.q
  p : I64 e.p
def Ev.cells (e : Ev) : List Value := [.int .i64 e.kind, .int .i64 e.member, .int .i64 e.acc, .int .i64 e.inst, .int .i64 e.side, .int .i64 e.id, .int .i64 e.q, .int .i64 e.p]
def Ev.v (e : Ev) : Value := .agg #[.int .i64 e.kind, .int .i64 e.member, .int .i64 e.acc, .int .i64 e.inst, .int .i64 e.side, .int .i64 e.id, .int .i64 e.q, .int .i64 e.p]
/-- A field by its letter. -/
def Ev.val (e : Ev) (f : Nat) : Int := if f = 77 then e.member else if f = 65 then e.acc else if f = 73 then e.inst else if f = 83 then e.side else if f = 68 then e.id else if f = 81 then e.q else e.p
def Ev.with (e : Ev) (f : Nat) (n : Int) : Ev := if f = 77 then { e with member := n } else if f = 65 then { e with acc := n } else if f = 73 then { e with inst := n } else if f = 83 then { e with side := n } else if f = 68 then { e with id := n } else if f = 81 then { e with q := n } else { e with p := n }
theorem Ev.Ok.val {e : Ev} (h : e.Ok) (f : Nat) : I64 (e.val f) := by
  unfold Ev.val
  repeat' split
  · exact h.member
  · exact h.acc
  · exact h.inst
  · exact h.side
  · exact h.id
  · exact h.q
  · exact h.p
theorem Ev.Ok.with {e : Ev} (h : e.Ok) (f : Nat) (n : Int) (hn : I64 n) : (e.with f n).Ok := by
  unfold Ev.with
  obtain ⟨h0, h1, h2, h3, h4, h5, h6, h7⟩ := h
  repeat' split
  all_goals constructor <;> assumption
set_option maxRecDepth 8000 in
set_option maxHeartbeats 1000000 in
theorem kind_any (k : Int) (w : World) : Calls Tryz.prog 67 #[.int .i64 k] w fun e w' => e = .returned (.bool (decide (1 ≤ k ∧ k ≤ 22))) ∧ w = w' := by
  by_cases h : 1 ≤ k
  · by_cases h2 : k ≤ 22
    · have : decide (1 ≤ k ∧ k ≤ 22) = true := by simp; omega
      rw [this]; clear this
      go_enter Tryz.func67, Tryz.ntmps67
      go_wp2
      go_ret
      exact ⟨rfl, rfl⟩
    · have : decide (1 ≤ k ∧ k ≤ 22) = false := by simp; omega
      rw [this]; clear this
      go_enter Tryz.func67, Tryz.ntmps67
      go_wp2
      go_ret
      exact ⟨rfl, rfl⟩
  · have : decide (1 ≤ k ∧ k ≤ 22) = false := by simp; omega
    rw [this]; clear this
    go_enter Tryz.func67, Tryz.ntmps67
    go_wp2
    go_ret
    exact ⟨rfl, rfl⟩
set_option maxRecDepth 8000 in
set_option maxHeartbeats 1000000 in
theorem value_77 (e : Ev) (w : World) : Calls Tryz.prog 44 #[e.v, .int .u8 77] w fun r w' => r = .returned (.int .i64 e.member) ∧ Below w.heap.size w w' := by
  unfold Ev.v
  go_enter Tryz.func44, Tryz.ntmps44
  go_wp2
  go_ret
  exact ⟨rfl, (Below.refl _ _).alloc (Nat.le_refl _) _⟩
set_option maxRecDepth 8000 in
set_option maxHeartbeats 1000000 in
theorem with_77 (e : Ev) (n : Int) (w : World) : Calls Tryz.prog 69 #[e.v, .int .u8 77, .int .i64 n] w fun r w' => r = .returned ({ e with member := n }).v ∧ Below w.heap.size w w' := by
  unfold Ev.v
  go_enter Tryz.func69, Tryz.ntmps69
  go_wp2
  refine bodyPost_ret (v := ({ e with member := n } : Ev).v) (by simp [results, Tryz.results69, go_sem, Ev.v]) rfl ⟨rfl, ?_⟩
  exact ((Below.refl _ _).alloc (Nat.le_refl _) _).alloc (by simp) _
set_option maxRecDepth 8000 in
set_option maxHeartbeats 1000000 in
theorem value_65 (e : Ev) (w : World) : Calls Tryz.prog 44 #[e.v, .int .u8 65] w fun r w' => r = .returned (.int .i64 e.acc) ∧ Below w.heap.size w w' := by
  unfold Ev.v
  go_enter Tryz.func44, Tryz.ntmps44
  go_wp2
  go_ret
  exact ⟨rfl, (Below.refl _ _).alloc (Nat.le_refl _) _⟩
set_option maxRecDepth 8000 in
set_option maxHeartbeats 1000000 in
theorem with_65 (e : Ev) (n : Int) (w : World) : Calls Tryz.prog 69 #[e.v, .int .u8 65, .int .i64 n] w fun r w' => r = .returned ({ e with acc := n }).v ∧ Below w.heap.size w w' := by
  unfold Ev.v
  go_enter Tryz.func69, Tryz.ntmps69
  go_wp2
  refine bodyPost_ret (v := ({ e with acc := n } : Ev).v) (by simp [results, Tryz.results69, go_sem, Ev.v]) rfl ⟨rfl, ?_⟩
  exact ((Below.refl _ _).alloc (Nat.le_refl _) _).alloc (by simp) _
set_option maxRecDepth 8000 in
set_option maxHeartbeats 1000000 in
theorem value_73 (e : Ev) (w : World) : Calls Tryz.prog 44 #[e.v, .int .u8 73] w fun r w' => r = .returned (.int .i64 e.inst) ∧ Below w.heap.size w w' := by
  unfold Ev.v
  go_enter Tryz.func44, Tryz.ntmps44
  go_wp2
  go_ret
  exact ⟨rfl, (Below.refl _ _).alloc (Nat.le_refl _) _⟩
set_option maxRecDepth 8000 in
set_option maxHeartbeats 1000000 in
theorem with_73 (e : Ev) (n : Int) (w : World) : Calls Tryz.prog 69 #[e.v, .int .u8 73, .int .i64 n] w fun r w' => r = .returned ({ e with inst := n }).v ∧ Below w.heap.size w w' := by
  unfold Ev.v
  go_enter Tryz.func69, Tryz.ntmps69
  go_wp2
  refine bodyPost_ret (v := ({ e with inst := n } : Ev).v) (by simp [results, Tryz.results69, go_sem, Ev.v]) rfl ⟨rfl, ?_⟩
  exact ((Below.refl _ _).alloc (Nat.le_refl _) _).alloc (by simp) _
set_option maxRecDepth 8000 in
set_option maxHeartbeats 1000000 in
theorem value_83 (e : Ev) (w : World) : Calls Tryz.prog 44 #[e.v, .int .u8 83] w fun r w' => r = .returned (.int .i64 e.side) ∧ Below w.heap.size w w' := by
  unfold Ev.v
  go_enter Tryz.func44, Tryz.ntmps44
  go_wp2
  go_ret
  exact ⟨rfl, (Below.refl _ _).alloc (Nat.le_refl _) _⟩
set_option maxRecDepth 8000 in
set_option maxHeartbeats 1000000 in
theorem with_83 (e : Ev) (n : Int) (w : World) : Calls Tryz.prog 69 #[e.v, .int .u8 83, .int .i64 n] w fun r w' => r = .returned ({ e with side := n }).v ∧ Below w.heap.size w w' := by
  unfold Ev.v
  go_enter Tryz.func69, Tryz.ntmps69
  go_wp2
  refine bodyPost_ret (v := ({ e with side := n } : Ev).v) (by simp [results, Tryz.results69, go_sem, Ev.v]) rfl ⟨rfl, ?_⟩
  exact ((Below.refl _ _).alloc (Nat.le_refl _) _).alloc (by simp) _
set_option maxRecDepth 8000 in
set_option maxHeartbeats 1000000 in
theorem value_68 (e : Ev) (w : World) : Calls Tryz.prog 44 #[e.v, .int .u8 68] w fun r w' => r = .returned (.int .i64 e.id) ∧ Below w.heap.size w w' := by
  unfold Ev.v
  go_enter Tryz.func44, Tryz.ntmps44
  go_wp2
  go_ret
  exact ⟨rfl, (Below.refl _ _).alloc (Nat.le_refl _) _⟩
set_option maxRecDepth 8000 in
set_option maxHeartbeats 1000000 in
theorem with_68 (e : Ev) (n : Int) (w : World) : Calls Tryz.prog 69 #[e.v, .int .u8 68, .int .i64 n] w fun r w' => r = .returned ({ e with id := n }).v ∧ Below w.heap.size w w' := by
  unfold Ev.v
  go_enter Tryz.func69, Tryz.ntmps69
  go_wp2
  refine bodyPost_ret (v := ({ e with id := n } : Ev).v) (by simp [results, Tryz.results69, go_sem, Ev.v]) rfl ⟨rfl, ?_⟩
  exact ((Below.refl _ _).alloc (Nat.le_refl _) _).alloc (by simp) _
set_option maxRecDepth 8000 in
set_option maxHeartbeats 1000000 in
theorem value_81 (e : Ev) (w : World) : Calls Tryz.prog 44 #[e.v, .int .u8 81] w fun r w' => r = .returned (.int .i64 e.q) ∧ Below w.heap.size w w' := by
  unfold Ev.v
  go_enter Tryz.func44, Tryz.ntmps44
  go_wp2
  go_ret
  exact ⟨rfl, (Below.refl _ _).alloc (Nat.le_refl _) _⟩
set_option maxRecDepth 8000 in
set_option maxHeartbeats 1000000 in
theorem with_81 (e : Ev) (n : Int) (w : World) : Calls Tryz.prog 69 #[e.v, .int .u8 81, .int .i64 n] w fun r w' => r = .returned ({ e with q := n }).v ∧ Below w.heap.size w w' := by
  unfold Ev.v
  go_enter Tryz.func69, Tryz.ntmps69
  go_wp2
  refine bodyPost_ret (v := ({ e with q := n } : Ev).v) (by simp [results, Tryz.results69, go_sem, Ev.v]) rfl ⟨rfl, ?_⟩
  exact ((Below.refl _ _).alloc (Nat.le_refl _) _).alloc (by simp) _
set_option maxRecDepth 8000 in
set_option maxHeartbeats 1000000 in
theorem value_else (e : Ev) (f : Nat) (w : World) (h1 : f ≠ 77) (h2 : f ≠ 65) (h3 : f ≠ 73) (h4 : f ≠ 83) (h5 : f ≠ 68) (h6 : f ≠ 81) : Calls Tryz.prog 44 #[e.v, .int .u8 (f : Int)] w fun r w' => r = .returned (.int .i64 e.p) ∧ Below w.heap.size w w' := by
  have b1 : ((f : Int) == 77) = false := beq_eq_false_iff_ne.2 (by omega)
  have b2 : ((f : Int) == 65) = false := beq_eq_false_iff_ne.2 (by omega)
  have b3 : ((f : Int) == 73) = false := beq_eq_false_iff_ne.2 (by omega)
  have b4 : ((f : Int) == 83) = false := beq_eq_false_iff_ne.2 (by omega)
  have b5 : ((f : Int) == 68) = false := beq_eq_false_iff_ne.2 (by omega)
  have b6 : ((f : Int) == 81) = false := beq_eq_false_iff_ne.2 (by omega)
  unfold Ev.v
  clear h1 h2 h3 h4 h5 h6
  go_enter Tryz.func44, Tryz.ntmps44
  go_wp2
  go_ret
  exact ⟨rfl, (Below.refl _ _).alloc (Nat.le_refl _) _⟩
set_option maxRecDepth 8000 in
set_option maxHeartbeats 1000000 in
theorem with_else (e : Ev) (f : Nat) (n : Int) (w : World) (h1 : f ≠ 77) (h2 : f ≠ 65) (h3 : f ≠ 73) (h4 : f ≠ 83) (h5 : f ≠ 68) (h6 : f ≠ 81) : Calls Tryz.prog 69 #[e.v, .int .u8 (f : Int), .int .i64 n] w fun r w' => r = .returned ({ e with p := n } : Ev).v ∧ Below w.heap.size w w' := by
  have b1 : ((f : Int) == 77) = false := beq_eq_false_iff_ne.2 (by omega)
  have b2 : ((f : Int) == 65) = false := beq_eq_false_iff_ne.2 (by omega)
  have b3 : ((f : Int) == 73) = false := beq_eq_false_iff_ne.2 (by omega)
  have b4 : ((f : Int) == 83) = false := beq_eq_false_iff_ne.2 (by omega)
  have b5 : ((f : Int) == 68) = false := beq_eq_false_iff_ne.2 (by omega)
  have b6 : ((f : Int) == 81) = false := beq_eq_false_iff_ne.2 (by omega)
  unfold Ev.v
  clear h1 h2 h3 h4 h5 h6
  go_enter Tryz.func69, Tryz.ntmps69
  go_wp2
  refine bodyPost_ret (v := ({ e with p := n } : Ev).v) (by simp [results, Tryz.results69, go_sem, Ev.v]) rfl ⟨rfl, ?_⟩
  exact ((Below.refl _ _).alloc (Nat.le_refl _) _).alloc (by simp) _
theorem value_any (e : Ev) (f : Nat) (w : World) : Calls Tryz.prog 44 #[e.v, .int .u8 (f : Int)] w fun r w' => r = .returned (.int .i64 (e.val f)) ∧ Below w.heap.size w w' := by
  unfold Ev.val
  by_cases h77 : f = 77
  · rw [if_pos h77]; subst h77; exact value_77 e w
  rw [if_neg h77]
  by_cases h65 : f = 65
  · rw [if_pos h65]; subst h65; exact value_65 e w
  rw [if_neg h65]
  by_cases h73 : f = 73
  · rw [if_pos h73]; subst h73; exact value_73 e w
  rw [if_neg h73]
  by_cases h83 : f = 83
  · rw [if_pos h83]; subst h83; exact value_83 e w
  rw [if_neg h83]
  by_cases h68 : f = 68
  · rw [if_pos h68]; subst h68; exact value_68 e w
  rw [if_neg h68]
  by_cases h81 : f = 81
  · rw [if_pos h81]; subst h81; exact value_81 e w
  rw [if_neg h81]
  exact value_else e f w h77 h65 h73 h83 h68 h81
theorem with_any (e : Ev) (f : Nat) (n : Int) (w : World) : Calls Tryz.prog 69 #[e.v, .int .u8 (f : Int), .int .i64 n] w fun r w' => r = .returned (e.with f n).v ∧ Below w.heap.size w w' := by
  unfold Ev.with
  by_cases h77 : f = 77
  · rw [if_pos h77]; subst h77; exact with_77 e n w
  rw [if_neg h77]
  by_cases h65 : f = 65
  · rw [if_pos h65]; subst h65; exact with_65 e n w
  rw [if_neg h65]
  by_cases h73 : f = 73
  · rw [if_pos h73]; subst h73; exact with_73 e n w
  rw [if_neg h73]
  by_cases h83 : f = 83
  · rw [if_pos h83]; subst h83; exact with_83 e n w
  rw [if_neg h83]
  by_cases h68 : f = 68
  · rw [if_pos h68]; subst h68; exact with_68 e n w
  rw [if_neg h68]
  by_cases h81 : f = 81
  · rw [if_pos h81]; subst h81; exact with_81 e n w
  rw [if_neg h81]
  exact with_else e f n w h77 h65 h73 h83 h68 h81
end Go.Proofs.YtmpipjangbedkaaGreat

/-
  The walks of the reference's Fields, quantities, prices, bounds.
-/
namespace Go.Proofs.YtmpipjangbedkaaGreat
set_option maxRecDepth 8000
open Go Go.RowKit
set_option linter.unusedVariables false

/-- The letters of a kind's fields. -/
def fieldsOf (k : Int) : List Nat :=
  if k = 1 ∨ k = 11 ∨ k = 12 ∨ k = 13 then [77] else if k = 2 then [77, 65, 83] else if k = 3 ∨ k = 4 ∨ k = 6 then [65, 81] else if k = 5 ∨ k = 22 then [77, 81] else
  if k = 7 then [65, 73, 83, 81, 80] else if k = 8 then [65, 68] else if k = 9 then [73, 80] else if k = 10 then [81] else if k = 14 then [77, 65] else if k = 17 then [65, 68, 81, 80] else if k = 19 then [77, 68, 80] else []
set_option maxRecDepth 8000 in
set_option maxHeartbeats 1000000 in
theorem fields_1 (w : World) : Calls Tryz.prog 43 #[.int .i64 1] w fun e w' => e = .returned (.string (bstr (fieldsOf 1))) ∧ w = w' := by
  have H : Hid (.string (bstr (fieldsOf 1)) = Value.string { data := #[77] }) := Lib.hid (congrArg Value.string (by decide +kernel))
  rw [H.out]
  clear H
  go_enter Tryz.func43, Tryz.ntmps43
  go_wp2
  go_ret
  exact ⟨rfl, rfl⟩
set_option maxRecDepth 8000 in
set_option maxHeartbeats 1000000 in
theorem fields_2 (w : World) : Calls Tryz.prog 43 #[.int .i64 2] w fun e w' => e = .returned (.string (bstr (fieldsOf 2))) ∧ w = w' := by
  have H : Hid (.string (bstr (fieldsOf 2)) = Value.string { data := #[77, 65, 83] }) := Lib.hid (congrArg Value.string (by decide +kernel))
  rw [H.out]
  clear H
  go_enter Tryz.func43, Tryz.ntmps43
  go_wp2
  go_ret
  exact ⟨rfl, rfl⟩
set_option maxRecDepth 8000 in
set_option maxHeartbeats 1000000 in
theorem fields_3 (w : World) : Calls Tryz.prog 43 #[.int .i64 3] w fun e w' => e = .returned (.string (bstr (fieldsOf 3))) ∧ w = w' := by
  have H : Hid (.string (bstr (fieldsOf 3)) = Value.string { data := #[65, 81] }) := Lib.hid (congrArg Value.string (by decide +kernel))
  rw [H.out]
  clear H
  go_enter Tryz.func43, Tryz.ntmps43
  go_wp2
  go_ret
  exact ⟨rfl, rfl⟩
set_option maxRecDepth 8000 in
set_option maxHeartbeats 1000000 in
theorem fields_4 (w : World) : Calls Tryz.prog 43 #[.int .i64 4] w fun e w' => e = .returned (.string (bstr (fieldsOf 4))) ∧ w = w' := by
  have H : Hid (.string (bstr (fieldsOf 4)) = Value.string { data := #[65, 81] }) := Lib.hid (congrArg Value.string (by decide +kernel))
  rw [H.out]
  clear H
  go_enter Tryz.func43, Tryz.ntmps43
  go_wp2
  go_ret
  exact ⟨rfl, rfl⟩
set_option maxRecDepth 8000 in
set_option maxHeartbeats 1000000 in
theorem fields_5 (w : World) : Calls Tryz.prog 43 #[.int .i64 5] w fun e w' => e = .returned (.string (bstr (fieldsOf 5))) ∧ w = w' := by
  have H : Hid (.string (bstr (fieldsOf 5)) = Value.string { data := #[77, 81] }) := Lib.hid (congrArg Value.string (by decide +kernel))
  rw [H.out]
  clear H
  go_enter Tryz.func43, Tryz.ntmps43
  go_wp2
  go_ret
  exact ⟨rfl, rfl⟩
set_option maxRecDepth 8000 in
set_option maxHeartbeats 1000000 in
theorem fields_6 (w : World) : Calls Tryz.prog 43 #[.int .i64 6] w fun e w' => e = .returned (.string (bstr (fieldsOf 6))) ∧ w = w' := by
  have H : Hid (.string (bstr (fieldsOf 6)) = Value.string { data := #[65, 81] }) := Lib.hid (congrArg Value.string (by decide +kernel))
  rw [H.out]
  clear H
  go_enter Tryz.func43, Tryz.ntmps43
  go_wp2
  go_ret
  exact ⟨rfl, rfl⟩
set_option maxRecDepth 8000 in
set_option maxHeartbeats 1000000 in
theorem fields_7 (w : World) : Calls Tryz.prog 43 #[.int .i64 7] w fun e w' => e = .returned (.string (bstr (fieldsOf 7))) ∧ w = w' := by
  have H : Hid (.string (bstr (fieldsOf 7)) = Value.string { data := #[65, 73, 83, 81, 80] }) := Lib.hid (congrArg Value.string (by decide +kernel))
  rw [H.out]
  clear H
  go_enter Tryz.func43, Tryz.ntmps43
  go_wp2
  go_ret
  exact ⟨rfl, rfl⟩
set_option maxRecDepth 8000 in
set_option maxHeartbeats 1000000 in
theorem fields_8 (w : World) : Calls Tryz.prog 43 #[.int .i64 8] w fun e w' => e = .returned (.string (bstr (fieldsOf 8))) ∧ w = w' := by
  have H : Hid (.string (bstr (fieldsOf 8)) = Value.string { data := #[65, 68] }) := Lib.hid (congrArg Value.string (by decide +kernel))
  rw [H.out]
  clear H
  go_enter Tryz.func43, Tryz.ntmps43
  go_wp2
  go_ret
  exact ⟨rfl, rfl⟩
set_option maxRecDepth 8000 in
set_option maxHeartbeats 1000000 in
theorem fields_9 (w : World) : Calls Tryz.prog 43 #[.int .i64 9] w fun e w' => e = .returned (.string (bstr (fieldsOf 9))) ∧ w = w' := by
  have H : Hid (.string (bstr (fieldsOf 9)) = Value.string { data := #[73, 80] }) := Lib.hid (congrArg Value.string (by decide +kernel))
  rw [H.out]
  clear H
  go_enter Tryz.func43, Tryz.ntmps43
  go_wp2
  go_ret
  exact ⟨rfl, rfl⟩
set_option maxRecDepth 8000 in
set_option maxHeartbeats 1000000 in
theorem fields_10 (w : World) : Calls Tryz.prog 43 #[.int .i64 10] w fun e w' => e = .returned (.string (bstr (fieldsOf 10))) ∧ w = w' := by
  have H : Hid (.string (bstr (fieldsOf 10)) = Value.string { data := #[81] }) := Lib.hid (congrArg Value.string (by decide +kernel))
  rw [H.out]
  clear H
  go_enter Tryz.func43, Tryz.ntmps43
  go_wp2
  go_ret
  exact ⟨rfl, rfl⟩
set_option maxRecDepth 8000 in
set_option maxHeartbeats 1000000 in
theorem fields_11 (w : World) : Calls Tryz.prog 43 #[.int .i64 11] w fun e w' => e = .returned (.string (bstr (fieldsOf 11))) ∧ w = w' := by
  have H : Hid (.string (bstr (fieldsOf 11)) = Value.string { data := #[77] }) := Lib.hid (congrArg Value.string (by decide +kernel))
  rw [H.out]
  clear H
  go_enter Tryz.func43, Tryz.ntmps43
  go_wp2
  go_ret
  exact ⟨rfl, rfl⟩
set_option maxRecDepth 8000 in
set_option maxHeartbeats 1000000 in
theorem fields_12 (w : World) : Calls Tryz.prog 43 #[.int .i64 12] w fun e w' => e = .returned (.string (bstr (fieldsOf 12))) ∧ w = w' := by
  have H : Hid (.string (bstr (fieldsOf 12)) = Value.string { data := #[77] }) := Lib.hid (congrArg Value.string (by decide +kernel))
  rw [H.out]
  clear H
  go_enter Tryz.func43, Tryz.ntmps43
  go_wp2
  go_ret
  exact ⟨rfl, rfl⟩
set_option maxRecDepth 8000 in
set_option maxHeartbeats 1000000 in
theorem fields_13 (w : World) : Calls Tryz.prog 43 #[.int .i64 13] w fun e w' => e = .returned (.string (bstr (fieldsOf 13))) ∧ w = w' := by
  have H : Hid (.string (bstr (fieldsOf 13)) = Value.string { data := #[77] }) := Lib.hid (congrArg Value.string (by decide +kernel))
  rw [H.out]
  clear H
  go_enter Tryz.func43, Tryz.ntmps43
  go_wp2
  go_ret
  exact ⟨rfl, rfl⟩
set_option maxRecDepth 8000 in
set_option maxHeartbeats 1000000 in
theorem fields_14 (w : World) : Calls Tryz.prog 43 #[.int .i64 14] w fun e w' => e = .returned (.string (bstr (fieldsOf 14))) ∧ w = w' := by
  have H : Hid (.string (bstr (fieldsOf 14)) = Value.string { data := #[77, 65] }) := Lib.hid (congrArg Value.string (by decide +kernel))
  rw [H.out]
  clear H
  go_enter Tryz.func43, Tryz.ntmps43
  go_wp2
  go_ret
  exact ⟨rfl, rfl⟩
set_option maxRecDepth 8000 in
set_option maxHeartbeats 1000000 in
theorem fields_15 (w : World) : Calls Tryz.prog 43 #[.int .i64 15] w fun e w' => e = .returned (.string (bstr (fieldsOf 15))) ∧ w = w' := by
  have H : Hid (.string (bstr (fieldsOf 15)) = Value.string { data := #[] }) := Lib.hid (congrArg Value.string (by decide +kernel))
  rw [H.out]
  clear H
  go_enter Tryz.func43, Tryz.ntmps43
  go_wp2
  go_ret
  exact ⟨rfl, rfl⟩
set_option maxRecDepth 8000 in
set_option maxHeartbeats 1000000 in
theorem fields_16 (w : World) : Calls Tryz.prog 43 #[.int .i64 16] w fun e w' => e = .returned (.string (bstr (fieldsOf 16))) ∧ w = w' := by
  have H : Hid (.string (bstr (fieldsOf 16)) = Value.string { data := #[] }) := Lib.hid (congrArg Value.string (by decide +kernel))
  rw [H.out]
  clear H
  go_enter Tryz.func43, Tryz.ntmps43
  go_wp2
  go_ret
  exact ⟨rfl, rfl⟩
set_option maxRecDepth 8000 in
set_option maxHeartbeats 1000000 in
theorem fields_17 (w : World) : Calls Tryz.prog 43 #[.int .i64 17] w fun e w' => e = .returned (.string (bstr (fieldsOf 17))) ∧ w = w' := by
  have H : Hid (.string (bstr (fieldsOf 17)) = Value.string { data := #[65, 68, 81, 80] }) := Lib.hid (congrArg Value.string (by decide +kernel))
  rw [H.out]
  clear H
  go_enter Tryz.func43, Tryz.ntmps43
  go_wp2
  go_ret
  exact ⟨rfl, rfl⟩
set_option maxRecDepth 8000 in
set_option maxHeartbeats 1000000 in
theorem fields_18 (w : World) : Calls Tryz.prog 43 #[.int .i64 18] w fun e w' => e = .returned (.string (bstr (fieldsOf 18))) ∧ w = w' := by
  have H : Hid (.string (bstr (fieldsOf 18)) = Value.string { data := #[] }) := Lib.hid (congrArg Value.string (by decide +kernel))
  rw [H.out]
  clear H
  go_enter Tryz.func43, Tryz.ntmps43
  go_wp2
  go_ret
  exact ⟨rfl, rfl⟩
set_option maxRecDepth 8000 in
set_option maxHeartbeats 1000000 in
theorem fields_19 (w : World) : Calls Tryz.prog 43 #[.int .i64 19] w fun e w' => e = .returned (.string (bstr (fieldsOf 19))) ∧ w = w' := by
  have H : Hid (.string (bstr (fieldsOf 19)) = Value.string { data := #[77, 68, 80] }) := Lib.hid (congrArg Value.string (by decide +kernel))
  rw [H.out]
  clear H
  go_enter Tryz.func43, Tryz.ntmps43
  go_wp2
  go_ret
  exact ⟨rfl, rfl⟩
set_option maxRecDepth 8000 in
set_option maxHeartbeats 1000000 in
theorem fields_20 (w : World) : Calls Tryz.prog 43 #[.int .i64 20] w fun e w' => e = .returned (.string (bstr (fieldsOf 20))) ∧ w = w' := by
  have H : Hid (.string (bstr (fieldsOf 20)) = Value.string { data := #[] }) := Lib.hid (congrArg Value.string (by decide +kernel))
  rw [H.out]
  clear H
  go_enter Tryz.func43, Tryz.ntmps43
  go_wp2
  go_ret
  exact ⟨rfl, rfl⟩
set_option maxRecDepth 8000 in
set_option maxHeartbeats 1000000 in
theorem fields_21 (w : World) : Calls Tryz.prog 43 #[.int .i64 21] w fun e w' => e = .returned (.string (bstr (fieldsOf 21))) ∧ w = w' := by
  have H : Hid (.string (bstr (fieldsOf 21)) = Value.string { data := #[] }) := Lib.hid (congrArg Value.string (by decide +kernel))
  rw [H.out]
  clear H
  go_enter Tryz.func43, Tryz.ntmps43
  go_wp2
  go_ret
  exact ⟨rfl, rfl⟩
set_option maxRecDepth 8000 in
set_option maxHeartbeats 1000000 in
theorem fields_22 (w : World) : Calls Tryz.prog 43 #[.int .i64 22] w fun e w' => e = .returned (.string (bstr (fieldsOf 22))) ∧ w = w' := by
  have H : Hid (.string (bstr (fieldsOf 22)) = Value.string { data := #[77, 81] }) := Lib.hid (congrArg Value.string (by decide +kernel))
  rw [H.out]
  clear H
  go_enter Tryz.func43, Tryz.ntmps43
  go_wp2
  go_ret
  exact ⟨rfl, rfl⟩
set_option maxRecDepth 8000 in
set_option maxHeartbeats 1000000 in
theorem fields_else (k : Int) (w : World) (h : k < 1 ∨ 22 < k) : Calls Tryz.prog 43 #[.int .i64 k] w fun e w' => e = .returned (.string (bstr (fieldsOf k))) ∧ w = w' := by
  have hf : fieldsOf k = [] := by
    unfold fieldsOf
    repeat rw [if_neg (by omega)]
  have H : Hid (.string (bstr (fieldsOf k)) = Value.string { data := #[] }) := Lib.hid (by rw [hf]; exact congrArg Value.string (by decide +kernel))
  rw [H.out]
  have b1 : (k == 1) = false := beq_eq_false_iff_ne.2 (by omega)
  have b2 : (k == 2) = false := beq_eq_false_iff_ne.2 (by omega)
  have b3 : (k == 3) = false := beq_eq_false_iff_ne.2 (by omega)
  have b4 : (k == 4) = false := beq_eq_false_iff_ne.2 (by omega)
  have b5 : (k == 5) = false := beq_eq_false_iff_ne.2 (by omega)
  have b6 : (k == 6) = false := beq_eq_false_iff_ne.2 (by omega)
  have b7 : (k == 7) = false := beq_eq_false_iff_ne.2 (by omega)
  have b8 : (k == 8) = false := beq_eq_false_iff_ne.2 (by omega)
  have b9 : (k == 9) = false := beq_eq_false_iff_ne.2 (by omega)
  have b10 : (k == 10) = false := beq_eq_false_iff_ne.2 (by omega)
  have b11 : (k == 11) = false := beq_eq_false_iff_ne.2 (by omega)
  have b12 : (k == 12) = false := beq_eq_false_iff_ne.2 (by omega)
  have b13 : (k == 13) = false := beq_eq_false_iff_ne.2 (by omega)
  have b14 : (k == 14) = false := beq_eq_false_iff_ne.2 (by omega)
  have b15 : (k == 15) = false := beq_eq_false_iff_ne.2 (by omega)
  have b16 : (k == 16) = false := beq_eq_false_iff_ne.2 (by omega)
  have b17 : (k == 17) = false := beq_eq_false_iff_ne.2 (by omega)
  have b18 : (k == 18) = false := beq_eq_false_iff_ne.2 (by omega)
  have b19 : (k == 19) = false := beq_eq_false_iff_ne.2 (by omega)
  have b20 : (k == 20) = false := beq_eq_false_iff_ne.2 (by omega)
  have b21 : (k == 21) = false := beq_eq_false_iff_ne.2 (by omega)
  have b22 : (k == 22) = false := beq_eq_false_iff_ne.2 (by omega)
  clear H hf h
  go_enter Tryz.func43, Tryz.ntmps43
  go_wp2
  go_ret
  exact ⟨rfl, rfl⟩
theorem fields_any (k : Int) (w : World) : Calls Tryz.prog 43 #[.int .i64 k] w fun e w' => e = .returned (.string (bstr (fieldsOf k))) ∧ w = w' := by
  by_cases h1 : k = 1
  · subst h1; exact fields_1 w
  by_cases h2 : k = 2
  · subst h2; exact fields_2 w
  by_cases h3 : k = 3
  · subst h3; exact fields_3 w
  by_cases h4 : k = 4
  · subst h4; exact fields_4 w
  by_cases h5 : k = 5
  · subst h5; exact fields_5 w
  by_cases h6 : k = 6
  · subst h6; exact fields_6 w
  by_cases h7 : k = 7
  · subst h7; exact fields_7 w
  by_cases h8 : k = 8
  · subst h8; exact fields_8 w
  by_cases h9 : k = 9
  · subst h9; exact fields_9 w
  by_cases h10 : k = 10
  · subst h10; exact fields_10 w
  by_cases h11 : k = 11
  · subst h11; exact fields_11 w
  by_cases h12 : k = 12
  · subst h12; exact fields_12 w
  by_cases h13 : k = 13
  · subst h13; exact fields_13 w
  by_cases h14 : k = 14
  · subst h14; exact fields_14 w
  by_cases h15 : k = 15
  · subst h15; exact fields_15 w
  by_cases h16 : k = 16
  · subst h16; exact fields_16 w
  by_cases h17 : k = 17
  · subst h17; exact fields_17 w
  by_cases h18 : k = 18
  · subst h18; exact fields_18 w
  by_cases h19 : k = 19
  · subst h19; exact fields_19 w
  by_cases h20 : k = 20
  · subst h20; exact fields_20 w
  by_cases h21 : k = 21
  · subst h21; exact fields_21 w
  by_cases h22 : k = 22
  · subst h22; exact fields_22 w
  exact fields_else k w (by omega)
/-- What a field of a kind may be. -/
def loQ (k : Int) : Int := if k = 6 then 0 else 1
def hiQ (k : Int) : Int := if k = 6 then 1000000000000 else if k = 7 ∨ k = 17 then 1000000000 else if k = 10 then 1000000 else 9223372036854775807
def loP (k : Int) : Int := if k = 19 then -1152921504606846976 else 1
def hiP (k : Int) : Int := if k = 19 then 1152921504606846976 else 1000000000000
def loF (k : Int) (f : Nat) : Int := if f = 77 then 1 else if f = 65 then 1 else if f = 73 then 0 else if f = 83 then 1 else if f = 68 then 1 else if f = 81 then loQ k else loP k
def hiF (k : Int) (f : Nat) : Int := if f = 77 then 12 else if f = 65 then 24 else if f = 73 then 5 else if f = 83 then 2 else if f = 68 then 1099511627776 else if f = 81 then hiQ k else hiP k
set_option maxRecDepth 8000 in
set_option maxHeartbeats 1000000 in
theorem quant_any (k : Int) (w : World) : Calls Tryz.prog 87 #[.int .i64 k] w fun e w' => e = .returned (.tuple #[.int .i64 (loQ k), .int .i64 (hiQ k)]) ∧ w = w' := by
  by_cases h6 : k = 6
  · subst h6
    rw [show loQ 6 = 0 from rfl, show hiQ 6 = 1000000000000 from rfl]
    go_enter Tryz.func87, Tryz.ntmps87
    go_wp2
    go_ret2
    exact ⟨rfl, rfl⟩
  by_cases h7 : k = 7
  · subst h7
    rw [show loQ 7 = 1 from rfl, show hiQ 7 = 1000000000 from rfl]
    go_enter Tryz.func87, Tryz.ntmps87
    go_wp2
    go_ret2
    exact ⟨rfl, rfl⟩
  by_cases h17 : k = 17
  · subst h17
    rw [show loQ 17 = 1 from rfl, show hiQ 17 = 1000000000 from rfl]
    go_enter Tryz.func87, Tryz.ntmps87
    go_wp2
    go_ret2
    exact ⟨rfl, rfl⟩
  by_cases h10 : k = 10
  · subst h10
    rw [show loQ 10 = 1 from rfl, show hiQ 10 = 1000000 from rfl]
    go_enter Tryz.func87, Tryz.ntmps87
    go_wp2
    go_ret2
    exact ⟨rfl, rfl⟩
  rw [show loQ k = 1 from by unfold loQ; rw [if_neg h6], show hiQ k = 9223372036854775807 from by unfold hiQ; rw [if_neg h6, if_neg (by omega), if_neg h10]]
  have b6 : (k == 6) = false := beq_eq_false_iff_ne.2 h6
  have b7 : (k == 7) = false := beq_eq_false_iff_ne.2 h7
  have b17 : (k == 17) = false := beq_eq_false_iff_ne.2 h17
  have b10 : (k == 10) = false := beq_eq_false_iff_ne.2 h10
  clear h6 h7 h17 h10
  go_enter Tryz.func87, Tryz.ntmps87
  go_wp2
  go_ret2
  exact ⟨rfl, rfl⟩
set_option maxRecDepth 8000 in
set_option maxHeartbeats 1000000 in
theorem prices_any (k : Int) (w : World) : Calls Tryz.prog 88 #[.int .i64 k] w fun e w' => e = .returned (.tuple #[.int .i64 (loP k), .int .i64 (hiP k)]) ∧ w = w' := by
  by_cases h : k = 19
  · subst h
    rw [show loP 19 = -1152921504606846976 from rfl, show hiP 19 = 1152921504606846976 from rfl]
    go_enter Tryz.func88, Tryz.ntmps88
    go_wp2
    go_ret2
    exact ⟨rfl, rfl⟩
  · rw [show loP k = 1 from by unfold loP; rw [if_neg h], show hiP k = 1000000000000 from by unfold hiP; rw [if_neg h]]
    have b : (k == 19) = false := beq_eq_false_iff_ne.2 h
    clear h
    go_enter Tryz.func88, Tryz.ntmps88
    go_wp2
    go_ret2
    exact ⟨rfl, rfl⟩
set_option maxRecDepth 8000 in
set_option maxHeartbeats 2000000 in
theorem bounds_any (k : Int) (f : Nat) (w : World) : Calls Tryz.prog 68 #[.int .i64 k, .int .u8 (f : Int)] w fun e w' => e = .returned (.tuple #[.int .i64 (loF k f), .int .i64 (hiF k f)]) ∧ w = w' := by
  by_cases h77 : f = 77
  · subst h77
    rw [show loF k 77 = 1 from rfl, show hiF k 77 = 12 from rfl]
    go_enter Tryz.func68, Tryz.ntmps68
    go_wp2
    go_ret2
    exact ⟨rfl, rfl⟩
  by_cases h65 : f = 65
  · subst h65
    rw [show loF k 65 = 1 from rfl, show hiF k 65 = 24 from rfl]
    go_enter Tryz.func68, Tryz.ntmps68
    go_wp2
    go_ret2
    exact ⟨rfl, rfl⟩
  by_cases h73 : f = 73
  · subst h73
    rw [show loF k 73 = 0 from rfl, show hiF k 73 = 5 from rfl]
    go_enter Tryz.func68, Tryz.ntmps68
    go_wp2
    go_ret2
    exact ⟨rfl, rfl⟩
  by_cases h83 : f = 83
  · subst h83
    rw [show loF k 83 = 1 from rfl, show hiF k 83 = 2 from rfl]
    go_enter Tryz.func68, Tryz.ntmps68
    go_wp2
    go_ret2
    exact ⟨rfl, rfl⟩
  by_cases h68 : f = 68
  · subst h68
    rw [show loF k 68 = 1 from rfl, show hiF k 68 = 1099511627776 from rfl]
    go_enter Tryz.func68, Tryz.ntmps68
    go_wp2
    go_ret2
    exact ⟨rfl, rfl⟩
  by_cases h81 : f = 81
  · subst h81
    rw [show loF k 81 = loQ k from rfl, show hiF k 81 = hiQ k from rfl]
    have C := Lib.hid (quant_any k w)
    generalize loQ k = lo at *
    generalize hiQ k = hi at *
    go_enter Tryz.func68, Tryz.ntmps68
    go_wp2_with (go_at_call 87; (with_reducible refine C.out.mono ?_); rintro e _ ⟨rfl, rfl⟩)
    go_ret2
    exact ⟨rfl, rfl⟩
  rw [show loF k f = loP k from by unfold loF; rw [if_neg h77, if_neg h65, if_neg h73, if_neg h83, if_neg h68, if_neg h81], show hiF k f = hiP k from by unfold hiF; rw [if_neg h77, if_neg h65, if_neg h73, if_neg h83, if_neg h68, if_neg h81]]
  have b77 : ((f : Int) == 77) = false := beq_eq_false_iff_ne.2 (by omega)
  have b65 : ((f : Int) == 65) = false := beq_eq_false_iff_ne.2 (by omega)
  have b73 : ((f : Int) == 73) = false := beq_eq_false_iff_ne.2 (by omega)
  have b83 : ((f : Int) == 83) = false := beq_eq_false_iff_ne.2 (by omega)
  have b68 : ((f : Int) == 68) = false := beq_eq_false_iff_ne.2 (by omega)
  have b81 : ((f : Int) == 81) = false := beq_eq_false_iff_ne.2 (by omega)
  have C := Lib.hid (prices_any k w)
  generalize loP k = lo at *
  generalize hiP k = hi at *
  clear h77 h65 h73 h83 h68 h81
  go_enter Tryz.func68, Tryz.ntmps68
  go_wp2_with (go_at_call 88; (with_reducible refine C.out.mono ?_); rintro e _ ⟨rfl, rfl⟩)
  go_ret2
  exact ⟨rfl, rfl⟩
end Go.Proofs.YtmpipjangbedkaaGreat
