import Derived.Test.YtmpipjangbedkaaTpB
import Derived.Laws.BytesString
import Derived.Laws.Cells
import Derived.Lib.SmallJoins
import Derived.Lib.Hide
import Derived.Deep.RegionWith
import Derived.Deep.QuietTactic
import Derived.BigQuiet
/-
  Bytes as a string; literals of bytes.
-/
namespace Go.Proofs.Ytmpipjangbedkaa
set_option maxRecDepth 8000
open Go Go.RowKit
set_option linter.unusedVariables false

/-- The string of bytes. -/
def bstr (l : List Nat) : ByteArray := (l.map Int.ofNat).foldl (fun r n => r.push (UInt8.ofNat n.toNat)) ByteArray.empty
theorem run_bstr (W : World) (A : Option Addr) (l : List Nat) (n c : Nat) (hn : n = l.length) (hB : Byts W A l) : (convert 41 9 (.slice A n c)).run Try.prog W = .ok (.string (bstr l)) W := by
  subst hn
  rw [run_convert_bytes_string W _ _ _ A l.length c Try.underlying41 Try.underlying5 Try.underlying9]
  cases A with
  | none =>
    have : l = [] := by
      cases l with
      | nil => rfl
      | cons x l => obtain ⟨b, off, e, _⟩ := hB (by simp); cases e
    subst this
    rfl
  | some a =>
    have h := run_loadCells_list (P := Try.prog) W a (l.map byteV) (by
      by_cases h0 : l = []
      · subst h0; intro j v hv; simp at hv
      · obtain ⟨b, off, e, _⟩ := hB (List.length_pos_iff.2 h0)
        injection e with e; subst e
        exact byts_news hB)
    rw [List.length_map] at h
    rw [show l.map byteV = (l.map Int.ofNat).map (Value.int .u8) from by rw [List.map_map]; rfl] at h
    exact run_bytesToString W a l.length c _ h
theorem byts_mark (w : World) (t : TypeId) (fr : Nat × Nat) (cs : Array Value) (l : List Nat) (h : cs.toList = l.map byteV) (n : Nat) (hn : n = w.heap.size) : Byts (w.alloc (.cells cs t fr)) (some ⟨n, 0, none⟩) l := by
  intro _
  refine ⟨_, _, rfl, fun i hi => ?_⟩
  rw [Nat.zero_add, Go.Joins.cell_alloc_mark_at w cs t fr n i hn, ← Array.getElem?_toList, h, List.getElem?_map, List.getD_eq_getElem?_getD, List.getElem?_eq_getElem hi]
  rfl
/-- A literal of bytes, made of a constant. -/
theorem lit_bytes (w : World) (cs : Array Value) (l : List Nat) (h : cs.toList = l.map byteV) (n c : Nat) : ∃ W, (convert 41 41 (.slice (some ⟨w.heap.size, 0, none⟩) n c)).run Try.prog (w.alloc (.cells cs 5)) = .ok (.slice (some ⟨w.heap.size, 0, none⟩) n c) W ∧ Below w.heap.size w W ∧ Byts W (some ⟨w.heap.size, 0, none⟩) l :=
  ⟨_, Go.Joins.run_convert_bytes_const_at w 41 5 cs n c _ rfl Try.underlying41 Try.underlying5, (Below.refl _ _).alloc (Nat.le_refl _) _, byts_mark w _ _ _ _ h _ rfl⟩
theorem bstr_data (l : List Nat) : ∀ r : ByteArray, ((l.map Int.ofNat).foldl (fun r n => r.push (UInt8.ofNat n.toNat)) r).data.toList = r.data.toList ++ l.map UInt8.ofNat := by
  induction l with
  | nil => intro r; simp
  | cons x l ih =>
    intro r
    rw [List.map_cons, List.foldl_cons, ih]
    simp [ByteArray.push]
theorem bstr_cat (a b : List Nat) : bstr a ++ bstr b = bstr (a ++ b) := by
  have h : (bstr a ++ bstr b).data.toList = (bstr (a ++ b)).data.toList := by
    rw [Go.Joins.data_append]
    unfold bstr
    rw [bstr_data, bstr_data, bstr_data]
    simp
  exact ByteArray.ext (Array.toList_inj.1 h)
theorem bstr_size (a : List Nat) : (bstr a).size = a.length := by
  show (bstr a).data.size = _
  rw [← Array.length_toList]
  unfold bstr
  rw [bstr_data]
  simp
end Go.Proofs.Ytmpipjangbedkaa

/-
  Events as plain data; the walks of the reference's Kind, value, with.
-/
namespace Go.Proofs.Ytmpipjangbedkaa
set_option maxRecDepth 8000
open Go Go.RowKit
set_option linter.unusedVariables false

/-- An event. -/
structure Ev where
  kind : Int
  member : Int
  acc : Int
  inst : Int
  side : Int
  id : Int
  q : Int
  p : Int
  deriving DecidableEq
def Ev.zero : Ev := ⟨0, 0, 0, 0, 0, 0, 0, 0⟩
/-- What holds of each. -/
structure Ev.Ok (e : Ev) : Prop where
  kind : I64 e.kind
  member : I64 e.member
  acc : I64 e.acc
  inst : I64 e.inst
  side : I64 e.side
  id : I64 e.id
  q : I64 e.q
  p : I64 e.p
def Ev.cells (e : Ev) : List Value := [.int .i64 e.kind, .int .i64 e.member, .int .i64 e.acc, .int .i64 e.inst, .int .i64 e.side, .int .i64 e.id, .int .i64 e.q, .int .i64 e.p]
def Ev.v (e : Ev) : Value := .agg #[.int .i64 e.kind, .int .i64 e.member, .int .i64 e.acc, .int .i64 e.inst, .int .i64 e.side, .int .i64 e.id, .int .i64 e.q, .int .i64 e.p]
/-- A field by its letter. -/
def Ev.val (e : Ev) (f : Nat) : Int := if f = 77 then e.member else if f = 65 then e.acc else if f = 73 then e.inst else if f = 83 then e.side else if f = 68 then e.id else if f = 81 then e.q else e.p
def Ev.with (e : Ev) (f : Nat) (n : Int) : Ev := if f = 77 then { e with member := n } else if f = 65 then { e with acc := n } else if f = 73 then { e with inst := n } else if f = 83 then { e with side := n } else if f = 68 then { e with id := n } else if f = 81 then { e with q := n } else { e with p := n }
theorem Ev.Ok.val {e : Ev} (h : e.Ok) (f : Nat) : I64 (e.val f) := by
  unfold Ev.val
  repeat' split
  · exact h.member
  · exact h.acc
  · exact h.inst
  · exact h.side
  · exact h.id
  · exact h.q
  · exact h.p
theorem Ev.Ok.with {e : Ev} (h : e.Ok) (f : Nat) (n : Int) (hn : I64 n) : (e.with f n).Ok := by
  unfold Ev.with
  obtain ⟨h0, h1, h2, h3, h4, h5, h6, h7⟩ := h
  repeat' split
  all_goals constructor <;> assumption
end Go.Proofs.Ytmpipjangbedkaa

/-
  The walks of the reference's Fields, quantities, prices, bounds.
-/
namespace Go.Proofs.Ytmpipjangbedkaa
set_option maxRecDepth 8000
open Go Go.RowKit
set_option linter.unusedVariables false

/-- The letters of a kind's fields. -/
def fieldsOf (k : Int) : List Nat :=
  if k = 1 ∨ k = 11 ∨ k = 12 ∨ k = 13 then [77] else if k = 2 then [77, 65, 83] else if k = 3 ∨ k = 4 ∨ k = 6 then [65, 81] else if k = 5 ∨ k = 22 then [77, 81] else
  if k = 7 then [65, 73, 83, 81, 80] else if k = 8 then [65, 68] else if k = 9 then [73, 80] else if k = 10 then [81] else if k = 14 then [77, 65] else if k = 17 then [65, 68, 81, 80] else if k = 19 then [77, 68, 80] else []
/-- What a field of a kind may be. -/
def loQ (k : Int) : Int := if k = 6 then 0 else 1
def hiQ (k : Int) : Int := if k = 6 then 1000000000000 else if k = 7 ∨ k = 17 then 1000000000 else if k = 10 then 1000000 else 9223372036854775807
def loP (k : Int) : Int := if k = 19 then -1152921504606846976 else 1
def hiP (k : Int) : Int := if k = 19 then 1152921504606846976 else 1000000000000
def loF (k : Int) (f : Nat) : Int := if f = 77 then 1 else if f = 65 then 1 else if f = 73 then 0 else if f = 83 then 1 else if f = 68 then 1 else if f = 81 then loQ k else loP k
def hiF (k : Int) (f : Nat) : Int := if f = 77 then 12 else if f = 65 then 24 else if f = 73 then 5 else if f = 83 then 2 else if f = 68 then 1099511627776 else if f = 81 then hiQ k else hiP k
end Go.Proofs.Ytmpipjangbedkaa

/-
  The walk of the reference's Right.
-/
namespace Go.Proofs.Ytmpipjangbedkaa
set_option maxRecDepth 8000
open Go Go.RowKit
set_option linter.unusedVariables false

theorem bstr_get (l : List Nat) (hO : Oct l) (k : Nat) (h : k < (bstr l).size) : ((bstr l)[k]'h).toNat = l.getD k 0 := by
  have hk : k < l.length := by rw [bstr_size] at h; exact h
  have e : (bstr l).data.toList = l.map UInt8.ofNat := by unfold bstr; rw [bstr_data]; simp
  have h1 : (bstr l)[k]'h = (bstr l).data.toList[k]'(by rw [e]; simpa using hk) := by simp [ByteArray.getElem_eq_getElem_data]
  rw [h1]
  simp only [e, List.getElem_map]
  rw [List.getD_eq_getElem?_getD, List.getElem?_eq_getElem hk]
  have := hO (l[k]) (List.getElem_mem hk)
  simp
  omega
theorem fields_oct (k : Int) : Oct (fieldsOf k) := by
  unfold fieldsOf
  repeat' split
  all_goals (unfold Oct; decide)
theorem fields_len (k : Int) : (fieldsOf k).length ≤ 5 := by
  unfold fieldsOf
  repeat' split
  all_goals simp
theorem below_dr {w w2 : World} {j : Nat} (h : Below (w.drewN j).heap.size (w.drewN j) w2) : Below w.heap.size w w2 := ⟨h.os, h.tape, h.output, h.size, h.block⟩
/-- The event of these fields alone. -/
def bareOf (e : Ev) (l : List Nat) : Ev := l.foldl (fun b f => b.with f (e.val f)) ⟨e.kind, 0, 0, 0, 0, 0, 0, 0⟩
def inF (e : Ev) (f : Nat) : Bool := decide (loF e.kind f ≤ e.val f) && decide (e.val f ≤ hiF e.kind f)
/-- Is it right? -/
def rightE (e : Ev) : Bool := decide (1 ≤ e.kind ∧ e.kind ≤ 22) && ((fieldsOf e.kind).all (inF e) && decide (bareOf e (fieldsOf e.kind) = e))
/-- An event in a block of its own. -/
def EvAt (w : World) (b : Nat) (e : Ev) : Prop := Rec w b 38 e.cells
theorem EvAt.reads {w : World} {b : Nat} {e : Ev} (h : EvAt w b e) : w.cell? ⟨b, 0, none⟩ = some (.int .i64 e.kind) ∧ w.cell? ⟨b, 1, none⟩ = some (.int .i64 e.member) ∧ w.cell? ⟨b, 2, none⟩ = some (.int .i64 e.acc) ∧ w.cell? ⟨b, 3, none⟩ = some (.int .i64 e.inst) ∧ w.cell? ⟨b, 4, none⟩ = some (.int .i64 e.side) ∧ w.cell? ⟨b, 5, none⟩ = some (.int .i64 e.id) ∧ w.cell? ⟨b, 6, none⟩ = some (.int .i64 e.q) ∧ w.cell? ⟨b, 7, none⟩ = some (.int .i64 e.p) :=
  ⟨Rec.cell h 0 rfl, Rec.cell h 1 rfl, Rec.cell h 2 rfl, Rec.cell h 3 rfl, Rec.cell h 4 rfl, Rec.cell h 5 rfl, Rec.cell h 6 rfl, Rec.cell h 7 rfl⟩
theorem EvAt.keep {w w' : World} {b : Nat} {e : Ev} (h : EvAt w b e) (hb : Below w.heap.size w w') : EvAt w' b e := Rec.keep h hb
/-- An event is stored. -/
def putE (w : World) (b : Nat) (y : Ev) : World := (((((((w.setCell ⟨b, 0, none⟩ (.int .i64 y.kind)).setCell ⟨b, 1, none⟩ (.int .i64 y.member)).setCell ⟨b, 2, none⟩ (.int .i64 y.acc)).setCell ⟨b, 3, none⟩ (.int .i64 y.inst)).setCell ⟨b, 4, none⟩ (.int .i64 y.side)).setCell ⟨b, 5, none⟩ (.int .i64 y.id)).setCell ⟨b, 6, none⟩ (.int .i64 y.q)).setCell ⟨b, 7, none⟩ (.int .i64 y.p)
theorem put_at {w : World} {b : Nat} {x : Ev} (h : EvAt w b x) (y : Ev) : EvAt (putE w b y) b y := by
  have := (((((((Rec.set h 0 (.int .i64 y.kind)).set 1 (.int .i64 y.member)).set 2 (.int .i64 y.acc)).set 3 (.int .i64 y.inst)).set 4 (.int .i64 y.side)).set 5 (.int .i64 y.id)).set 6 (.int .i64 y.q)).set 7 (.int .i64 y.p)
  exact this
theorem put_touch (w : World) (b : Nat) (y : Ev) : Touch (fun k => k = b) w (putE w b y) := by
  unfold putE
  refine ((((((((Touch.setCell w ⟨b, 0, none⟩ _).trans (Touch.setCell _ ⟨b, 1, none⟩ _) ?_).trans (Touch.setCell _ ⟨b, 2, none⟩ _) ?_).trans (Touch.setCell _ ⟨b, 3, none⟩ _) ?_).trans (Touch.setCell _ ⟨b, 4, none⟩ _) ?_).trans (Touch.setCell _ ⟨b, 5, none⟩ _) ?_).trans (Touch.setCell _ ⟨b, 6, none⟩ _) ?_).trans (Touch.setCell _ ⟨b, 7, none⟩ _) ?_) <;> exact fun _ _ h => h
theorem put_other {w : World} {b b' : Nat} {x y : Ev} (h : EvAt w b x) (hne : b ≠ b') : EvAt (putE w b' y) b x := Rec.touch h (put_touch w b' y) hne
theorem put_below {w0 w : World} {B b : Nat} (h : Below B w0 w) (hB : B ≤ b) (y : Ev) : Below B w0 (putE w b y) := by
  have ht := put_touch w b y
  exact ⟨ht.os.trans h.os, ht.tape.trans h.tape, ht.output.trans h.output, Nat.le_trans h.size ht.size, fun k hk => by
    rcases Nat.lt_or_ge k w.heap.size with h1 | h1
    · rw [ht.block k h1 (fun e => by omega)]; exact h.block k hk
    · have : ¬ k < w0.heap.size := by have := h.size; omega
      have h2 : (putE w b y).heap.size = w.heap.size := by simp [putE, World.setCell]
      rw [Array.getElem?_eq_none (by omega), ← h.block k hk, Array.getElem?_eq_none h1]⟩
theorem bare_take (e : Ev) (l : List Nat) (k : Nat) (h : k < l.length) : bareOf e (l.take (k + 1)) = (bareOf e (l.take k)).with (l.getD k 0) (e.val (l.getD k 0)) := by
  unfold bareOf
  rw [List.take_succ_eq_append_getElem h, List.foldl_append, List.getD_eq_getElem?_getD, List.getElem?_eq_getElem h]
  rfl
theorem right_kind {e : Ev} (h : ¬ (1 ≤ e.kind ∧ e.kind ≤ 22)) : rightE e = false := by unfold rightE; rw [decide_eq_false h]; rfl
theorem right_field {e : Ev} {k : Nat} (hk : k < (fieldsOf e.kind).length) (h : e.val ((fieldsOf e.kind).getD k 0) < loF e.kind ((fieldsOf e.kind).getD k 0) ∨ hiF e.kind ((fieldsOf e.kind).getD k 0) < e.val ((fieldsOf e.kind).getD k 0)) : rightE e = false := by
  have hm : (fieldsOf e.kind).getD k 0 ∈ fieldsOf e.kind := by rw [List.getD_eq_getElem?_getD, List.getElem?_eq_getElem hk]; exact List.getElem_mem _
  have : (fieldsOf e.kind).all (inF e) = false := by
    rw [List.all_eq_false]
    refine ⟨_, hm, ?_⟩
    unfold inF
    rcases h with h | h
    · rw [decide_eq_false (show ¬ loF e.kind ((fieldsOf e.kind).getD k 0) ≤ e.val ((fieldsOf e.kind).getD k 0) by omega)]; simp
    · rw [decide_eq_false (show ¬ e.val ((fieldsOf e.kind).getD k 0) ≤ hiF e.kind ((fieldsOf e.kind).getD k 0) by omega)]; simp
  unfold rightE
  rw [this]
  simp
theorem right_all {e : Ev} (hk : 1 ≤ e.kind ∧ e.kind ≤ 22) (h : ∀ j, j < (fieldsOf e.kind).length → loF e.kind ((fieldsOf e.kind).getD j 0) ≤ e.val ((fieldsOf e.kind).getD j 0) ∧ e.val ((fieldsOf e.kind).getD j 0) ≤ hiF e.kind ((fieldsOf e.kind).getD j 0)) : rightE e = decide (bareOf e (fieldsOf e.kind) = e) := by
  have : (fieldsOf e.kind).all (inF e) = true := by
    rw [List.all_eq_true]
    intro f hf
    obtain ⟨j, hj, rfl⟩ := List.getElem_of_mem hf
    have := h j hj
    rw [List.getD_eq_getElem?_getD, List.getElem?_eq_getElem hj] at this
    simp only [Option.getD_some] at this
    unfold inF
    rw [decide_eq_true this.1, decide_eq_true this.2]
    rfl
  unfold rightE
  rw [this, decide_eq_true hk]
  simp
theorem ev_eq (x e : Ev) : decide (x = e) = (decide (x.kind = e.kind) && (decide (x.member = e.member) && (decide (x.acc = e.acc) && (decide (x.inst = e.inst) && (decide (x.side = e.side) && (decide (x.id = e.id) && (decide (x.q = e.q) && decide (x.p = e.p)))))))) := by
  obtain ⟨a0, a1, a2, a3, a4, a5, a6, a7⟩ := x
  obtain ⟨b0, b1, b2, b3, b4, b5, b6, b7⟩ := e
  simp [Bool.decide_and]
set_option maxRecDepth 8000 in
set_option maxHeartbeats 1000000 in
theorem run_ev_eq (x e : Ev) (W : World) : (binOp .eql 38 x.v e.v).run Try.prog W = .ok (.bool (decide (x = e))) W := by
  rw [ev_eq]
  unfold Ev.v
  simp [go_sem]
  repeat' split
  all_goals simp_all
end Go.Proofs.Ytmpipjangbedkaa

/-
  The letters of fields. (No program is named here.)
-/
namespace Go.Proofs.Ytmpipjangbedkaa
set_option maxRecDepth 8000
open Go Go.RowKit
set_option linter.unusedVariables false

/-- The letters of fields. -/
def letter (f : Nat) : Prop := f = 77 ∨ f = 65 ∨ f = 73 ∨ f = 83 ∨ f = 68 ∨ f = 81 ∨ f = 80
theorem fields_letters (k : Int) : ∀ f ∈ fieldsOf k, letter f := by
  unfold fieldsOf
  repeat' split
  all_goals (intro f hf; first | exact absurd hf List.not_mem_nil | (simp only [List.mem_cons, List.not_mem_nil, or_false] at hf; unfold letter; omega))
theorem fields_nodup (k : Int) : (fieldsOf k).Nodup := by
  unfold fieldsOf
  repeat' split
  all_goals decide
theorem val_with_same {f : Nat} (e : Ev) (n : Int) (h : letter f) : (e.with f n).val f = n := by
  rcases h with rfl | rfl | rfl | rfl | rfl | rfl | rfl <;> rfl
theorem val_with_other {f g : Nat} (e : Ev) (n : Int) (hf : letter f) (hg : letter g) (h : g ≠ f) : (e.with f n).val g = e.val g := by
  rcases hf with rfl | rfl | rfl | rfl | rfl | rfl | rfl <;> rcases hg with rfl | rfl | rfl | rfl | rfl | rfl | rfl <;> first | rfl | exact absurd rfl h
theorem kind_with (e : Ev) (f : Nat) (n : Int) : (e.with f n).kind = e.kind := by
  unfold Ev.with
  repeat' split
  all_goals rfl
end Go.Proofs.Ytmpipjangbedkaa
