/-
  Bytes as a string; literals of bytes; a tape that is the call's own.
-/
import Derived.Test.YtcpimdafpmdjnaaTp6
import Derived.Laws.BytesString
import Derived.Laws.Cells
import Derived.Lib.SmallJoins
namespace Go.Proofs.Ytcpimdafpmdjnaa
open Go Go.RowKit
set_option linter.unusedVariables false

/-- The string of bytes. -/
def bstr (l : List Nat) : ByteArray := (l.map Int.ofNat).foldl (fun r n => r.push (UInt8.ofNat n.toNat)) ByteArray.empty
theorem run_bstr (W : World) (A : Option Addr) (l : List Nat) (n c : Nat) (hn : n = l.length) (hB : Byts W A l) : (convert 31 9 (.slice A n c)).run Try.prog W = .ok (.string (bstr l)) W := by
  subst hn
  rw [run_convert_bytes_string W _ _ _ A l.length c Try.underlying31 Try.underlying5 Try.underlying9]
  cases A with
  | none =>
    have : l = [] := by
      cases l with
      | nil => rfl
      | cons x l => obtain ⟨b, off, e, _⟩ := hB (by simp); cases e
    subst this
    rfl
  | some a =>
    have h := run_loadCells_list (P := Try.prog) W a (l.map byteV) (by
      by_cases h0 : l = []
      · subst h0; intro j v hv; simp at hv
      · obtain ⟨b, off, e, _⟩ := hB (List.length_pos_iff.2 h0)
        injection e with e; subst e
        exact byts_news hB)
    rw [List.length_map] at h
    rw [show l.map byteV = (l.map Int.ofNat).map (Value.int .u8) from by rw [List.map_map]; rfl] at h
    exact run_bytesToString W a l.length c _ h
theorem byts_mark (w : World) (t : TypeId) (fr : Nat × Nat) (cs : Array Value) (l : List Nat) (h : cs.toList = l.map byteV) (n : Nat) (hn : n = w.heap.size) : Byts (w.alloc (.cells cs t fr)) (some ⟨n, 0, none⟩) l := by
  intro _
  refine ⟨_, _, rfl, fun i hi => ?_⟩
  rw [Nat.zero_add, Go.Joins.cell_alloc_mark_at w cs t fr n i hn, ← Array.getElem?_toList, h, List.getElem?_map, List.getD_eq_getElem?_getD, List.getElem?_eq_getElem hi]
  rfl
/-- A literal of bytes, made of a constant. -/
theorem lit_bytes (w : World) (cs : Array Value) (l : List Nat) (h : cs.toList = l.map byteV) (n c : Nat) : ∃ W, (convert 31 31 (.slice (some ⟨w.heap.size, 0, none⟩) n c)).run Try.prog (w.alloc (.cells cs 5)) = .ok (.slice (some ⟨w.heap.size, 0, none⟩) n c) W ∧ Below w.heap.size w W ∧ Byts W (some ⟨w.heap.size, 0, none⟩) l :=
  ⟨_, Go.Joins.run_convert_bytes_const_at w 31 5 cs n c _ rfl Try.underlying31 Try.underlying5, (Below.refl _ _).alloc (Nat.le_refl _) _, byts_mark w _ _ _ _ h _ rfl⟩

/-- A tape of the call's own; nothing else of the elder memory is turned. -/
def In (w0 : World) (B b : Nat) (t : Tp) (w : World) : Prop := ∃ v, TapeAt false w B b v t ∧ Below B w0 w
theorem Went.within {w0 w w' : World} {B b : Nat} {v : Value} {t t' : Tp} (hg : Went false w B b v t' w') (h : TapeAt false w B b v t) (hb : Below B w0 w) : In w0 B b t' w' := by
  obtain ⟨v', ha, ht, _⟩ := hg
  exact ⟨v', ha, hb.trans (ht.below (by have := h.low; have := h.box.lt; omega) (fun k hk => (h.lt hk).1))⟩
theorem In.keep {w0 w w' : World} {B b : Nat} {t : Tp} (h : In w0 B b t w) (hb : Below w.heap.size w w') : In w0 B b t w' := by
  obtain ⟨v, ha, hw⟩ := h
  exact ⟨v, ha.keep hb, hw.trans (hb.mono (by have := ha.low; have := ha.box.lt; omega))⟩
theorem In.below {w0 w : World} {B b : Nat} {t : Tp} (h : In w0 B b t w) : Below B w0 w := h.elim fun _ h => h.2
theorem in_new (r : Int) (w : World) : Calls Try.prog 10 #[.int .i64 r] w fun e w' => e = .returned (.pointer (some ⟨w.heap.size, 0, none⟩)) ∧ In w w.heap.size w.heap.size (newTp r) w' :=
  (new_any r w).mono (fun e w' ⟨h1, h2, h3⟩ => ⟨h1, _, h2, h3⟩)
section
variable {w0 w w1 : World} {B b : Nat} {t : Tp}
theorem In.len (h : In w0 B b t w) : Calls Try.prog 22 #[.pointer (some ⟨b, 0, none⟩)] w fun e w' => e = .returned (.int .i64 (t.all.length : Int)) ∧ w = w' := by
  obtain ⟨v, ha, hb⟩ := h
  exact len_any w B b v t ha
theorem In.room (h : In w0 B b t w) : Calls Try.prog 23 #[.pointer (some ⟨b, 0, none⟩)] w fun e w' => e = .returned (.int .i64 (t.room : Int)) ∧ w = w' := by
  obtain ⟨v, ha, hb⟩ := h
  exact room_any w B b v t ha
theorem In.down (h : In w0 B b t w) : Calls Try.prog 18 #[.pointer (some ⟨b, 0, none⟩)] w fun e w' => e = .returned (.bool t.down) ∧ w = w' := by
  obtain ⟨v, ha, hb⟩ := h
  exact down_any w B b v t ha
theorem In.arm (h : In w0 B b t w) (n k : Int) (hn : I64 n) (hk : I64 k) : Calls Try.prog 16 #[.pointer (some ⟨b, 0, none⟩), .int .i64 n, .int .i64 k] w fun e w' => e = .returned (.tuple #[]) ∧ In w0 B b (t.arm n k) w' := by
  obtain ⟨v, ha, hb⟩ := h
  exact (arm_any w B b v t n k hn hk ha).mono (fun e w' ⟨h1, h2⟩ => ⟨h1, h2.within ha hb⟩)
theorem In.wake (h : In w0 B b t w) : Calls Try.prog 20 #[.pointer (some ⟨b, 0, none⟩)] w fun e w' => e = .returned (.tuple #[]) ∧ In w0 B b t.wake w' := by
  obtain ⟨v, ha, hb⟩ := h
  exact (wake_any w B b v t ha).mono (fun e w' ⟨h1, h2⟩ => ⟨h1, h2.within ha hb⟩)
theorem In.cut (h : In w0 B b t w) (n : Int) : Calls Try.prog 19 #[.pointer (some ⟨b, 0, none⟩), .int .i64 n] w fun e w' => e = .returned (.int .i64 (t.cut n).2) ∧ In w0 B b (t.cut n).1 w' := by
  obtain ⟨v, ha, hb⟩ := h
  exact (cut_any w B b v t n ha).mono (fun e w' ⟨h1, h2⟩ => ⟨h1, h2.within ha hb⟩)
theorem In.read (h : In w0 B b t w) : Calls Try.prog 21 #[.pointer (some ⟨b, 0, none⟩)] w fun e w' => BytesC w t.readL.1 t.readL.2 e w' ∧ In w0 B b t w' := by
  have h' := h
  obtain ⟨v, ha, hb⟩ := h
  exact (read_any w B b v t ha).mono (fun e w' h1 => ⟨h1, h'.keep (h1.elim fun _ h => h.2.2)⟩)
theorem In.append (h : In w0 B b t w1) (hk : Below w1.heap.size w1 w) (A : Option Addr) (n c : Nat) (x : List Nat) (hnx : n = x.length) (hx : Byts w A x) (hxo : Oct x) (hA : A = none → c = 0) (hxc : x.length ≤ c) (hcm : c ≤ 9223372036854775807) (hap : ∀ bb off, A = some ⟨bb, off, none⟩ → 0 < x.length → bb < B ∨ w1.heap.size ≤ bb) :
    Calls Try.prog 17 #[.pointer (some ⟨b, 0, none⟩), .slice A n c] w fun e w' => e = .returned (.int .i64 (t.append x).2) ∧ In w0 B b (t.append x).1 w' := by
  obtain ⟨v, ha, hb⟩ := h
  have hs : B ≤ w1.heap.size := by have := ha.low; have := ha.box.lt; omega
  refine (append_any w B b v t A n c x hnx hx hxo hA hxc hcm (fun bb off e h0 hf => ?_) (ha.keep hk)).mono (fun e w' ⟨h1, h2⟩ => ⟨h1, h2.within (ha.keep hk) (hb.trans (hk.mono hs))⟩)
  have h1 := ha.lt hf
  rcases hap bb off e h0 with h2 | h2 <;> omega
theorem In.full (h : In w0 B b t w1) (hk : Below w1.heap.size w1 w) (A : Option Addr) (n c : Nat) (hn : n ≤ 9223372036854775807) (hd : t.down = false) (hf : t.room < t.all.length + n) :
    Calls Try.prog 17 #[.pointer (some ⟨b, 0, none⟩), .slice A n c] w fun e w' => e = .returned (.int .i64 14) ∧ In w0 B b t w' := by
  obtain ⟨v, ha, hb⟩ := h
  have hs : B ≤ w1.heap.size := by have := ha.low; have := ha.box.lt; omega
  exact (append_full w B b v t A c n hn (ha.keep hk) hd hf).mono (fun e w' ⟨h1, h2⟩ => ⟨h1, h2.within (ha.keep hk) (hb.trans (hk.mono hs))⟩)
end
end Go.Proofs.Ytcpimdafpmdjnaa
