/-
  The walks of bytes.Clone, of both Read and Copy.
-/
import Derived.Test.YtcpimdafpmdjnaaTp3
namespace Go.Proofs.Ytcpimdafpmdjnaa
open Go.RowKit
set_option linter.unusedVariables false

/-- New bytes. -/
def BytesV (w : World) (l : List Nat) (e : Ending) (w' : World) : Prop := ∃ v, e = .returned v ∧ OwnB w' w.heap.size v l ∧ Below w.heap.size w w'
/-- New bytes, and a code. -/
def BytesC (w : World) (l : List Nat) (code : Int) (e : Ending) (w' : World) : Prop :=
  ∃ v, e = .returned (.tuple #[v, .int .i64 code]) ∧ OwnB w' w.heap.size v l ∧ Below w.heap.size w w'

set_option maxRecDepth 8000 in
set_option maxHeartbeats 1000000 in
theorem clone_any (A : Option Addr) (l : List Nat) (c : Nat) (w : World) (hr : Byts w A l) (hn : l.length ≤ 1000000000000) :
    Calls Try.prog 29 #[.slice A l.length c] w (BytesV w l) := by
  cases A with
  | none =>
    have h0 : l = [] := by
      cases l with
      | nil => rfl
      | cons x l => obtain ⟨b, off, e, _⟩ := hr (by simp); cases e
    subst h0
    have F : Hid (BytesV w [] (.returned (.slice none 0 0)) w) := Lib.hid ⟨_, rfl, ownB_nil w _, Below.refl _ _⟩
    clear hr
    have he : ∀ w : World, (binOp .eql 31 (.slice none 0 c) (.slice none 0 0)).run Try.prog w = .ok (.bool true) w := fun _ => rfl
    go_enter Try.func29, Try.ntmps29
    go_wp2
    go_ret
    exact F.out
  | some a =>
    obtain ⟨n, hn'⟩ : ∃ n, n = l.length := ⟨_, rfl⟩
    rw [← hn']
    have HN := Lib.hid hn'
    have HB := Lib.hid hr
    rw [← hn'] at hn
    clear hn' hr
    have he : ∀ w : World, (binOp .eql 31 (.slice (some a) n c) (.slice none 0 0)).run Try.prog w = .ok (.bool false) w := fun _ => rfl
    go_enter Try.func29, Try.ntmps29
    go_wp2_with (at_builtin; refine wpList_app rfl (.tmp 5) (.tmp 6) rfl w.heap.size _ [] rfl (ownB_lit w _ _ [] (Nat.le_refl _) ?c1 rfl _ rfl _ rfl) _ _ _ l rfl HN.out (HB.out.below ?c3) ?c5 ?c6 ?c7 ?_)
    case c1 => simp
    case c3 => exact (Below.refl _ _).alloc (Nat.le_refl _) _
    case c5 => intro e; cases e
    case c6 => have := HN.out; simp; omega
    case c7 => simp
    intro v2 w2 ho2 hg2 _
    go_wp2
    go_ret
    exact ⟨v2, rfl, ho2, below_one (grown_below (ownB_lit w w.heap.size #[] [] (Nat.le_refl _) (by simp) rfl _ rfl 0 rfl) hg2 (by simp))⟩

/-- What Read tells. -/
def Tp.readL (t : Tp) : List Nat × Int := if t.down then ([], 15) else (t.all, 0)
set_option maxRecDepth 8000 in
set_option maxHeartbeats 1000000 in
theorem read_any (w : World) (base b : Nat) (v : Value) (t : Tp) (h : TapeAt false w base b v t) :
    Calls Try.prog 21 #[.pointer (some ⟨b, 0, none⟩)] w (BytesC w t.readL.1 t.readL.2) := by
  obtain ⟨c0, _, c2, _⟩ := h.reads
  cases hd : t.down with
  | true =>
    rw [show t.readL = ([], 15) from by unfold Tp.readL; rw [hd]; rfl]
    rw [hd] at c2
    have F : Hid (BytesC w [] 15 (.returned (.tuple #[.slice none 0 0, .int .i64 15])) w) := Lib.hid ⟨_, rfl, ownB_nil w _, Below.refl _ _⟩
    clear h
    go_enter Try.func21, Try.ntmps21
    go_wp2
    go_ret2
    exact F.out
  | false =>
    rw [show t.readL = (t.all, 0) from by unfold Tp.readL; rw [hd]; rfl]
    rw [hd] at c2
    obtain ⟨A, c, rfl, hB, _⟩ := h.own.form
    have := h.ok.len
    have := h.ok.room
    have C := Lib.hid (clone_any A t.all c w hB (by omega))
    generalize t.all.length = n at *
    clear h
    go_enter Try.func21, Try.ntmps21
    go_wp2_with (go_at_call 29; refine C.out.mono ?_; rintro e w1 ⟨v1, rfl, ho, hb⟩; have HO := Lib.hid ho; obtain ⟨A1, c1, rfl, _⟩ := OwnB.form ho)
    go_ret2
    exact ⟨_, rfl, HO.out, hb⟩
set_option maxRecDepth 8000 in
set_option maxHeartbeats 1000000 in
theorem rread_any (w : World) (base b : Nat) (v : Value) (t : Tp) (h : TapeAt true w base b v t) :
    Calls Try.prog 26 #[.pointer (some ⟨b, 0, none⟩)] w (BytesC w t.readL.1 t.readL.2) := by
  obtain ⟨c0, _, _, _, _, c5, _⟩ := h.rreads
  cases hd : t.down with
  | true =>
    rw [show t.readL = ([], 15) from by unfold Tp.readL; rw [hd]; rfl]
    rw [hd] at c5
    have F : Hid (BytesC w [] 15 (.returned (.tuple #[.slice none 0 0, .int .i64 15])) w) := Lib.hid ⟨_, rfl, ownB_nil w _, Below.refl _ _⟩
    clear h
    go_enter Try.func26, Try.ntmps26
    go_wp2
    go_ret2
    exact F.out
  | false =>
    rw [show t.readL = (t.all, 0) from by unfold Tp.readL; rw [hd]; rfl]
    rw [hd] at c5
    obtain ⟨A, c, rfl, hB, _, _, hA, _⟩ := h.own.form
    have h1 := h.ok.len
    have h2 := h.ok.room
    have hlt := h.box.lt
    obtain ⟨n, hn⟩ : ∃ n, n = t.all.length := ⟨_, rfl⟩
    rw [← hn] at c0 h1
    have HN := Lib.hid hn
    have HB := Lib.hid hB
    have HA := Lib.hid hA
    clear h hn hB hA
    go_enter Try.func26, Try.ntmps26
    go_wp2_with (at_builtin; refine wpList_app rfl (.tmp 8) (.tmp 12) rfl w.heap.size _ [] rfl (ownB_lit w _ _ [] (Nat.le_refl _) ?c1 rfl _ rfl _ rfl) _ _ _ t.all rfl HN.out (HB.out.below ?c3) HA.out ?c6 ?c7 ?_)
    case c1 => simp
    case c3 => exact (Below.refl _ _).alloc (Nat.le_refl _) _
    case c6 => have := HN.out; simp; omega
    case c7 => simp
    intro v2 w2 ho2 hg2 _
    have HO := Lib.hid ho2
    obtain ⟨A2, c2, rfl, _⟩ := OwnB.form ho2
    go_wp2
    go_ret2
    exact ⟨_, rfl, HO.out, below_one (grown_below (ownB_lit w w.heap.size #[] [] (Nat.le_refl _) (by simp) rfl _ rfl 0 rfl) hg2 (by simp))⟩

/-- Another tape, all of it new. -/
def CopyC (r : Bool) (w : World) (t : Tp) (e : Ending) (w' : World) : Prop := ∃ b v, e = .returned (.pointer (some ⟨b, 0, none⟩)) ∧ TapeAt r w' w.heap.size b v t ∧ Below w.heap.size w w'
theorem copied {r : Bool} {w w1 : World} {t : Tp} {v v' : Value} (ok : t.Ok) (hw : Below (w.heap.size + 1) (w.alloc (.cells (cellsOf r t v).toArray (tyOf r))) w1) (ho : OwnB w1 w.heap.size v' t.all) (hc : (cellsOf r t v).set 0 v' = cellsOf r t v') : TapeAt r (w1.setCell ⟨w.heap.size, 0, none⟩ v') w.heap.size w.heap.size v' t ∧ Below w.heap.size w (w1.setCell ⟨w.heap.size, 0, none⟩ v') := by
  have hr : Rec w1 w.heap.size (tyOf r) (cellsOf r t v) := (hw.block w.heap.size (by omega)).trans (Rec.new w (tyOf r) (cellsOf r t v) _ rfl)
  refine ⟨⟨Nat.le_refl _, by rw [← hc]; exact hr.set 0 v', ?_, ok⟩, (below_one (hw.mono (by omega))).setCell (p := ⟨w.heap.size, 0, none⟩) (by simp) _⟩
  exact ho.touch (Touch.setCell w1 ⟨w.heap.size, 0, none⟩ v') (fun k hk e => hr.not_row (tyOf_ne r) ho (by rw [hk]; simp only at e; rw [e]))
set_option maxRecDepth 8000 in
set_option maxHeartbeats 2000000 in
theorem copy_any (w : World) (base b : Nat) (v : Value) (t : Tp) (h : TapeAt false w base b v t) :
    Calls Try.prog 14 #[.pointer (some ⟨b, 0, none⟩)] w (CopyC false w t) := by
  obtain ⟨c0, c1, c2, c3, c4, c5, _⟩ := h.reads
  have hlt := h.box.lt
  obtain ⟨A, c, rfl, hB, _⟩ := h.own.form
  have := h.ok.len
  have := h.ok.room
  have OK := Lib.hid h.ok
  have HB := Lib.hid hB
  have hw0 : Below w.heap.size w (w.alloc (.cells (cellsOf false t (.slice A t.all.length c)).toArray (tyOf false))) := (Below.refl _ _).alloc (Nat.le_refl _) _
  have C := Lib.hid (clone_any A t.all c (w.alloc (.cells (cellsOf false t (.slice A t.all.length c)).toArray (tyOf false))) (hB.below hw0) (by omega))
  simp only [cellsOf, tyOf] at C
  clear h hw0 hB
  go_enter Try.func14, Try.ntmps14
  go_wp2_with (go_at_call 29; refine C.out.mono ?_; rintro e w1 ⟨v1, rfl, ho, hb⟩; have HO := Lib.hid ho; have HW := Lib.hid hb; have x0 := hb.cell (p := ⟨w.heap.size, 0, none⟩) (by simp); have y0 := hb.frozen (p := ⟨w.heap.size, 0, none⟩) (by simp); obtain ⟨A1, c1, rfl, _⟩ := OwnB.form ho; clear ho hb)
  go_ret
  obtain ⟨k1, k2⟩ := copied (r := false) (t := t) (v := .slice A t.all.length c) OK.out (by have := HW.out; simp only [World.size_alloc] at this; exact this) (HO.out.base (by simp)) rfl
  exact ⟨_, _, rfl, k1, k2⟩
set_option maxRecDepth 8000 in
set_option maxHeartbeats 2000000 in
theorem rcopy_any (w : World) (base b : Nat) (v : Value) (t : Tp) (h : TapeAt true w base b v t) :
    Calls Try.prog 15 #[.pointer (some ⟨b, 0, none⟩)] w (CopyC true w t) := by
  obtain ⟨c0, c1, c2, c3, c4, c5, _⟩ := h.rreads
  have hlt := h.box.lt
  obtain ⟨A, c, rfl, hB, _, _, hA, _⟩ := h.own.form
  have h1 := h.ok.len
  have h2 := h.ok.room
  have OK := Lib.hid h.ok
  obtain ⟨n, hn⟩ : ∃ n, n = t.all.length := ⟨_, rfl⟩
  obtain ⟨W0, hW0⟩ : ∃ W0, W0 = w.alloc (.cells (cellsOf true t (.slice A n c)).toArray (tyOf true)) := ⟨_, rfl⟩
  have hw0 : Below w.heap.size w W0 := by rw [hW0]; exact (Below.refl _ _).alloc (Nat.le_refl _) _
  have HB := Lib.hid (hB.below hw0)
  have hs0 : W0.heap.size = w.heap.size + 1 := by rw [hW0]; simp
  rw [← hn] at c0 h1
  have d0 : W0.cell? ⟨b, 0, none⟩ = some (.slice A n c) := (hw0.cell (p := ⟨b, 0, none⟩) hlt).trans c0
  have HR : Rec W0 w.heap.size (tyOf true) (cellsOf true t (.slice A n c)) := by rw [hW0]; exact Rec.new w _ _ _ rfl
  have d1 := HR.cell 0 rfl
  have d2 := HR.frozen 0
  have HN := Lib.hid hn
  have HA := Lib.hid hA
  have HW := Lib.hid hW0
  simp only [cellsOf, tyOf] at hW0
  clear h hn hB hA hw0 HR
  go_enter Try.func15, Try.ntmps15
  go_wp2_with (rw [← hW0]; clear hW0 c0 c1 c2 c3 c4 c5; at_builtin; refine wpList_app rfl (.tmp 7) (.tmp 11) rfl (w.heap.size + 1) _ [] rfl (ownB_lit W0 _ _ [] ?c0 ?c1 rfl _ ?c2 _ rfl) _ _ _ t.all rfl HN.out (HB.out.below ?c3) HA.out ?c6 ?c7 ?_)
  case c0 => omega
  case c1 => simp
  case c2 => omega
  case c3 => exact (Below.refl _ _).alloc (Nat.le_refl _) _
  case c6 => have := HN.out; simp; omega
  case c7 => simp; omega
  intro v2 w2 ho2 hg2 _
  have hb2 : Below (w.heap.size + 1) W0 w2 := ((Below.refl _ W0).alloc (by omega) _).trans (grown_below (ownB_lit W0 (w.heap.size + 1) #[] [] (by omega) (by simp) rfl _ hs0.symm 0 rfl) hg2 (by simp; omega))
  have x0 := (hb2.cell (p := ⟨w.heap.size, 0, none⟩) (by simp)).trans d1
  have y0 := (hb2.frozen (p := ⟨w.heap.size, 0, none⟩) (by simp)).trans d2
  have HO := Lib.hid ho2
  obtain ⟨A2, c2, rfl, _⟩ := OwnB.form ho2
  have HB2 := Lib.hid hb2
  clear ho2 hb2 hg2 d0 d1 d2
  go_wp2
  go_ret
  obtain ⟨k1, k2⟩ := copied (r := true) (t := t) (v := .slice A n c) OK.out (by rw [← HW.out]; exact HB2.out) (HO.out.base (by omega)) rfl
  exact ⟨_, _, rfl, k1, k2⟩
end Go.Proofs.Ytcpimdafpmdjnaa
