/-
  The walks of what reads a tape's fields, arms it, wakes it, and of what tells whether the power goes.
-/
import Derived.Test.YtcpimdafpmdjnaaTp1
namespace Go.Proofs.Ytcpimdafpmdjnaa
open Go.RowKit
set_option linter.unusedVariables false

/-- The cells of a tape of the program. -/
theorem TapeAt.reads {w : World} {base b : Nat} {v : Value} {t : Tp} (h : TapeAt false w base b v t) :
    w.cell? ⟨b, 0, none⟩ = some v ∧ w.cell? ⟨b, 1, none⟩ = some (.int .i64 (t.room : Int)) ∧ w.cell? ⟨b, 2, none⟩ = some (.bool t.down) ∧ w.cell? ⟨b, 3, none⟩ = some (.bool t.armed) ∧ w.cell? ⟨b, 4, none⟩ = some (.int .i64 t.left) ∧ w.cell? ⟨b, 5, none⟩ = some (.int .i64 t.keep) ∧ ∀ i, w.frozen? ⟨b, i, none⟩ = false :=
  ⟨h.box.cell 0 rfl, h.box.cell 1 rfl, h.box.cell 2 rfl, h.box.cell 3 rfl, h.box.cell 4 rfl, h.box.cell 5 rfl, h.box.frozen⟩
theorem TapeAt.rreads {w : World} {base b : Nat} {v : Value} {t : Tp} (h : TapeAt true w base b v t) :
    w.cell? ⟨b, 0, none⟩ = some v ∧ w.cell? ⟨b, 1, none⟩ = some (.int .i64 (t.room : Int)) ∧ w.cell? ⟨b, 2, none⟩ = some (.bool t.armed) ∧ w.cell? ⟨b, 3, none⟩ = some (.int .i64 t.left) ∧ w.cell? ⟨b, 4, none⟩ = some (.int .i64 t.keep) ∧ w.cell? ⟨b, 5, none⟩ = some (.bool t.down) ∧ ∀ i, w.frozen? ⟨b, i, none⟩ = false :=
  ⟨h.box.cell 0 rfl, h.box.cell 1 rfl, h.box.cell 2 rfl, h.box.cell 3 rfl, h.box.cell 4 rfl, h.box.cell 5 rfl, h.box.frozen⟩

set_option maxRecDepth 8000 in
set_option maxHeartbeats 1000000 in
theorem len_any (w : World) (base b : Nat) (v : Value) (t : Tp) (h : TapeAt false w base b v t) :
    Calls Try.prog 22 #[.pointer (some ⟨b, 0, none⟩)] w fun e w' => e = .returned (.int .i64 (t.all.length : Int)) ∧ w = w' := by
  obtain ⟨c0, _⟩ := h.reads
  obtain ⟨A, c, rfl, _⟩ := h.own.form
  clear h
  go_enter Try.func22, Try.ntmps22
  go_wp2
  go_ret
  exact ⟨rfl, rfl⟩
set_option maxRecDepth 8000 in
set_option maxHeartbeats 1000000 in
theorem room_any (w : World) (base b : Nat) (v : Value) (t : Tp) (h : TapeAt false w base b v t) :
    Calls Try.prog 23 #[.pointer (some ⟨b, 0, none⟩)] w fun e w' => e = .returned (.int .i64 (t.room : Int)) ∧ w = w' := by
  obtain ⟨_, c0, _⟩ := h.reads
  clear h
  go_enter Try.func23, Try.ntmps23
  go_wp2
  go_ret
  exact ⟨rfl, rfl⟩
set_option maxRecDepth 8000 in
set_option maxHeartbeats 1000000 in
theorem down_any (w : World) (base b : Nat) (v : Value) (t : Tp) (h : TapeAt false w base b v t) :
    Calls Try.prog 18 #[.pointer (some ⟨b, 0, none⟩)] w fun e w' => e = .returned (.bool t.down) ∧ w = w' := by
  obtain ⟨_, _, c0, _⟩ := h.reads
  clear h
  go_enter Try.func18, Try.ntmps18
  go_wp2
  go_ret
  exact ⟨rfl, rfl⟩
/-- Nothing armed. -/
def Tp.off (t : Tp) : Tp := { t with armed := false, left := 0, keep := 0 }
theorem Tp.Ok.off {t : Tp} (h : t.Ok) : t.off.Ok := ⟨h.oct, h.len, h.room, i64_0, i64_0⟩
theorem disarm_at {w : World} {base b : Nat} {v : Value} {t : Tp} (h : TapeAt false w base b v t) :
    Went false w base b v t.off (((w.setCell ⟨b, 3, none⟩ (.bool false)).setCell ⟨b, 4, none⟩ (.int .i64 0)).setCell ⟨b, 5, none⟩ (.int .i64 0)) := by
  have h1 : TapeAt false _ base b v { t with armed := false } := h.store 3 (.bool false) rfl rfl ⟨h.ok.oct, h.ok.len, h.ok.room, h.ok.left, h.ok.keep⟩
  have h2 : TapeAt false _ base b v { t with armed := false, left := 0 } := h1.store 4 (.int .i64 0) rfl rfl ⟨h.ok.oct, h.ok.len, h.ok.room, i64_0, h.ok.keep⟩
  have h3 : TapeAt false _ base b v t.off := h2.store 5 (.int .i64 0) rfl rfl h.ok.off
  exact ⟨v, h3, ((touch_foot b 3 v _ w).set 4 _).set 5 _, Near.refl _ _⟩
set_option maxRecDepth 8000 in
set_option maxHeartbeats 1000000 in
theorem disarm_any (w : World) (base b : Nat) (v : Value) (t : Tp) (h : TapeAt false w base b v t) :
    Calls Try.prog 30 #[.pointer (some ⟨b, 0, none⟩)] w fun e w' => e = .returned (.tuple #[]) ∧ Went false w base b v t.off w' := by
  obtain ⟨_, _, _, c3, c4, c5, hf⟩ := h.reads
  have f3 := hf 3
  have f4 := hf 4
  have f5 := hf 5
  have H := Lib.hid h
  clear h hf
  go_enter Try.func30, Try.ntmps30
  go_wp2
  go_end0
  exact ⟨rfl, disarm_at H.out⟩
end Go.Proofs.Ytcpimdafpmdjnaa
