/-
  The walks of powerGoes and falls, of both Arm and Wake.
-/
import Derived.Test.YtcpimdafpmdjnaaTp2
namespace Go.Proofs.Ytcpimdafpmdjnaa
open Go.RowKit
set_option linter.unusedVariables false

/-- A write that would go: what becomes of what is armed; how much of it is done, and whether it is in flight. -/
def Tp.goes (t : Tp) : Tp × Int × Bool :=
  if t.armed then (if 0 < t.left then ({ t with left := t.left - 1 }, 0, false) else ({ t.off with down := true }, t.keep, true)) else (t, 0, false)
theorem Tp.goes_ok {t : Tp} (h : t.Ok) : t.goes.1.Ok := by
  unfold Tp.goes
  have := h.left
  unfold I64 at this
  split
  · split
    · exact ⟨h.oct, h.len, h.room, by unfold I64; simp only; omega, h.keep⟩
    · exact ⟨h.oct, h.len, h.room, i64_0, i64_0⟩
  · exact h
theorem Tp.goes_all (t : Tp) : t.goes.1.all = t.all ∧ t.goes.1.room = t.room := by
  unfold Tp.goes
  split
  · split <;> exact ⟨rfl, rfl⟩
  · exact ⟨rfl, rfl⟩
theorem Tp.goes_keep {t : Tp} (h : t.Ok) : I64 t.goes.2.1 := by
  unfold Tp.goes
  split
  · split
    · exact i64_0
    · exact h.keep
  · exact i64_0
set_option maxRecDepth 8000 in
set_option maxHeartbeats 2000000 in
theorem goes_any (w : World) (base b : Nat) (v : Value) (t : Tp) (h : TapeAt false w base b v t) :
    Calls Try.prog 31 #[.pointer (some ⟨b, 0, none⟩)] w fun e w' => e = .returned (.tuple #[.int .i64 t.goes.2.1, .bool t.goes.2.2]) ∧ Went false w base b v t.goes.1 w' := by
  obtain ⟨_, _, c2, c3, c4, c5, hf⟩ := h.reads
  have ok := h.ok
  have okl := ok.left
  unfold I64 at okl
  cases ha : t.armed with
  | false =>
    have e : t.goes = (t, 0, false) := by unfold Tp.goes; rw [ha]; rfl
    rw [e]
    rw [ha] at c3
    have H := Lib.hid h.nil
    clear h hf e
    go_enter Try.func31, Try.ntmps31
    go_wp2
    go_ret2
    exact ⟨rfl, H.out⟩
  | true =>
    by_cases hl : 0 < t.left
    · have e : t.goes = ({ t with left := t.left - 1 }, 0, false) := by unfold Tp.goes; rw [ha, if_pos rfl, if_pos hl]
      rw [e]
      rw [ha] at c3
      have f4 := hf 4
      have H : Hid (Went false w base b v { t with left := t.left - 1 } (w.setCell ⟨b, 4, none⟩ (.int .i64 (t.left - 1)))) := Lib.hid ⟨v, h.store 4 _ rfl rfl ⟨ok.oct, ok.len, ok.room, by unfold I64; simp only; omega, ok.keep⟩, touch_foot _ _ _ _ _, Near.refl _ _⟩
      clear h hf e ok
      go_enter Try.func31, Try.ntmps31
      go_wp2
      go_ret2
      exact ⟨rfl, H.out⟩
    · have e : t.goes = ({ t.off with down := true }, t.keep, true) := by unfold Tp.goes; rw [ha, if_pos rfl, if_neg hl]
      rw [e]
      rw [ha] at c3
      have C := Lib.hid (disarm_any w base b v t h)
      clear h hf e
      go_enter Try.func31, Try.ntmps31
      go_wp2_with (go_at_call 30; refine C.out.mono ?_; rintro e w1 ⟨rfl, v1, h1, ht1, hn1⟩; have cc := h1.box.cell 2 rfl; have ff := h1.box.frozen 2)
      go_ret2
      refine ⟨rfl, v1, h1.store 2 _ rfl rfl ⟨ok.oct, ok.len, ok.room, i64_0, i64_0⟩, ht1.set 2 _, hn1⟩

/-- The reference's. -/
def Tp.rgoes (t : Tp) : Tp × Bool :=
  if t.armed then (if 0 < t.left then ({ t with left := t.left - 1 }, false) else ({ t with armed := false, down := true }, true)) else (t, false)
theorem Tp.rgoes_ok {t : Tp} (h : t.Ok) : t.rgoes.1.Ok := by
  unfold Tp.rgoes
  have := h.left
  unfold I64 at this
  split
  · split
    · exact ⟨h.oct, h.len, h.room, by unfold I64; simp only; omega, h.keep⟩
    · exact ⟨h.oct, h.len, h.room, h.left, h.keep⟩
  · exact h
theorem Tp.rgoes_all (t : Tp) : t.rgoes.1.all = t.all ∧ t.rgoes.1.room = t.room ∧ t.rgoes.1.keep = t.keep := by
  unfold Tp.rgoes
  split
  · split <;> exact ⟨rfl, rfl, rfl⟩
  · exact ⟨rfl, rfl, rfl⟩
set_option maxRecDepth 8000 in
set_option maxHeartbeats 2000000 in
theorem falls_any (w : World) (base b : Nat) (v : Value) (t : Tp) (h : TapeAt true w base b v t) :
    Calls Try.prog 32 #[.pointer (some ⟨b, 0, none⟩)] w fun e w' => e = .returned (.bool t.rgoes.2) ∧ Went true w base b v t.rgoes.1 w' := by
  obtain ⟨_, _, c2, c3, c4, c5, hf⟩ := h.rreads
  have ok := h.ok
  have okl := ok.left
  unfold I64 at okl
  cases ha : t.armed with
  | false =>
    have e : t.rgoes = (t, false) := by unfold Tp.rgoes; rw [ha]; rfl
    rw [e]
    rw [ha] at c2
    have H := Lib.hid h.nil
    clear h hf e
    go_enter Try.func32, Try.ntmps32
    go_wp2
    go_ret
    exact ⟨rfl, H.out⟩
  | true =>
    by_cases hl : 0 < t.left
    · have e : t.rgoes = ({ t with left := t.left - 1 }, false) := by unfold Tp.rgoes; rw [ha, if_pos rfl, if_pos hl]
      rw [e]
      rw [ha] at c2
      have f4 := hf 3
      have H : Hid (Went true w base b v { t with left := t.left - 1 } (w.setCell ⟨b, 3, none⟩ (.int .i64 (t.left - 1)))) := Lib.hid ⟨v, h.store 3 _ rfl rfl ⟨ok.oct, ok.len, ok.room, by unfold I64; simp only; omega, ok.keep⟩, touch_foot _ _ _ _ _, Near.refl _ _⟩
      clear h hf e ok
      go_enter Try.func32, Try.ntmps32
      go_wp2
      go_ret
      exact ⟨rfl, H.out⟩
    · have e : t.rgoes = ({ t with armed := false, down := true }, true) := by unfold Tp.rgoes; rw [ha, if_pos rfl, if_neg hl]
      rw [e]
      rw [ha] at c2
      have f2 := hf 2
      have f5 := hf 5
      have h1 : TapeAt true _ base b v { t with armed := false } := h.store 2 (.bool false) rfl rfl ⟨ok.oct, ok.len, ok.room, ok.left, ok.keep⟩
      have h2 : TapeAt true _ base b v { t with armed := false, down := true } := h1.store 5 (.bool true) rfl rfl ⟨ok.oct, ok.len, ok.room, ok.left, ok.keep⟩
      have H : Hid (Went true w base b v { t with armed := false, down := true } _) := Lib.hid ⟨v, h2, (touch_foot _ 2 _ _ _).set 5 _, Near.refl _ _⟩
      clear h hf e h1 h2
      go_enter Try.func32, Try.ntmps32
      go_wp2
      go_ret
      exact ⟨rfl, H.out⟩
/-- Arm, of both. -/
def Tp.arm (t : Tp) (n k : Int) : Tp := if t.down then t else if 0 ≤ n then { t with armed := true, left := n, keep := k } else t.off
def Tp.rarm (t : Tp) (n k : Int) : Tp := if t.down then t else { t with armed := decide (0 ≤ n), left := max n 0, keep := k }
def Tp.wake (t : Tp) : Tp := { t.off with down := false }
def Tp.rwake (t : Tp) : Tp := { t with down := false, armed := false }
theorem off_armed {w : World} {base b : Nat} {v : Value} {t : Tp} (h : TapeAt false w base b v t.off) (n k : Int) (hn : I64 n) (hk : I64 k) :
    Went false w base b v { t with armed := true, left := n, keep := k } (((w.setCell ⟨b, 3, none⟩ (.bool true)).setCell ⟨b, 4, none⟩ (.int .i64 n)).setCell ⟨b, 5, none⟩ (.int .i64 k)) := by
  have ok := h.ok
  have h1 : TapeAt false _ base b v { t.off with armed := true } := h.store 3 (.bool true) rfl rfl ⟨ok.oct, ok.len, ok.room, i64_0, i64_0⟩
  have h2 : TapeAt false _ base b v { t.off with armed := true, left := n } := h1.store 4 (.int .i64 n) rfl rfl ⟨ok.oct, ok.len, ok.room, hn, i64_0⟩
  have h3 : TapeAt false _ base b v { t with armed := true, left := n, keep := k } := h2.store 5 (.int .i64 k) rfl rfl ⟨ok.oct, ok.len, ok.room, hn, hk⟩
  exact ⟨v, h3, ((touch_foot b 3 v _ w).set 4 _).set 5 _, Near.refl _ _⟩
set_option maxRecDepth 8000 in
set_option maxHeartbeats 2000000 in
theorem arm_any (w : World) (base b : Nat) (v : Value) (t : Tp) (n k : Int) (hn : I64 n) (hk : I64 k) (h : TapeAt false w base b v t) :
    Calls Try.prog 16 #[.pointer (some ⟨b, 0, none⟩), .int .i64 n, .int .i64 k] w fun e w' => e = .returned (.tuple #[]) ∧ Went false w base b v (t.arm n k) w' := by
  obtain ⟨_, _, c2, _⟩ := h.reads
  cases hd : t.down with
  | true =>
    rw [show t.arm n k = t from by unfold Tp.arm; rw [hd]; rfl]
    rw [hd] at c2
    have H := Lib.hid h.nil
    clear h
    go_enter Try.func16, Try.ntmps16
    go_wp2
    refine bodyPost_ret (results_none rfl _ _ _) rfl ?_
    exact ⟨rfl, H.out⟩
  | false =>
    rw [hd] at c2
    have C := Lib.hid (disarm_any w base b v t h)
    by_cases h0 : 0 ≤ n
    · rw [show t.arm n k = { t with armed := true, left := n, keep := k } from by unfold Tp.arm; rw [hd, if_neg (by simp), if_pos h0]]
      have HN := Lib.hid hn
      have HK := Lib.hid hk
      clear h hn hk
      go_enter Try.func16, Try.ntmps16
      go_wp2_with (go_at_call 30; refine C.out.mono ?_; rintro e w1 ⟨rfl, v1, h1, ht1, hn1⟩; have HH := Lib.hid h1; obtain ⟨_, _, _, x3, x4, x5, xf⟩ := h1.reads; have y3 := xf 3; have y4 := xf 4; have y5 := xf 5; clear h1 xf)
      go_end0
      exact ⟨rfl, Went.from ht1 hn1 (off_armed HH.out n k HN.out HK.out)⟩
    · rw [show t.arm n k = t.off from by unfold Tp.arm; rw [hd, if_neg (by simp), if_neg h0]]
      clear h hn hk
      go_enter Try.func16, Try.ntmps16
      go_wp2_with (go_at_call 30; refine C.out.mono ?_; rintro e w1 ⟨rfl, h1⟩)
      go_end0
      exact ⟨rfl, h1⟩
set_option maxRecDepth 8000 in
set_option maxHeartbeats 2000000 in
theorem wake_any (w : World) (base b : Nat) (v : Value) (t : Tp) (h : TapeAt false w base b v t) :
    Calls Try.prog 20 #[.pointer (some ⟨b, 0, none⟩)] w fun e w' => e = .returned (.tuple #[]) ∧ Went false w base b v t.wake w' := by
  obtain ⟨_, _, c2, _, _, _, hf⟩ := h.reads
  have f2 := hf 2
  have h1 : TapeAt false (w.setCell ⟨b, 2, none⟩ (.bool false)) base b v { t with down := false } := h.store 2 (.bool false) rfl rfl ⟨h.ok.oct, h.ok.len, h.ok.room, h.ok.left, h.ok.keep⟩
  have C := Lib.hid (disarm_any _ base b v _ h1)
  clear h hf h1
  go_enter Try.func20, Try.ntmps20
  go_wp2_with (go_at_call 30; refine C.out.mono ?_; rintro e w1 ⟨rfl, h1⟩)
  go_end0
  exact ⟨rfl, Went.from (touch_foot _ _ _ _ _) (Near.refl _ _) h1⟩
set_option maxRecDepth 8000 in
set_option maxHeartbeats 2000000 in
theorem rarm_any (w : World) (base b : Nat) (v : Value) (t : Tp) (n k : Int) (hn : I64 n) (hk : I64 k) (h : TapeAt true w base b v t) :
    Calls Try.prog 27 #[.pointer (some ⟨b, 0, none⟩), .int .i64 n, .int .i64 k] w fun e w' => e = .returned (.tuple #[]) ∧ Went true w base b v (t.rarm n k) w' := by
  obtain ⟨_, _, c2, c3, c4, c5, hf⟩ := h.rreads
  have ok := h.ok
  cases hd : t.down with
  | true =>
    rw [show t.rarm n k = t from by unfold Tp.rarm; rw [hd]; rfl]
    rw [hd] at c5
    have H := Lib.hid h.nil
    clear h
    go_enter Try.func27, Try.ntmps27
    go_wp2
    go_end0
    exact ⟨rfl, H.out⟩
  | false =>
    rw [show t.rarm n k = { t with armed := decide (0 ≤ n), left := max n 0, keep := k } from by unfold Tp.rarm; rw [hd]; rfl]
    rw [hd] at c5
    have f2 := hf 2
    have f3 := hf 3
    have f4 := hf 4
    obtain ⟨a, hA⟩ : ∃ a, a = decide (0 ≤ n) := ⟨_, rfl⟩
    obtain ⟨q, hQ⟩ : ∃ q, q = max n 0 := ⟨_, rfl⟩
    rw [← hA, ← hQ]
    have e1 : decide (n ≥ 0) = a := hA.symm
    have e2 : (if n < 0 then 0 else n) = q := by rw [hQ]; split <;> omega
    have hq : I64 q := by unfold I64 at hn ⊢; omega
    have h1 : TapeAt true _ base b v { t with armed := a } := h.store 2 (.bool a) rfl rfl ⟨ok.oct, ok.len, ok.room, ok.left, ok.keep⟩
    have h2 : TapeAt true _ base b v { t with armed := a, left := q } := h1.store 3 (.int .i64 q) rfl rfl ⟨ok.oct, ok.len, ok.room, hq, ok.keep⟩
    have h3 : TapeAt true _ base b v { t with armed := a, left := q, keep := k } := h2.store 4 (.int .i64 k) rfl rfl ⟨ok.oct, ok.len, ok.room, hq, hk⟩
    have H : Hid (Went true w base b v { t with armed := a, left := q, keep := k } _) := Lib.hid ⟨v, h3, ((touch_foot b 2 v _ w).set 3 _).set 4 _, Near.refl _ _⟩
    clear h h1 h2 h3 hf hA hQ hn hk hq ok
    go_enter Try.func27, Try.ntmps27
    go_wp2
    go_end0
    exact ⟨rfl, H.out⟩
set_option maxRecDepth 8000 in
set_option maxHeartbeats 2000000 in
theorem rwake_any (w : World) (base b : Nat) (v : Value) (t : Tp) (h : TapeAt true w base b v t) :
    Calls Try.prog 28 #[.pointer (some ⟨b, 0, none⟩)] w fun e w' => e = .returned (.tuple #[]) ∧ Went true w base b v t.rwake w' := by
  obtain ⟨_, _, c2, _, _, c5, hf⟩ := h.rreads
  have f2 := hf 2
  have f5 := hf 5
  have ok := h.ok
  have h1 : TapeAt true _ base b v { t with down := false } := h.store 5 (.bool false) rfl rfl ⟨ok.oct, ok.len, ok.room, ok.left, ok.keep⟩
  have h2 : TapeAt true _ base b v t.rwake := h1.store 2 (.bool false) rfl rfl ⟨ok.oct, ok.len, ok.room, ok.left, ok.keep⟩
  have H : Hid (Went true w base b v t.rwake _) := Lib.hid ⟨v, h2, (touch_foot b 5 v _ w).set 2 _, Near.refl _ _⟩
  clear h h1 h2 hf
  go_enter Try.func28, Try.ntmps28
  go_wp2
  go_end0
  exact ⟨rfl, H.out⟩
end Go.Proofs.Ytcpimdafpmdjnaa
