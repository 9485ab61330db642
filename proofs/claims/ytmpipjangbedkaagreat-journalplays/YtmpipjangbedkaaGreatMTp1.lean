import Derived.Test.YtmpipjangbedkaaGreatMByt
import Derived.Deep.QuietTactic
import Derived.BigQuiet
/-
  A tape as plain data; a tape in memory (the program's and the reference's); the walks of both New.
-/
namespace Go.Proofs.YtmpipjangbedkaaGreat
set_option maxRecDepth 8000
open Go.RowKit
set_option linter.unusedVariables false

/-- A tape. -/
structure Tp where
  all : List Nat
  room : Nat
  down : Bool
  armed : Bool
  left : Int
  keep : Int
/-- What holds of each. -/
structure Tp.Ok (t : Tp) : Prop where
  oct : Oct t.all
  len : t.all.length ≤ t.room
  room : t.room ≤ 1048576
  left : I64 t.left
  keep : I64 t.keep
/-- The program's struct, and the reference's (true). -/
def tyOf : Bool → TypeId
  | false => 73
  | true => 75
def cellsOf : Bool → Tp → Value → List Value
  | false, t, v => [v, .int .i64 (t.room : Int), .bool t.down, .bool t.armed, .int .i64 t.left, .int .i64 t.keep]
  | true, t, v => [v, .int .i64 (t.room : Int), .bool t.armed, .int .i64 t.left, .int .i64 t.keep, .bool t.down]
theorem tyOf_ne (r : Bool) : tyOf r ≠ 5 := by cases r <;> decide
/-- A tape in memory, at the struct b, its bytes in v: all of it the call's own. -/
structure TapeAt (r : Bool) (w : World) (base b : Nat) (v : Value) (t : Tp) : Prop where
  low : base ≤ b
  box : Rec w b (tyOf r) (cellsOf r t v)
  own : OwnB w base v t.all
  ok : t.Ok
/-- The blocks of a tape. -/
def foot (b : Nat) (v : Value) (k : Nat) : Prop := k = b ∨ v.ownBlock = some k
/-- The bytes lie where they did, or in new memory. -/
def Near (w : World) (v v' : Value) : Prop := ∀ k, v'.ownBlock = some k → v.ownBlock = some k ∨ w.heap.size ≤ k
/-- A tape behind a call on it: only its blocks and new ones are turned. -/
def Went (r : Bool) (w : World) (base b : Nat) (v : Value) (t : Tp) (w' : World) : Prop := ∃ v', TapeAt r w' base b v' t ∧ Touch (foot b v) w w' ∧ Near w v v'
section
variable {r : Bool} {w w' w'' w0 : World} {base b : Nat} {v v' v0 : Value} {t t' : Tp} {X : Nat → Prop}
theorem TapeAt.not_row (h : TapeAt r w base b v t) : v.ownBlock ≠ some b := h.box.not_row (tyOf_ne r) h.own
theorem TapeAt.touch (h : TapeAt r w base b v t) (ht : Touch X w w') (hx : ∀ k, foot b v k → ¬ X k) : TapeAt r w' base b v t :=
  ⟨h.low, h.box.touch ht (hx b (.inl rfl)), h.own.touch ht (fun k hk => hx k (.inr hk)), h.ok⟩
theorem TapeAt.keep (h : TapeAt r w base b v t) (hb : Below w.heap.size w w') : TapeAt r w' base b v t := ⟨h.low, h.box.keep hb, h.own.keep hb, h.ok⟩
theorem TapeAt.lower (h : TapeAt r w base b v t) {base' : Nat} (hb : base' ≤ base) : TapeAt r w base' b v t := ⟨Nat.le_trans hb h.low, h.box, h.own.base hb, h.ok⟩
theorem TapeAt.lt (h : TapeAt r w base b v t) {k : Nat} (hk : foot b v k) : base ≤ k ∧ k < w.heap.size := by
  rcases hk with rfl | hk
  · exact ⟨h.low, h.box.lt⟩
  · exact h.own.lt k hk
theorem TapeAt.nil (h : TapeAt r w base b v t) : Went r w base b v t w := ⟨v, h, Touch.refl _ _, fun _ hk => .inl hk⟩
theorem Went.from (h : Touch (foot b v) w w') (hm : Near w v v') (h2 : Went r w' base b v' t w'') : Went r w base b v t w'' := by
  obtain ⟨v2, ha, ht, hn⟩ := h2
  refine ⟨v2, ha, h.trans ht (fun i hi hk => ?_), fun k hk => ?_⟩
  · rcases hk with rfl | hk
    · exact .inl rfl
    · rcases hm i hk with h1 | h1
      · exact .inr h1
      · omega
  · rcases hn k hk with h1 | h1
    · exact hm k h1
    · exact .inr (Nat.le_trans h.size h1)
/-- A field's store. -/
theorem TapeAt.store (h : TapeAt r w base b v t) (i : Nat) (u : Value) (hc : (cellsOf r t v).set i u = cellsOf r t' v) (ha : t'.all = t.all) (ok : t'.Ok) : TapeAt r (w.setCell ⟨b, i, none⟩ u) base b v t' := by
  refine ⟨h.low, ?_, ?_, ok⟩
  · rw [← hc]; exact h.box.set i u
  · rw [ha]; exact h.own.touch (Touch.setCell w ⟨b, i, none⟩ u) (fun k hk e => h.not_row (by rw [hk]; simp only at e; rw [e]))
/-- The store of the bytes' slice. -/
theorem TapeAt.put (h : TapeAt r w base b v t) (ho : OwnB w base v' t'.all) (hc : (cellsOf r t v).set 0 v' = cellsOf r t' v') (ok : t'.Ok) : TapeAt r (w.setCell ⟨b, 0, none⟩ v') base b v' t' := by
  refine ⟨h.low, ?_, ?_, ok⟩
  · rw [← hc]; exact h.box.set 0 v'
  · exact ho.touch (Touch.setCell w ⟨b, 0, none⟩ v') (fun k hk e => h.box.not_row (tyOf_ne r) ho (by rw [hk]; simp only at e; rw [e]))
theorem touch_foot (b i : Nat) (v u : Value) (w : World) : Touch (foot b v) w (w.setCell ⟨b, i, none⟩ u) := (Touch.setCell w ⟨b, i, none⟩ u).mono (fun _ e => .inl e)
theorem Touch.set (h : Touch (foot b v) w0 w) (i : Nat) (u : Value) : Touch (foot b v) w0 (w.setCell ⟨b, i, none⟩ u) := h.trans (Touch.setCell w ⟨b, i, none⟩ u) (fun _ _ e => .inl e)
theorem Near.refl (w : World) (v : Value) : Near w v v := fun _ hk => .inl hk
end

/-- The room that New holds to. -/
def roomOf (room : Int) : Nat := (min (max room 0) 1048576).toNat
theorem roomOf_le (r : Int) : roomOf r ≤ 1048576 := by unfold roomOf; omega
def newTp (room : Int) : Tp := ⟨[], roomOf room, false, false, 0, 0⟩
theorem i64_0 : I64 0 := by unfold I64; omega
theorem newTp_ok (r : Int) : (newTp r).Ok := ⟨fun x hx => (List.not_mem_nil hx).elim, Nat.zero_le _, roomOf_le r, i64_0, i64_0⟩

set_option maxRecDepth 8000 in
set_option maxHeartbeats 1000000 in
theorem new_any (r : Int) (w : World) : Calls Tryz.prog 8 #[.int .i64 r] w fun e w' => e = .returned (.pointer (some ⟨w.heap.size, 0, none⟩)) ∧ TapeAt false w' w.heap.size w.heap.size (.slice none 0 0) (newTp r) ∧ Below w.heap.size w w' := by
  obtain ⟨m, hm⟩ : ∃ m, m = (roomOf r : Int) := ⟨_, rfl⟩
  obtain ⟨q, hq⟩ : ∃ q, q = max r 0 := ⟨_, rfl⟩
  have e1 : (if r < 0 then 0 else r) = q := by rw [hq]; split <;> omega
  have HF : Hid (TapeAt false (w.alloc (.cells (cellsOf false ⟨[], 0, false, false, 0, 0⟩ (.slice none 0 0) |>.set 1 (.int .i64 m) |>.toArray) (tyOf false))) w.heap.size w.heap.size (.slice none 0 0) (newTp r)) := Lib.hid ⟨Nat.le_refl _, by rw [hm]; exact Rec.new w _ (cellsOf false (newTp r) (.slice none 0 0)) _ rfl, ownB_nil _ _, newTp_ok r⟩
  have hu := hm
  unfold roomOf at hu
  have HM : (if 1048576 < q then 1048576 else q) = m := by rw [hu, hq]; split <;> omega
  clear hm hq hu
  go_enter Tryz.func8, Tryz.ntmps8
  go_wp2
  go_ret
  exact ⟨rfl, HF.out, (Below.refl _ _).alloc (Nat.le_refl _) _⟩
set_option maxRecDepth 8000 in
set_option maxHeartbeats 1000000 in
theorem rnew_any (r : Int) (w : World) : Calls Tryz.prog 9 #[.int .i64 r] w fun e w' => e = .returned (.pointer (some ⟨w.heap.size, 0, none⟩)) ∧ TapeAt true w' w.heap.size w.heap.size (.slice none 0 0) (newTp r) ∧ Below w.heap.size w w' := by
  obtain ⟨m, hm⟩ : ∃ m, m = (roomOf r : Int) := ⟨_, rfl⟩
  obtain ⟨q, hq⟩ : ∃ q, q = max r 0 := ⟨_, rfl⟩
  have e1 : (if r < 0 then 0 else r) = q := by rw [hq]; split <;> omega
  have HF : Hid (TapeAt true (w.alloc (.cells (cellsOf true ⟨[], 0, false, false, 0, 0⟩ (.slice none 0 0) |>.set 1 (.int .i64 m) |>.toArray) (tyOf true))) w.heap.size w.heap.size (.slice none 0 0) (newTp r)) := Lib.hid ⟨Nat.le_refl _, by rw [hm]; exact Rec.new w _ (cellsOf true (newTp r) (.slice none 0 0)) _ rfl, ownB_nil _ _, newTp_ok r⟩
  have hu := hm
  unfold roomOf at hu
  have HM : (if 1048576 < q then 1048576 else q) = m := by rw [hu, hq]; split <;> omega
  clear hm hq hu
  go_enter Tryz.func9, Tryz.ntmps9
  go_wp2
  go_ret
  exact ⟨rfl, HF.out, (Below.refl _ _).alloc (Nat.le_refl _) _⟩
end Go.Proofs.YtmpipjangbedkaaGreat

/-
  The walks of what reads a tape's fields, arms it, wakes it, and of what tells whether the power goes.
-/
namespace Go.Proofs.YtmpipjangbedkaaGreat
set_option maxRecDepth 8000
open Go.RowKit
set_option linter.unusedVariables false

/-- The cells of a tape of the program. -/
theorem TapeAt.reads {w : World} {base b : Nat} {v : Value} {t : Tp} (h : TapeAt false w base b v t) :
    w.cell? ⟨b, 0, none⟩ = some v ∧ w.cell? ⟨b, 1, none⟩ = some (.int .i64 (t.room : Int)) ∧ w.cell? ⟨b, 2, none⟩ = some (.bool t.down) ∧ w.cell? ⟨b, 3, none⟩ = some (.bool t.armed) ∧ w.cell? ⟨b, 4, none⟩ = some (.int .i64 t.left) ∧ w.cell? ⟨b, 5, none⟩ = some (.int .i64 t.keep) ∧ ∀ i, w.frozen? ⟨b, i, none⟩ = false :=
  ⟨h.box.cell 0 rfl, h.box.cell 1 rfl, h.box.cell 2 rfl, h.box.cell 3 rfl, h.box.cell 4 rfl, h.box.cell 5 rfl, h.box.frozen⟩
theorem TapeAt.rreads {w : World} {base b : Nat} {v : Value} {t : Tp} (h : TapeAt true w base b v t) :
    w.cell? ⟨b, 0, none⟩ = some v ∧ w.cell? ⟨b, 1, none⟩ = some (.int .i64 (t.room : Int)) ∧ w.cell? ⟨b, 2, none⟩ = some (.bool t.armed) ∧ w.cell? ⟨b, 3, none⟩ = some (.int .i64 t.left) ∧ w.cell? ⟨b, 4, none⟩ = some (.int .i64 t.keep) ∧ w.cell? ⟨b, 5, none⟩ = some (.bool t.down) ∧ ∀ i, w.frozen? ⟨b, i, none⟩ = false :=
  ⟨h.box.cell 0 rfl, h.box.cell 1 rfl, h.box.cell 2 rfl, h.box.cell 3 rfl, h.box.cell 4 rfl, h.box.cell 5 rfl, h.box.frozen⟩

set_option maxRecDepth 8000 in
set_option maxHeartbeats 1000000 in
theorem len_any (w : World) (base b : Nat) (v : Value) (t : Tp) (h : TapeAt false w base b v t) :
    Calls Tryz.prog 57 #[.pointer (some ⟨b, 0, none⟩)] w fun e w' => e = .returned (.int .i64 (t.all.length : Int)) ∧ w = w' := by
  obtain ⟨c0, _⟩ := h.reads
  obtain ⟨A, c, rfl, _⟩ := h.own.form
  clear h
  go_enter Tryz.func57, Tryz.ntmps57
  go_wp2
  go_ret
  exact ⟨rfl, rfl⟩
set_option maxRecDepth 8000 in
set_option maxHeartbeats 1000000 in
theorem down_any (w : World) (base b : Nat) (v : Value) (t : Tp) (h : TapeAt false w base b v t) :
    Calls Tryz.prog 37 #[.pointer (some ⟨b, 0, none⟩)] w fun e w' => e = .returned (.bool t.down) ∧ w = w' := by
  obtain ⟨_, _, c0, _⟩ := h.reads
  clear h
  go_enter Tryz.func37, Tryz.ntmps37
  go_wp2
  go_ret
  exact ⟨rfl, rfl⟩
/-- Nothing armed. -/
def Tp.off (t : Tp) : Tp := { t with armed := false, left := 0, keep := 0 }
theorem Tp.Ok.off {t : Tp} (h : t.Ok) : t.off.Ok := ⟨h.oct, h.len, h.room, i64_0, i64_0⟩
theorem disarm_at {w : World} {base b : Nat} {v : Value} {t : Tp} (h : TapeAt false w base b v t) :
    Went false w base b v t.off (((w.setCell ⟨b, 3, none⟩ (.bool false)).setCell ⟨b, 4, none⟩ (.int .i64 0)).setCell ⟨b, 5, none⟩ (.int .i64 0)) := by
  have h1 : TapeAt false _ base b v { t with armed := false } := h.store 3 (.bool false) rfl rfl ⟨h.ok.oct, h.ok.len, h.ok.room, h.ok.left, h.ok.keep⟩
  have h2 : TapeAt false _ base b v { t with armed := false, left := 0 } := h1.store 4 (.int .i64 0) rfl rfl ⟨h.ok.oct, h.ok.len, h.ok.room, i64_0, h.ok.keep⟩
  have h3 : TapeAt false _ base b v t.off := h2.store 5 (.int .i64 0) rfl rfl h.ok.off
  exact ⟨v, h3, ((touch_foot b 3 v _ w).set 4 _).set 5 _, Near.refl _ _⟩
set_option maxRecDepth 8000 in
set_option maxHeartbeats 1000000 in
theorem disarm_any (w : World) (base b : Nat) (v : Value) (t : Tp) (h : TapeAt false w base b v t) :
    Calls Tryz.prog 65 #[.pointer (some ⟨b, 0, none⟩)] w fun e w' => e = .returned (.tuple #[]) ∧ Went false w base b v t.off w' := by
  obtain ⟨_, _, _, c3, c4, c5, hf⟩ := h.reads
  have f3 := hf 3
  have f4 := hf 4
  have f5 := hf 5
  have H := Lib.hid h
  clear h hf
  go_enter Tryz.func65, Tryz.ntmps65
  go_wp2
  go_end0
  exact ⟨rfl, disarm_at H.out⟩
end Go.Proofs.YtmpipjangbedkaaGreat

/-
  The walks of powerGoes and falls, of both Arm and Wake.
-/
namespace Go.Proofs.YtmpipjangbedkaaGreat
set_option maxRecDepth 8000
open Go.RowKit
set_option linter.unusedVariables false

/-- A write that would go: what becomes of what is armed; how much of it is done, and whether it is in flight. -/
def Tp.goes (t : Tp) : Tp × Int × Bool :=
  if t.armed then (if 0 < t.left then ({ t with left := t.left - 1 }, 0, false) else ({ t.off with down := true }, t.keep, true)) else (t, 0, false)
theorem Tp.goes_ok {t : Tp} (h : t.Ok) : t.goes.1.Ok := by
  unfold Tp.goes
  have := h.left
  unfold I64 at this
  split
  · split
    · exact ⟨h.oct, h.len, h.room, by unfold I64; simp only; omega, h.keep⟩
    · exact ⟨h.oct, h.len, h.room, i64_0, i64_0⟩
  · exact h
theorem Tp.goes_all (t : Tp) : t.goes.1.all = t.all ∧ t.goes.1.room = t.room := by
  unfold Tp.goes
  split
  · split <;> exact ⟨rfl, rfl⟩
  · exact ⟨rfl, rfl⟩
theorem Tp.goes_keep {t : Tp} (h : t.Ok) : I64 t.goes.2.1 := by
  unfold Tp.goes
  split
  · split
    · exact i64_0
    · exact h.keep
  · exact i64_0
set_option maxRecDepth 8000 in
set_option maxHeartbeats 2000000 in
theorem goes_any (w : World) (base b : Nat) (v : Value) (t : Tp) (h : TapeAt false w base b v t) :
    Calls Tryz.prog 47 #[.pointer (some ⟨b, 0, none⟩)] w fun e w' => e = .returned (.tuple #[.int .i64 t.goes.2.1, .bool t.goes.2.2]) ∧ Went false w base b v t.goes.1 w' := by
  obtain ⟨_, _, c2, c3, c4, c5, hf⟩ := h.reads
  have ok := h.ok
  have okl := ok.left
  unfold I64 at okl
  cases ha : t.armed with
  | false =>
    have e : t.goes = (t, 0, false) := by unfold Tp.goes; rw [ha]; rfl
    rw [e]
    rw [ha] at c3
    have H := Lib.hid h.nil
    clear h hf e
    go_enter Tryz.func47, Tryz.ntmps47
    go_wp2
    go_ret2
    exact ⟨rfl, H.out⟩
  | true =>
    by_cases hl : 0 < t.left
    · have e : t.goes = ({ t with left := t.left - 1 }, 0, false) := by unfold Tp.goes; rw [ha, if_pos rfl, if_pos hl]
      rw [e]
      rw [ha] at c3
      have f4 := hf 4
      have H : Hid (Went false w base b v { t with left := t.left - 1 } (w.setCell ⟨b, 4, none⟩ (.int .i64 (t.left - 1)))) := Lib.hid ⟨v, h.store 4 _ rfl rfl ⟨ok.oct, ok.len, ok.room, by unfold I64; simp only; omega, ok.keep⟩, touch_foot _ _ _ _ _, Near.refl _ _⟩
      clear h hf e ok
      go_enter Tryz.func47, Tryz.ntmps47
      go_wp2
      go_ret2
      exact ⟨rfl, H.out⟩
    · have e : t.goes = ({ t.off with down := true }, t.keep, true) := by unfold Tp.goes; rw [ha, if_pos rfl, if_neg hl]
      rw [e]
      rw [ha] at c3
      have C := Lib.hid (disarm_any w base b v t h)
      clear h hf e
      go_enter Tryz.func47, Tryz.ntmps47
      go_wp2_with (go_at_call 65; refine C.out.mono ?_; rintro e w1 ⟨rfl, v1, h1, ht1, hn1⟩; have cc := h1.box.cell 2 rfl; have ff := h1.box.frozen 2)
      go_ret2
      refine ⟨rfl, v1, h1.store 2 _ rfl rfl ⟨ok.oct, ok.len, ok.room, i64_0, i64_0⟩, ht1.set 2 _, hn1⟩

/-- The reference's. -/
def Tp.rgoes (t : Tp) : Tp × Bool :=
  if t.armed then (if 0 < t.left then ({ t with left := t.left - 1 }, false) else ({ t with armed := false, down := true }, true)) else (t, false)
theorem Tp.rgoes_ok {t : Tp} (h : t.Ok) : t.rgoes.1.Ok := by
  unfold Tp.rgoes
  have := h.left
  unfold I64 at this
  split
  · split
    · exact ⟨h.oct, h.len, h.room, by unfold I64; simp only; omega, h.keep⟩
    · exact ⟨h.oct, h.len, h.room, h.left, h.keep⟩
  · exact h
theorem Tp.rgoes_all (t : Tp) : t.rgoes.1.all = t.all ∧ t.rgoes.1.room = t.room ∧ t.rgoes.1.keep = t.keep := by
  unfold Tp.rgoes
  split
  · split <;> exact ⟨rfl, rfl, rfl⟩
  · exact ⟨rfl, rfl, rfl⟩
set_option maxRecDepth 8000 in
set_option maxHeartbeats 2000000 in
theorem falls_any (w : World) (base b : Nat) (v : Value) (t : Tp) (h : TapeAt true w base b v t) :
    Calls Tryz.prog 48 #[.pointer (some ⟨b, 0, none⟩)] w fun e w' => e = .returned (.bool t.rgoes.2) ∧ Went true w base b v t.rgoes.1 w' := by
  obtain ⟨_, _, c2, c3, c4, c5, hf⟩ := h.rreads
  have ok := h.ok
  have okl := ok.left
  unfold I64 at okl
  cases ha : t.armed with
  | false =>
    have e : t.rgoes = (t, false) := by unfold Tp.rgoes; rw [ha]; rfl
    rw [e]
    rw [ha] at c2
    have H := Lib.hid h.nil
    clear h hf e
    go_enter Tryz.func48, Tryz.ntmps48
    go_wp2
    go_ret
    exact ⟨rfl, H.out⟩
  | true =>
    by_cases hl : 0 < t.left
    · have e : t.rgoes = ({ t with left := t.left - 1 }, false) := by unfold Tp.rgoes; rw [ha, if_pos rfl, if_pos hl]
      rw [e]
      rw [ha] at c2
      have f4 := hf 3
      have H : Hid (Went true w base b v { t with left := t.left - 1 } (w.setCell ⟨b, 3, none⟩ (.int .i64 (t.left - 1)))) := Lib.hid ⟨v, h.store 3 _ rfl rfl ⟨ok.oct, ok.len, ok.room, by unfold I64; simp only; omega, ok.keep⟩, touch_foot _ _ _ _ _, Near.refl _ _⟩
      clear h hf e ok
      go_enter Tryz.func48, Tryz.ntmps48
      go_wp2
      go_ret
      exact ⟨rfl, H.out⟩
    · have e : t.rgoes = ({ t with armed := false, down := true }, true) := by unfold Tp.rgoes; rw [ha, if_pos rfl, if_neg hl]
      rw [e]
      rw [ha] at c2
      have f2 := hf 2
      have f5 := hf 5
      have h1 : TapeAt true _ base b v { t with armed := false } := h.store 2 (.bool false) rfl rfl ⟨ok.oct, ok.len, ok.room, ok.left, ok.keep⟩
      have h2 : TapeAt true _ base b v { t with armed := false, down := true } := h1.store 5 (.bool true) rfl rfl ⟨ok.oct, ok.len, ok.room, ok.left, ok.keep⟩
      have H : Hid (Went true w base b v { t with armed := false, down := true } _) := Lib.hid ⟨v, h2, (touch_foot _ 2 _ _ _).set 5 _, Near.refl _ _⟩
      clear h hf e h1 h2
      go_enter Tryz.func48, Tryz.ntmps48
      go_wp2
      go_ret
      exact ⟨rfl, H.out⟩
/-- Arm, of both. -/
def Tp.arm (t : Tp) (n k : Int) : Tp := if t.down then t else if 0 ≤ n then { t with armed := true, left := n, keep := k } else t.off
def Tp.rarm (t : Tp) (n k : Int) : Tp := if t.down then t else { t with armed := decide (0 ≤ n), left := max n 0, keep := k }
def Tp.wake (t : Tp) : Tp := { t.off with down := false }
def Tp.rwake (t : Tp) : Tp := { t with down := false, armed := false }
theorem off_armed {w : World} {base b : Nat} {v : Value} {t : Tp} (h : TapeAt false w base b v t.off) (n k : Int) (hn : I64 n) (hk : I64 k) :
    Went false w base b v { t with armed := true, left := n, keep := k } (((w.setCell ⟨b, 3, none⟩ (.bool true)).setCell ⟨b, 4, none⟩ (.int .i64 n)).setCell ⟨b, 5, none⟩ (.int .i64 k)) := by
  have ok := h.ok
  have h1 : TapeAt false _ base b v { t.off with armed := true } := h.store 3 (.bool true) rfl rfl ⟨ok.oct, ok.len, ok.room, i64_0, i64_0⟩
  have h2 : TapeAt false _ base b v { t.off with armed := true, left := n } := h1.store 4 (.int .i64 n) rfl rfl ⟨ok.oct, ok.len, ok.room, hn, i64_0⟩
  have h3 : TapeAt false _ base b v { t with armed := true, left := n, keep := k } := h2.store 5 (.int .i64 k) rfl rfl ⟨ok.oct, ok.len, ok.room, hn, hk⟩
  exact ⟨v, h3, ((touch_foot b 3 v _ w).set 4 _).set 5 _, Near.refl _ _⟩
set_option maxRecDepth 8000 in
set_option maxHeartbeats 2000000 in
theorem arm_any (w : World) (base b : Nat) (v : Value) (t : Tp) (n k : Int) (hn : I64 n) (hk : I64 k) (h : TapeAt false w base b v t) :
    Calls Tryz.prog 30 #[.pointer (some ⟨b, 0, none⟩), .int .i64 n, .int .i64 k] w fun e w' => e = .returned (.tuple #[]) ∧ Went false w base b v (t.arm n k) w' := by
  obtain ⟨_, _, c2, _⟩ := h.reads
  cases hd : t.down with
  | true =>
    rw [show t.arm n k = t from by unfold Tp.arm; rw [hd]; rfl]
    rw [hd] at c2
    have H := Lib.hid h.nil
    clear h
    go_enter Tryz.func30, Tryz.ntmps30
    go_wp2
    refine bodyPost_ret (results_none rfl _ _ _) rfl ?_
    exact ⟨rfl, H.out⟩
  | false =>
    rw [hd] at c2
    have C := Lib.hid (disarm_any w base b v t h)
    by_cases h0 : 0 ≤ n
    · rw [show t.arm n k = { t with armed := true, left := n, keep := k } from by unfold Tp.arm; rw [hd, if_neg (by simp), if_pos h0]]
      have HN := Lib.hid hn
      have HK := Lib.hid hk
      clear h hn hk
      go_enter Tryz.func30, Tryz.ntmps30
      go_wp2_with (go_at_call 65; refine C.out.mono ?_; rintro e w1 ⟨rfl, v1, h1, ht1, hn1⟩; have HH := Lib.hid h1; obtain ⟨_, _, _, x3, x4, x5, xf⟩ := h1.reads; have y3 := xf 3; have y4 := xf 4; have y5 := xf 5; clear h1 xf)
      go_end0
      exact ⟨rfl, Went.from ht1 hn1 (off_armed HH.out n k HN.out HK.out)⟩
    · rw [show t.arm n k = t.off from by unfold Tp.arm; rw [hd, if_neg (by simp), if_neg h0]]
      clear h hn hk
      go_enter Tryz.func30, Tryz.ntmps30
      go_wp2_with (go_at_call 65; refine C.out.mono ?_; rintro e w1 ⟨rfl, h1⟩)
      go_end0
      exact ⟨rfl, h1⟩
set_option maxRecDepth 8000 in
set_option maxHeartbeats 2000000 in
theorem wake_any (w : World) (base b : Nat) (v : Value) (t : Tp) (h : TapeAt false w base b v t) :
    Calls Tryz.prog 32 #[.pointer (some ⟨b, 0, none⟩)] w fun e w' => e = .returned (.tuple #[]) ∧ Went false w base b v t.wake w' := by
  obtain ⟨_, _, c2, _, _, _, hf⟩ := h.reads
  have f2 := hf 2
  have h1 : TapeAt false (w.setCell ⟨b, 2, none⟩ (.bool false)) base b v { t with down := false } := h.store 2 (.bool false) rfl rfl ⟨h.ok.oct, h.ok.len, h.ok.room, h.ok.left, h.ok.keep⟩
  have C := Lib.hid (disarm_any _ base b v _ h1)
  clear h hf h1
  go_enter Tryz.func32, Tryz.ntmps32
  go_wp2_with (go_at_call 65; refine C.out.mono ?_; rintro e w1 ⟨rfl, h1⟩)
  go_end0
  exact ⟨rfl, Went.from (touch_foot _ _ _ _ _) (Near.refl _ _) h1⟩
set_option maxRecDepth 8000 in
set_option maxHeartbeats 2000000 in
theorem rarm_any (w : World) (base b : Nat) (v : Value) (t : Tp) (n k : Int) (hn : I64 n) (hk : I64 k) (h : TapeAt true w base b v t) :
    Calls Tryz.prog 31 #[.pointer (some ⟨b, 0, none⟩), .int .i64 n, .int .i64 k] w fun e w' => e = .returned (.tuple #[]) ∧ Went true w base b v (t.rarm n k) w' := by
  obtain ⟨_, _, c2, c3, c4, c5, hf⟩ := h.rreads
  have ok := h.ok
  cases hd : t.down with
  | true =>
    rw [show t.rarm n k = t from by unfold Tp.rarm; rw [hd]; rfl]
    rw [hd] at c5
    have H := Lib.hid h.nil
    clear h
    go_enter Tryz.func31, Tryz.ntmps31
    go_wp2
    go_end0
    exact ⟨rfl, H.out⟩
  | false =>
    rw [show t.rarm n k = { t with armed := decide (0 ≤ n), left := max n 0, keep := k } from by unfold Tp.rarm; rw [hd]; rfl]
    rw [hd] at c5
    have f2 := hf 2
    have f3 := hf 3
    have f4 := hf 4
    obtain ⟨a, hA⟩ : ∃ a, a = decide (0 ≤ n) := ⟨_, rfl⟩
    obtain ⟨q, hQ⟩ : ∃ q, q = max n 0 := ⟨_, rfl⟩
    rw [← hA, ← hQ]
    have e1 : decide (n ≥ 0) = a := hA.symm
    have e2 : (if n < 0 then 0 else n) = q := by rw [hQ]; split <;> omega
    have hq : I64 q := by unfold I64 at hn ⊢; omega
    have h1 : TapeAt true _ base b v { t with armed := a } := h.store 2 (.bool a) rfl rfl ⟨ok.oct, ok.len, ok.room, ok.left, ok.keep⟩
    have h2 : TapeAt true _ base b v { t with armed := a, left := q } := h1.store 3 (.int .i64 q) rfl rfl ⟨ok.oct, ok.len, ok.room, hq, ok.keep⟩
    have h3 : TapeAt true _ base b v { t with armed := a, left := q, keep := k } := h2.store 4 (.int .i64 k) rfl rfl ⟨ok.oct, ok.len, ok.room, hq, hk⟩
    have H : Hid (Went true w base b v { t with armed := a, left := q, keep := k } _) := Lib.hid ⟨v, h3, ((touch_foot b 2 v _ w).set 3 _).set 4 _, Near.refl _ _⟩
    clear h h1 h2 h3 hf hA hQ hn hk hq ok
    go_enter Tryz.func31, Tryz.ntmps31
    go_wp2
    go_end0
    exact ⟨rfl, H.out⟩
set_option maxRecDepth 8000 in
set_option maxHeartbeats 2000000 in
theorem rwake_any (w : World) (base b : Nat) (v : Value) (t : Tp) (h : TapeAt true w base b v t) :
    Calls Tryz.prog 33 #[.pointer (some ⟨b, 0, none⟩)] w fun e w' => e = .returned (.tuple #[]) ∧ Went true w base b v t.rwake w' := by
  obtain ⟨_, _, c2, _, _, c5, hf⟩ := h.rreads
  have f2 := hf 2
  have f5 := hf 5
  have ok := h.ok
  have h1 : TapeAt true _ base b v { t with down := false } := h.store 5 (.bool false) rfl rfl ⟨ok.oct, ok.len, ok.room, ok.left, ok.keep⟩
  have h2 : TapeAt true _ base b v t.rwake := h1.store 2 (.bool false) rfl rfl ⟨ok.oct, ok.len, ok.room, ok.left, ok.keep⟩
  have H : Hid (Went true w base b v t.rwake _) := Lib.hid ⟨v, h2, (touch_foot b 5 v _ w).set 2 _, Near.refl _ _⟩
  clear h h1 h2 hf
  go_enter Tryz.func33, Tryz.ntmps33
  go_wp2
  go_end0
  exact ⟨rfl, H.out⟩
end Go.Proofs.YtmpipjangbedkaaGreat
