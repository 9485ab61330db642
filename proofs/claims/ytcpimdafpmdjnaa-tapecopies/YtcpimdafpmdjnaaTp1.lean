/-
  A tape as plain data; a tape in memory (the program's and the reference's); the walks of both New.
-/
import Derived.Test.YtcpimdafpmdjnaaTpB
import Derived.Deep.QuietTactic
import Derived.BigQuiet
namespace Go.Proofs.Ytcpimdafpmdjnaa
open Go.RowKit
set_option linter.unusedVariables false

/-- A tape. -/
structure Tp where
  all : List Nat
  room : Nat
  down : Bool
  armed : Bool
  left : Int
  keep : Int
/-- What holds of each. -/
structure Tp.Ok (t : Tp) : Prop where
  oct : Oct t.all
  len : t.all.length ≤ t.room
  room : t.room ≤ 1048576
  left : I64 t.left
  keep : I64 t.keep
/-- The program's struct, and the reference's (true). -/
def tyOf : Bool → TypeId
  | false => 50
  | true => 52
def cellsOf : Bool → Tp → Value → List Value
  | false, t, v => [v, .int .i64 (t.room : Int), .bool t.down, .bool t.armed, .int .i64 t.left, .int .i64 t.keep]
  | true, t, v => [v, .int .i64 (t.room : Int), .bool t.armed, .int .i64 t.left, .int .i64 t.keep, .bool t.down]
theorem tyOf_ne (r : Bool) : tyOf r ≠ 5 := by cases r <;> decide
/-- A tape in memory, at the struct b, its bytes in v: all of it the call's own. -/
structure TapeAt (r : Bool) (w : World) (base b : Nat) (v : Value) (t : Tp) : Prop where
  low : base ≤ b
  box : Rec w b (tyOf r) (cellsOf r t v)
  own : OwnB w base v t.all
  ok : t.Ok
/-- The blocks of a tape. -/
def foot (b : Nat) (v : Value) (k : Nat) : Prop := k = b ∨ v.ownBlock = some k
/-- The bytes lie where they did, or in new memory. -/
def Near (w : World) (v v' : Value) : Prop := ∀ k, v'.ownBlock = some k → v.ownBlock = some k ∨ w.heap.size ≤ k
/-- A tape behind a call on it: only its blocks and new ones are turned. -/
def Went (r : Bool) (w : World) (base b : Nat) (v : Value) (t : Tp) (w' : World) : Prop := ∃ v', TapeAt r w' base b v' t ∧ Touch (foot b v) w w' ∧ Near w v v'
section
variable {r : Bool} {w w' w'' w0 : World} {base b : Nat} {v v' v0 : Value} {t t' : Tp} {X : Nat → Prop}
theorem TapeAt.not_row (h : TapeAt r w base b v t) : v.ownBlock ≠ some b := h.box.not_row (tyOf_ne r) h.own
theorem TapeAt.touch (h : TapeAt r w base b v t) (ht : Touch X w w') (hx : ∀ k, foot b v k → ¬ X k) : TapeAt r w' base b v t :=
  ⟨h.low, h.box.touch ht (hx b (.inl rfl)), h.own.touch ht (fun k hk => hx k (.inr hk)), h.ok⟩
theorem TapeAt.keep (h : TapeAt r w base b v t) (hb : Below w.heap.size w w') : TapeAt r w' base b v t := ⟨h.low, h.box.keep hb, h.own.keep hb, h.ok⟩
theorem TapeAt.lower (h : TapeAt r w base b v t) {base' : Nat} (hb : base' ≤ base) : TapeAt r w base' b v t := ⟨Nat.le_trans hb h.low, h.box, h.own.base hb, h.ok⟩
theorem TapeAt.lt (h : TapeAt r w base b v t) {k : Nat} (hk : foot b v k) : base ≤ k ∧ k < w.heap.size := by
  rcases hk with rfl | hk
  · exact ⟨h.low, h.box.lt⟩
  · exact h.own.lt k hk
theorem TapeAt.nil (h : TapeAt r w base b v t) : Went r w base b v t w := ⟨v, h, Touch.refl _ _, fun _ hk => .inl hk⟩
theorem Went.from (h : Touch (foot b v) w w') (hm : Near w v v') (h2 : Went r w' base b v' t w'') : Went r w base b v t w'' := by
  obtain ⟨v2, ha, ht, hn⟩ := h2
  refine ⟨v2, ha, h.trans ht (fun i hi hk => ?_), fun k hk => ?_⟩
  · rcases hk with rfl | hk
    · exact .inl rfl
    · rcases hm i hk with h1 | h1
      · exact .inr h1
      · omega
  · rcases hn k hk with h1 | h1
    · exact hm k h1
    · exact .inr (Nat.le_trans h.size h1)
/-- A field's store. -/
theorem TapeAt.store (h : TapeAt r w base b v t) (i : Nat) (u : Value) (hc : (cellsOf r t v).set i u = cellsOf r t' v) (ha : t'.all = t.all) (ok : t'.Ok) : TapeAt r (w.setCell ⟨b, i, none⟩ u) base b v t' := by
  refine ⟨h.low, ?_, ?_, ok⟩
  · rw [← hc]; exact h.box.set i u
  · rw [ha]; exact h.own.touch (Touch.setCell w ⟨b, i, none⟩ u) (fun k hk e => h.not_row (by rw [hk]; simp only at e; rw [e]))
/-- The store of the bytes' slice. -/
theorem TapeAt.put (h : TapeAt r w base b v t) (ho : OwnB w base v' t'.all) (hc : (cellsOf r t v).set 0 v' = cellsOf r t' v') (ok : t'.Ok) : TapeAt r (w.setCell ⟨b, 0, none⟩ v') base b v' t' := by
  refine ⟨h.low, ?_, ?_, ok⟩
  · rw [← hc]; exact h.box.set 0 v'
  · exact ho.touch (Touch.setCell w ⟨b, 0, none⟩ v') (fun k hk e => h.box.not_row (tyOf_ne r) ho (by rw [hk]; simp only at e; rw [e]))
theorem touch_foot (b i : Nat) (v u : Value) (w : World) : Touch (foot b v) w (w.setCell ⟨b, i, none⟩ u) := (Touch.setCell w ⟨b, i, none⟩ u).mono (fun _ e => .inl e)
theorem Touch.set (h : Touch (foot b v) w0 w) (i : Nat) (u : Value) : Touch (foot b v) w0 (w.setCell ⟨b, i, none⟩ u) := h.trans (Touch.setCell w ⟨b, i, none⟩ u) (fun _ _ e => .inl e)
theorem Near.refl (w : World) (v : Value) : Near w v v := fun _ hk => .inl hk
end

/-- The room that New holds to. -/
def roomOf (room : Int) : Nat := (min (max room 0) 1048576).toNat
theorem roomOf_le (r : Int) : roomOf r ≤ 1048576 := by unfold roomOf; omega
def newTp (room : Int) : Tp := ⟨[], roomOf room, false, false, 0, 0⟩
theorem i64_0 : I64 0 := by unfold I64; omega
theorem newTp_ok (r : Int) : (newTp r).Ok := ⟨fun x hx => (List.not_mem_nil hx).elim, Nat.zero_le _, roomOf_le r, i64_0, i64_0⟩

set_option maxRecDepth 8000 in
set_option maxHeartbeats 1000000 in
theorem new_any (r : Int) (w : World) : Calls Try.prog 10 #[.int .i64 r] w fun e w' => e = .returned (.pointer (some ⟨w.heap.size, 0, none⟩)) ∧ TapeAt false w' w.heap.size w.heap.size (.slice none 0 0) (newTp r) ∧ Below w.heap.size w w' := by
  obtain ⟨m, hm⟩ : ∃ m, m = (roomOf r : Int) := ⟨_, rfl⟩
  obtain ⟨q, hq⟩ : ∃ q, q = max r 0 := ⟨_, rfl⟩
  have e1 : (if r < 0 then 0 else r) = q := by rw [hq]; split <;> omega
  have HF : Hid (TapeAt false (w.alloc (.cells (cellsOf false ⟨[], 0, false, false, 0, 0⟩ (.slice none 0 0) |>.set 1 (.int .i64 m) |>.toArray) (tyOf false))) w.heap.size w.heap.size (.slice none 0 0) (newTp r)) := Lib.hid ⟨Nat.le_refl _, by rw [hm]; exact Rec.new w _ (cellsOf false (newTp r) (.slice none 0 0)) _ rfl, ownB_nil _ _, newTp_ok r⟩
  have hu := hm
  unfold roomOf at hu
  have HM : (if 1048576 < q then 1048576 else q) = m := by rw [hu, hq]; split <;> omega
  clear hm hq hu
  go_enter Try.func10, Try.ntmps10
  go_wp2
  go_ret
  exact ⟨rfl, HF.out, (Below.refl _ _).alloc (Nat.le_refl _) _⟩
set_option maxRecDepth 8000 in
set_option maxHeartbeats 1000000 in
theorem rnew_any (r : Int) (w : World) : Calls Try.prog 11 #[.int .i64 r] w fun e w' => e = .returned (.pointer (some ⟨w.heap.size, 0, none⟩)) ∧ TapeAt true w' w.heap.size w.heap.size (.slice none 0 0) (newTp r) ∧ Below w.heap.size w w' := by
  obtain ⟨m, hm⟩ : ∃ m, m = (roomOf r : Int) := ⟨_, rfl⟩
  obtain ⟨q, hq⟩ : ∃ q, q = max r 0 := ⟨_, rfl⟩
  have e1 : (if r < 0 then 0 else r) = q := by rw [hq]; split <;> omega
  have HF : Hid (TapeAt true (w.alloc (.cells (cellsOf true ⟨[], 0, false, false, 0, 0⟩ (.slice none 0 0) |>.set 1 (.int .i64 m) |>.toArray) (tyOf true))) w.heap.size w.heap.size (.slice none 0 0) (newTp r)) := Lib.hid ⟨Nat.le_refl _, by rw [hm]; exact Rec.new w _ (cellsOf true (newTp r) (.slice none 0 0)) _ rfl, ownB_nil _ _, newTp_ok r⟩
  have hu := hm
  unfold roomOf at hu
  have HM : (if 1048576 < q then 1048576 else q) = m := by rw [hu, hq]; split <;> omega
  clear hm hq hu
  go_enter Try.func11, Try.ntmps11
  go_wp2
  go_ret
  exact ⟨rfl, HF.out, (Below.refl _ _).alloc (Nat.le_refl _) _⟩
end Go.Proofs.Ytcpimdafpmdjnaa
