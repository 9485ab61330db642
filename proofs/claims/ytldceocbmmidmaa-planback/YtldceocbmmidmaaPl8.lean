/-
  Slices of int64s of the call's own; a config stored; what a reader of configs answers; reading no config.
-/
import Derived.Test.YtldceocbmmidmaaPl7
import Derived.Test.YtldceocbmmidmaaDag5
namespace Go.Proofs.Ytldceocbmmidmaa
open Go Go.RowKit
set_option linter.unusedVariables false

theorem out_some {b : List Nat} {a p : Nat} {v : Int} (h : readN b a = some (v, p)) : rdOut (rdn b a 10 0 0) = (v, (p : Int)) := by rw [rdOut_read, h]
theorem out_none {b : List Nat} {a : Nat} (h : readN b a = none) : rdOut (rdn b a 10 0 0) = (0, -1) := by rw [rdOut_read, h]
/-- A number in a slice of int64s. -/
def enc64 (i : Int) : List Value := [.int .i64 i]
theorem lay_64 : Lay enc64 48 2 1 8 := by
  refine ⟨Try.underlying48, ?_, by omega, fun _ => rfl, fun x u hu => ?_⟩
  · have h : (Try.prog.info? 2).map (fun i => (i.zero, i.size, i.bytes)) = some (some (.int .i64 0), 1, 8) := by kernel_rfl
    obtain ⟨i, h1, h2, h3, h4⟩ := parts_of h
    exact ⟨i, _, h1, h2, h3, h4, rfl⟩
  · simp [enc64] at hu
    subst hu; rfl
def Own64 (w : World) (base : Nat) (v : Value) (l : List Int) : Prop := OwnL enc64 2 1 w base v l
def Cfg.zero : Cfg := ⟨[], 0, 0, 0, 0, 0, 0⟩
/-- A config is stored. -/
def putC (w : World) (b : Nat) (v : Value) (c : Cfg) : World := ((((((w.setCell ⟨b, 0, none⟩ v).setCell ⟨b, 1, none⟩ (.int .i64 c.skin)).setCell ⟨b, 2, none⟩ (.int .i64 c.times)).setCell ⟨b, 3, none⟩ (.int .i64 c.port)).setCell ⟨b, 4, none⟩ (.int .i64 c.bid)).setCell ⟨b, 5, none⟩ (.int .i64 c.lot)).setCell ⟨b, 6, none⟩ (.int .i64 c.hedge)
theorem putC_at {w : World} {b : Nat} {x : Cfg} {u : Value} (h : CfAt w b x u) (v : Value) (y : Cfg) : CfAt (putC w b v y) b y v := by
  have := ((((((Rec.set h 0 v).set 1 (.int .i64 y.skin)).set 2 (.int .i64 y.times)).set 3 (.int .i64 y.port)).set 4 (.int .i64 y.bid)).set 5 (.int .i64 y.lot)).set 6 (.int .i64 y.hedge)
  exact this
theorem putC_touch (w : World) (b : Nat) (v : Value) (y : Cfg) : Touch (fun k => k = b) w (putC w b v y) := by
  unfold putC
  refine (((((((Touch.setCell w ⟨b, 0, none⟩ _).trans (Touch.setCell _ ⟨b, 1, none⟩ _) ?_).trans (Touch.setCell _ ⟨b, 2, none⟩ _) ?_).trans (Touch.setCell _ ⟨b, 3, none⟩ _) ?_).trans (Touch.setCell _ ⟨b, 4, none⟩ _) ?_).trans (Touch.setCell _ ⟨b, 5, none⟩ _) ?_).trans (Touch.setCell _ ⟨b, 6, none⟩ _) ?_) <;> exact fun _ _ h => h
theorem putC_size (w : World) (b : Nat) (v : Value) (y : Cfg) : (putC w b v y).heap.size = w.heap.size := by simp [putC, World.setCell]
theorem touch_below {w0 w w' : World} {B b : Nat} (h : Below B w0 w) (hB : B ≤ b) (ht : Touch (fun k => k = b) w w') (hs : w'.heap.size = w.heap.size) : Below B w0 w' :=
  ⟨ht.os.trans h.os, ht.tape.trans h.tape, ht.output.trans h.output, Nat.le_trans h.size ht.size, fun k hk => by
    rcases Nat.lt_or_ge k w.heap.size with h1 | h1
    · rw [ht.block k h1 (fun e => by omega)]; exact h.block k hk
    · have : ¬ k < w0.heap.size := by have := h.size; omega
      rw [Array.getElem?_eq_none (by omega), ← h.block k hk, Array.getElem?_eq_none h1]⟩
theorem putC_below {w0 w : World} {B b : Nat} (h : Below B w0 w) (hB : B ≤ b) (v : Value) (y : Cfg) : Below B w0 (putC w b v y) := touch_below h hB (putC_touch w b v y) (putC_size w b v y)
/-- What a reader of configs answers. -/
def PlanK (w : World) (o : Option Cfg) (e : Ending) (w' : World) : Prop :=
  ∃ v, e = .returned (.tuple #[(o.getD Cfg.zero).v v, .int .i64 (if o.isSome then 0 else 13)]) ∧ OwnI w' w.heap.size v (o.getD Cfg.zero).insts ∧ Below w.heap.size w w'
theorem planK_none {w w' : World} (h : Below w.heap.size w w') : PlanK w none (.returned (.tuple #[.agg #[.slice none 0 0, .int .i64 0, .int .i64 0, .int .i64 0, .int .i64 0, .int .i64 0, .int .i64 0], .int .i64 13])) w' := ⟨_, rfl, ownL_nil _ _, h⟩
set_option maxRecDepth 8000 in
set_option maxHeartbeats 1000000 in
/-- No count, or none that a config has. -/
theorem rreadplan_count (A : Option Addr) (b : List Nat) (c : Nat) (w : World) (hB : Byts w A b) (hO : Oct b) (hl : b.length ≤ 1000000000000) (hn : match readN b 0 with | none => True | some (n, _) => ¬ (1 ≤ n ∧ n ≤ 6)) : Calls Try.prog 21 #[.slice A b.length c] w (PlanK w none) := by
  have CN := Lib.hid (fun W (h : Below w.heap.size w W) => rnum_any A b c 0 W (hB.below h) hO hl (by omega))
  have HB0 : Hid (Below w.heap.size w (w.alloc (.cells (Cfg.zero.cells (.slice none 0 0)).toArray 24))) := Lib.hid ((Below.refl _ _).alloc (Nat.le_refl _) _)
  have CN1 := Lib.hid (CN.out _ HB0.out)
  rw [show ((0 : Nat) : Int) = 0 from rfl] at CN1
  simp only [Cfg.cells, Cfg.zero] at CN1
  generalize b.length = n at *
  cases hr : readN b 0 with
  | none =>
    rw [out_none hr] at CN1
    dsimp only at CN1
    clear hn hr hB hO CN
    go_enter Try.func21, Try.ntmps21
    go_wp2_with (go_at_call 33; (with_reducible refine CN1.out.mono ?_); rintro r _ ⟨rfl, rfl⟩)
    refine bodyPost_ret (v := .tuple #[.agg #[.slice none 0 0, .int .i64 0, .int .i64 0, .int .i64 0, .int .i64 0, .int .i64 0, .int .i64 0], .int .i64 13]) (by simp [results, Try.results21, go_sem]) rfl ?_
    exact planK_none ((Below.refl _ _).alloc (Nat.le_refl _) _)
  | some y =>
    obtain ⟨v, p⟩ := y
    rw [hr] at hn
    dsimp only at hn
    rw [out_some hr] at CN1
    dsimp only at CN1
    have hpp : decide ((p : Int) < 0) = false := by simp
    have hi := (readN_is hO hr).1
    clear hr hB hO CN
    by_cases h1 : v < 1
    · have d1 : decide (v < 1) = true := decide_eq_true h1
      go_enter Try.func21, Try.ntmps21
      go_wp2_with (go_at_call 33; (with_reducible refine CN1.out.mono ?_); rintro r _ ⟨rfl, rfl⟩)
      refine bodyPost_ret (v := .tuple #[.agg #[.slice none 0 0, .int .i64 0, .int .i64 0, .int .i64 0, .int .i64 0, .int .i64 0, .int .i64 0], .int .i64 13]) (by simp [results, Try.results21, go_sem]) rfl ?_
      exact planK_none ((Below.refl _ _).alloc (Nat.le_refl _) _)
    · have d1 : decide (v < 1) = false := decide_eq_false h1
      have d2 : decide (6 < v) = true := decide_eq_true (by omega)
      go_enter Try.func21, Try.ntmps21
      go_wp2_with (go_at_call 33; (with_reducible refine CN1.out.mono ?_); rintro r _ ⟨rfl, rfl⟩)
      refine bodyPost_ret (v := .tuple #[.agg #[.slice none 0 0, .int .i64 0, .int .i64 0, .int .i64 0, .int .i64 0, .int .i64 0, .int .i64 0], .int .i64 13]) (by simp [results, Try.results21, go_sem]) rfl ?_
      exact planK_none ((Below.refl _ _).alloc (Nat.le_refl _) _)
end Go.Proofs.Ytldceocbmmidmaa
