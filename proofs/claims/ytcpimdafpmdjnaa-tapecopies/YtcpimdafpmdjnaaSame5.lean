/-
  The program's tape and the reference's tell the same; two tapes in memory beside each other; the walks of novationlaw5's light and do.
-/
import Derived.Test.YtcpimdafpmdjnaaAct5
import Derived.Test.YtcpimdafpmdjnaaTp8
import Derived.Test.YtcpimdafpmdjnaaTp9
namespace Go.Proofs.Ytcpimdafpmdjnaa
open Go Go.RowKit
set_option linter.unusedVariables false

/-- They tell the same. -/
structure Same (t s : Tp) : Prop where
  all : t.all = s.all
  room : t.room = s.room
  down : t.down = s.down
  armed : t.armed = s.armed
  arm : s.armed = true → t.left = s.left ∧ t.keep = s.keep
theorem same_new (r : Int) : Same (newTp r) (newTp r) := ⟨rfl, rfl, rfl, rfl, fun _ => ⟨rfl, rfl⟩⟩
section
variable {t s : Tp} (h : Same t s)
include h
theorem Same.harm (n k : Int) : Same (t.arm n k) (s.rarm n k) := by
  unfold Tp.arm Tp.rarm
  rw [h.down]
  cases hd : s.down with
  | true => exact h
  | false =>
    simp only [Bool.false_eq_true, if_false]
    by_cases h0 : 0 ≤ n
    · rw [if_pos h0]; exact ⟨h.all, h.room, h.down.trans hd ▸ rfl, by simp [h0], fun _ => ⟨by simp only; omega, rfl⟩⟩
    · rw [if_neg h0]; exact ⟨h.all, h.room, h.down.trans hd ▸ rfl, by simp [Tp.off, h0], fun e => by simp at e; omega⟩
theorem Same.wake : Same t.wake s.rwake := ⟨h.all, h.room, rfl, rfl, fun e => by cases e⟩
theorem Same.goes : Same t.goes.1 s.rgoes.1 ∧ t.goes.2.2 = s.rgoes.2 ∧ (s.rgoes.2 = true → t.goes.2.1 = s.keep) := by
  unfold Tp.goes Tp.rgoes
  rw [h.armed]
  cases ha : s.armed with
  | false => exact ⟨h, rfl, fun e => by cases e⟩
  | true =>
    obtain ⟨h1, h2⟩ := h.arm ha
    rw [if_pos rfl, if_pos rfl, h1]
    by_cases h0 : 0 < s.left
    · rw [if_pos h0, if_pos h0]; exact ⟨⟨h.all, h.room, h.down, rfl, fun _ => ⟨rfl, h2⟩⟩, rfl, fun e => by cases e⟩
    · rw [if_neg h0, if_neg h0]; exact ⟨⟨h.all, h.room, rfl, rfl, fun e => by cases e⟩, rfl, fun _ => h2⟩
theorem Same.put (l : List Nat) : Same { t with all := l } { s with all := l } := ⟨rfl, h.room, h.down, h.armed, h.arm⟩
theorem Same.append (x : List Nat) : Same (t.append x).1 (s.rappend x).1 ∧ (t.append x).2 = (s.rappend x).2 := by
  unfold Tp.append Tp.rappend
  obtain ⟨g1, g2, g3⟩ := h.goes
  rw [h.down, h.room, h.all, g2]
  cases hd : s.down with
  | true => exact ⟨h, rfl⟩
  | false =>
    simp only [Bool.false_eq_true, if_false]
    by_cases hf : s.room < s.all.length + x.length
    · rw [if_pos hf, if_pos hf]; exact ⟨h, rfl⟩
    · rw [if_neg hf, if_neg hf]
      cases hg : s.rgoes.2 with
      | false => exact ⟨g1.put _, rfl⟩
      | true => rw [if_pos rfl, if_pos rfl, g3 hg]; exact ⟨g1.put _, rfl⟩
theorem Same.cut (n : Int) : Same (t.cut n).1 (s.rcut n).1 ∧ (t.cut n).2 = (s.rcut n).2 := by
  unfold Tp.cut Tp.rcut
  obtain ⟨g1, g2, g3⟩ := h.goes
  rw [h.down, h.all, g2]
  cases hd : s.down with
  | true => exact ⟨h, rfl⟩
  | false =>
    simp only [Bool.false_eq_true, if_false]
    by_cases hf : n < 0 ∨ (s.all.length : Int) < n
    · rw [if_pos hf, if_pos hf]; exact ⟨h, rfl⟩
    · rw [if_neg hf, if_neg hf]
      cases hg : s.rgoes.2 with
      | false => exact ⟨g1.put _, rfl⟩
      | true =>
        rw [if_pos rfl, if_pos rfl, g3 hg]
        by_cases hk : 0 < s.keep
        · rw [if_pos hk, if_pos hk]; exact ⟨g1.put _, rfl⟩
        · rw [if_neg hk, if_neg hk]; exact ⟨g1, rfl⟩
theorem Same.readL : t.readL = s.readL := by unfold Tp.readL; rw [h.down, h.all]
end
/-- An act, on both. -/
def Tp.act (t : Tp) (a : TAct) : Tp := if a.kind % 5 = 0 then (t.append a.b).1 else if a.kind % 5 = 1 then (t.cut a.n).1 else if a.kind % 5 = 2 then t else if a.kind % 5 = 3 then t.arm a.n a.keep else t.wake
def Tp.ract (t : Tp) (a : TAct) : Tp := if a.kind % 5 = 0 then (t.rappend a.b).1 else if a.kind % 5 = 1 then (t.rcut a.n).1 else if a.kind % 5 = 2 then t else if a.kind % 5 = 3 then t.rarm a.n a.keep else t.rwake
theorem Same.act {t s : Tp} (h : Same t s) (a : TAct) : Same (t.act a) (s.ract a) := by
  unfold Tp.act Tp.ract
  repeat' split
  · exact (h.append _).1
  · exact (h.cut _).1
  · exact h
  · exact h.harm _ _
  · exact h.wake
theorem Same.acts {t s : Tp} (h : Same t s) (l : List TAct) : Same (l.foldl Tp.act t) (l.foldl Tp.ract s) := by
  induction l generalizing t s with
  | nil => exact h
  | cons a l ih => exact ih (h.act a)

/-- A tape of the program beside one of the reference; X: their blocks. -/
def Duo (w : World) (B b b' : Nat) (t s : Tp) (X : Nat → Prop) : Prop :=
  ∃ v v', TapeAt false w B b v t ∧ TapeAt true w B b' v' s ∧ (∀ k, foot b v k → ¬ foot b' v' k) ∧ ∀ k, X k ↔ (foot b v k ∨ foot b' v' k)
section
variable {w w' : World} {B b b' : Nat} {t s : Tp} {X Y : Nat → Prop}
theorem Duo.lt (h : Duo w B b b' t s X) {k : Nat} (hk : X k) : B ≤ k ∧ k < w.heap.size := by
  obtain ⟨v, v', h1, h2, _, h4⟩ := h
  rcases (h4 k).1 hk with h5 | h5
  · exact h1.lt h5
  · exact h2.lt h5
theorem Duo.size (h : Duo w B b b' t s X) : B ≤ w.heap.size := by
  obtain ⟨v, v', h1, _⟩ := h
  have := h1.low; have := h1.box.lt; omega
theorem Duo.touch (h : Duo w B b b' t s X) (ht : Touch Y w w') (hx : ∀ k, X k → ¬ Y k) : Duo w' B b b' t s X := by
  obtain ⟨v, v', h1, h2, h3, h4⟩ := h
  exact ⟨v, v', h1.touch ht (fun k hk => hx k ((h4 k).2 (.inl hk))), h2.touch ht (fun k hk => hx k ((h4 k).2 (.inr hk))), h3, h4⟩
theorem Duo.keep (h : Duo w B b b' t s X) (hb : Below w.heap.size w w') : Duo w' B b b' t s X := h.touch (Touch.of_below (fun _ => False) hb) (fun _ _ h => h)
/-- What a deed on both may turn. -/
def DuoC (w : World) (B b b' : Nat) (t s : Tp) (X : Nat → Prop) (w' : World) : Prop := ∃ X', Duo w' B b b' t s X' ∧ Touch X w w' ∧ ∀ k, X' k → X k ∨ w.heap.size ≤ k
theorem Duo.first {v v' : Value} {t' : Tp} (h1 : TapeAt false w B b v t) (h2 : TapeAt true w B b' v' s) (h3 : ∀ k, foot b v k → ¬ foot b' v' k) (hg : Went false w B b v t' w') :
    ∃ v1, TapeAt false w' B b v1 t' ∧ TapeAt true w' B b' v' s ∧ (∀ k, foot b v1 k → ¬ foot b' v' k) ∧ Touch (foot b v) w w' ∧ Near w v v1 := by
  obtain ⟨v1, g1, g2, g3⟩ := hg
  refine ⟨v1, g1, h2.touch g2 (fun k hk hf => h3 k hf hk), fun k hk hf => ?_, g2, g3⟩
  rcases hk with rfl | hk
  · exact h3 _ (.inl rfl) hf
  · rcases g3 k hk with h5 | h5
    · exact h3 k (.inr h5) hf
    · have := h2.lt hf; omega
theorem Duo.second {v v' : Value} {s' : Tp} (h1 : TapeAt false w B b v t) (h2 : TapeAt true w B b' v' s) (h3 : ∀ k, foot b v k → ¬ foot b' v' k) (hg : Went true w B b' v' s' w') :
    ∃ v1, TapeAt false w' B b v t ∧ TapeAt true w' B b' v1 s' ∧ (∀ k, foot b v k → ¬ foot b' v1 k) ∧ Touch (foot b' v') w w' ∧ Near w v' v1 := by
  obtain ⟨v1, g1, g2, g3⟩ := hg
  refine ⟨v1, h1.touch g2 (fun k hk hf => h3 k hk hf), g1, fun k hk hf => ?_, g2, g3⟩
  rcases hf with rfl | hf
  · exact h3 _ hk (.inl rfl)
  · rcases g3 k hf with h5 | h5
    · exact h3 k hk (.inr h5)
    · have := h1.lt hk; omega
/-- Two deeds, the program's tape first, or the reference's. -/
theorem DuoC.two {w1 : World} {v v' v1 v1' : Value} {t' s' : Tp} (hX : ∀ k, X k ↔ (foot b v k ∨ foot b' v' k)) (a1 : TapeAt false w' B b v1 t') (a2 : TapeAt true w' B b' v1' s') (a3 : ∀ k, foot b v1 k → ¬ foot b' v1' k) (ht : Touch X w w') (n1 : ∀ k, v1.ownBlock = some k → v.ownBlock = some k ∨ w.heap.size ≤ k) (n2 : ∀ k, v1'.ownBlock = some k → v'.ownBlock = some k ∨ w.heap.size ≤ k) : DuoC w B b b' t' s' X w' := by
  refine ⟨fun k => foot b v1 k ∨ foot b' v1' k, ⟨v1, v1', a1, a2, a3, fun _ => Iff.rfl⟩, ht, fun k hk => ?_⟩
  rcases hk with (rfl | hk) | (rfl | hk)
  · exact .inl ((hX _).2 (.inl (.inl rfl)))
  · rcases n1 k hk with h | h
    · exact .inl ((hX k).2 (.inl (.inr h)))
    · exact .inr h
  · exact .inl ((hX _).2 (.inr (.inl rfl)))
  · rcases n2 k hk with h | h
    · exact .inl ((hX k).2 (.inr (.inr h)))
    · exact .inr h
end
end Go.Proofs.Ytcpimdafpmdjnaa
