/-
  Two Bigs laid into two structs, among calls: what stands between two operations, whichever came up. No program's function is named here.
-/
import Derived.Test.YtiblbhppojfdaaaRef1h
import Derived.Test.YtiblbhppojfdaaaInv
namespace Go.Proofs.Ytiblbhppojfdaaa
open Go.RowKit

section
variable {w W : World} {N : Nat}
theorem big_in {v : Value} {x : Int} (h : BigV W v x N) {b : Nat} (hb : Box2 W b (.bool false) (.slice none 0 0)) (u0 u1 : Value) : BigV ((W.setCell ⟨b, 0, none⟩ u0).setCell ⟨b, 1, none⟩ u1) v x N :=
  (h.setCell hb.1 (fun _ e => by cases e) _).setCell (u := .slice none 0 0) (by rw [World.cell?_setCell_other _ _ _ _ (by simp)]; exact hb.2.1) (fun _ e => by cases e) _
theorem below_in (hB : Below w.heap.size w W) {b : Nat} (l : w.heap.size ≤ b) (u0 u1 : Value) : Below w.heap.size w ((W.setCell ⟨b, 0, none⟩ u0).setCell ⟨b, 1, none⟩ u1) :=
  (hB.setCell (p := ⟨b, 0, none⟩) l _).setCell (p := ⟨b, 1, none⟩) l _
end
/-- What is in a struct that has been made: nothing yet, or the Big that was stored. -/
def InBox (W : World) (p : Value) (stored : Bool) (v : Value) (lo : Nat) : Prop :=
  ∃ b, p = .pointer (some ⟨b, 0, none⟩) ∧ lo ≤ b ∧ (stored = false → Box2 W b (.bool false) (.slice none 0 0)) ∧ (stored = true → ∃ ng A n c, v = .agg #[.bool ng, .slice A n c] ∧ Box2 W b (.bool ng) (.slice A n c))
theorem InBox.below {W W' : World} {p : Value} {st : Bool} {v : Value} {lo : Nat} (h : InBox W p st v lo) (hb : Below W.heap.size W W') : InBox W' p st v lo := by
  obtain ⟨b, e, h1, h2, h3⟩ := h
  refine ⟨b, e, h1, fun hs => (h2 hs).below hb, fun hs => ?_⟩
  obtain ⟨ng, A, n, c, e1, h4⟩ := h3 hs
  exact ⟨ng, A, n, c, e1, h4.below hb⟩
theorem InBox.lt {W : World} {b : Nat} {st : Bool} {v : Value} {lo : Nat} (h : InBox W (.pointer (some ⟨b, 0, none⟩)) st v lo) : b < W.heap.size := by
  obtain ⟨b', e, _, h2, h3⟩ := h
  injection e with e; injection e with e; injection e with e
  subst e
  cases st
  · exact (h2 rfl).lt
  · obtain ⟨_, _, _, _, _, h4⟩ := h3 rfl
    exact h4.lt


def D3 : List Nat := [9, 10, 27, 28, 29, 30]
structure I3 (wr : World) (x y : Int) (av bv : Value) (V : Nat → Value) (L : Nat → Bool) (W : World) : Prop where
  old : Below wr.heap.size wr W
  f0 : L 0 = true → V 27 = av
  f1 : L 1 = true → BigV W (V 28) x 8
  f2 : L 2 = true → V 29 = bv
  f3 : L 3 = true → BigV W (V 30) y 8
  f4 : L 4 = true → InBox W (V 9) (L 6) (V 28) wr.heap.size
  f5 : L 5 = true → InBox W (V 10) (L 7) (V 30) wr.heap.size
  ne : L 4 = true → L 5 = true → V 9 ≠ V 10
  a6 : L 6 = true → L 1 = true ∧ L 4 = true
  a7 : L 7 = true → L 3 = true ∧ L 5 = true
section
variable {wr : World} {x y : Int} {av bv : Value} {V : Nat → Value} {L : Nat → Bool} {W W' : World}
theorem I3.grow (h : I3 wr x y av bv V L W) (hb : Below W.heap.size W W') : I3 wr x y av bv V L W' :=
  ⟨h.old.trans (hb.mono h.old.size), h.f0, fun e => (h.f1 e).below hb, h.f2, fun e => (h.f3 e).below hb, fun e => (h.f4 e).below hb, fun e => (h.f5 e).below hb, h.ne, h.a6, h.a7⟩
theorem I3.start : I3 wr x y av bv V (fun _ => false) wr.drew := by
  constructor
  · exact (Below.refl _ _).drew
  all_goals (intro h; cases h)
variable (h : I3 wr x y av bv V L W)
include h
theorem I3.s0 : I3 wr x y av bv (upd V 27 av) (upd L 0 true) W := ⟨h.old, fun _ => rfl, h.f1, h.f2, h.f3, h.f4, h.f5, h.ne, h.a6, h.a7⟩
theorem I3.s2 : I3 wr x y av bv (upd V 29 bv) (upd L 2 true) W := ⟨h.old, h.f0, h.f1, fun _ => rfl, h.f3, h.f4, h.f5, h.ne, h.a6, h.a7⟩
theorem I3.n6 (hn : L 1 = false) : L 6 = false := by
  cases e : L 6
  · rfl
  · have := (h.a6 e).1; rw [hn] at this; cases this
theorem I3.n6' (hn : L 4 = false) : L 6 = false := by
  cases e : L 6
  · rfl
  · have := (h.a6 e).2; rw [hn] at this; cases this
theorem I3.n7 (hn : L 3 = false) : L 7 = false := by
  cases e : L 7
  · rfl
  · have := (h.a7 e).1; rw [hn] at this; cases this
theorem I3.n7' (hn : L 5 = false) : L 7 = false := by
  cases e : L 7
  · rfl
  · have := (h.a7 e).2; rw [hn] at this; cases this
theorem I3.s1 (hn : L 6 = false) {v : Value} (hv : BigV W v x 8) : I3 wr x y av bv (upd V 28 v) (upd L 1 true) W :=
  ⟨h.old, h.f0, fun _ => hv, h.f2, h.f3, (fun e => by
    have h1 := h.f4 e
    rw [hn] at h1
    obtain ⟨b, e1, e2, e3, _⟩ := h1
    have hn' : upd L 1 true 6 = false := hn
    rw [hn']
    exact ⟨b, e1, e2, e3, (fun hh => by cases hh)⟩), h.f5, h.ne, (fun e => by have e' : L 6 = true := e; rw [hn] at e'; cases e'), h.a7⟩
theorem I3.s3 (hn : L 7 = false) {v : Value} (hv : BigV W v y 8) : I3 wr x y av bv (upd V 30 v) (upd L 3 true) W :=
  ⟨h.old, h.f0, h.f1, h.f2, fun _ => hv, h.f4, (fun e => by
    have h1 := h.f5 e
    rw [hn] at h1
    obtain ⟨b, e1, e2, e3, _⟩ := h1
    have hn' : upd L 3 true 7 = false := hn
    rw [hn']
    exact ⟨b, e1, e2, e3, (fun hh => by cases hh)⟩), h.ne, h.a6, (fun e => by have e' : L 7 = true := e; rw [hn] at e'; cases e')⟩
theorem I3.s4 (hn : L 6 = false) (ty : TypeId) : I3 wr x y av bv (upd V 9 (.pointer (some ⟨W.heap.size, 0, none⟩))) (upd L 4 true) (W.alloc (.cells #[.bool false, .slice none 0 0] ty)) := by
  have g := h.grow (W' := W.alloc (.cells #[.bool false, .slice none 0 0] ty)) ((Below.refl _ _).alloc (Nat.le_refl _) _)
  refine ⟨g.old, g.f0, g.f1, g.f2, g.f3, fun _ => ⟨_, rfl, h.old.size, fun _ => Box2.new W _ _ ty _ rfl, (fun e => by have e' : L 6 = true := e; rw [hn] at e'; cases e')⟩, g.f5, fun _ e5 => ?_, fun e => ⟨(g.a6 e).1, rfl⟩, g.a7⟩
  have e5' : L 5 = true := e5
  intro hh
  have hh' : Value.pointer (some ⟨W.heap.size, 0, none⟩) = V 10 := hh
  have hl := (h.f5 e5')
  rw [← hh'] at hl
  exact Nat.lt_irrefl _ hl.lt
theorem I3.s5 (hn : L 7 = false) (ty : TypeId) : I3 wr x y av bv (upd V 10 (.pointer (some ⟨W.heap.size, 0, none⟩))) (upd L 5 true) (W.alloc (.cells #[.bool false, .slice none 0 0] ty)) := by
  have g := h.grow (W' := W.alloc (.cells #[.bool false, .slice none 0 0] ty)) ((Below.refl _ _).alloc (Nat.le_refl _) _)
  refine ⟨g.old, g.f0, g.f1, g.f2, g.f3, g.f4, fun _ => ⟨_, rfl, h.old.size, fun _ => Box2.new W _ _ ty _ rfl, (fun e => by have e' : L 7 = true := e; rw [hn] at e'; cases e')⟩, fun e4 _ => ?_, g.a6, fun e => ⟨(g.a7 e).1, rfl⟩⟩
  have e4' : L 4 = true := e4
  intro hh
  have hh' : V 9 = Value.pointer (some ⟨W.heap.size, 0, none⟩) := hh
  have hl := (h.f4 e4')
  rw [hh'] at hl
  exact Nat.lt_irrefl _ hl.lt
theorem I3.s6 (h4 : L 4 = true) (h1 : L 1 = true) (hn : L 6 = false) {b : Nat} (e4 : V 9 = .pointer (some ⟨b, 0, none⟩)) {nq : Bool} {Q : Option Addr} {lq cq : Nat} (e28 : V 28 = .agg #[.bool nq, .slice Q lq cq]) :
    I3 wr x y av bv V (upd L 6 true) ((W.setCell ⟨b, 0, none⟩ (.bool nq)).setCell ⟨b, 1, none⟩ (.slice Q lq cq)) := by
  obtain ⟨b', e1, e2, e3, _⟩ := h.f4 h4
  rw [e4] at e1
  injection e1 with e1; injection e1 with e1; injection e1 with e1
  subst e1
  have hb := e3 hn
  refine ⟨below_in h.old e2 _ _, h.f0, fun e => big_in (h.f1 e) hb _ _, h.f2, fun e => big_in (h.f3 e) hb _ _, fun _ => ⟨b, e4, e2, (fun hh => by cases hh), fun _ => ⟨nq, Q, lq, cq, e28, hb.set _ _⟩⟩, fun e => ?_, h.ne, fun _ => ⟨h1, h4⟩, h.a7⟩
  have e' : L 5 = true := e
  have hne := h.ne h4 e'
  obtain ⟨b2, m1, m2, m3, m4⟩ := h.f5 e'
  have hb2 : b ≠ b2 := fun e => hne (by rw [e4, m1, e])
  refine ⟨b2, m1, m2, fun hh => ((m3 hh).other hb2 _ _).other hb2 _ _, fun hh => ?_⟩
  obtain ⟨ng, A, n, c, y1, y2⟩ := m4 hh
  exact ⟨ng, A, n, c, y1, (y2.other hb2 _ _).other hb2 _ _⟩
theorem I3.s7 (h5 : L 5 = true) (h3 : L 3 = true) (hn : L 7 = false) {b : Nat} (e5 : V 10 = .pointer (some ⟨b, 0, none⟩)) {nq : Bool} {Q : Option Addr} {lq cq : Nat} (e30 : V 30 = .agg #[.bool nq, .slice Q lq cq]) :
    I3 wr x y av bv V (upd L 7 true) ((W.setCell ⟨b, 0, none⟩ (.bool nq)).setCell ⟨b, 1, none⟩ (.slice Q lq cq)) := by
  obtain ⟨b', e1, e2, e3, _⟩ := h.f5 h5
  rw [e5] at e1
  injection e1 with e1; injection e1 with e1; injection e1 with e1
  subst e1
  have hb := e3 hn
  refine ⟨below_in h.old e2 _ _, h.f0, fun e => big_in (h.f1 e) hb _ _, h.f2, fun e => big_in (h.f3 e) hb _ _, fun e => ?_, fun _ => ⟨b, e5, e2, (fun hh => by cases hh), fun _ => ⟨nq, Q, lq, cq, e30, hb.set _ _⟩⟩, h.ne, h.a6, fun _ => ⟨h3, h5⟩⟩
  have e' : L 4 = true := e
  have hne := h.ne e' h5
  obtain ⟨b2, m1, m2, m3, m4⟩ := h.f4 e'
  have hb2 : b ≠ b2 := fun e => hne (by rw [e5, m1, e])
  refine ⟨b2, m1, m2, fun hh => ((m3 hh).other hb2 _ _).other hb2 _ _, fun hh => ?_⟩
  obtain ⟨ng, A, n, c, y1, y2⟩ := m4 hh
  exact ⟨ng, A, n, c, y1, (y2.other hb2 _ _).other hb2 _ _⟩
end
/-- Two Bigs in their structs. -/
structure PQ (wr : World) (b1 b2 : Nat) (np : Bool) (P : Option Addr) (lp cp : Nat) (nq : Bool) (Q : Option Addr) (lq cq : Nat) (x y : Int) (W : World) : Prop where
  p : Box2 W b1 (.bool np) (.slice P lp cp)
  q : Box2 W b2 (.bool nq) (.slice Q lq cq)
  vp : BigV W (.agg #[.bool np, .slice P lp cp]) x 8
  vq : BigV W (.agg #[.bool nq, .slice Q lq cq]) y 8
  old : Below wr.heap.size wr W
theorem I3.done {wr : World} {x y : Int} {av bv : Value} {V : Nat → Value} {L : Nat → Bool} {W : World} (h : I3 wr x y av bv V L W) (hL : ∀ j, j < 8 → L j = true) : ∃ (b1 b2 : Nat) (np : Bool) (P : Option Addr) (lp cp : Nat) (nq : Bool) (Q : Option Addr) (lq cq : Nat), V 9 = .pointer (some ⟨b1, 0, none⟩) ∧ V 10 = .pointer (some ⟨b2, 0, none⟩) ∧ PQ wr b1 b2 np P lp cp nq Q lq cq x y W := by
  obtain ⟨b1, e1, l1, _, m1⟩ := h.f4 (hL 4 (by omega))
  obtain ⟨b2, e2, l2, _, m2⟩ := h.f5 (hL 5 (by omega))
  obtain ⟨np, P, lp, cp, y1, z1⟩ := m1 (hL 6 (by omega))
  obtain ⟨nq, Q, lq, cq, y2, z2⟩ := m2 (hL 7 (by omega))
  have g1 := h.f1 (hL 1 (by omega))
  have g2 := h.f3 (hL 3 (by omega))
  rw [y1] at g1
  rw [y2] at g2
  exact ⟨b1, b2, np, P, lp, cp, nq, Q, lq, cq, e1, e2, ⟨z1, z2, g1, g2, h.old⟩⟩
end Go.Proofs.Ytiblbhppojfdaaa
