/-
  Words for rows of numbers of the call's own, of whatever kind; plain lists. No program is named here.
-/
import Derived.Test.YtiblbhppojfdaaaMem
import Derived.Laws.MakeOwn
namespace Go.Proofs.Ytiblbhppojfdaaa
open Go.RowKit

/-- A row of the call's own: its numbers, none frozen. -/
def RowK (w : World) (k : IntKind) (g : Nat) (l : List Int) : Prop :=
  ∀ i, i < l.length → w.cell? ⟨g, i, none⟩ = some (.int k (l.getD i 0)) ∧ w.frozen? ⟨g, i, none⟩ = false
theorem RowK.below {w w' : World} {k : IntKind} {g : Nat} {l : List Int} (h : RowK w k g l) (hb : Below w.heap.size w w') : RowK w' k g l := by
  obtain ⟨k1, k2⟩ := old_cells hb
  intro i hi
  obtain ⟨h1, h2⟩ := h i hi
  have hl := block_lt h1
  exact ⟨by rw [k1 _ _ hl, h1], by rw [k2 _ _ hl, h2]⟩
theorem RowK.set {w : World} {k : IntKind} {g : Nat} {l : List Int} (h : RowK w k g l) (j : Nat) (hj : j < l.length) (d : Int) : RowK (w.setCell ⟨g, j, none⟩ (.int k d)) k g (l.set j d) := by
  intro i hi
  rw [List.length_set] at hi
  obtain ⟨h1, h2⟩ := h i hi
  refine ⟨?_, by rw [World.frozen?_setCell]; exact h2⟩
  by_cases e : j = i
  · subst e
    rw [World.cell?_setCell_same _ _ _ h1, List.getD_eq_getElem?_getD, List.getElem?_set_self hj]; rfl
  · rw [World.cell?_setCell_other _ _ _ _ (by intro e2; injection e2 with _ e2; exact e e2), h1, List.getD_eq_getElem?_getD, List.getD_eq_getElem?_getD, List.getElem?_set_ne e]
theorem RowK.other {w : World} {k : IntKind} {g : Nat} {l : List Int} (h : RowK w k g l) {b : Nat} (hb : b ≠ g) (o : Nat) (v : Value) : RowK (w.setCell ⟨b, o, none⟩ v) k g l := by
  intro i hi
  obtain ⟨h1, h2⟩ := h i hi
  refine ⟨?_, by rw [World.frozen?_setCell]; exact h2⟩
  rw [World.cell?_setCell_other _ _ _ _ (by intro e2; injection e2 with e2; exact hb e2), h1]
theorem RowK.ints {w : World} {k : IntKind} {g : Nat} {l : List Int} (h : RowK w k g l) : Ints w k (some ⟨g, 0, none⟩) l := by
  intro _
  refine ⟨g, 0, rfl, fun i hi => ?_⟩
  rw [Nat.zero_add]; exact (h i hi).1
theorem RowK.new (w : World) (k : IntKind) (n : Nat) (t : TypeId) (g : Nat) (hg : g = w.heap.size) : RowK (w.alloc (.cells (madeCells #[.int k 0] n) t)) k g (List.replicate n 0) := by
  subst hg
  intro i hi
  rw [List.length_replicate] at hi
  refine ⟨?_, World.frozen?_alloc_at _ _ _ _ rfl⟩
  rw [World.cell?_alloc_new, ← Array.getElem?_toList, toList_madeCells_one, List.getElem?_replicate, if_pos hi, List.getD_eq_getElem?_getD, List.getElem?_replicate, if_pos hi]
  rfl
theorem RowK.drew {w : World} {k : IntKind} {g : Nat} {l : List Int} (h : RowK w k g l) : RowK w.drew k g l := h.below (Below.refl _ _).drew
theorem RowK.alloc {w : World} {k : IntKind} {g : Nat} {l : List Int} (h : RowK w k g l) (o : Obj) : RowK (w.alloc o) k g l := h.below ((Below.refl _ _).alloc (Nat.le_refl _) _)
/-- One cell in a block of its own. -/
def Box1 (w : World) (b : Nat) (u : Value) : Prop := w.cell? ⟨b, 0, none⟩ = some u ∧ w.frozen? ⟨b, 0, none⟩ = false
theorem Box1.new (w : World) (u : Value) (t : TypeId) (b : Nat) (hb : b = w.heap.size) : Box1 (w.alloc (.cells #[u] t)) b u := by
  subst hb
  exact ⟨by rw [World.cell?_alloc_new]; rfl, World.frozen?_alloc_at _ _ _ _ rfl⟩
theorem Box1.below {w w' : World} {b : Nat} {u : Value} (h : Box1 w b u) (hb : Below w.heap.size w w') : Box1 w' b u := by
  have hl : b < w.heap.size := block_lt h.1
  obtain ⟨k1, k2⟩ := old_cells hb
  exact ⟨by rw [k1 _ _ hl, h.1], by rw [k2 _ _ hl, h.2]⟩
theorem Box1.other {w : World} {b : Nat} {u : Value} (h : Box1 w b u) {b' : Nat} (hb : b' ≠ b) (o : Nat) (v : Value) : Box1 (w.setCell ⟨b', o, none⟩ v) b u :=
  ⟨by rw [World.cell?_setCell_other _ _ _ _ (by intro e; injection e with e; exact hb e)]; exact h.1, by rw [World.frozen?_setCell]; exact h.2⟩
/-- Numbers in a block that a store does not touch. -/
theorem Ints.other {w : World} {k : IntKind} {A : Option Addr} {l : List Int} (h : Ints w k A l) {g : Nat} (hg : ∀ b o s, A = some ⟨b, o, s⟩ → b ≠ g) (o : Nat) (v : Value) : Ints (w.setCell ⟨g, o, none⟩ v) k A l := by
  intro h0
  obtain ⟨b, off, e, hc⟩ := h h0
  refine ⟨b, off, e, fun i hi => ?_⟩
  rw [World.cell?_setCell_other _ _ _ _ (by intro e2; injection e2 with e2; exact hg _ _ _ e e2.symm)]
  exact hc i hi
theorem getD_mem {l : List Int} {i : Nat} (h : i < l.length) : l.getD i 0 ∈ l := by
  rw [List.getD_eq_getElem?_getD, List.getElem?_eq_getElem h]; simp
theorem getD_map {α : Type} (l : List α) (f : α → Int) (i : Nat) (a : α) (h : i < l.length) : (l.map f).getD i 0 = f (l.getD i a) := by
  rw [List.getD_eq_getElem?_getD, List.getD_eq_getElem?_getD, List.getElem?_map, List.getElem?_eq_getElem h]; rfl
theorem getD_set_same {l : List Int} {i : Nat} (x : Int) (h : i < l.length) : (l.set i x).getD i 0 = x := by
  rw [List.getD_eq_getElem?_getD, List.getElem?_set_self h]; rfl
theorem getD_set_ne {l : List Int} {i j : Nat} (x : Int) (h : i ≠ j) : (l.set i x).getD j 0 = l.getD j 0 := by
  rw [List.getD_eq_getElem?_getD, List.getElem?_set_ne h, List.getD_eq_getElem?_getD]
theorem ext_getD {l m : List Int} (h : l.length = m.length) (e : ∀ i, i < l.length → l.getD i 0 = m.getD i 0) : l = m := by
  apply List.ext_getElem h
  intro i h1 h2
  have := e i h1
  rw [List.getD_eq_getElem?_getD, List.getD_eq_getElem?_getD, List.getElem?_eq_getElem h1, List.getElem?_eq_getElem h2] at this
  simpa using this
end Go.Proofs.Ytiblbhppojfdaaa
