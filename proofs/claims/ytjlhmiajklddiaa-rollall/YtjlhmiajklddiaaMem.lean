/-
  Words for slices of numbers in memory: what came in, what the call makes. No program is named here.
-/
import Derived.WalkKit
import Derived.OpenShut
import Derived.Below
import Derived.Laws.OwnMore
namespace Go.Proofs.Ytjlhmiajklddiaa
set_option maxRecDepth 8000
open Go.RowKit

/-- A slice value's places read as these numbers (nothing is asked of an empty one's address). -/
def Ints (w : World) (k : IntKind) (A : Option Addr) (l : List Int) : Prop :=
  0 < l.length → ∃ b off, A = some ⟨b, off, none⟩ ∧ ∀ i, i < l.length → w.cell? ⟨b, off + i, none⟩ = some (.int k (l.getD i 0))

theorem block_lt {w : World} {a : Addr} {v : Value} (h : w.cell? a = some v) : a.block < w.heap.size := by
  rcases Nat.lt_or_ge a.block w.heap.size with hlt | hge
  · exact hlt
  · have : w.heap[a.block]? = none := Array.getElem?_eq_none hge
    simp [World.cell?, this] at h

/-- What was there is there in a world that is the same below. -/
theorem Ints.below {w w' : World} {k : IntKind} {A : Option Addr} {l : List Int} (h : Ints w k A l) (hb : Below w.heap.size w w') : Ints w' k A l := by
  intro h0
  obtain ⟨b, off, e, hc⟩ := h h0
  refine ⟨b, off, e, fun i hi => ?_⟩
  rw [hb.cell (p := ⟨b, off + i, none⟩) (block_lt (hc i hi))]
  exact hc i hi

/-- A slice that came in, as the row's frame tells of it. -/
theorem row_ints {k : IntKind} {w : World} {a : Option Addr} {len cap : Nat} {zs : List Int}
    (h : (a = none ∧ len = 0 ∧ cap = 0 ∧ zs = []) ∨
      ∃ x, a = some x ∧ len ≤ cap ∧ cap ≤ maxLen ∧ zs.length = cap ∧ (∀ i, i < zs.length → w.cell? (x.add i) = some (.int k (zs.getD i 0))) ∧ ∀ n ∈ zs, (Lit.int k n).wf = true) :
    ∃ l : List Int, l.length = len ∧ Ints w k a l ∧ len ≤ 9223372036854775807 ∧ ∀ n ∈ l, (Lit.int k n).wf = true := by
  rcases h with ⟨_, rfl, _, _⟩ | ⟨x, rfl, hl, hm, hz, hc, hw⟩
  · exact ⟨[], rfl, fun h => absurd h (by simp), by omega, fun n hn => by simp at hn⟩
  · unfold maxLen at hm
    refine ⟨zs.take len, by rw [List.length_take]; omega, fun h0 => ?_, by omega, fun n hn => hw n (List.mem_of_mem_take hn)⟩
    rw [List.length_take] at h0
    obtain ⟨b, off, rfl, hc'⟩ := ints_at hc (by omega)
    refine ⟨b, off, rfl, fun i hi => ?_⟩
    rw [List.length_take] at hi
    rw [hc' i (by omega), List.getD_eq_getElem?_getD, List.getD_eq_getElem?_getD, List.getElem?_take_of_lt (by omega)]

/-- A slice of the call's own, as numbers. -/
theorem own_form {w : World} {base : Nat} {e : TypeId} {v : Value} {n : Nat} {k : IntKind} {l : List Int} (h : w.ownsRow base e 1 v n (l.map (Value.int k))) :
    l.length = n ∧ ∃ A c, v = .slice A n c ∧ Ints w k A l := by
  have hl : l.length = n := by have := h.1; simpa using this
  refine ⟨hl, ?_⟩
  rcases h.2 with ⟨rfl, rfl⟩ | ⟨g, cap, cur, rfl, _⟩
  · exact ⟨none, 0, rfl, fun h0 => absurd h0 (by omega)⟩
  · refine ⟨some ⟨g, 0, none⟩, cap, rfl, fun h0 => ⟨g, 0, rfl, fun i hi => ?_⟩⟩
    have hc := h.cells (g := g) rfl i (.int k (l.getD i 0)) (by rw [List.getElem?_map, List.getD_eq_getElem?_getD, List.getElem?_eq_getElem hi]; rfl)
    rw [Go.WideShapes.add_plain] at hc
    exact hc
theorem own_form2 {w : World} {base : Nat} {e : TypeId} {v : Value} {n : Nat} {k : IntKind} {l : List Int} (h : w.ownsRow base e 1 v n (l.map (Value.int k))) :
    l.length = n ∧ ∃ A c, v = .slice A n c ∧ Ints w k A l ∧ n ≤ c ∧ c ≤ 9223372036854775807 := by
  obtain ⟨hl, A, c, rfl, hI⟩ := own_form h
  refine ⟨hl, A, c, rfl, hI, ?_⟩
  rcases h.2 with ⟨e1, rfl⟩ | ⟨g, cap, cur, e1, _, _, h1, h2, _⟩
  · injection e1 with _ _ e2; subst e2; exact ⟨Nat.le_refl _, by omega⟩
  · injection e1 with _ _ e2; subst e2; unfold maxLen at h2; exact ⟨h1, h2⟩

theorem ints_new (w : World) (k : IntKind) (l : List Int) (t : TypeId) (cs : Array Value) (h : cs.toList = l.map fun x => Value.int k x) (n : Nat) (hn : n = w.heap.size) : Ints (w.alloc (.cells cs t)) k (some ⟨n, 0, none⟩) l := by
  subst hn
  intro _
  refine ⟨_, _, rfl, fun i hi => ?_⟩
  rw [Nat.zero_add, World.cell?_alloc_new, ← Array.getElem?_toList, h, List.getElem?_map, List.getD_eq_getElem?_getD, List.getElem?_eq_getElem hi]
  rfl

/-- Old cells and marks behind a call that turns nothing old. -/
theorem old_cells {W w1 : World} (hb : Below W.heap.size W w1) : (∀ b o, b < W.heap.size → w1.cell? ⟨b, o, none⟩ = W.cell? ⟨b, o, none⟩) ∧ (∀ b o, b < W.heap.size → w1.frozen? ⟨b, o, none⟩ = W.frozen? ⟨b, o, none⟩) :=
  ⟨fun b o h => hb.cell (p := ⟨b, o, none⟩) h, fun b o h => hb.frozen (p := ⟨b, o, none⟩) h⟩
/-- A store over what is no number turns no numbers. -/
theorem Ints.setCell {w : World} {k : IntKind} {A : Option Addr} {l : List Int} (h : Ints w k A l) {p : Addr} {u : Value} (hp : w.cell? p = some u) (hu : ∀ n, u ≠ .int k n) (v : Value) : Ints (w.setCell p v) k A l := by
  intro h0
  obtain ⟨b, off, e, hc⟩ := h h0
  refine ⟨b, off, e, fun i hi => ?_⟩
  rw [World.cell?_setCell_other w p _ v (fun e2 => by have h1 := hc i hi; rw [← e2, hp] at h1; injection h1 with h1; exact hu _ h1)]
  exact hc i hi
/-- A struct of two fields in a block of its own. -/
def Box2 (w : World) (b : Nat) (u0 u1 : Value) : Prop :=
  w.cell? ⟨b, 0, none⟩ = some u0 ∧ w.cell? ⟨b, 1, none⟩ = some u1 ∧ w.frozen? ⟨b, 0, none⟩ = false ∧ w.frozen? ⟨b, 1, none⟩ = false
theorem Box2.new (w : World) (u0 u1 : Value) (t : TypeId) (b : Nat) (hb : b = w.heap.size) : Box2 (w.alloc (.cells #[u0, u1] t)) b u0 u1 := by
  subst hb
  exact ⟨by rw [World.cell?_alloc_new]; rfl, by rw [World.cell?_alloc_new]; rfl, World.frozen?_alloc_at _ _ _ _ rfl, World.frozen?_alloc_at _ _ _ _ rfl⟩
theorem Box2.lt {w : World} {b : Nat} {u0 u1 : Value} (h : Box2 w b u0 u1) : b < w.heap.size := block_lt h.1
theorem Box2.below {w w' : World} {b : Nat} {u0 u1 : Value} (h : Box2 w b u0 u1) (hb : Below w.heap.size w w') : Box2 w' b u0 u1 := by
  obtain ⟨h1, h2, h3, h4⟩ := h
  have hl : b < w.heap.size := block_lt h1
  obtain ⟨k1, k2⟩ := old_cells hb
  exact ⟨by rw [k1 _ _ hl, h1], by rw [k1 _ _ hl, h2], by rw [k2 _ _ hl, h3], by rw [k2 _ _ hl, h4]⟩
theorem Box2.alloc {w : World} {b : Nat} {u0 u1 : Value} (h : Box2 w b u0 u1) (o : Obj) : Box2 (w.alloc o) b u0 u1 := h.below ((Below.refl _ _).alloc (Nat.le_refl _) _)
theorem Box2.drew {w : World} {b : Nat} {u0 u1 : Value} (h : Box2 w b u0 u1) : Box2 w.drew b u0 u1 := h.below (Below.refl _ _).drew

/-- A struct behind a store of both fields. -/
theorem Box2.put {w : World} {b : Nat} {u0 u1 : Value} (h : Box2 w b u0 u1) (v0 v1 : Value) :
    (w.setCell ⟨b, 0, none⟩ v0).cell? ⟨b, 0, none⟩ = some v0 ∧ ((w.setCell ⟨b, 0, none⟩ v0).setCell ⟨b, 1, none⟩ v1).cell? ⟨b, 1, none⟩ = some v1 := by
  obtain ⟨h1, h2, h3, h4⟩ := h
  refine ⟨World.cell?_setCell_same _ _ _ h1, World.cell?_setCell_same _ _ _ (u := u1) ?_⟩
  rw [World.cell?_setCell_other _ _ _ _ (by simp)]; exact h2

/-- A struct's two stores, read again. -/
theorem Box2.set {w : World} {b : Nat} {u0 u1 : Value} (h : Box2 w b u0 u1) (v0 v1 : Value) : Box2 ((w.setCell ⟨b, 0, none⟩ v0).setCell ⟨b, 1, none⟩ v1) b v0 v1 := by
  obtain ⟨p0, p1⟩ := h.put v0 v1
  refine ⟨?_, p1, ?_, ?_⟩
  · rw [World.cell?_setCell_other _ _ _ _ (by simp)]; exact p0
  · rw [World.frozen?_setCell, World.frozen?_setCell]; exact h.2.2.1
  · rw [World.frozen?_setCell, World.frozen?_setCell]; exact h.2.2.2
theorem Box2.other {w : World} {b : Nat} {u0 u1 : Value} (h : Box2 w b u0 u1) {b' : Nat} (hb : b' ≠ b) (o : Nat) (v : Value) : Box2 (w.setCell ⟨b', o, none⟩ v) b u0 u1 := by
  obtain ⟨h1, h2, h3, h4⟩ := h
  refine ⟨?_, ?_, ?_, ?_⟩
  · rw [World.cell?_setCell_other _ _ _ _ (by intro e; injection e with e; exact hb e)]; exact h1
  · rw [World.cell?_setCell_other _ _ _ _ (by intro e; injection e with e; exact hb e)]; exact h2
  · rw [World.frozen?_setCell]; exact h3
  · rw [World.frozen?_setCell]; exact h4

end Go.Proofs.Ytjlhmiajklddiaa
