import Derived.WalkKit
import Derived.OpenShut
import Derived.Below
import Derived.Laws.OwnMore
import Derived.Laws.MakeOwn
import Derived.IntWalk
import Derived.Laws.Bits64
import Derived.Laws.Bits64b
/-
  Words for slices of numbers in memory: what came in, what the call makes. No program is named here.
-/
namespace Go.Proofs.Ytnfoneeplkjhbaa
open Go.RowKit

/-- A slice value's places read as these numbers (nothing is asked of an empty one's address). -/
def Ints (w : World) (k : IntKind) (A : Option Addr) (l : List Int) : Prop :=
  0 < l.length → ∃ b off, A = some ⟨b, off, none⟩ ∧ ∀ i, i < l.length → w.cell? ⟨b, off + i, none⟩ = some (.int k (l.getD i 0))

theorem block_lt {w : World} {a : Addr} {v : Value} (h : w.cell? a = some v) : a.block < w.heap.size := by
  rcases Nat.lt_or_ge a.block w.heap.size with hlt | hge
  · exact hlt
  · have : w.heap[a.block]? = none := Array.getElem?_eq_none hge
    simp [World.cell?, this] at h

/-- What was there is there in a world that is the same below. -/
theorem Ints.below {w w' : World} {k : IntKind} {A : Option Addr} {l : List Int} (h : Ints w k A l) (hb : Below w.heap.size w w') : Ints w' k A l := by
  intro h0
  obtain ⟨b, off, e, hc⟩ := h h0
  refine ⟨b, off, e, fun i hi => ?_⟩
  rw [hb.cell (p := ⟨b, off + i, none⟩) (block_lt (hc i hi))]
  exact hc i hi

/-- A slice that came in, as the row's frame tells of it. -/
theorem row_ints {k : IntKind} {w : World} {a : Option Addr} {len cap : Nat} {zs : List Int}
    (h : (a = none ∧ len = 0 ∧ cap = 0 ∧ zs = []) ∨
      ∃ x, a = some x ∧ len ≤ cap ∧ cap ≤ maxLen ∧ zs.length = cap ∧ (∀ i, i < zs.length → w.cell? (x.add i) = some (.int k (zs.getD i 0))) ∧ ∀ n ∈ zs, (Lit.int k n).wf = true) :
    ∃ l : List Int, l.length = len ∧ Ints w k a l ∧ len ≤ 9223372036854775807 ∧ ∀ n ∈ l, (Lit.int k n).wf = true := by
  rcases h with ⟨_, rfl, _, _⟩ | ⟨x, rfl, hl, hm, hz, hc, hw⟩
  · exact ⟨[], rfl, fun h => absurd h (by simp), by omega, fun n hn => by simp at hn⟩
  · unfold maxLen at hm
    refine ⟨zs.take len, by rw [List.length_take]; omega, fun h0 => ?_, by omega, fun n hn => hw n (List.mem_of_mem_take hn)⟩
    rw [List.length_take] at h0
    obtain ⟨b, off, rfl, hc'⟩ := ints_at hc (by omega)
    refine ⟨b, off, rfl, fun i hi => ?_⟩
    rw [List.length_take] at hi
    rw [hc' i (by omega), List.getD_eq_getElem?_getD, List.getD_eq_getElem?_getD, List.getElem?_take_of_lt (by omega)]

/-- A slice of the call's own, as numbers. -/
theorem own_form {w : World} {base : Nat} {e : TypeId} {v : Value} {n : Nat} {k : IntKind} {l : List Int} (h : w.ownsRow base e 1 v n (l.map (Value.int k))) :
    l.length = n ∧ ∃ A c, v = .slice A n c ∧ Ints w k A l := by
  have hl : l.length = n := by have := h.1; simpa using this
  refine ⟨hl, ?_⟩
  rcases h.2 with ⟨rfl, rfl⟩ | ⟨g, cap, cur, rfl, _⟩
  · exact ⟨none, 0, rfl, fun h0 => absurd h0 (by omega)⟩
  · refine ⟨some ⟨g, 0, none⟩, cap, rfl, fun h0 => ⟨g, 0, rfl, fun i hi => ?_⟩⟩
    have hc := h.cells (g := g) rfl i (.int k (l.getD i 0)) (by rw [List.getElem?_map, List.getD_eq_getElem?_getD, List.getElem?_eq_getElem hi]; rfl)
    rw [Go.WideShapes.add_plain] at hc
    exact hc
theorem own_form2 {w : World} {base : Nat} {e : TypeId} {v : Value} {n : Nat} {k : IntKind} {l : List Int} (h : w.ownsRow base e 1 v n (l.map (Value.int k))) :
    l.length = n ∧ ∃ A c, v = .slice A n c ∧ Ints w k A l ∧ n ≤ c ∧ c ≤ 9223372036854775807 := by
  obtain ⟨hl, A, c, rfl, hI⟩ := own_form h
  refine ⟨hl, A, c, rfl, hI, ?_⟩
  rcases h.2 with ⟨e1, rfl⟩ | ⟨g, cap, cur, e1, _, _, h1, h2, _⟩
  · injection e1 with _ _ e2; subst e2; exact ⟨Nat.le_refl _, by omega⟩
  · injection e1 with _ _ e2; subst e2; unfold maxLen at h2; exact ⟨h1, h2⟩

theorem ints_new (w : World) (k : IntKind) (l : List Int) (t : TypeId) (cs : Array Value) (h : cs.toList = l.map fun x => Value.int k x) (n : Nat) (hn : n = w.heap.size) : Ints (w.alloc (.cells cs t)) k (some ⟨n, 0, none⟩) l := by
  subst hn
  intro _
  refine ⟨_, _, rfl, fun i hi => ?_⟩
  rw [Nat.zero_add, World.cell?_alloc_new, ← Array.getElem?_toList, h, List.getElem?_map, List.getD_eq_getElem?_getD, List.getElem?_eq_getElem hi]
  rfl

/-- Old cells and marks behind a call that turns nothing old. -/
theorem old_cells {W w1 : World} (hb : Below W.heap.size W w1) : (∀ b o, b < W.heap.size → w1.cell? ⟨b, o, none⟩ = W.cell? ⟨b, o, none⟩) ∧ (∀ b o, b < W.heap.size → w1.frozen? ⟨b, o, none⟩ = W.frozen? ⟨b, o, none⟩) :=
  ⟨fun b o h => hb.cell (p := ⟨b, o, none⟩) h, fun b o h => hb.frozen (p := ⟨b, o, none⟩) h⟩
/-- A store over what is no number turns no numbers. -/
theorem Ints.setCell {w : World} {k : IntKind} {A : Option Addr} {l : List Int} (h : Ints w k A l) {p : Addr} {u : Value} (hp : w.cell? p = some u) (hu : ∀ n, u ≠ .int k n) (v : Value) : Ints (w.setCell p v) k A l := by
  intro h0
  obtain ⟨b, off, e, hc⟩ := h h0
  refine ⟨b, off, e, fun i hi => ?_⟩
  rw [World.cell?_setCell_other w p _ v (fun e2 => by have h1 := hc i hi; rw [← e2, hp] at h1; injection h1 with h1; exact hu _ h1)]
  exact hc i hi
/-- A struct of two fields in a block of its own. -/
def Box2 (w : World) (b : Nat) (u0 u1 : Value) : Prop :=
  w.cell? ⟨b, 0, none⟩ = some u0 ∧ w.cell? ⟨b, 1, none⟩ = some u1 ∧ w.frozen? ⟨b, 0, none⟩ = false ∧ w.frozen? ⟨b, 1, none⟩ = false
theorem Box2.new (w : World) (u0 u1 : Value) (t : TypeId) (b : Nat) (hb : b = w.heap.size) : Box2 (w.alloc (.cells #[u0, u1] t)) b u0 u1 := by
  subst hb
  exact ⟨by rw [World.cell?_alloc_new]; rfl, by rw [World.cell?_alloc_new]; rfl, World.frozen?_alloc_at _ _ _ _ rfl, World.frozen?_alloc_at _ _ _ _ rfl⟩
theorem Box2.lt {w : World} {b : Nat} {u0 u1 : Value} (h : Box2 w b u0 u1) : b < w.heap.size := block_lt h.1
theorem Box2.below {w w' : World} {b : Nat} {u0 u1 : Value} (h : Box2 w b u0 u1) (hb : Below w.heap.size w w') : Box2 w' b u0 u1 := by
  obtain ⟨h1, h2, h3, h4⟩ := h
  have hl : b < w.heap.size := block_lt h1
  obtain ⟨k1, k2⟩ := old_cells hb
  exact ⟨by rw [k1 _ _ hl, h1], by rw [k1 _ _ hl, h2], by rw [k2 _ _ hl, h3], by rw [k2 _ _ hl, h4]⟩
theorem Box2.alloc {w : World} {b : Nat} {u0 u1 : Value} (h : Box2 w b u0 u1) (o : Obj) : Box2 (w.alloc o) b u0 u1 := h.below ((Below.refl _ _).alloc (Nat.le_refl _) _)
theorem Box2.drew {w : World} {b : Nat} {u0 u1 : Value} (h : Box2 w b u0 u1) : Box2 w.drew b u0 u1 := h.below (Below.refl _ _).drew

/-- A struct behind a store of both fields. -/
theorem Box2.put {w : World} {b : Nat} {u0 u1 : Value} (h : Box2 w b u0 u1) (v0 v1 : Value) :
    (w.setCell ⟨b, 0, none⟩ v0).cell? ⟨b, 0, none⟩ = some v0 ∧ ((w.setCell ⟨b, 0, none⟩ v0).setCell ⟨b, 1, none⟩ v1).cell? ⟨b, 1, none⟩ = some v1 := by
  obtain ⟨h1, h2, h3, h4⟩ := h
  refine ⟨World.cell?_setCell_same _ _ _ h1, World.cell?_setCell_same _ _ _ (u := u1) ?_⟩
  rw [World.cell?_setCell_other _ _ _ _ (by simp)]; exact h2

/-- A struct's two stores, read again. -/
theorem Box2.set {w : World} {b : Nat} {u0 u1 : Value} (h : Box2 w b u0 u1) (v0 v1 : Value) : Box2 ((w.setCell ⟨b, 0, none⟩ v0).setCell ⟨b, 1, none⟩ v1) b v0 v1 := by
  obtain ⟨p0, p1⟩ := h.put v0 v1
  refine ⟨?_, p1, ?_, ?_⟩
  · rw [World.cell?_setCell_other _ _ _ _ (by simp)]; exact p0
  · rw [World.frozen?_setCell, World.frozen?_setCell]; exact h.2.2.1
  · rw [World.frozen?_setCell, World.frozen?_setCell]; exact h.2.2.2
theorem Box2.other {w : World} {b : Nat} {u0 u1 : Value} (h : Box2 w b u0 u1) {b' : Nat} (hb : b' ≠ b) (o : Nat) (v : Value) : Box2 (w.setCell ⟨b', o, none⟩ v) b u0 u1 := by
  obtain ⟨h1, h2, h3, h4⟩ := h
  refine ⟨?_, ?_, ?_, ?_⟩
  · rw [World.cell?_setCell_other _ _ _ _ (by intro e; injection e with e; exact hb e)]; exact h1
  · rw [World.cell?_setCell_other _ _ _ _ (by intro e; injection e with e; exact hb e)]; exact h2
  · rw [World.frozen?_setCell]; exact h3
  · rw [World.frozen?_setCell]; exact h4

end Go.Proofs.Ytnfoneeplkjhbaa

/-
  Words for rows of numbers of the call's own, of whatever kind; plain lists. No program is named here.
-/
namespace Go.Proofs.Ytnfoneeplkjhbaa
open Go.RowKit

/-- A row of the call's own: its numbers, none frozen. -/
def RowK (w : World) (k : IntKind) (g : Nat) (l : List Int) : Prop :=
  ∀ i, i < l.length → w.cell? ⟨g, i, none⟩ = some (.int k (l.getD i 0)) ∧ w.frozen? ⟨g, i, none⟩ = false
theorem RowK.below {w w' : World} {k : IntKind} {g : Nat} {l : List Int} (h : RowK w k g l) (hb : Below w.heap.size w w') : RowK w' k g l := by
  obtain ⟨k1, k2⟩ := old_cells hb
  intro i hi
  obtain ⟨h1, h2⟩ := h i hi
  have hl := block_lt h1
  exact ⟨by rw [k1 _ _ hl, h1], by rw [k2 _ _ hl, h2]⟩
theorem RowK.set {w : World} {k : IntKind} {g : Nat} {l : List Int} (h : RowK w k g l) (j : Nat) (hj : j < l.length) (d : Int) : RowK (w.setCell ⟨g, j, none⟩ (.int k d)) k g (l.set j d) := by
  intro i hi
  rw [List.length_set] at hi
  obtain ⟨h1, h2⟩ := h i hi
  refine ⟨?_, by rw [World.frozen?_setCell]; exact h2⟩
  by_cases e : j = i
  · subst e
    rw [World.cell?_setCell_same _ _ _ h1, List.getD_eq_getElem?_getD, List.getElem?_set_self hj]; rfl
  · rw [World.cell?_setCell_other _ _ _ _ (by intro e2; injection e2 with _ e2; exact e e2), h1, List.getD_eq_getElem?_getD, List.getD_eq_getElem?_getD, List.getElem?_set_ne e]
theorem RowK.other {w : World} {k : IntKind} {g : Nat} {l : List Int} (h : RowK w k g l) {b : Nat} (hb : b ≠ g) (o : Nat) (v : Value) : RowK (w.setCell ⟨b, o, none⟩ v) k g l := by
  intro i hi
  obtain ⟨h1, h2⟩ := h i hi
  refine ⟨?_, by rw [World.frozen?_setCell]; exact h2⟩
  rw [World.cell?_setCell_other _ _ _ _ (by intro e2; injection e2 with e2; exact hb e2), h1]
theorem RowK.ints {w : World} {k : IntKind} {g : Nat} {l : List Int} (h : RowK w k g l) : Ints w k (some ⟨g, 0, none⟩) l := by
  intro _
  refine ⟨g, 0, rfl, fun i hi => ?_⟩
  rw [Nat.zero_add]; exact (h i hi).1
theorem RowK.new (w : World) (k : IntKind) (n : Nat) (t : TypeId) (g : Nat) (hg : g = w.heap.size) : RowK (w.alloc (.cells (madeCells #[.int k 0] n) t)) k g (List.replicate n 0) := by
  subst hg
  intro i hi
  rw [List.length_replicate] at hi
  refine ⟨?_, World.frozen?_alloc_at _ _ _ _ rfl⟩
  rw [World.cell?_alloc_new, ← Array.getElem?_toList, toList_madeCells_one, List.getElem?_replicate, if_pos hi, List.getD_eq_getElem?_getD, List.getElem?_replicate, if_pos hi]
  rfl
theorem RowK.drew {w : World} {k : IntKind} {g : Nat} {l : List Int} (h : RowK w k g l) : RowK w.drew k g l := h.below (Below.refl _ _).drew
theorem RowK.alloc {w : World} {k : IntKind} {g : Nat} {l : List Int} (h : RowK w k g l) (o : Obj) : RowK (w.alloc o) k g l := h.below ((Below.refl _ _).alloc (Nat.le_refl _) _)
/-- One cell in a block of its own. -/
def Box1 (w : World) (b : Nat) (u : Value) : Prop := w.cell? ⟨b, 0, none⟩ = some u ∧ w.frozen? ⟨b, 0, none⟩ = false
theorem Box1.new (w : World) (u : Value) (t : TypeId) (b : Nat) (hb : b = w.heap.size) : Box1 (w.alloc (.cells #[u] t)) b u := by
  subst hb
  exact ⟨by rw [World.cell?_alloc_new]; rfl, World.frozen?_alloc_at _ _ _ _ rfl⟩
theorem Box1.below {w w' : World} {b : Nat} {u : Value} (h : Box1 w b u) (hb : Below w.heap.size w w') : Box1 w' b u := by
  have hl : b < w.heap.size := block_lt h.1
  obtain ⟨k1, k2⟩ := old_cells hb
  exact ⟨by rw [k1 _ _ hl, h.1], by rw [k2 _ _ hl, h.2]⟩
theorem Box1.other {w : World} {b : Nat} {u : Value} (h : Box1 w b u) {b' : Nat} (hb : b' ≠ b) (o : Nat) (v : Value) : Box1 (w.setCell ⟨b', o, none⟩ v) b u :=
  ⟨by rw [World.cell?_setCell_other _ _ _ _ (by intro e; injection e with e; exact hb e)]; exact h.1, by rw [World.frozen?_setCell]; exact h.2⟩
/-- Numbers in a block that a store does not touch. -/
theorem Ints.other {w : World} {k : IntKind} {A : Option Addr} {l : List Int} (h : Ints w k A l) {g : Nat} (hg : ∀ b o s, A = some ⟨b, o, s⟩ → b ≠ g) (o : Nat) (v : Value) : Ints (w.setCell ⟨g, o, none⟩ v) k A l := by
  intro h0
  obtain ⟨b, off, e, hc⟩ := h h0
  refine ⟨b, off, e, fun i hi => ?_⟩
  rw [World.cell?_setCell_other _ _ _ _ (by intro e2; injection e2 with e2; exact hg _ _ _ e e2.symm)]
  exact hc i hi
theorem getD_mem {l : List Int} {i : Nat} (h : i < l.length) : l.getD i 0 ∈ l := by
  rw [List.getD_eq_getElem?_getD, List.getElem?_eq_getElem h]; simp
theorem getD_map {α : Type} (l : List α) (f : α → Int) (i : Nat) (a : α) (h : i < l.length) : (l.map f).getD i 0 = f (l.getD i a) := by
  rw [List.getD_eq_getElem?_getD, List.getD_eq_getElem?_getD, List.getElem?_map, List.getElem?_eq_getElem h]; rfl
theorem getD_set_same {l : List Int} {i : Nat} (x : Int) (h : i < l.length) : (l.set i x).getD i 0 = x := by
  rw [List.getD_eq_getElem?_getD, List.getElem?_set_self h]; rfl
theorem getD_set_ne {l : List Int} {i j : Nat} (x : Int) (h : i ≠ j) : (l.set i x).getD j 0 = l.getD j 0 := by
  rw [List.getD_eq_getElem?_getD, List.getElem?_set_ne h, List.getD_eq_getElem?_getD]
theorem ext_getD {l m : List Int} (h : l.length = m.length) (e : ∀ i, i < l.length → l.getD i 0 = m.getD i 0) : l = m := by
  apply List.ext_getElem h
  intro i h1 h2
  have := e i h1
  rw [List.getD_eq_getElem?_getD, List.getD_eq_getElem?_getD, List.getElem?_eq_getElem h1, List.getElem?_eq_getElem h2] at this
  simpa using this
end Go.Proofs.Ytnfoneeplkjhbaa

/-
  Plain lists: the places of numbers, the greatest first, of several alike the lesser place first. No program is named here.
-/
namespace Go.Proofs.Ytnfoneeplkjhbaa
open Go.RowKit

/-- Of two lists with the same members that rise by an order that parts them: one list. -/
theorem perm_unique {α : Type} {le : α → α → Prop} (anti : ∀ a b, le a b → le b a → a = b) : ∀ (l m : List α), l.Perm m → l.Pairwise le → m.Pairwise le → l = m := by
  intro l
  induction l with
  | nil => intro m h _ _; exact h.nil_eq
  | cons a l ih =>
    intro m h hl hm
    cases m with
    | nil => exact absurd h.length_eq (by simp)
    | cons b m =>
      rw [List.pairwise_cons] at hl hm
      have hab : a = b := by
        have h1 : a ∈ b :: m := h.subset List.mem_cons_self
        have h2 : b ∈ a :: l := h.symm.subset List.mem_cons_self
        rcases List.mem_cons.1 h1 with e | e
        · exact e
        · rcases List.mem_cons.1 h2 with e' | e'
          · exact e'.symm
          · exact anti _ _ (hl.1 _ e') (hm.1 _ e)
      subst hab
      rw [ih m ((List.perm_cons a).1 h) hl.2 hm.2]

/-- Place x stands at or ahead of place y. -/
def leq (l : List Int) (x y : Nat) : Prop := l.getD y 0 < l.getD x 0 ∨ (l.getD x 0 = l.getD y 0 ∧ x ≤ y)
instance leqDec (l : List Int) (x y : Nat) : Decidable (leq l x y) := by unfold leq; infer_instance
theorem leq_anti (l : List Int) (x y : Nat) (h1 : leq l x y) (h2 : leq l y x) : x = y := by unfold leq at *; omega
theorem leq_trans {l : List Int} {x y z : Nat} (h1 : leq l x y) (h2 : leq l y z) : leq l x z := by unfold leq at *; omega

/-- A place put in: behind all whose number is no less. -/
def ins (l : List Int) (i : Nat) : List Nat → List Nat
  | [] => [i]
  | k :: r => if l.getD i 0 ≤ l.getD k 0 then k :: ins l i r else i :: k :: r
def ordTo (l : List Int) : Nat → List Nat
  | 0 => []
  | n + 1 => ins l n (ordTo l n)
/-- The places of l in their order. -/
def ordL (l : List Int) : List Nat := ordTo l l.length

theorem ins_perm (l : List Int) (i : Nat) (r : List Nat) : (ins l i r).Perm (i :: r) := by
  induction r with
  | nil => exact List.Perm.refl _
  | cons k r ih =>
    unfold ins
    split
    · exact (ih.cons k).trans (List.Perm.swap _ _ _)
    · exact List.Perm.refl _
theorem ordTo_perm (l : List Int) (n : Nat) : (ordTo l n).Perm (List.range n) := by
  induction n with
  | zero => exact List.Perm.refl _
  | succ n ih =>
    rw [List.range_succ]
    exact ((ins_perm l n _).trans (ih.cons n)).trans (List.perm_append_singleton n _).symm
theorem ordTo_lt {l : List Int} {n k : Nat} (h : k ∈ ordTo l n) : k < n := by
  have := (ordTo_perm l n).subset h
  simpa using this
theorem ordTo_length (l : List Int) (n : Nat) : (ordTo l n).length = n := by
  have := (ordTo_perm l n).length_eq
  simpa using this
theorem ins_sorted (l : List Int) (i : Nat) : ∀ r : List Nat, (∀ k ∈ r, k < i) → r.Pairwise (leq l) → (ins l i r).Pairwise (leq l) := by
  intro r
  induction r with
  | nil => intro _ _; simp [ins]
  | cons k r ih =>
    intro hk hr
    rw [List.pairwise_cons] at hr
    unfold ins
    split
    · rename_i h
      rw [List.pairwise_cons]
      refine ⟨fun y hy => ?_, ih (fun y hy => hk y (List.mem_cons_of_mem _ hy)) hr.2⟩
      rcases List.mem_cons.1 ((ins_perm l i r).subset hy) with e | e
      · subst e
        have := hk k List.mem_cons_self
        unfold leq; omega
      · exact hr.1 y e
    · rename_i h
      have h1 : leq l i k := by unfold leq; omega
      rw [List.pairwise_cons]
      refine ⟨fun y hy => ?_, List.pairwise_cons.2 hr⟩
      rcases List.mem_cons.1 hy with e | e
      · subst e; exact h1
      · exact leq_trans h1 (hr.1 y e)
theorem ordTo_sorted (l : List Int) (n : Nat) : (ordTo l n).Pairwise (leq l) := by
  induction n with
  | zero => exact List.Pairwise.nil
  | succ n ih => exact ins_sorted l n _ (fun k hk => ordTo_lt hk) ih
theorem ordL_unique (l : List Int) (o : List Nat) (h1 : o.Perm (List.range l.length)) (h2 : o.Pairwise (leq l)) : o = ordL l :=
  perm_unique (leq_anti l) _ _ (h1.trans (ordTo_perm l _).symm) h2 (ordTo_sorted l _)
theorem ordL_length (l : List Int) : (ordL l).length = l.length := ordTo_length l _
theorem ordL_lt {l : List Int} {k : Nat} (h : k ∈ ordL l) : k < l.length := ordTo_lt h
theorem ordL_nodup (l : List Int) : (ordL l).Nodup := (ordTo_perm l _).symm.nodup List.nodup_range
/-- .. as numbers. -/
def ordI (l : List Int) : List Int := (ordL l).map fun (n : Nat) => (n : Int)
theorem ordI_length (l : List Int) : (ordI l).length = l.length := by simp [ordI, ordL_length]
theorem ordI_getD (l : List Int) (i : Nat) (h : i < l.length) : (ordI l).getD i 0 = ((ordL l).getD i 0 : Nat) := by
  unfold ordI; rw [getD_map _ _ _ 0 (by rw [ordL_length]; exact h)]
theorem ordL_getD_lt (l : List Int) (i : Nat) (h : i < l.length) : (ordL l).getD i 0 < l.length := by
  apply ordL_lt
  rw [List.getD_eq_getElem?_getD, List.getElem?_eq_getElem (by rw [ordL_length]; exact h)]; simp

/-- The places from 0 on, up to k; then 0. -/
def upTo (n k : Nat) : List Int := (List.range n).map fun i => if i < k then (i : Int) else 0
theorem upTo_length (n k : Nat) : (upTo n k).length = n := by simp [upTo]
theorem upTo_getD (n k i : Nat) (h : i < n) : (upTo n k).getD i 0 = if i < k then (i : Int) else 0 := by
  unfold upTo
  rw [getD_map _ _ _ 0 (by simpa using h)]
  simp [List.getD_eq_getElem?_getD, h]
theorem upTo_zero (n : Nat) : List.replicate n 0 = upTo n 0 := by
  apply ext_getD (by simp [upTo])
  intro i hi
  rw [List.length_replicate] at hi
  rw [upTo_getD n 0 i hi]
  simp [List.getD_eq_getElem?_getD, hi]
theorem upTo_step (n k : Nat) (h : k < n) : (upTo n k).set k (k : Int) = upTo n (k + 1) := by
  apply ext_getD (by simp [upTo])
  intro i hi
  rw [List.length_set, upTo_length] at hi
  rw [upTo_getD n (k + 1) i hi]
  by_cases e : k = i
  · subst e
    rw [getD_set_same _ (by rw [upTo_length]; exact h), if_pos (by omega)]
  · rw [getD_set_ne _ e, upTo_getD n k i hi]
    by_cases h1 : i < k
    · rw [if_pos h1, if_pos (by omega)]
    · rw [if_neg h1, if_neg (by omega)]
end Go.Proofs.Ytnfoneeplkjhbaa

/-
  Plain numbers: what an int64 can hold, words of 64 bits, and what package amount leans on. No program is named here.
-/
namespace Go.Proofs.Ytnfoneeplkjhbaa
open Go.RowKit

/-- Can an int64 hold it? -/
def fits (x : Int) : Bool := decide (-9223372036854775808 ≤ x ∧ x ≤ 9223372036854775807)
/-- What the answer tells of an exact number. -/
def held (x : Int) : Int := if fits x then x else 0
/-- An int64. -/
def I64 (x : Int) : Prop := -9223372036854775808 ≤ x ∧ x ≤ 9223372036854775807

theorem fits_of {x : Int} (h : I64 x) : fits x = true := by unfold fits; unfold I64 at h; simp [h]
theorem held_of {x : Int} (h : I64 x) : held x = x := by unfold held; rw [fits_of h]; rfl
theorem fits_not {x : Int} (h : ¬ I64 x) : fits x = false := by unfold fits; unfold I64 at h; exact decide_eq_false h
theorem held_not {x : Int} (h : ¬ I64 x) : held x = 0 := by unfold held; rw [fits_not h]; rfl
theorem i64_held (x : Int) : I64 (held x) := by
  by_cases h : I64 x
  · rw [held_of h]; exact h
  · rw [held_not h]; unfold I64; omega
theorem fits_iff {x : Int} : fits x = true ↔ I64 x := by unfold fits I64; simp

theorem ret_int {k : IntKind} {a b : Int} (h : a = b) : Ending.returned (.int k a) = .returned (.int k b) := by rw [h]
theorem ret_two {k : IntKind} {a b : Int} {p q : Bool} (h : a = b) (h' : p = q) : Ending.returned (.tuple #[.int k a, .bool p]) = .returned (.tuple #[.int k b, .bool q]) := by rw [h, h']

/-- The lower word, and what is above it. -/
def lo64 (n : Int) : Int := n % 18446744073709551616
def up64 (n : Int) : Int := n / 18446744073709551616
/-- The upper word of an int64 as a number of 128 bits. -/
def sgnW (x : Int) : Int := if x < 0 then 18446744073709551615 else 0
theorem lo64_nn (n : Int) : 0 ≤ lo64 n := by unfold lo64; omega
theorem lo64_le (n : Int) : lo64 n ≤ 18446744073709551615 := by unfold lo64; omega
theorem sgnW_nn (n : Int) : 0 ≤ sgnW n := by unfold sgnW; split <;> omega
theorem sgnW_le (n : Int) : sgnW n ≤ 18446744073709551615 := by unfold sgnW; split <;> omega
theorem wrapu (n : Int) : IntKind.u64.wrap n = lo64 n := IntKind.wrap_u64 n

/-- One step of a sum in two words. -/
theorem step_lo (S x : Int) : lo64 (lo64 S + lo64 x) = lo64 (S + x) := by unfold lo64; omega
theorem step_ca (S x : Int) : 0 ≤ up64 (lo64 S + lo64 x) ∧ up64 (lo64 S + lo64 x) ≤ 1 := by unfold up64 lo64; omega
theorem step_hi (S x : Int) (hx : I64 x) : lo64 (lo64 (up64 S) + sgnW x + up64 (lo64 S + lo64 x)) = lo64 (up64 (S + x)) := by
  unfold I64 at hx
  unfold sgnW lo64 up64
  split <;> omega
/-- What the two words tell. -/
theorem two_words (S : Int) (h : -85070591730234615865843651857942052864 ≤ S ∧ S ≤ 85070591730234615865843651857942052864) : (lo64 (up64 S) = sgnW (wrap64 (lo64 S))) ↔ I64 S := by
  unfold sgnW lo64 up64 I64 wrap64
  split <;> omega
theorem one_word (S : Int) (h : I64 S) : wrap64 (lo64 S) = S := by
  unfold I64 at h
  unfold lo64 wrap64
  omega

theorem mask32 (a : Nat) (ha : a < 18446744073709551616) : bits .and .u64 (a : Int) 4294967295 = ((a % 4294967296 : Nat) : Int) := by
  have h := bits_and_u64_nat a 4294967295 ha (by omega)
  rw [show a &&& 4294967295 = a % 4294967296 from Nat.and_two_pow_sub_one_eq_mod a 32] at h
  exact h
theorem divN (a : Nat) : (a : Int) / 4294967296 = ((a / 4294967296 : Nat) : Int) := by omega
theorem mulN (a b : Nat) : (a : Int) * (b : Int) = ((a * b : Nat) : Int) := (Int.natCast_mul a b).symm
theorem addN (a b : Nat) : (a : Int) + (b : Int) = ((a + b : Nat) : Int) := (Int.natCast_add a b).symm
theorem wrapN (a : Nat) (ha : a < 18446744073709551616) : IntKind.u64.wrap (a : Int) = (a : Int) := by rw [IntKind.wrap_u64]; omega
theorem wrapM (a : Nat) : IntKind.u64.wrap (a : Int) = ((a % 18446744073709551616 : Nat) : Int) := by rw [IntKind.wrap_u64]; omega

theorem mask32i (a : Int) (h0 : 0 ≤ a) (h1 : a < 18446744073709551616) : bits .and .u64 a 4294967295 = a % 4294967296 := by
  obtain ⟨n, rfl⟩ := Int.eq_ofNat_of_zero_le h0
  rw [mask32 n (by omega)]
  omega

theorem take_sum (l : List Int) (k : Nat) (h : k < l.length) : (l.take (k + 1)).sum = (l.take k).sum + l.getD k 0 := by
  rw [List.take_succ_eq_append_getElem h, List.sum_append, List.getD_eq_getElem?_getD, List.getElem?_eq_getElem h]
  simp

theorem take_bound (l : List Int) (hl : ∀ x ∈ l, I64 x) (k : Nat) (hk : k ≤ l.length) : -(9223372036854775808 * (k : Int)) ≤ (l.take k).sum ∧ (l.take k).sum ≤ 9223372036854775808 * (k : Int) := by
  induction k with
  | zero => simp
  | succ k ih =>
    have h := ih (by omega)
    have hx := hl (l.getD k 0) (by rw [List.getD_eq_getElem?_getD, List.getElem?_eq_getElem (by omega)]; simp)
    unfold I64 at hx
    rw [take_sum l k (by omega)]
    omega

end Go.Proofs.Ytnfoneeplkjhbaa

/-
  Plain numbers: a total cut by weights. No program is named here.
-/
namespace Go.Proofs.Ytnfoneeplkjhbaa
open Go.RowKit

/-- Quotients and rests of a total by weights. -/
def quo (t : Int) (w : List Int) : List Int := w.map fun x => t * x / w.sum
def rst (t : Int) (w : List Int) : List Int := w.map fun x => t * x % w.sum
/-- The units that rounding down leaves. -/
def lack (t : Int) (w : List Int) : Int := t - (quo t w).sum
/-- One unit more at the first j places of o. -/
def bump (q : List Int) (o : List Nat) (j : Nat) : List Int := (List.range q.length).map fun i => q.getD i 0 + if i ∈ o.take j then 1 else 0
def splitL (t : Int) (w : List Int) : List Int := bump (quo t w) (ordL (rst t w)) (lack t w).toNat

theorem quo_length (t : Int) (w : List Int) : (quo t w).length = w.length := by simp [quo]
theorem rst_length (t : Int) (w : List Int) : (rst t w).length = w.length := by simp [rst]
theorem quo_getD (t : Int) (w : List Int) (i : Nat) (h : i < w.length) : (quo t w).getD i 0 = t * w.getD i 0 / w.sum := getD_map w _ i 0 h
theorem rst_getD (t : Int) (w : List Int) (i : Nat) (h : i < w.length) : (rst t w).getD i 0 = t * w.getD i 0 % w.sum := getD_map w _ i 0 h
theorem bump_length (q : List Int) (o : List Nat) (j : Nat) : (bump q o j).length = q.length := by simp [bump]
theorem bump_getD (q : List Int) (o : List Nat) (j i : Nat) (h : i < q.length) : (bump q o j).getD i 0 = q.getD i 0 + if i ∈ o.take j then 1 else 0 := by
  unfold bump
  rw [getD_map _ _ _ 0 (by simpa using h)]
  simp [List.getD_eq_getElem?_getD, h]
theorem splitL_length (t : Int) (w : List Int) : (splitL t w).length = w.length := by unfold splitL; rw [bump_length, quo_length]
theorem bump_zero (q : List Int) (o : List Nat) : bump q o 0 = q := by
  apply ext_getD (bump_length _ _ _)
  intro i hi
  rw [bump_length] at hi
  rw [bump_getD _ _ _ _ hi]; simp
theorem take_getD {o : List Nat} {j : Nat} (h : j < o.length) : o.take (j + 1) = o.take j ++ [o.getD j 0] := by
  rw [List.take_succ_eq_append_getElem h, List.getD_eq_getElem?_getD, List.getElem?_eq_getElem h]; rfl
theorem notin_take {o : List Nat} (hn : o.Nodup) {j : Nat} (h : j < o.length) : o.getD j 0 ∉ o.take j := by
  have h2 : (o.take (j + 1)).Nodup := hn.sublist (List.take_sublist _ _)
  rw [take_getD h, List.nodup_append] at h2
  intro hm
  exact h2.2.2 _ hm _ (by simp) rfl
theorem bump_at (q : List Int) (o : List Nat) (hn : o.Nodup) (j : Nat) (h : j < o.length) (hq : o.getD j 0 < q.length) : (bump q o j).getD (o.getD j 0) 0 = q.getD (o.getD j 0) 0 := by
  rw [bump_getD _ _ _ _ hq, if_neg (notin_take hn h)]; omega
theorem bump_step (q : List Int) (o : List Nat) (j : Nat) (h : j < o.length) : (bump q o j).set (o.getD j 0) (q.getD (o.getD j 0) 0 + 1) = bump q o (j + 1) := by
  apply ext_getD (by simp [bump_length])
  intro i hi
  rw [List.length_set, bump_length] at hi
  rw [bump_getD _ _ _ _ hi, take_getD h]
  by_cases e : o.getD j 0 = i
  · rw [e, getD_set_same _ (by rw [bump_length]; exact hi), if_pos (by simp)]
  · rw [getD_set_ne _ e, bump_getD _ _ _ _ hi]
    by_cases h1 : i ∈ o.take j
    · rw [if_pos h1, if_pos (by simp [h1])]
    · rw [if_neg h1, if_neg (by simp only [List.mem_append, List.mem_singleton, not_or]; exact ⟨h1, fun e2 => e e2.symm⟩)]

theorem sum_take_nn (l : List Int) (hl : ∀ x ∈ l, 0 ≤ x) (k : Nat) : 0 ≤ (l.take k).sum := by
  induction l generalizing k with
  | nil => simp
  | cons x l ih =>
    cases k with
    | zero => simp
    | succ k =>
      have := ih (fun y hy => hl y (List.mem_cons_of_mem _ hy)) k
      have := hl x List.mem_cons_self
      simp only [List.take_succ_cons, List.sum_cons]
      omega
theorem sum_nn (l : List Int) (hl : ∀ x ∈ l, 0 ≤ x) : 0 ≤ l.sum := by
  have := sum_take_nn l hl l.length
  rwa [List.take_length] at this
theorem take_sum_le (l : List Int) (hl : ∀ x ∈ l, 0 ≤ x) (k : Nat) : (l.take k).sum ≤ l.sum := by
  have h1 : (l.take k).sum + (l.drop k).sum = l.sum := by rw [← List.sum_append, List.take_append_drop]
  have h2 := sum_nn (l.drop k) (fun x hx => hl x (List.mem_of_mem_drop hx))
  omega
theorem getD_le_sum (l : List Int) (hl : ∀ x ∈ l, 0 ≤ x) (i : Nat) (h : i < l.length) : l.getD i 0 ≤ l.sum := by
  have h1 := take_sum l i h
  have h2 := sum_take_nn l hl i
  have h3 := take_sum_le l hl (i + 1)
  omega

/-- Quotients and rests make the products. -/
theorem quo_rst (t : Int) (S : Int) (w : List Int) : S * (w.map fun x => t * x / S).sum + (w.map fun x => t * x % S).sum = t * w.sum := by
  induction w with
  | nil => simp
  | cons x w ih =>
    simp only [List.map_cons, List.sum_cons, Int.mul_add]
    have := Int.mul_ediv_add_emod (t * x) S
    omega
theorem rst_bound (t : Int) (S : Int) (hS : 0 < S) (w : List Int) : 0 ≤ (w.map fun x => t * x % S).sum ∧ (w.map fun x => t * x % S).sum ≤ S * w.length - w.length := by
  induction w with
  | nil => simp
  | cons x w ih =>
    simp only [List.map_cons, List.sum_cons, List.length_cons, Int.natCast_add, Int.mul_add]
    have h1 := Int.emod_nonneg (t * x) (Int.ne_of_gt hS)
    have h2 := Int.emod_lt_of_pos (t * x) hS
    omega
theorem quo_nn (t : Int) (w : List Int) (ht : 0 ≤ t) (hw : ∀ x ∈ w, 0 ≤ x) : ∀ x ∈ quo t w, 0 ≤ x := by
  intro x hx
  unfold quo at hx
  obtain ⟨y, hy, rfl⟩ := List.mem_map.1 hx
  exact Int.ediv_nonneg (Int.mul_nonneg ht (hw y hy)) (sum_nn w hw)
theorem quo_sum_le (t : Int) (w : List Int) (_ht : 0 ≤ t) (_hw : ∀ x ∈ w, 0 ≤ x) (hS : 0 < w.sum) : (quo t w).sum ≤ t := by
  have h1 := quo_rst t w.sum w
  have h2 := rst_bound t w.sum hS w
  have h3 : w.sum * (quo t w).sum ≤ w.sum * t := by
    rw [Int.mul_comm w.sum t]; unfold quo; omega
  exact Int.le_of_mul_le_mul_left h3 hS
theorem lack_range (t : Int) (w : List Int) (ht : 0 ≤ t) (hw : ∀ x ∈ w, 0 ≤ x) (hS : 0 < w.sum) : 0 ≤ lack t w ∧ lack t w < w.length := by
  have h0 := quo_sum_le t w ht hw hS
  refine ⟨by unfold lack; omega, ?_⟩
  have h1 := quo_rst t w.sum w
  have h2 := rst_bound t w.sum hS w
  have hn : 0 < w.length := by
    cases w with
    | nil => simp at hS
    | cons x w => simp
  have h3 : w.sum * lack t w < w.sum * w.length := by
    unfold lack quo
    rw [Int.mul_sub, Int.mul_comm w.sum t]
    omega
  exact Int.lt_of_mul_lt_mul_left h3 (Int.le_of_lt hS)
theorem quo_take (t : Int) (w : List Int) (ht : 0 ≤ t) (hw : ∀ x ∈ w, 0 ≤ x) (hS : 0 < w.sum) (k : Nat) : 0 ≤ ((quo t w).take k).sum ∧ ((quo t w).take k).sum ≤ t :=
  ⟨sum_take_nn _ (quo_nn t w ht hw) k, Int.le_trans (take_sum_le _ (quo_nn t w ht hw) k) (quo_sum_le t w ht hw hS)⟩
theorem quo_range (t : Int) (w : List Int) (ht : 0 ≤ t) (hw : ∀ x ∈ w, 0 ≤ x) (_hS : 0 < w.sum) (i : Nat) (h : i < w.length) : 0 ≤ (quo t w).getD i 0 ∧ (quo t w).getD i 0 ≤ t - lack t w := by
  have h1 := getD_le_sum _ (quo_nn t w ht hw) i (by rw [quo_length]; exact h)
  have h2 := quo_nn t w ht hw _ (getD_mem (l := quo t w) (i := i) (by rw [quo_length]; exact h))
  unfold lack
  omega
theorem pos_sum {w : List Int} (hw : ∀ x ∈ w, 0 ≤ x) (h : ∃ x ∈ w, 0 < x) : 0 < w.sum := by
  obtain ⟨x, hx, h0⟩ := h
  obtain ⟨i, hi, rfl⟩ := List.getElem_of_mem hx
  have := getD_le_sum w hw i hi
  rw [List.getD_eq_getElem?_getD, List.getElem?_eq_getElem hi] at this
  simp at this
  omega
end Go.Proofs.Ytnfoneeplkjhbaa

/-
  Plain lists: a row that is filled place by place. No program is named here.
-/
namespace Go.Proofs.Ytnfoneeplkjhbaa
open Go.RowKit

/-- The first k of q; then 0. -/
def fillTo (q : List Int) (k : Nat) : List Int := (List.range q.length).map fun i => if i < k then q.getD i 0 else 0
theorem fillTo_length (q : List Int) (k : Nat) : (fillTo q k).length = q.length := by simp [fillTo]
theorem fillTo_getD (q : List Int) (k i : Nat) (h : i < q.length) : (fillTo q k).getD i 0 = if i < k then q.getD i 0 else 0 := by
  unfold fillTo
  rw [getD_map _ _ _ 0 (by simpa using h)]
  simp [List.getD_eq_getElem?_getD, h]
theorem fillTo_zero (q : List Int) (n : Nat) (hn : q.length = n) : List.replicate n 0 = fillTo q 0 := by
  subst hn
  apply ext_getD (by simp [fillTo])
  intro i hi
  rw [List.length_replicate] at hi
  rw [fillTo_getD q 0 i hi]
  simp [List.getD_eq_getElem?_getD, hi]
theorem fillTo_step (q : List Int) (k : Nat) (h : k < q.length) : (fillTo q k).set k (q.getD k 0) = fillTo q (k + 1) := by
  apply ext_getD (by simp [fillTo])
  intro i hi
  rw [List.length_set, fillTo_length] at hi
  rw [fillTo_getD q (k + 1) i hi]
  by_cases e : k = i
  · subst e
    rw [getD_set_same _ (by rw [fillTo_length]; exact h), if_pos (by omega)]
  · rw [getD_set_ne _ e, fillTo_getD q k i hi]
    by_cases h1 : i < k
    · rw [if_pos h1, if_pos (by omega)]
    · rw [if_neg h1, if_neg (by omega)]
theorem fillTo_skip (q : List Int) (k : Nat) (h0 : q.getD k 0 = 0) : fillTo q k = fillTo q (k + 1) := by
  apply ext_getD (by simp [fillTo])
  intro i hi
  rw [fillTo_length] at hi
  rw [fillTo_getD q k i hi, fillTo_getD q (k + 1) i hi]
  by_cases e : k = i
  · subst e
    rw [if_neg (by omega), if_pos (by omega), h0]
  · by_cases h1 : i < k
    · rw [if_pos h1, if_pos (by omega)]
    · rw [if_neg h1, if_neg (by omega)]
theorem fillTo_all (q : List Int) (k : Nat) (h : k = q.length) : fillTo q k = q := by
  subst h
  apply ext_getD (fillTo_length _ _)
  intro i hi
  rw [fillTo_length] at hi
  rw [fillTo_getD q _ i hi, if_pos hi]

theorem sum_zeros (n : Nat) : (List.replicate n (0 : Int)).sum = 0 := by
  induction n with
  | zero => rfl
  | succ n ih => rw [List.replicate_succ, List.sum_cons, ih]; rfl

theorem splitL_zero (w : List Int) : splitL 0 w = List.replicate w.length 0 := by
  have h : quo 0 w = List.replicate w.length 0 := by
    unfold quo
    simp only [Int.zero_mul, Int.zero_ediv]
    exact List.map_const' ..
  have h1 : lack 0 w = 0 := by unfold lack; rw [h]; rw [sum_zeros]; rfl
  unfold splitL
  rw [h1, h]
  exact bump_zero _ _

/-- The code of Split. -/
def splitC (t : Int) (w : List Int) : Int :=
  if decide (t < 0) || !(decide (w.length ≤ 64) && !(w.any fun x => decide (x < 0))) || (decide (0 < t) && !(w.any fun x => decide (0 < x))) then 1 else if fits w.sum then 0 else 2
/-- What Split hands back. -/
def splitV (t : Int) (w : List Int) : List Int := if splitC t w = 0 then splitL t w else []
theorem splitC_cases (t : Int) (w : List Int) : splitC t w = 0 ∨ splitC t w = 1 ∨ splitC t w = 2 := by
  unfold splitC
  split
  · simp
  · split <;> simp
end Go.Proofs.Ytnfoneeplkjhbaa

/-
  Plain numbers: what follows of a total cut by weights. No program is named here.
-/
namespace Go.Proofs.Ytnfoneeplkjhbaa
open Go.RowKit

/-- What stands at or ahead of a place among the first ones is among them. -/
theorem first_closed (l : List Int) (m i k : Nat) (hk : k < l.length) (h : leq l k i) (hi : i ∈ (ordL l).take m) : k ∈ (ordL l).take m := by
  have hs := ordTo_sorted l l.length
  have hko : k ∈ ordL l := (ordTo_perm l l.length).symm.subset (by simpa using hk)
  have e := List.take_append_drop m (ordL l)
  rw [← e, List.mem_append] at hko
  rcases hko with h1 | h1
  · exact h1
  · change (ordL l).Pairwise (leq l) at hs
    rw [← e, List.pairwise_append] at hs
    have := hs.2.2 i hi k h1
    rw [leq_anti l k i h this]
    exact hi

theorem map_sum_perm {l m : List Nat} (h : l.Perm m) (f : Nat → Int) : (l.map f).sum = (m.map f).sum := by
  induction h with
  | nil => rfl
  | cons x _ ih => simp [ih]
  | swap x y l => simp only [List.map_cons, List.sum_cons]; omega
  | trans _ _ ih1 ih2 => exact ih1.trans ih2
theorem range_sum (l : List Int) : ((List.range l.length).map fun i => l.getD i 0).sum = l.sum := by
  congr 1
  apply ext_getD (by simp)
  intro i hi
  have h : i < l.length := by simpa using hi
  rw [getD_map _ _ _ 0 (by simpa using h)]
  simp [List.getD_eq_getElem?_getD, h]
theorem sum_map_add {α : Type} (f g : α → Int) (l : List α) : (l.map fun i => f i + g i).sum = (l.map f).sum + (l.map g).sum := by
  induction l with
  | nil => rfl
  | cons x l ih => simp only [List.map_cons, List.sum_cons, ih]; omega
theorem sum_map_le {α : Type} (f g : α → Int) (l : List α) (h : ∀ x ∈ l, f x ≤ g x) : (l.map f).sum ≤ (l.map g).sum := by
  induction l with
  | nil => exact Int.le_refl _
  | cons x l ih =>
    have h1 := h x List.mem_cons_self
    have h2 := ih (fun y hy => h y (List.mem_cons_of_mem _ hy))
    simp only [List.map_cons, List.sum_cons]; omega
theorem sum_map_const {α : Type} (c : Int) (l : List α) : (l.map fun _ => c).sum = c * l.length := by
  induction l with
  | nil => simp
  | cons x l ih => simp only [List.map_cons, List.sum_cons, ih, List.length_cons, Int.natCast_add, Int.mul_add]; omega
/-- How many of the places up to n are among s. -/
theorem count_in (n : Nat) (s : List Nat) (hn : s.Nodup) (hs : ∀ i ∈ s, i < n) : ((List.range n).map fun i => if i ∈ s then (1 : Int) else 0).sum = s.length := by
  induction s generalizing n with
  | nil =>
    have := sum_map_const (α := Nat) 0 (List.range n)
    simpa using this
  | cons x s ih =>
    rw [List.nodup_cons] at hn
    have h1 := ih n hn.2 (fun i hi => hs i (List.mem_cons_of_mem _ hi))
    have e : ((List.range n).map fun i => if i ∈ x :: s then (1 : Int) else 0).sum = ((List.range n).map fun i => (if i ∈ s then (1 : Int) else 0) + (if i = x then 1 else 0)).sum := by
      congr 1
      apply List.map_congr_left
      intro i _
      by_cases h : i = x
      · subst h
        simp [hn.1]
      · simp [h]
    rw [e, sum_map_add, h1]
    have h2 : ∀ m, x < m → ((List.range m).map fun i => if i = x then (1 : Int) else 0).sum = 1 := by
      intro m
      induction m with
      | zero => intro h; omega
      | succ m ihm =>
        intro h
        rw [List.range_succ, List.map_append, List.sum_append]
        by_cases hm : x = m
        · subst hm
          have : ((List.range x).map fun i => if i = x then (1 : Int) else 0).sum = 0 := by
            have e2 : ((List.range x).map fun i => if i = x then (1 : Int) else 0) = (List.range x).map fun _ => 0 := by
              apply List.map_congr_left
              intro i hi
              have := List.mem_range.1 hi
              rw [if_neg (by omega)]
            rw [e2, sum_map_const]; simp
          rw [this]; simp
        · rw [ihm (by omega)]
          simp [show m ≠ x from fun e => hm e.symm]
    rw [h2 n (hs x List.mem_cons_self)]
    simp
theorem bump_sum (q : List Int) (o : List Nat) (j : Nat) (hn : o.Nodup) (ho : ∀ i ∈ o, i < q.length) (hj : j ≤ o.length) : (bump q o j).sum = q.sum + j := by
  unfold bump
  rw [sum_map_add, range_sum, count_in q.length (o.take j) (hn.sublist (List.take_sublist _ _)) (fun i hi => ho i (List.mem_of_mem_take hi)), List.length_take]
  omega

section
variable (t : Int) (w : List Int) (ht : 0 ≤ t) (hw : ∀ x ∈ w, 0 ≤ x) (hS : 0 < w.sum)
include ht hw hS
/-- Shares come to the total. -/
theorem splitL_sum : (splitL t w).sum = t := by
  have h := lack_range t w ht hw hS
  unfold splitL
  rw [bump_sum _ _ _ (ordL_nodup _) (fun i hi => by rw [quo_length, ← rst_length t w]; exact ordL_lt hi) (by rw [ordL_length, rst_length]; omega)]
  unfold lack at *
  omega
theorem splitL_getD (i : Nat) (h : i < w.length) : (splitL t w).getD i 0 = t * w.getD i 0 / w.sum + if i ∈ (ordL (rst t w)).take (lack t w).toNat then 1 else 0 := by
  have _ := hS; have _ := ht; have _ := hw
  unfold splitL
  rw [bump_getD _ _ _ _ (by rw [quo_length]; exact h), quo_getD _ _ _ h]
theorem splitL_nn : ∀ x ∈ splitL t w, 0 ≤ x := by
  intro x hx
  obtain ⟨i, hi, rfl⟩ := List.getElem_of_mem hx
  have h := splitL_getD t w ht hw hS i (by rwa [splitL_length] at hi)
  rw [List.getD_eq_getElem?_getD (l := splitL t w), List.getElem?_eq_getElem hi, Option.getD_some] at h
  have h2 := (quo_range t w ht hw hS i (by rwa [splitL_length] at hi)).1
  rw [quo_getD _ _ _ (by rwa [splitL_length] at hi)] at h2
  rw [h]
  split <;> omega
/-- A place that has a unit more has a rest. -/
theorem rest_pos (i : Nat) (hi : i ∈ (ordL (rst t w)).take (lack t w).toNat) : 0 < (rst t w).getD i 0 := by
  have hnn : ∀ k, 0 ≤ (rst t w).getD k 0 := by
    intro k
    by_cases h : k < w.length
    · rw [rst_getD _ _ _ h]; exact Int.emod_nonneg _ (by omega)
    · rw [List.getD_eq_getElem?_getD, List.getElem?_eq_none (by rw [rst_length]; omega)]; simp
  by_cases h0 : 0 < (rst t w).getD i 0
  · exact h0
  · exfalso
    have hz : (rst t w).getD i 0 = 0 := by have := hnn i; omega
    have hl := lack_range t w ht hw hS
    obtain ⟨m, hm⟩ := Int.eq_ofNat_of_zero_le hl.1
    rw [hm, Int.toNat_natCast] at hi
    obtain ⟨j, hj, hji⟩ := List.getElem_of_mem hi
    rw [List.length_take, ordL_length, rst_length] at hj
    have hjm : j < m := by omega
    -- behind the place j all rests are 0
    have hs : (ordL (rst t w)).Pairwise (leq (rst t w)) := ordTo_sorted _ _
    have e := List.take_append_drop j (ordL (rst t w))
    rw [← e, List.pairwise_append] at hs
    have hjo : j < (ordL (rst t w)).length := by rw [ordL_length, rst_length]; omega
    have hdr : (ordL (rst t w)).drop j = (ordL (rst t w))[j] :: (ordL (rst t w)).drop (j + 1) := List.drop_eq_getElem_cons hjo
    have hoj : (ordL (rst t w))[j] = i := by rw [← hji, List.getElem_take]
    have hzero : ∀ k ∈ (ordL (rst t w)).drop j, (rst t w).getD k 0 = 0 := by
      intro k hk
      rw [hdr, hoj] at hk hs
      rcases List.mem_cons.1 hk with rfl | hk
      · exact hz
      · have := (List.pairwise_cons.1 hs.2.1).1 k hk
        unfold leq at this
        have := hnn k
        omega
    have hsum : (rst t w).sum = (((ordL (rst t w)).take j).map fun k => (rst t w).getD k 0).sum := by
      rw [← range_sum, ← map_sum_perm (ordTo_perm (rst t w) (rst t w).length)]
      change ((ordL (rst t w)).map fun k => (rst t w).getD k 0).sum = _
      have e3 : ((ordL (rst t w)).map fun k => (rst t w).getD k 0) = (((ordL (rst t w)).take j).map fun k => (rst t w).getD k 0) ++ (((ordL (rst t w)).drop j).map fun k => (rst t w).getD k 0) := by
        rw [← List.map_append, e]
      have e4 : (((ordL (rst t w)).drop j).map fun k => (rst t w).getD k 0) = ((ordL (rst t w)).drop j).map fun _ => 0 := List.map_congr_left fun k hk => hzero k hk
      rw [e3, List.sum_append, e4, sum_map_const]
      simp
    have hle : (((ordL (rst t w)).take j).map fun k => (rst t w).getD k 0).sum ≤ (w.sum - 1) * j := by
      have h1 := sum_map_le (fun k => (rst t w).getD k 0) (fun _ => w.sum - 1) ((ordL (rst t w)).take j) (fun k hk => by
        have hk2 := ordL_lt (List.mem_of_mem_take hk)
        rw [rst_length] at hk2
        show (rst t w).getD k 0 ≤ w.sum - 1
        rw [rst_getD _ _ _ hk2]
        have := Int.emod_lt_of_pos (t * w.getD k 0) hS
        omega)
      rw [sum_map_const, List.length_take, Nat.min_eq_left (by omega)] at h1
      exact h1
    have hqr := quo_rst t w.sum w
    have hml : w.sum * m = (rst t w).sum := by
      rw [← hm]
      unfold lack quo rst
      rw [Int.mul_sub, Int.mul_comm w.sum t]
      omega
    have h5 : (w.sum - 1) * (j : Int) = w.sum * j - j := by rw [Int.sub_mul]; omega
    have h6 : w.sum * (j : Int) < w.sum * m := Int.mul_lt_mul_of_pos_left (by omega) hS
    omega
/-- Without a weight there is no share. -/
theorem splitL_none (i : Nat) (h : i < w.length) (hz : w.getD i 0 = 0) : (splitL t w).getD i 0 = 0 := by
  rw [splitL_getD t w ht hw hS i h, hz, if_neg]
  · simp
  · intro hi
    have := rest_pos t w ht hw hS i hi
    rw [rst_getD _ _ _ h, hz] at this
    simp at this
end
end Go.Proofs.Ytnfoneeplkjhbaa
