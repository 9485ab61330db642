/-
  Slices of structs of the call's own: append of a struct, cells, what is elder.
-/
import Derived.Test.YtjlhmiajklddiaaTpB
namespace Go.Proofs.Ytjlhmiajklddiaa
set_option maxRecDepth 8000
open Go Go.RowKit
set_option linter.unusedVariables false

/-- A slice type, its element's, and how a thing lies in cells. -/
structure Lay {α : Type} (enc : α → List Value) (t e : TypeId) (sz bts : Nat) : Prop where
  und : Try.prog.underlying t = some (.slice e)
  info : ∃ i z, Try.prog.info? e = some i ∧ i.zero = some z ∧ i.size = sz ∧ i.bytes = bts ∧ z.cells.size = sz
  pos : 0 < sz
  len : ∀ x, (enc x).length = sz
  one : ∀ x, ∀ u ∈ enc x, u.oneCell' = true
/-- A slice value that is the call's own (blocks from base on), and what is in it. -/
def OwnL {α : Type} (enc : α → List Value) (e : TypeId) (sz : Nat) (w : World) (base : Nat) (v : Value) (l : List α) : Prop := w.ownsRow base e sz v l.length (l.flatMap enc)
section
variable {α : Type} {enc : α → List Value} {t e : TypeId} {sz bts : Nat} {w w' : World} {base base' : Nat} {v v' : Value} {l : List α} {X : Nat → Prop}
theorem ownL_nil (w : World) (base : Nat) : OwnL enc e sz w base (.slice none 0 0) [] := World.ownsRow_nil w base e sz
theorem OwnL.lower (h : OwnL enc e sz w base v l) (hb : base' ≤ base) : OwnL enc e sz w base' v l := by
  refine ⟨h.1, ?_⟩
  rcases h.2 with hn | ⟨g, cap, cur, rfl, hg, rest⟩
  · exact .inl hn
  · exact .inr ⟨g, cap, cur, rfl, by omega, rest⟩
theorem OwnL.touch (h : OwnL enc e sz w base v l) (ht : Touch X w w') (hx : ∀ k, v.ownBlock = some k → ¬ X k) : OwnL enc e sz w' base v l := by
  refine ⟨h.1, ?_⟩
  rcases h.2 with hn | ⟨g, cap, cur, rfl, hg, hgg, rest⟩
  · exact .inl hn
  · exact .inr ⟨g, cap, cur, rfl, hg, by rw [ht.block g (Array.getElem?_eq_some_iff.1 hgg).1 (hx g rfl)]; exact hgg, rest⟩
theorem OwnL.keep (h : OwnL enc e sz w base v l) (hb : Below w.heap.size w w') : OwnL enc e sz w' base v l := h.touch (Touch.of_below (fun _ => False) hb) (fun _ _ h => h)
theorem OwnL.alloc (h : OwnL enc e sz w base v l) (o : Obj) : OwnL enc e sz (w.alloc o) base v l := h.keep ((Below.refl _ _).alloc (Nat.le_refl _) _)
theorem OwnL.lt (h : OwnL enc e sz w base v l) : ∀ k, v.ownBlock = some k → base ≤ k ∧ k < w.heap.size := World.ownsRow.lt h
theorem OwnL.below (h : OwnL enc e sz w base v l) (hg : w.grownBy w' v.ownBlock) (hbase : base ≤ w.heap.size) : Below base w w' := (Below.refl base w).grown hg hbase (fun g e => (h.lt g e).1)
/-- Its form, and its cells. -/
theorem OwnL.form (h : OwnL enc e sz w base v l) (hL : Lay enc t e sz bts) : ∃ A c, v = .slice A l.length c ∧ l.length ≤ c ∧ c ≤ 9223372036854775807 ∧ (A = none → c = 0) ∧ (0 < l.length → ∃ g, A = some ⟨g, 0, none⟩ ∧ base ≤ g ∧ g < w.heap.size ∧ ∀ i (hi : i < l.length) j, j < sz → w.cell? ⟨g, i * sz + j, none⟩ = (enc l[i])[j]? ∧ w.frozen? ⟨g, i * sz + j, none⟩ = false) := by
  rcases h.2 with ⟨rfl, h0⟩ | ⟨g, cap, cur, rfl, hg, hgg, h1, h2, h3, h4⟩
  · exact ⟨none, 0, by rw [h0], by omega, by omega, fun _ => rfl, fun h => by omega⟩
  · refine ⟨_, cap, rfl, h1, by unfold maxLen at h2; exact h2, fun e => (by cases e), fun h00 => ⟨g, rfl, hg, (Array.getElem?_eq_some_iff.1 hgg).1, fun i hi j hj => ⟨?_, by simp [World.frozen?, hgg]⟩⟩⟩
    have hlt : i * sz + j < l.length * sz := by
      have : (i + 1) * sz ≤ l.length * sz := Nat.mul_le_mul_right _ (by omega)
      rw [Nat.add_mul] at this
      omega
    have e1 : w.cell? ⟨g, i * sz + j, none⟩ = cur.toList[i * sz + j]? := by simp [World.cell?, hgg]
    have e2 : cur.toList[i * sz + j]? = (l.flatMap enc)[i * sz + j]? := by rw [← h4, List.getElem?_take_of_lt hlt]
    rw [e1, e2]
    clear e1 e2 hlt h h1 h3 h4 hgg h00
    induction l generalizing i with
    | nil => simp at hi
    | cons x l ih =>
      rw [List.flatMap_cons]
      cases i with
      | zero => rw [Nat.zero_mul, Nat.zero_add, List.getElem?_append_left (by rw [hL.len]; exact hj)]; rfl
      | succ i =>
        rw [List.getElem?_append_right (by rw [hL.len, Nat.add_mul]; omega), hL.len, show (i + 1) * sz + j - sz = i * sz + j by rw [Nat.add_mul]; omega]
        exact ih i (by simpa using hi)
/-- The run of an append of one. -/
theorem run_appL (hL : Lay enc t e sz bts) (w : World) (ty : TypeId) (base : Nat) (v : Value) (l : List α) (hown : OwnL enc e sz w base v l) (a : Addr) (c : Nat) (x : α) (hx : ∀ j u, (enc x)[j]? = some u → w.cell? (a.add j) = some u) (hb : (l.length + 1) * bts ≤ 140737488355328) (hl : l.length + 1 ≤ 140737488355328) (hbase : base ≤ w.heap.size) :
    ∃ v' w', (Builtin.append_ #[t, t] ty #[v, .slice (some a) 1 c]).run Try.prog w = .ok v' w' ∧ OwnL enc e sz w' base v' (l ++ [x]) ∧ w.grownBy w' v.ownBlock ∧ Moved w v v' := by
  obtain ⟨i, z, hi, hz, hs, hby, hzs⟩ := hL.info
  obtain ⟨v', w', h1, h2, h3, _, h5⟩ := run_append_own_at (P := Try.prog) w base t ty e i z sz bts hL.und hi hz hs hby hzs hL.pos v _ _ hown a 1 c (enc x) (by rw [hL.len, Nat.one_mul]) hx (hL.one x) (by unfold maxLen; omega) hb hbase
  refine ⟨v', w', h1, ?_, h3, h5⟩
  unfold OwnL
  rw [List.length_append, List.flatMap_append, List.length_singleton, List.flatMap_singleton]
  exact h2
theorem wpList_appL (hL : Lay enc t e sz bts) {w : World} {ops : Array Oper} {rest : List Oper} {o : Oper} {a : Act} {Q : Exit → Act → World → Prop} (hgd : o.guard = none) (s x : Operand)
    (ho : o.op = .call { callee := .builtin .append, args := #[s, x], argTypes := #[t, t] }) (base : Nat) (v : Value) (l : List α) (hs : a.eval s = v) (hown : OwnL enc e sz w base v l)
    (ad : Addr) (c : Nat) (y : α) (hx : a.eval x = .slice (some ad) 1 c) (hy : ∀ j u, (enc y)[j]? = some u → w.cell? (ad.add j) = some u) (hb : (l.length + 1) * bts ≤ 140737488355328) (hl : l.length + 1 ≤ 140737488355328) (hbase : base ≤ w.heap.size)
    (h : ∀ v' w', OwnL enc e sz w' base v' (l ++ [y]) → w.grownBy w' v.ownBlock → Moved w v v' → wpList Try.prog ops Q rest (a.put o.dst v') w') : wpList Try.prog ops Q (o :: rest) a w := by
  refine wpList_plain hgd fun _ hK => ?_
  obtain ⟨v', w', hr, h2, h3, h4⟩ := run_appL hL w o.type base v l hown ad c y hy hb hl hbase
  unfold Oper.wp execOp
  simp only [ho, resolve, invoke, builtin, Sem.run_bind, Sem.run_pure, Result.andThen_ok, List.map_toArray, List.map_cons, List.map_nil, hs, hx, hr]
  exact hK _ _ (h v' w' h2 h3 h4)
/-- A literal of one. -/
theorem lit_one (w : World) (ty : TypeId) (cs : Array Value) (xs : List Value) (h : cs.toList = xs) (n : Nat) (hn : n = w.heap.size) : ∀ j u, xs[j]? = some u → (w.alloc (.cells cs ty)).cell? ((⟨n, 0, none⟩ : Addr).add j) = some u := by
  subst hn
  intro j u hu
  rw [Go.WideShapes.add_plain, Nat.zero_add, World.cell?_alloc_new, ← Array.getElem?_toList, h]
  exact hu
end
end Go.Proofs.Ytjlhmiajklddiaa
