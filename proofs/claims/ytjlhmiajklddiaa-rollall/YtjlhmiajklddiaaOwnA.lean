/-
  Slices of ints of the call's own; append of whatever slice (a nil one, too).
-/
import Derived.Test.YtjlhmiajklddiaaOwnM
namespace Go.Proofs.Ytjlhmiajklddiaa
set_option maxRecDepth 8000
open Go Go.RowKit
set_option linter.unusedVariables false

section
variable {α : Type} {enc : α → List Value} {t e : TypeId} {sz bts : Nat} {w w' : World} {base base' : Nat} {v v' : Value} {l : List α} {X : Nat → Prop}
/-- The run of an append of whatever slice. -/
theorem run_appA (hL : Lay enc t e sz bts) (w : World) (ty : TypeId) (base : Nat) (v : Value) (l : List α) (hown : OwnL enc e sz w base v l) (A : Option Addr) (m c : Nat) (ys : List α) (hm : m = ys.length) (hA : A = none → c = 0 ∧ ys = []) (hx : ∀ a, A = some a → ∀ j u, (ys.flatMap enc)[j]? = some u → w.cell? (a.add j) = some u) (hb : (l.length + ys.length) * bts ≤ 140737488355328) (hl : l.length + ys.length ≤ 140737488355328) (hbase : base ≤ w.heap.size) :
    ∃ v' w', (Builtin.append_ #[t, t] ty #[v, .slice A m c]).run Try.prog w = .ok v' w' ∧ OwnL enc e sz w' base v' (l ++ ys) ∧ w.grownBy w' v.ownBlock := by
  obtain ⟨i, z, hi, hz, hs, hby, hzs⟩ := hL.info
  cases A with
  | none =>
    obtain ⟨rfl, rfl⟩ := hA rfl
    subst hm
    refine ⟨v, w, run_append_owned_none w base t ty e i sz hL.und hi v _ _ hown, by rw [List.append_nil]; exact hown, ⟨rfl, rfl, rfl, Nat.le_refl _, fun _ _ _ => rfl⟩⟩
  | some a =>
    obtain ⟨v', w', h1, h2, h3, _⟩ := run_appLs hL w ty base v l hown a m c ys hm (hx a rfl) hb hl hbase
    exact ⟨v', w', h1, h2, h3⟩
theorem wpList_appA (hL : Lay enc t e sz bts) {w : World} {ops : Array Oper} {rest : List Oper} {o : Oper} {a : Act} {Q : Exit → Act → World → Prop} (hgd : o.guard = none) (s x : Operand)
    (ho : o.op = .call { callee := .builtin .append, args := #[s, x], argTypes := #[t, t] }) (base : Nat) (v : Value) (l : List α) (hs : a.eval s = v) (hown : OwnL enc e sz w base v l)
    (A : Option Addr) (m c : Nat) (ys : List α) (hm : m = ys.length) (hx : a.eval x = .slice A m c) (hA : A = none → c = 0 ∧ ys = []) (hy : ∀ a, A = some a → ∀ j u, (ys.flatMap enc)[j]? = some u → w.cell? (a.add j) = some u) (hb : (l.length + ys.length) * bts ≤ 140737488355328) (hl : l.length + ys.length ≤ 140737488355328) (hbase : base ≤ w.heap.size)
    (h : ∀ v' w', OwnL enc e sz w' base v' (l ++ ys) → Below base w w' → w.grownBy w' v.ownBlock → wpList Try.prog ops Q rest (a.put o.dst v') w') : wpList Try.prog ops Q (o :: rest) a w := by
  refine wpList_plain hgd fun _ hK => ?_
  obtain ⟨v', w', hr, h2, h3⟩ := run_appA hL w o.type base v l hown A m c ys hm hA hy hb hl hbase
  unfold Oper.wp execOp
  simp only [ho, resolve, invoke, builtin, Sem.run_bind, Sem.run_pure, Result.andThen_ok, List.map_toArray, List.map_cons, List.map_nil, hs, hx, hr]
  exact hK _ _ (h v' w' h2 (hown.below h3 hbase) h3)
end

/-- An int in its cell. -/
def encI (i : Int) : List Value := [.int .i64 i]
theorem lay_int : Lay encI 42 3 1 8 := by
  refine ⟨Try.underlying42, ?_, by omega, fun _ => rfl, fun x u hu => ?_⟩
  · have h : (Try.prog.info? 3).map (fun i => (i.zero, i.size, i.bytes)) = some (some (.int .i64 0), 1, 8) := by kernel_rfl
    obtain ⟨i, h1, h2, h3, h4⟩ := parts_of h
    exact ⟨i, _, h1, h2, h3, h4, rfl⟩
  · simp [encI] at hu
    subst hu; rfl
/-- A list of ints of the call's own. -/
def OwnI64 (w : World) (base : Nat) (v : Value) (l : List Int) : Prop := OwnL encI 3 1 w base v l
theorem flat_encI (l : List Int) : l.flatMap encI = l.map (Value.int .i64) := by
  induction l with
  | nil => rfl
  | cons x l ih => rw [List.flatMap_cons, ih, List.map_cons]; rfl
theorem ownI_form {w : World} {base : Nat} {v : Value} {l : List Int} (h : OwnI64 w base v l) : ∃ A c, v = .slice A l.length c ∧ Ints w .i64 A l ∧ (A = none → c = 0) ∧ l.length ≤ c := by
  obtain ⟨A, c, rfl, h1, _, h3, h4⟩ := OwnL.form h lay_int
  refine ⟨A, c, rfl, fun h0 => ?_, h3, h1⟩
  obtain ⟨g, rfl, _, _, hc⟩ := h4 h0
  refine ⟨g, 0, rfl, fun i hi => ?_⟩
  have := (hc i hi 0 (by omega)).1
  rw [Nat.mul_one, Nat.add_zero] at this
  rw [Nat.zero_add, this, List.getD_eq_getElem?_getD, List.getElem?_eq_getElem hi]
  rfl
/-- The cells of numbers that lie somewhere. -/
theorem ints_cells {w : World} {A : Option Addr} {l : List Int} (h : Ints w .i64 A l) : ∀ a, A = some a → ∀ j u, (l.flatMap encI)[j]? = some u → w.cell? (a.add j) = some u := by
  intro a ha j u hu
  rw [flat_encI, List.getElem?_map] at hu
  rcases Nat.lt_or_ge j l.length with hj | hj
  · obtain ⟨b, off, e, hc⟩ := h (by omega)
    obtain rfl : a = ⟨b, off, none⟩ := Option.some.inj (ha.symm.trans e)
    rw [List.getElem?_eq_getElem hj] at hu
    obtain rfl := Option.some.inj hu
    have := hc j hj
    rw [Go.WideShapes.add_plain, this, List.getD_eq_getElem?_getD, List.getElem?_eq_getElem hj]
    rfl
  · rw [List.getElem?_eq_none hj] at hu; cases hu
theorem ints_none {w : World} {l : List Int} (h : Ints w .i64 none l) : l = [] := by
  cases l with
  | nil => rfl
  | cons x l => obtain ⟨b, off, e, _⟩ := h (by simp); cases e
/-- A slice that came in: of a nil one the room is nought. -/
theorem row_ints2 {k : IntKind} {w : World} {a : Option Addr} {len cap : Nat} {zs : List Int}
    (h : (a = none ∧ len = 0 ∧ cap = 0 ∧ zs = []) ∨
      ∃ x, a = some x ∧ len ≤ cap ∧ cap ≤ maxLen ∧ zs.length = cap ∧ (∀ i, i < zs.length → w.cell? (x.add i) = some (.int k (zs.getD i 0))) ∧ ∀ n ∈ zs, (Lit.int k n).wf = true) :
    ∃ l : List Int, l.length = len ∧ Ints w k a l ∧ len ≤ 9223372036854775807 ∧ (∀ n ∈ l, (Lit.int k n).wf = true) ∧ (a = none → cap = 0) := by
  obtain ⟨l, h1, h2, h3, h4⟩ := row_ints h
  refine ⟨l, h1, h2, h3, h4, fun e => ?_⟩
  rcases h with ⟨_, _, h, _⟩ | ⟨x, hx, _⟩
  · exact h
  · rw [e] at hx; cases hx
end Go.Proofs.Ytjlhmiajklddiaa
