/-
  Slices of structs of the call's own: append of several, literals of several.
-/
import Derived.Test.YtjlhmiajklddiaaOwnL
namespace Go.Proofs.Ytjlhmiajklddiaa
set_option maxRecDepth 8000
open Go Go.RowKit
set_option linter.unusedVariables false

section
variable {α : Type} {enc : α → List Value} {t e : TypeId} {sz bts : Nat} {w w' : World} {base base' : Nat} {v v' : Value} {l : List α} {X : Nat → Prop}
theorem Lay.flat (hL : Lay enc t e sz bts) : ∀ ys : List α, (ys.flatMap enc).length = ys.length * sz := by
  intro ys
  induction ys with
  | nil => simp
  | cons y ys ih => rw [List.flatMap_cons, List.length_append, ih, hL.len, List.length_cons, Nat.succ_mul, Nat.add_comm]
/-- A literal of several. -/
theorem ownL_lit (hL : Lay enc t e sz bts) (w : World) (base : Nat) (cs : Array Value) (ys : List α) (hb : base ≤ w.heap.size) (hm : ys.length ≤ 1000000000) (hs : cs.toList = ys.flatMap enc) (n : Nat) (hn : n = w.heap.size) (k : Nat) (hk : k = ys.length) : OwnL enc e sz (w.alloc (.cells cs e)) base (.slice (some ⟨n, 0, none⟩) k k) ys := by
  subst hn; subst hk
  unfold OwnL
  rw [← hs]
  exact World.ownsRow_lit w cs ys.length hb (by unfold maxLen; omega) (by rw [← Array.length_toList, hs, hL.flat])
/-- The run of an append of several. -/
theorem run_appLs (hL : Lay enc t e sz bts) (w : World) (ty : TypeId) (base : Nat) (v : Value) (l : List α) (hown : OwnL enc e sz w base v l) (a : Addr) (m c : Nat) (ys : List α) (hm : m = ys.length) (hx : ∀ j u, (ys.flatMap enc)[j]? = some u → w.cell? (a.add j) = some u) (hb : (l.length + ys.length) * bts ≤ 140737488355328) (hl : l.length + ys.length ≤ 140737488355328) (hbase : base ≤ w.heap.size) :
    ∃ v' w', (Builtin.append_ #[t, t] ty #[v, .slice (some a) m c]).run Try.prog w = .ok v' w' ∧ OwnL enc e sz w' base v' (l ++ ys) ∧ w.grownBy w' v.ownBlock ∧ Moved w v v' := by
  subst hm
  obtain ⟨i, z, hi, hz, hs, hby, hzs⟩ := hL.info
  obtain ⟨v', w', h1, h2, h3, _, h5⟩ := run_append_own_at (P := Try.prog) w base t ty e i z sz bts hL.und hi hz hs hby hzs hL.pos v _ _ hown a ys.length c (ys.flatMap enc) (hL.flat ys) hx (fun u hu => by obtain ⟨y, _, hy⟩ := List.mem_flatMap.1 hu; exact hL.one y u hy) (by unfold maxLen; omega) hb hbase
  refine ⟨v', w', h1, ?_, h3, h5⟩
  unfold OwnL
  rw [List.length_append, List.flatMap_append]
  exact h2
theorem wpList_appLs (hL : Lay enc t e sz bts) {w : World} {ops : Array Oper} {rest : List Oper} {o : Oper} {a : Act} {Q : Exit → Act → World → Prop} (hgd : o.guard = none) (s x : Operand)
    (ho : o.op = .call { callee := .builtin .append, args := #[s, x], argTypes := #[t, t] }) (base : Nat) (v : Value) (l : List α) (hs : a.eval s = v) (hown : OwnL enc e sz w base v l)
    (ad : Addr) (m c : Nat) (ys : List α) (hm : m = ys.length) (hx : a.eval x = .slice (some ad) m c) (hy : ∀ j u, (ys.flatMap enc)[j]? = some u → w.cell? (ad.add j) = some u) (hb : (l.length + ys.length) * bts ≤ 140737488355328) (hl : l.length + ys.length ≤ 140737488355328) (hbase : base ≤ w.heap.size)
    (h : ∀ v' w', OwnL enc e sz w' base v' (l ++ ys) → w.grownBy w' v.ownBlock → Moved w v v' → wpList Try.prog ops Q rest (a.put o.dst v') w') : wpList Try.prog ops Q (o :: rest) a w := by
  refine wpList_plain hgd fun _ hK => ?_
  obtain ⟨v', w', hr, h2, h3, h4⟩ := run_appLs hL w o.type base v l hown ad m c ys hm hy hb hl hbase
  unfold Oper.wp execOp
  simp only [ho, resolve, invoke, builtin, Sem.run_bind, Sem.run_pure, Result.andThen_ok, List.map_toArray, List.map_cons, List.map_nil, hs, hx, hr]
  exact hK _ _ (h v' w' h2 h3 h4)
end
end Go.Proofs.Ytjlhmiajklddiaa
