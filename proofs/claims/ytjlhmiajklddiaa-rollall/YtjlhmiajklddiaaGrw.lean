/-
  append of noughts to a nil slice: memory of the call's own with nothing in it yet.
-/
import Derived.Test.YtjlhmiajklddiaaOwnA
import Derived.Test.YtjlhmiajklddiaaMls
import Derived.Deep.AppendSrc
import Derived.RangeFuncRecord
namespace Go.Proofs.Ytjlhmiajklddiaa
set_option maxRecDepth 8000
open Go Go.RowKit
set_option linter.unusedVariables false

section
variable {α : Type} {enc : α → List Value} {t e : TypeId} {sz bts : Nat} {w w' : World}
theorem asInt_g (m : Int) (w : World) : (asInt (.int .i64 m)).run Try.prog w = .ok m w := rfl
theorem run_grow_nil (hL : Lay enc t e sz bts) (tn : TypeId) (htn : Try.prog.underlying tn = some (.int .i64)) (w : World) (ty : TypeId) (base m : Nat) (hb : m * bts ≤ 140737488355328) (hm : m ≤ 140737488355328) (hp : 0 < m) (hbase : base ≤ w.heap.size) :
    ∃ c w', (Builtin.append_ #[t, tn] ty #[.slice none 0 0, .int .i64 (m : Int)]).run Try.prog w = .ok (.slice (some ⟨w.heap.size, 0, none⟩) m c) w' ∧ m ≤ c ∧ c ≤ 9223372036854775807 ∧ OwnL enc e sz w' base (.slice (some ⟨w.heap.size, 0, none⟩) 0 c) [] ∧ w.grownBy w' none := by
  obtain ⟨i, z, hi, hz, hs, hby, hzs⟩ := hL.info
  have hwm : IntKind.i64.wrap (m : Int) = (m : Int) := by rw [IntKind.wrap_i64]; omega
  have h48 : ¬ (281474976710656 : Int) < (m : Int) * (bts : Int) := by
    have : ((m * bts : Nat) : Int) ≤ ((140737488355328 : Nat) : Int) := Int.ofNat_le.2 hb
    rw [Int.natCast_mul] at this
    omega
  have hneg : ¬ (m : Int) < 0 := by omega
  have h0 : ¬ m = 0 := by omega
  have hms : ¬ m * sz = 0 := by have := hL.pos; rw [Nat.mul_eq_zero]; omega
  have h63' : ¬ (9223372036854775807 < (m : Int)) := by omega
  have hfit := growslice_fits (need := m) (old := 0) (bytes := bts) hp hb
  have h48' : ¬ (281474976710656 < Builtin.nextslicecap m 0 * bts) := by omega
  have hge := grownCap_ge w m 0 e
  have hcm : grownCap w m 0 e ≤ maxLen := grownCap_le_maxLen w m 0 e (by unfold maxLen; omega)
  have hrun : (Builtin.append_ #[t, tn] ty #[.slice none 0 0, .int .i64 (m : Int)]).run Try.prog w = .ok (.slice (some ⟨w.heap.size, 0, none⟩) m (grownCap w m 0 e)) (w.drew.alloc (.cells (Builtin.zeroCells z.cells m ++ Builtin.zeroCells z.cells (grownCap w m 0 e - m)) e)) := by
    simp [Builtin.append_, run_underlying hL.und, run_underlying htn, sizeOf, typeInfo, hi, hs, hby, asInt_g, hwm, hneg, h48, h0, hms, h63', h48', zeroValue, hz, Question.forced, newRow, grownCap, Builtin.firstCells]
  refine ⟨_, _, hrun, hge, by unfold maxLen at hcm; exact hcm, ⟨by simp, .inr ⟨w.heap.size, _, _, rfl, hbase, World.alloc_heap_new w.drew _, Nat.zero_le _, hcm, ?_, by simp⟩⟩, ⟨rfl, rfl, rfl, by simp, fun k hk _ => Below.heap_alloc _ _ _ hk⟩⟩
  rw [Array.size_append, size_zeroCells, size_zeroCells, hzs, ← Nat.add_mul]
  congr 1
  omega
theorem wpList_growNil (hL : Lay enc t e sz bts) {w : World} {ops : Array Oper} {rest : List Oper} {o : Oper} {a : Act} {Q : Exit → Act → World → Prop} (hgd : o.guard = none) (s x : Operand) (tn : TypeId) (htn : Try.prog.underlying tn = some (.int .i64))
    (ho : o.op = .call { callee := .builtin .append, args := #[s, x], argTypes := #[t, tn] }) (base m : Nat) (hs : a.eval s = .slice none 0 0) (hx : a.eval x = .int .i64 (m : Int)) (hb : m * bts ≤ 140737488355328) (hm : m ≤ 140737488355328) (hp : 0 < m) (hbase : base ≤ w.heap.size)
    (h : ∀ g c w', g = w.heap.size → m ≤ c → c ≤ 9223372036854775807 → OwnL enc e sz w' base (.slice (some ⟨g, 0, none⟩) 0 c) [] → Below base w w' → wpList Try.prog ops Q rest (a.put o.dst (.slice (some ⟨g, 0, none⟩) m c)) w') : wpList Try.prog ops Q (o :: rest) a w := by
  refine wpList_plain hgd fun _ hK => ?_
  obtain ⟨c, w', hr, h1, h2, h3, h4⟩ := run_grow_nil hL tn htn w o.type base m hb hm hp hbase
  unfold Oper.wp execOp
  simp only [ho, resolve, invoke, builtin, Sem.run_bind, Sem.run_pure, Result.andThen_ok, List.map_toArray, List.map_cons, List.map_nil, hs, hx, hr]
  exact hK _ _ (h _ _ w' rfl h1 h2 h3 ((Below.refl base w).grown h4 hbase (fun g e => by cases e)))
end
end Go.Proofs.Ytjlhmiajklddiaa
