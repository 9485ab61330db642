/-
  The call of novationlaw2.WideAll answers true at every input, and its arguments read behind it as before. Conditions: none beyond the row's own.
-/
import Derived.Test.YtiblbhppojfdaaaRows
import Derived.Test.YtiblbhppojfdaaaLAll
import Derived.Test.YtiblbhppojfdaaaWFrame
import Derived.WalkKit
import Derived.Below
import Derived.ChangeOld
import Derived.ProofKit
import Derived.OpenShut
namespace Go.Proofs.Ytiblbhppojfdaaa.wideAll
open Go.ChangeShapes Go.WideShapes Go.ChangeAt Go.RowKit
set_option linter.unusedVariables false

theorem own : ownKnob Try.prog.godebug = none := by kernel_rfl

theorem walk (h0 l0 : Int) (h1 l1 : Int) (a2 : Int) (a3 : Int) (x0 : (Lit.int .i64 h0).wf = true) (y0 : (Lit.int .u64 l0).wf = true) (x1 : (Lit.int .i64 h1).wf = true) (y1 : (Lit.int .u64 l1).wf = true) (x2 : (Lit.int .i64 a2).wf = true) (x3 : (Lit.int .i64 a3).wf = true) (w : World) :
    Calls Try.prog 3 #[.agg #[.int .i64 h0, .int .u64 l0], .agg #[.int .i64 h1, .int .u64 l1], .int .i64 a2, .int .i64 a3] w fun e w' => e = .returned (.bool true) ∧ Below w.heap.size w w' := by
  have h := wall_walk (num h0 l0) (num h1 l1) a2 a3 (w128_num (wf_i64 x0) (wf_u64 y0).1 (wf_u64 y0).2) (w128_num (wf_i64 x1) (wf_u64 y1).1 (wf_u64 y1).2) (wf_i64 x2) (wf_i64 x3) w
  rw [up_num (wf_u64 y0).1 (wf_u64 y0).2, lo_num (wf_u64 y0).1 (wf_u64 y0).2, up_num (wf_u64 y1).1 (wf_u64 y1).2, lo_num (wf_u64 y1).1 (wf_u64 y1).2] at h
  exact h

set_option maxRecDepth 100000 in
theorem lifted (os : Os) (started : os.Started) (H : Type) (enc : TypeId × Value → H) :
    ReturnsInHanded {} Try.checked os 3 .any (Rows.wideAllSpec.pre6 enc Try.prog Try.f3 Rows.wideAllRow.domain false) (Rows.wideAllSpec.post enc Try.prog Try.f3 false true false false) := by
  refine returnsInHanded_of_change (C := Try.checked) own started (by kernel_rfl) Try.func3
    (ChangeSpec.witness6 (enc := enc) (C := Try.checked) false ⟨#[], #[.agg #[.int .i64 0, .int .u64 0], .agg #[.int .i64 0, .int .u64 0], .int .i64 0, .int .i64 0], []⟩ 8 (by kernel_rfl) (by kernel_rfl) (by kernel_rfl) (by kernel_rfl)) ?_
  intro W base args ds gs before hval0 hW hcnd _
  have hval : ∀ (j : Nat) t v, Try.f3.params[j]? = some t → args[j]? = some v → Value.okWide Try.prog W .any base t v := hval0
  have hW' := hW
  obtain ⟨p, q, hA0, hV, rfl, hfz, hnd⟩ := hW
  have hA : DataW.TrodAll enc Try.prog W 0 (fun _ => true) true Try.f3.params.toList args.toList ds p := hA0
  rw [Try.params3] at hA hval
  obtain ⟨v0, vs0, d0, ds0, p0, q0, hargs, rfl, rfl, hh0, r0⟩ := trodAll_cons hA
  obtain ⟨v1, vs1, d1, ds1, p1, q1, rfl, rfl, rfl, hh1, r1⟩ := trodAll_cons r0
  obtain ⟨v2, vs2, d2, ds2, p2, q2, rfl, rfl, rfl, hh2, r2⟩ := trodAll_cons r1
  obtain ⟨v3, vs3, d3, ds3, p3, q3, rfl, rfl, rfl, hh3, r3⟩ := trodAll_cons r2
  obtain ⟨rfl, rfl, rfl⟩ := trodAll_nil r3
  obtain rfl : args = #[v0, v1, v2, v3] := by cases args; simp_all
  obtain ⟨rfl, rfl⟩ := trodVars_none hV
  obtain ⟨h0, l0, rfl, rfl, rfl, x0, y0⟩ := open_wide (hval 0 24 v0 rfl rfl) hh0
  obtain ⟨h1, l1, rfl, rfl, rfl, x1, y1⟩ := open_wide (hval 1 24 v1 rfl rfl) hh1
  obtain ⟨a2, rfl, rfl, rfl, x2⟩ := open_int Try.underlying2 (hval 2 2 v2 rfl rfl) hh2
  obtain ⟨a3, rfl, rfl, rfl, x3⟩ := open_int Try.underlying2 (hval 3 2 v3 rfl rfl) hh3
  clear hA0 hval0
  simp only [List.append_nil] at hW'
  refine (walk h0 l0 h1 l1 a2 a3 x0 y0 x1 y1 x2 x3 W).mono fun e W' ⟨he, bel⟩ => ?_
  subst he
  exact ⟨_, rfl, _, _, _, [], [], [], hW', trodAll_mk1 (shut_bool Try.underlying4 _), (trodAll_cons_mk (shut_wide x0 y0) (trodAll_cons_mk (shut_wide x1 y1) (trodAll_cons_mk (shut_int Try.underlying2 x2) (trodAll_cons_mk (shut_int Try.underlying2 x3) trodAll_mk0)))), rfl, bel.frame _, fun h => by cases h⟩

theorem over : Rows.wideAllRow.holds Try.pinned (OpenSpec.ofChange Rows.wideAllSpec) :=
  OpenClaim.holds_of_wide 3 Try.f3 rfl rfl rfl rfl rfl rfl rfl ⟨rfl, rfl, rfl, rfl, rfl⟩ rfl rfl rfl rfl rfl (by kernel_rfl) Try.func3 (by kernel_rfl)
    (of_decide_eq_true (by kernel_rfl)) (by unfold Func.isWrapper; first | (rw [if_pos (by decide +kernel)]; kernel_rfl) | (rw [if_neg (by decide +kernel)]; exact ⟨rfl, rfl⟩))
    (fun os started H enc _ => lifted os started H enc)

theorem proved : Rows.WideAllSaid :=
  over
#print axioms proved
end Go.Proofs.Ytiblbhppojfdaaa.wideAll
