/-
  A slice of Wides as an argument: its numbers.
-/
import Derived.Test.YtimpmffcopdblaaWSums
import Derived.Test.YtimpmffcopdblaaWFrame
import Derived.Test.YtimpmffcopdblaaRings
import Derived.Deep.SlicePairs
namespace Go.Proofs.Ytimpmffcopdblaa
open Go.Joins Go.ChangeShapes Go.WideShapes Go.RowKit Go.Deep

section
variable {H : Type} {enc : TypeId × Value → H} {w : World} {base : Nat} {hld : Bool}
theorem open_wides {a : Option Addr} {len cap fuel : Nat} {x : DataW H × List MemPlace} (h : DataW.trod enc Try.prog w base (fun _ => true) hld fuel 48 [.slice a len cap] = some x) :
    ∃ l : List Int, l.length = len ∧ Wides w a l ∧ (∀ x ∈ l, W128 x) ∧ len ≤ 9223372036854775807 := by
  rcases open_slice_pairs Try.underlying48 Try.underlying24 (by kernel_rfl) rfl rfl (by kernel_rfl) (by kernel_rfl) h with ⟨hcs, _⟩ | ⟨ad, len', cap', m, n, V0, V1, D0, D1, P0, P1, hcs, _, hl, hm, hmm, _, hc⟩
  · simp at hcs
    obtain ⟨rfl, rfl, rfl⟩ := hcs
    exact ⟨[], rfl, fun h => absurd h (by simp), fun x hx => by simp at hx, by omega⟩
  · simp at hcs
    obtain ⟨rfl, rfl, rfl⟩ := hcs
    simp at hmm
    subst hmm
    unfold maxLen at hm
    have key : ∀ i, i < m → ∃ hi lo : Int, V0 i = .int .i64 hi ∧ V1 i = .int .u64 lo ∧ (Lit.int .i64 hi).wf = true ∧ (Lit.int .u64 lo).wf = true := by
      intro i hi
      obtain ⟨_, _, t0, t1⟩ := hc i hi
      obtain ⟨p, e0, _, w0⟩ := DataW.trod_int Try.underlying2 t0
      obtain ⟨q, e1, _, w1⟩ := DataW.trod_int Try.underlying22 t1
      simp only [List.cons.injEq, and_true] at e0 e1
      exact ⟨p, q, e0, e1, w0, w1⟩
    refine ⟨(List.range len).map fun i => num (intOf (V0 i)) (intOf (V1 i)), by simp, fun h0 => ?_, fun x hx => ?_, by omega⟩
    · simp only [List.length_map, List.length_range] at h0
      obtain ⟨c0, _, _, _⟩ := hc 0 (by omega)
      rw [Nat.zero_mul] at c0
      obtain ⟨b1, off1, s1⟩ := ad
      have hspot : s1 = none := by simpa [Addr.add] using World.cell?_spot c0
      subst hspot
      refine ⟨b1, off1, rfl, fun i hi => ?_⟩
      simp only [List.length_map, List.length_range] at hi
      obtain ⟨k0, k1, _, _⟩ := hc i (by omega)
      obtain ⟨p, q, e0, e1, w0, w1⟩ := key i (by omega)
      have hg : ((List.range len).map fun i => num (intOf (V0 i)) (intOf (V1 i))).getD i 0 = num p q := by
        rw [List.getD_eq_getElem?_getD, List.getElem?_map, List.getElem?_range hi]
        simp [e0, e1, intOf]
      rw [hg, up_num (wf_u64 w1).1 (wf_u64 w1).2, lo_num (wf_u64 w1).1 (wf_u64 w1).2, ← e0, ← e1]
      rw [add_plain] at k0 k1
      exact ⟨k0, k1⟩
    · obtain ⟨i, hi, rfl⟩ := List.mem_map.1 hx
      rw [List.mem_range] at hi
      obtain ⟨p, q, e0, e1, w0, w1⟩ := key i (by omega)
      simp only [e0, e1, intOf]
      exact w128_num (wf_i64 w0) (wf_u64 w1).1 (wf_u64 w1).2
end
end Go.Proofs.Ytimpmffcopdblaa
