/-
  append(s, make([]byte, m)...): noughts appended to a slice of the call's own.
-/
import Derived.Test.YtmopipclheohcaaAppB
import Derived.Deep.AppendSrc
import Derived.RangeFuncRecord
namespace Go.Proofs.Ytmopipclheohcaa
open Go Go.RowKit

theorem zeros_arr (m : Nat) : Builtin.zeroCells (Value.int .u8 0).cells m = (List.replicate m (byteV 0)).toArray := by
  apply Array.ext'
  apply List.ext_getElem
  · simp [Builtin.zeroCells, Value.cells]
  · intro i h1 h2
    simp [Builtin.zeroCells, Value.cells, byteV, Nat.mod_one]
theorem asInt_run (m : Int) (w : World) : (asInt (.int .i64 m)).run Try.prog w = .ok m w := rfl
theorem one_zero (m : Nat) : ∀ u ∈ List.replicate m (byteV 0), u.oneCell' = true := fun u hu => by rw [List.eq_of_mem_replicate hu]; rfl
theorem run_zeros_room (w : World) (ty : TypeId) (g n cap m : Nat) (cur : Array Value) (hg : w.heap[g]? = some (.cells cur 5 (0, 0))) (hroom : n + m ≤ cap) (hcs : cur.size = cap) (hm : m ≤ 1000000000) (hp : 0 < m) :
    (Builtin.append_ #[22, 3] ty #[.slice (some ⟨g, 0, none⟩) n cap, .int .i64 (m : Int)]).run Try.prog w =
      .ok (.slice (some ⟨g, 0, none⟩) (n + m) cap) (w.setRow g (cur.toList.take n ++ List.replicate m (byteV 0) ++ cur.toList.drop (n + m)).toArray) := by
  obtain ⟨i0, hi, hz0, hz1, hz2⟩ := parts_of info_u8
  have hwm : IntKind.i64.wrap (m : Int) = (m : Int) := by rw [IntKind.wrap_i64]; omega
  have h48 : ¬ (281474976710656 : Int) < (m : Int) := by omega
  have hneg : ¬ (m : Int) < 0 := by omega
  have h0 : ¬ m = 0 := by omega
  have hst := run_storeCells_at Try.prog g n 5 (List.replicate m (byteV 0)) 0 cur w hg (by simp; omega) (one_zero m)
  simp only [Nat.add_zero, List.length_replicate] at hst
  simp [Builtin.append_, run_underlying Try.underlying22, run_underlying Try.underlying3, sizeOf, typeInfo, hi, hz1, hz2, asInt_run, hwm, hneg, h48, hroom, zeroValue, hz0, h0, Addr.add_lit, zeros_arr, hst]
theorem run_zeros_grow (w : World) (ty : TypeId) (base : Option Addr) (n cap m : Nat) (olds : List Value) (hold : (Builtin.firstCells 1 n (.slice base n cap)).run Try.prog w.drew = .ok olds.toArray w.drew) (hroom : cap < n + m) (hm : n + m ≤ 1000000000) (hp : 0 < m)
    (hfit : Builtin.nextslicecap (n + m) cap ≤ 281474976710656) :
    (Builtin.append_ #[22, 3] ty #[.slice base n cap, .int .i64 (m : Int)]).run Try.prog w =
      .ok (.slice (some ⟨w.heap.size, 0, none⟩) (n + m) (grownCap w (n + m) cap 5)) (w.drew.alloc (.cells ((olds ++ List.replicate m (byteV 0)).toArray ++ Builtin.zeroCells (Value.int .u8 0).cells (grownCap w (n + m) cap 5 - (n + m))) 5)) := by
  obtain ⟨i0, hi, hz0, hz1, hz2⟩ := parts_of info_u8
  have hwm : IntKind.i64.wrap (m : Int) = (m : Int) := by rw [IntKind.wrap_i64]; omega
  have h48 : ¬ (281474976710656 : Int) < (m : Int) := by omega
  have hneg : ¬ (m : Int) < 0 := by omega
  have h0 : ¬ m = 0 := by omega
  have hn : ¬ n + m ≤ cap := by omega
  have h63' : ¬ (9223372036854775807 < ((n : Int) + (m : Int))) := by omega
  have h48' : ¬ (281474976710656 < Builtin.nextslicecap (n + m) cap) := by omega
  simp [Builtin.append_, run_underlying Try.underlying22, run_underlying Try.underlying3, sizeOf, typeInfo, hi, hz1, hz2, asInt_run, hwm, hneg, h48, hn, h63', h48', zeroValue, hz0, h0, zeros_arr, Question.forced, hold, newRow, grownCap]
  congr 2
  apply Array.ext'
  simp [List.append_assoc, List.replicate_append_replicate]
theorem run_app_zeros (w : World) (ty : TypeId) (base : Nat) (v : Value) (xs : List Nat) (hown : OwnB w base v xs) (m : Nat) (hb : xs.length + m ≤ 1000000000) (hp : 0 < m) (hbase : base ≤ w.heap.size) :
    ∃ v' w', (Builtin.append_ #[22, 3] ty #[v, .int .i64 (m : Int)]).run Try.prog w = .ok v' w' ∧ OwnB w' base v' (xs ++ List.replicate m 0) ∧ w.grownBy w' v.ownBlock := by
  have hlen : (xs ++ List.replicate m 0).length = xs.length + m := by simp
  have hmap : (xs ++ List.replicate m 0).map byteV = xs.map byteV ++ List.replicate m (byteV 0) := by simp
  have grown : ∀ (old : Nat), old < xs.length + m → ∀ (row : Option Nat),
      OwnB (w.drew.alloc (.cells ((xs.map byteV ++ List.replicate m (byteV 0)).toArray ++ Builtin.zeroCells (Value.int .u8 0).cells (grownCap w (xs.length + m) old 5 - (xs.length + m))) 5)) base
        (.slice (some ⟨w.heap.size, 0, none⟩) (xs.length + m) (grownCap w (xs.length + m) old 5)) (xs ++ List.replicate m 0) ∧
      w.grownBy (w.drew.alloc (.cells ((xs.map byteV ++ List.replicate m (byteV 0)).toArray ++ Builtin.zeroCells (Value.int .u8 0).cells (grownCap w (xs.length + m) old 5 - (xs.length + m))) 5)) row := by
    intro old ho row
    have hge := grownCap_ge w (xs.length + m) old 5
    have hcm : grownCap w (xs.length + m) old 5 ≤ maxLen := grownCap_le_maxLen w (xs.length + m) old 5 (by unfold maxLen; omega)
    refine ⟨?_, ⟨rfl, rfl, rfl, by simp, fun k hk _ => Below.heap_alloc _ _ _ hk⟩⟩
    unfold OwnB
    rw [hlen, hmap]
    refine ⟨by simp, .inr ⟨w.heap.size, _, _, rfl, hbase, World.alloc_heap_new w.drew _, hge, hcm, ?_, ?_⟩⟩
    · simp only [Array.size_append, List.size_toArray, List.length_append, List.length_map, List.length_replicate, size_zeroCells, Nat.mul_one]
      rw [show (Value.int .u8 0).cells.size = 1 from rfl]
      omega
    · rw [Array.toList_append, show (xs.length + m) * 1 = (xs.map byteV ++ List.replicate m (byteV 0)).toArray.toList.length from by simp]
      exact List.take_left
  rcases hown.2 with ⟨rfl, h0⟩ | ⟨g, cap, cur, rfl, hbg, hg, hnc, hcm, hcs, htake⟩
  · have hx : xs = [] := List.eq_nil_of_length_eq_zero h0
    subst hx
    have h := grown 0 (by simp; omega) (Value.ownBlock (.slice none 0 0))
    exact ⟨_, _, run_zeros_grow w ty none 0 0 m [] (by simp [Builtin.firstCells]) (by omega) (by simpa using hb) hp (by unfold Builtin.nextslicecap; simp; split <;> (simp only [List.length_append, List.length_nil, List.length_replicate] at *; omega)), by simpa using h.1, by simpa using h.2⟩
  · by_cases hroom : xs.length + m ≤ cap
    · refine ⟨_, _, run_zeros_room w ty g xs.length cap m cur hg hroom (by omega) (by omega) hp, ?_, ⟨rfl, rfl, rfl, by simp, fun k _ hk => setRow_other w g k _ (fun e => hk (by simp [Value.ownBlock, e]))⟩⟩
      unfold OwnB
      rw [hlen, hmap]
      refine ⟨by simp, .inr ⟨g, cap, _, rfl, hbg, setRow_heap w g cur _ _ _ hg, hroom, hcm, ?_, ?_⟩⟩
      · simp only [List.size_toArray, List.length_append, List.length_take, List.length_drop, Array.length_toList, List.length_replicate]
        omega
      · rw [Nat.mul_one] at htake ⊢
        rw [htake, show xs.length + m = (xs.map byteV ++ List.replicate m (byteV 0)).length from by simp]
        exact List.take_left
    · have h := grown cap (by omega) (Value.ownBlock (.slice (some ⟨g, 0, none⟩) xs.length cap))
      have hold : ∀ j u, (xs.map byteV)[j]? = some u → w.drew.cell? ((⟨g, 0, none⟩ : Addr).add j) = some u := fun j u hu => hown.drew.cells (g := g) rfl j u hu
      refine ⟨_, _, run_zeros_grow w ty (some ⟨g, 0, none⟩) xs.length cap m (xs.map byteV) ?_ (by omega) hb hp ?_, h.1, h.2⟩
      · exact run_firstCells_some w.drew 1 xs.length ⟨g, 0, none⟩ xs.length cap _ (by simp) hold
      · have := growslice_fits (need := xs.length + m) (old := cap) (bytes := 1) (by omega) (by omega)
        simpa using this
end Go.Proofs.Ytmopipclheohcaa
