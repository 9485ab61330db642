/-
  Slices of slices of bytes in memory.
-/
import Derived.Test.YtcpimdafpmdjnaaKp
import Derived.Deep.Matrix
namespace Go.Proofs.Ytcpimdafpmdjnaa
open Go.RowKit

/-- A slice value's places read as slices of these bytes. -/
def Rws (w : World) (A : Option Addr) (ls : List (List Nat)) : Prop :=
  0 < ls.length → ∃ b off, A = some ⟨b, off, none⟩ ∧ ∀ i, i < ls.length → ∃ A' c', w.cell? ⟨b, off + i, none⟩ = some (.slice A' (ls.getD i []).length c') ∧ Byts w A' (ls.getD i []) ∧ Oct (ls.getD i []) ∧ (A' = none → c' = 0) ∧ (ls.getD i []).length ≤ 9223372036854775807 ∧ (ls.getD i []).length ≤ c' ∧ c' ≤ 9223372036854775807
theorem Rws.below {w w' : World} {A : Option Addr} {ls : List (List Nat)} (h : Rws w A ls) (hb : Below w.heap.size w w') : Rws w' A ls := by
  intro h0
  obtain ⟨b, off, e, hc⟩ := h h0
  refine ⟨b, off, e, fun i hi => ?_⟩
  obtain ⟨A', c', h1, h2, h3⟩ := hc i hi
  exact ⟨A', c', (hb.cell (p := ⟨b, off + i, none⟩) (block_lt h1)).trans h1, h2.below hb, h3⟩
section
open Go.ChangeShapes Go.WideShapes Go.Deep
variable {H : Type} {enc : TypeId × Value → H} {w : World} {base : Nat} {hld : Bool}
theorem open_rws {a : Option Addr} {len cap fuel : Nat} {x : DataW H × List MemPlace} (h : DataW.trod enc Try.prog w base (fun _ => true) hld fuel 38 [.slice a len cap] = some x) :
    ∃ ls : List (List Nat), ls.length = len ∧ Rws w a ls ∧ len ≤ 9223372036854775807 := by
  rcases open_int_rows Try.underlying38 Try.underlying31 Try.underlying5 (by kernel_rfl) (by kernel_rfl) h with ⟨hcs, _⟩ | ⟨ad, len', cap', A, L, C, Z, hcs, _, hl, hm, _, hc⟩
  · simp at hcs
    obtain ⟨rfl, rfl, rfl⟩ := hcs
    exact ⟨[], rfl, fun h => absurd h (by simp), by omega⟩
  · simp at hcs
    obtain ⟨rfl, rfl, rfl⟩ := hcs
    unfold maxLen at hm
    have each : ∀ r, r < len → ∃ l : List Nat, l.length = L r ∧ Byts w (A r) l ∧ Oct l ∧ (A r = none → C r = 0) ∧ L r ≤ 9223372036854775807 ∧ L r ≤ C r ∧ C r ≤ 9223372036854775807 := by
      intro r hr
      obtain ⟨_, r1, r2, r3, r4, r5, r6⟩ := hc r (by omega)
      suffices h : ∃ l : List Nat, l.length = L r ∧ Byts w (A r) l ∧ Oct l ∧ (A r = none → C r = 0) ∧ L r ≤ 9223372036854775807 ∧ L r ≤ C r ∧ C r ≤ 9223372036854775807 ∧ (C r = 0 ∨ ∃ b off, A r = some ⟨b, off, none⟩) by
        obtain ⟨l, k1, k2, k3, k4, k5, k6, k7, _⟩ := h
        exact ⟨l, k1, k2, k3, k4, k5, k6, k7⟩
      refine row_byts2 (zs := Z r) ?_
      cases hA : A r with
      | none => exact .inl ⟨rfl, by have := r5 hA; omega, r5 hA, by have := r5 hA; exact List.eq_nil_of_length_eq_zero (by omega)⟩
      | some a' => exact .inr ⟨a', rfl, r1, r2, r3, fun i hi => (r6 a' hA).2 i (by omega), r4⟩
    obtain ⟨y, hy⟩ := choose_lt each
    refine ⟨(List.range len).map y, by simp, fun h0 => ?_, by omega⟩
    simp only [List.length_map, List.length_range] at h0
    obtain ⟨c0, _⟩ := hc 0 (by omega)
    obtain ⟨b1, off1, s1⟩ := ad
    have hspot : s1 = none := by simpa [Addr.add] using World.cell?_spot c0
    subst hspot
    refine ⟨b1, off1, rfl, fun i hi => ?_⟩
    simp only [List.length_map, List.length_range] at hi
    have hg : ((List.range len).map y).getD i [] = y i := by
      rw [List.getD_eq_getElem?_getD, List.getElem?_map, List.getElem?_range hi]
      rfl
    rw [hg]
    obtain ⟨k0, _⟩ := hc i (by omega)
    obtain ⟨z1, z2, z3, z4, z5, z6⟩ := hy i hi
    rw [add_plain] at k0
    rw [z1]
    exact ⟨A i, C i, k0, z2, z3, z4, z5, z6⟩
end

theorem low_at {w : World} {A : Option Addr} {l : List Nat} (h : Byts w A l) : ∀ b off, A = some ⟨b, off, none⟩ → 0 < l.length → b < w.heap.size := by
  intro b off e h0
  obtain ⟨b', off', e', hc⟩ := h h0
  rw [e] at e'; injection e' with e'; injection e' with e1 e2; subst e1
  exact block_lt (hc 0 h0)
/-- One of them, wherever the elder memory stands. -/
theorem Rws.one {w : World} {A : Option Addr} {ls : List (List Nat)} (h : Rws w A ls) {i : Nat} (hi : i < ls.length) : ∃ b off A' c', A = some ⟨b, off, none⟩ ∧ (∀ V, Below w.heap.size w V → V.cell? ⟨b, off + i, none⟩ = some (.slice A' (ls.getD i []).length c') ∧ Byts V A' (ls.getD i [])) ∧ (∀ bb o, A' = some ⟨bb, o, none⟩ → 0 < (ls.getD i []).length → bb < w.heap.size) ∧ Oct (ls.getD i []) ∧ (A' = none → c' = 0) ∧ (ls.getD i []).length ≤ c' ∧ c' ≤ 9223372036854775807 := by
  obtain ⟨b, off, e, hc⟩ := h (by omega)
  obtain ⟨A', c', h1, h2, h3, h4, h5, h6, h7⟩ := hc i hi
  exact ⟨b, off, A', c', e, fun V hV => ⟨(hV.cell (p := ⟨b, off + i, none⟩) (block_lt h1)).trans h1, h2.below hV⟩, low_at h2, h3, h4, h6, h7⟩
end Go.Proofs.Ytcpimdafpmdjnaa
