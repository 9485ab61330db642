/-
  A slice of bytes that came in, as the row's frame tells of it. No program is named here.
-/
import Derived.Test.YtjlhmiajklddiaaByt
namespace Go.Proofs.Ytjlhmiajklddiaa
set_option maxRecDepth 8000
open Go.RowKit

theorem wf_u8 {n : Int} (h : (Lit.int .u8 n).wf = true) : 0 ≤ n ∧ n ≤ 255 := by simp [Lit.wf, IntKind.min, IntKind.max, IntKind.bits, IntKind.signed] at h; omega
theorem wf_u16 {n : Int} (h : (Lit.int .u16 n).wf = true) : 0 ≤ n ∧ n ≤ 65535 := by simp [Lit.wf, IntKind.min, IntKind.max, IntKind.bits, IntKind.signed] at h; omega
theorem wf_u32 {n : Int} (h : (Lit.int .u32 n).wf = true) : 0 ≤ n ∧ n ≤ 4294967295 := by simp [Lit.wf, IntKind.min, IntKind.max, IntKind.bits, IntKind.signed] at h; omega
theorem row_byts {w : World} {a : Option Addr} {len cap : Nat} {zs : List Int}
    (h : (a = none ∧ len = 0 ∧ cap = 0 ∧ zs = []) ∨
      ∃ x, a = some x ∧ len ≤ cap ∧ cap ≤ maxLen ∧ zs.length = cap ∧ (∀ i, i < zs.length → w.cell? (x.add i) = some (.int .u8 (zs.getD i 0))) ∧ ∀ n ∈ zs, (Lit.int .u8 n).wf = true) :
    ∃ l : List Nat, l.length = len ∧ Byts w a l ∧ Oct l ∧ (a = none → cap = 0) ∧ len ≤ 9223372036854775807 ∧ len ≤ cap := by
  obtain ⟨l, hl, hI, hn, hw⟩ := row_ints h
  have hnn : ∀ i, i < l.length → l.getD i 0 = ((l.map Int.toNat).getD i 0 : Nat) := fun i hi => by
    have := wf_u8 (hw (l.getD i 0) (by rw [List.getD_eq_getElem?_getD, List.getElem?_eq_getElem hi]; simp))
    rw [List.getD_eq_getElem?_getD, List.getElem?_eq_getElem hi] at this
    simp only [Option.getD_some] at this
    rw [List.getD_eq_getElem?_getD, List.getD_eq_getElem?_getD, List.getElem?_map, List.getElem?_eq_getElem hi]
    simp only [Option.map_some, Option.getD_some]
    omega
  refine ⟨l.map Int.toNat, by rw [List.length_map, hl], fun h0 => ?_, fun x hx => ?_, fun e => ?_, hn, ?_⟩
  · rw [List.length_map] at h0
    obtain ⟨b, off, e, hc⟩ := hI h0
    refine ⟨b, off, e, fun i hi => ?_⟩
    rw [List.length_map] at hi
    rw [hc i hi, hnn i hi]
  · obtain ⟨y, hy, rfl⟩ := List.mem_map.1 hx
    have := wf_u8 (hw y hy)
    omega
  · rcases h with ⟨_, _, h3, _⟩ | ⟨x, h1, _⟩
    · exact h3
    · rw [e] at h1; cases h1
  · rcases h with ⟨_, h2, h3, _⟩ | ⟨x, _, h2, _⟩ <;> omega
theorem row_byts2 {w : World} {a : Option Addr} {len cap : Nat} {zs : List Int}
    (h : (a = none ∧ len = 0 ∧ cap = 0 ∧ zs = []) ∨
      ∃ x, a = some x ∧ len ≤ cap ∧ cap ≤ maxLen ∧ zs.length = cap ∧ (∀ i, i < zs.length → w.cell? (x.add i) = some (.int .u8 (zs.getD i 0))) ∧ ∀ n ∈ zs, (Lit.int .u8 n).wf = true) :
    ∃ l : List Nat, l.length = len ∧ Byts w a l ∧ Oct l ∧ (a = none → cap = 0) ∧ len ≤ 9223372036854775807 ∧ len ≤ cap ∧ cap ≤ 9223372036854775807 ∧ (cap = 0 ∨ ∃ b off, a = some ⟨b, off, none⟩) := by
  obtain ⟨l, h1, h2, h3, h4, h5, h6⟩ := row_byts h
  refine ⟨l, h1, h2, h3, h4, h5, h6, ?_, ?_⟩
  · rcases h with ⟨_, _, rfl, _⟩ | ⟨x, _, _, hm, _⟩
    · omega
    · unfold maxLen at hm; exact hm
  · rcases h with ⟨_, _, h0, _⟩ | ⟨x, rfl, _, hm, hz, hc, _⟩
    · exact .inl h0
    · by_cases h0 : cap = 0
      · exact .inl h0
      · have c0 := hc 0 (by omega)
        obtain ⟨b1, off1, s1⟩ := x
        have hspot : s1 = none := by simpa [Addr.add] using World.cell?_spot c0
        subst hspot
        exact .inr ⟨b1, off1, rfl⟩
end Go.Proofs.Ytjlhmiajklddiaa
