/-
  Words for slices of bytes in memory. No program is named here.
-/
import Derived.Test.YtjlhmiajklddiaaMem
import Derived.Test.YtjlhmiajklddiaaCrc
import Derived.Laws.OwnMore
import Derived.Laws.BitsAllLaws
import Derived.Lib.Hide
namespace Go.Proofs.Ytjlhmiajklddiaa
set_option maxRecDepth 8000
open Go.RowKit

/-- A slice value's places read as these bytes (nothing is asked of an empty one's address). -/
def Byts (w : World) (A : Option Addr) (l : List Nat) : Prop :=
  0 < l.length → ∃ b off, A = some ⟨b, off, none⟩ ∧ ∀ i, i < l.length → w.cell? ⟨b, off + i, none⟩ = some (.int .u8 ((l.getD i 0 : Nat) : Int))
theorem Byts.nil (w : World) (A : Option Addr) : Byts w A [] := fun h => absurd h (by simp)
theorem Byts.below {w w' : World} {A : Option Addr} {l : List Nat} (h : Byts w A l) (hb : Below w.heap.size w w') : Byts w' A l := by
  intro h0
  obtain ⟨b, off, e, hc⟩ := h h0
  refine ⟨b, off, e, fun i hi => ?_⟩
  rw [hb.cell (p := ⟨b, off + i, none⟩) (block_lt (hc i hi))]
  exact hc i hi
/-- The value of a byte. -/
def byteV (x : Nat) : Value := .int .u8 (x : Int)
theorem byts_own {w : World} {base : Nat} {e : TypeId} {v : Value} {n : Nat} {l : List Nat} (h : w.ownsRow base e 1 v n (l.map byteV)) :
    l.length = n ∧ ∃ A c, v = .slice A n c ∧ Byts w A l ∧ n ≤ c ∧ c ≤ 9223372036854775807 ∧ (∀ b o s, A = some ⟨b, o, s⟩ → base ≤ b) := by
  have hl : l.length = n := by have := h.1; simpa using this
  refine ⟨hl, ?_⟩
  rcases h.2 with ⟨rfl, rfl⟩ | ⟨g, cap, cur, rfl, h0, _, h1, h2, _⟩
  · exact ⟨none, 0, rfl, fun h0 => absurd h0 (by omega), Nat.le_refl _, by omega, fun _ _ _ e => by cases e⟩
  · unfold maxLen at h2
    refine ⟨some ⟨g, 0, none⟩, cap, rfl, fun h0 => ⟨g, 0, rfl, fun i hi => ?_⟩, h1, h2, fun b o s e => by injection e with e; injection e with e; omega⟩
    have hc := h.cells (g := g) rfl i (byteV (l.getD i 0)) (by rw [List.getElem?_map, List.getD_eq_getElem?_getD, List.getElem?_eq_getElem hi]; rfl)
    rw [Go.WideShapes.add_plain] at hc
    exact hc
theorem getD_oct {l : List Nat} (h : Oct l) (i : Nat) : l.getD i 0 < 256 := by
  rw [List.getD_eq_getElem?_getD]
  rcases Nat.lt_or_ge i l.length with hi | hi
  · rw [List.getElem?_eq_getElem hi]; exact h _ (List.getElem_mem hi)
  · rw [List.getElem?_eq_none hi]; simp
theorem Oct.take {l : List Nat} (h : Oct l) (k : Nat) : Oct (l.take k) := fun x hx => h x (List.mem_of_mem_take hx)
theorem Oct.drop {l : List Nat} (h : Oct l) (k : Nat) : Oct (l.drop k) := fun x hx => h x (List.mem_of_mem_drop hx)
theorem Oct.append {l r : List Nat} (h : Oct l) (k : Oct r) : Oct (l ++ r) := fun x hx => (List.mem_append.1 hx).elim (h x) (k x)
/-- A part of a slice. -/
theorem Byts.part {w : World} {b off : Nat} {l : List Nat} (h : Byts w (some ⟨b, off, none⟩) l) (k m : Nat) (hm : k + m ≤ l.length) : Byts w (some ⟨b, off + k, none⟩) ((l.drop k).take m) := by
  intro h0
  have hlen : ((l.drop k).take m).length = m := by rw [List.length_take, List.length_drop]; omega
  rw [hlen] at h0
  obtain ⟨b', off', e, hc⟩ := h (by omega)
  injection e with e; injection e with e1 e2; subst e1; subst e2
  refine ⟨b, off + k, rfl, fun i hi => ?_⟩
  rw [hlen] at hi
  rw [Nat.add_assoc, hc (k + i) (by omega)]
  rw [List.getD_eq_getElem?_getD, List.getD_eq_getElem?_getD, List.getElem?_take_of_lt hi, List.getElem?_drop]
end Go.Proofs.Ytjlhmiajklddiaa
