/-
  Slices of slices of bytes in memory; records one behind the other, as lists; the walks of novationlaw4's fit and all.
-/
import Derived.Test.YtmopipclheohcaaRowB
import Derived.Test.YtmopipclheohcaaBur
import Derived.Deep.Matrix
namespace Go.Proofs.Ytmopipclheohcaa
open Go.RowKit

/-- A slice value's places read as slices of these bytes. -/
def Rws (w : World) (A : Option Addr) (ls : List (List Nat)) : Prop :=
  0 < ls.length → ∃ b off, A = some ⟨b, off, none⟩ ∧ ∀ i, i < ls.length → ∃ A' c', w.cell? ⟨b, off + i, none⟩ = some (.slice A' (ls.getD i []).length c') ∧ Byts w A' (ls.getD i []) ∧ Oct (ls.getD i []) ∧ (A' = none → c' = 0) ∧ (ls.getD i []).length ≤ 9223372036854775807 ∧ (ls.getD i []).length ≤ c'
theorem Rws.below {w w' : World} {A : Option Addr} {ls : List (List Nat)} (h : Rws w A ls) (hb : Below w.heap.size w w') : Rws w' A ls := by
  intro h0
  obtain ⟨b, off, e, hc⟩ := h h0
  refine ⟨b, off, e, fun i hi => ?_⟩
  obtain ⟨A', c', h1, h2, h3⟩ := hc i hi
  exact ⟨A', c', (hb.cell (p := ⟨b, off + i, none⟩) (block_lt h1)).trans h1, h2.below hb, h3⟩
section
open Go.ChangeShapes Go.WideShapes Go.Deep
variable {H : Type} {enc : TypeId × Value → H} {w : World} {base : Nat} {hld : Bool}
theorem open_rws {a : Option Addr} {len cap fuel : Nat} {x : DataW H × List MemPlace} (h : DataW.trod enc Try.prog w base (fun _ => true) hld fuel 30 [.slice a len cap] = some x) :
    ∃ ls : List (List Nat), ls.length = len ∧ Rws w a ls ∧ len ≤ 9223372036854775807 := by
  rcases open_int_rows Try.underlying30 Try.underlying22 Try.underlying5 (by kernel_rfl) (by kernel_rfl) h with ⟨hcs, _⟩ | ⟨ad, len', cap', A, L, C, Z, hcs, _, hl, hm, _, hc⟩
  · simp at hcs
    obtain ⟨rfl, rfl, rfl⟩ := hcs
    exact ⟨[], rfl, fun h => absurd h (by simp), by omega⟩
  · simp at hcs
    obtain ⟨rfl, rfl, rfl⟩ := hcs
    unfold maxLen at hm
    have each : ∀ r, r < len → ∃ l : List Nat, l.length = L r ∧ Byts w (A r) l ∧ Oct l ∧ (A r = none → C r = 0) ∧ L r ≤ 9223372036854775807 ∧ L r ≤ C r := by
      intro r hr
      obtain ⟨_, r1, r2, r3, r4, r5, r6⟩ := hc r (by omega)
      refine row_byts (zs := Z r) ?_
      cases hA : A r with
      | none => exact .inl ⟨rfl, by have := r5 hA; omega, r5 hA, by have := r5 hA; exact List.eq_nil_of_length_eq_zero (by omega)⟩
      | some a' => exact .inr ⟨a', rfl, r1, r2, r3, fun i hi => (r6 a' hA).2 i (by omega), r4⟩
    obtain ⟨y, hy⟩ := choose_lt each
    refine ⟨(List.range len).map y, by simp, fun h0 => ?_, by omega⟩
    simp only [List.length_map, List.length_range] at h0
    obtain ⟨c0, _⟩ := hc 0 (by omega)
    obtain ⟨b1, off1, s1⟩ := ad
    have hspot : s1 = none := by simpa [Addr.add] using World.cell?_spot c0
    subst hspot
    refine ⟨b1, off1, rfl, fun i hi => ?_⟩
    simp only [List.length_map, List.length_range] at hi
    have hg : ((List.range len).map y).getD i [] = y i := by
      rw [List.getD_eq_getElem?_getD, List.getElem?_map, List.getElem?_range hi]
      rfl
    rw [hg]
    obtain ⟨k0, _⟩ := hc i (by omega)
    obtain ⟨z1, z2, z3, z4, z5, z6⟩ := hy i hi
    rw [add_plain] at k0
    rw [z1]
    exact ⟨A i, C i, k0, z2, z3, z4, z5, z6⟩
end

/-- Few texts, none too long. -/
def Fits (ls : List (List Nat)) : Prop := ls.length ≤ 20 ∧ ∀ i, i < ls.length → (ls.getD i []).length ≤ 400
/-- All records, one behind the other. -/
def catL (ls : List (List Nat)) : List Nat := (ls.map recL).flatten
theorem catL_take (ls : List (List Nat)) (k : Nat) (h : k < ls.length) : catL (ls.take (k + 1)) = catL (ls.take k) ++ recL (ls.getD k []) := by
  unfold catL
  rw [List.take_succ_eq_append_getElem h, List.map_append, List.flatten_append, List.getD_eq_getElem?_getD, List.getElem?_eq_getElem h]
  simp
theorem catL_bound (ls : List (List Nat)) (h : Fits ls) (k : Nat) (hk : k ≤ ls.length) : (catL (ls.take k)).length ≤ 406 * k := by
  induction k with
  | zero => simp [catL]
  | succ k ih =>
    rw [catL_take ls k (by omega), List.length_append, recL_length]
    have := ih (by omega)
    have := h.2 k (by omega)
    omega

set_option maxRecDepth 8000 in
set_option maxHeartbeats 1000000 in
theorem fit_yes (A : Option Addr) (ls : List (List Nat)) (c : Nat) (w : World) (hr : Rws w A ls) (hf : Fits ls) :
    Calls Try.prog 13 #[.slice A ls.length c] w fun e w' => e = .returned (.bool true) ∧ w = w' := by
  obtain ⟨h20, h400⟩ := hf
  go_enter Try.func13, Try.ntmps13
  go_wp2
  go_loop [3] (fun i => ∃ k : Nat, k ≤ ls.length ∧ i = .int .i64 k) (fun i => ls.length - (intOf i).toNat)
  case atStart => exact ⟨0, Nat.zero_le _, rfl⟩
  case round =>
    obtain ⟨k, hk, rfl⟩ := hrel
    by_cases hlt : k < ls.length
    · obtain ⟨b, off, rfl, hc⟩ := hr (by omega)
      obtain ⟨A', c', hcell, _⟩ := hc k hlt
      have h4 := h400 k hlt
      generalize (ls.getD k []).length = m at *
      clear hc h400
      go_wp2
      go_round
      case rel => exact ⟨k + 1, by omega, by go_num⟩
      case measure => simp [intOf]; omega
    · go_wp2
      go_ret
      exact ⟨rfl, rfl⟩
set_option maxRecDepth 8000 in
set_option maxHeartbeats 1000000 in
theorem fit_no (A : Option Addr) (ls : List (List Nat)) (c : Nat) (w : World) (hr : Rws w A ls) (hn : ls.length ≤ 9223372036854775807) (hf : ¬ Fits ls) :
    Calls Try.prog 13 #[.slice A ls.length c] w fun e w' => e = .returned (.bool false) ∧ w = w' := by
  by_cases h20 : 20 < ls.length
  · go_enter Try.func13, Try.ntmps13
    go_wp2
    go_ret
    exact ⟨rfl, rfl⟩
  · have hex : ¬ ∀ i, i < ls.length → (ls.getD i []).length ≤ 400 := fun h => hf ⟨by omega, h⟩
    clear hf
    go_enter Try.func13, Try.ntmps13
    go_wp2
    go_loop [3] (fun i => ∃ k : Nat, k ≤ ls.length ∧ i = .int .i64 k ∧ Hid (∀ j, j < k → (ls.getD j []).length ≤ 400)) (fun i => ls.length - (intOf i).toNat)
    case atStart => exact ⟨0, Nat.zero_le _, rfl, Lib.hid (fun j hj => by omega)⟩
    case round =>
      obtain ⟨k, hk, rfl, HJ⟩ := hrel
      by_cases hlt : k < ls.length
      · obtain ⟨b, off, rfl, hc⟩ := hr (by omega)
        obtain ⟨A', c', hcell, _, _, _, h5, _⟩ := hc k hlt
        clear hc hex
        by_cases h4 : (ls.getD k []).length ≤ 400
        · have HJ2 : Hid (∀ j, j < k + 1 → (ls.getD j []).length ≤ 400) := Lib.hid fun j hj => by
            rcases Nat.lt_or_ge j k with h1 | h1
            · exact HJ.out j h1
            · obtain rfl : j = k := by omega
              exact h4
          generalize (ls.getD k []).length = m at *
          go_wp2
          go_round
          case rel => exact ⟨k + 1, by omega, by go_num, HJ2⟩
          case measure => simp [intOf]; omega
        · generalize (ls.getD k []).length = m at *
          go_wp2
          go_ret
          exact ⟨rfl, rfl⟩
      · exact absurd (fun i hi => HJ.out i (by omega)) hex
end Go.Proofs.Ytmopipclheohcaa
