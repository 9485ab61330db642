import Derived.Test.YtmpipjangbedkaaMMem
import Derived.Laws.OwnMore
import Derived.Laws.BitsAllLaws
import Derived.Lib.Hide
import Derived.WalkKit
import Derived.IntWalk
import Derived.Laws.Bits64
import Derived.Laws.Bits64b
/-
  Words for slices of bytes in memory. No program is named here.
-/
namespace Go.Proofs.Ytmpipjangbedkaa
set_option maxRecDepth 8000
open Go.RowKit

/-- A slice value's places read as these bytes (nothing is asked of an empty one's address). -/
def Byts (w : World) (A : Option Addr) (l : List Nat) : Prop :=
  0 < l.length → ∃ b off, A = some ⟨b, off, none⟩ ∧ ∀ i, i < l.length → w.cell? ⟨b, off + i, none⟩ = some (.int .u8 ((l.getD i 0 : Nat) : Int))
theorem Byts.nil (w : World) (A : Option Addr) : Byts w A [] := fun h => absurd h (by simp)
theorem Byts.below {w w' : World} {A : Option Addr} {l : List Nat} (h : Byts w A l) (hb : Below w.heap.size w w') : Byts w' A l := by
  intro h0
  obtain ⟨b, off, e, hc⟩ := h h0
  refine ⟨b, off, e, fun i hi => ?_⟩
  rw [hb.cell (p := ⟨b, off + i, none⟩) (block_lt (hc i hi))]
  exact hc i hi
/-- The value of a byte. -/
def byteV (x : Nat) : Value := .int .u8 (x : Int)
theorem byts_own {w : World} {base : Nat} {e : TypeId} {v : Value} {n : Nat} {l : List Nat} (h : w.ownsRow base e 1 v n (l.map byteV)) :
    l.length = n ∧ ∃ A c, v = .slice A n c ∧ Byts w A l ∧ n ≤ c ∧ c ≤ 9223372036854775807 ∧ (∀ b o s, A = some ⟨b, o, s⟩ → base ≤ b) := by
  have hl : l.length = n := by have := h.1; simpa using this
  refine ⟨hl, ?_⟩
  rcases h.2 with ⟨rfl, rfl⟩ | ⟨g, cap, cur, rfl, h0, _, h1, h2, _⟩
  · exact ⟨none, 0, rfl, fun h0 => absurd h0 (by omega), Nat.le_refl _, by omega, fun _ _ _ e => by cases e⟩
  · unfold maxLen at h2
    refine ⟨some ⟨g, 0, none⟩, cap, rfl, fun h0 => ⟨g, 0, rfl, fun i hi => ?_⟩, h1, h2, fun b o s e => by injection e with e; injection e with e; omega⟩
    have hc := h.cells (g := g) rfl i (byteV (l.getD i 0)) (by rw [List.getElem?_map, List.getD_eq_getElem?_getD, List.getElem?_eq_getElem hi]; rfl)
    rw [Go.WideShapes.add_plain] at hc
    exact hc
theorem getD_oct {l : List Nat} (h : Oct l) (i : Nat) : l.getD i 0 < 256 := by
  rw [List.getD_eq_getElem?_getD]
  rcases Nat.lt_or_ge i l.length with hi | hi
  · rw [List.getElem?_eq_getElem hi]; exact h _ (List.getElem_mem hi)
  · rw [List.getElem?_eq_none hi]; simp
theorem Oct.take {l : List Nat} (h : Oct l) (k : Nat) : Oct (l.take k) := fun x hx => h x (List.mem_of_mem_take hx)
theorem Oct.drop {l : List Nat} (h : Oct l) (k : Nat) : Oct (l.drop k) := fun x hx => h x (List.mem_of_mem_drop hx)
theorem Oct.append {l r : List Nat} (h : Oct l) (k : Oct r) : Oct (l ++ r) := fun x hx => (List.mem_append.1 hx).elim (h x) (k x)
/-- A part of a slice. -/
theorem Byts.part {w : World} {b off : Nat} {l : List Nat} (h : Byts w (some ⟨b, off, none⟩) l) (k m : Nat) (hm : k + m ≤ l.length) : Byts w (some ⟨b, off + k, none⟩) ((l.drop k).take m) := by
  intro h0
  have hlen : ((l.drop k).take m).length = m := by rw [List.length_take, List.length_drop]; omega
  rw [hlen] at h0
  obtain ⟨b', off', e, hc⟩ := h (by omega)
  injection e with e; injection e with e1 e2; subst e1; subst e2
  refine ⟨b, off + k, rfl, fun i hi => ?_⟩
  rw [hlen] at hi
  rw [Nat.add_assoc, hc (k + i) (by omega)]
  rw [List.getD_eq_getElem?_getD, List.getD_eq_getElem?_getD, List.getElem?_take_of_lt hi, List.getElem?_drop]
end Go.Proofs.Ytmpipjangbedkaa

/-
  A slice of bytes that came in, as the row's frame tells of it. No program is named here.
-/
namespace Go.Proofs.Ytmpipjangbedkaa
set_option maxRecDepth 8000
open Go.RowKit

theorem wf_u8 {n : Int} (h : (Lit.int .u8 n).wf = true) : 0 ≤ n ∧ n ≤ 255 := by simp [Lit.wf, IntKind.min, IntKind.max, IntKind.bits, IntKind.signed] at h; omega
theorem wf_u16 {n : Int} (h : (Lit.int .u16 n).wf = true) : 0 ≤ n ∧ n ≤ 65535 := by simp [Lit.wf, IntKind.min, IntKind.max, IntKind.bits, IntKind.signed] at h; omega
theorem wf_u32 {n : Int} (h : (Lit.int .u32 n).wf = true) : 0 ≤ n ∧ n ≤ 4294967295 := by simp [Lit.wf, IntKind.min, IntKind.max, IntKind.bits, IntKind.signed] at h; omega
theorem row_byts {w : World} {a : Option Addr} {len cap : Nat} {zs : List Int}
    (h : (a = none ∧ len = 0 ∧ cap = 0 ∧ zs = []) ∨
      ∃ x, a = some x ∧ len ≤ cap ∧ cap ≤ maxLen ∧ zs.length = cap ∧ (∀ i, i < zs.length → w.cell? (x.add i) = some (.int .u8 (zs.getD i 0))) ∧ ∀ n ∈ zs, (Lit.int .u8 n).wf = true) :
    ∃ l : List Nat, l.length = len ∧ Byts w a l ∧ Oct l ∧ (a = none → cap = 0) ∧ len ≤ 9223372036854775807 ∧ len ≤ cap := by
  obtain ⟨l, hl, hI, hn, hw⟩ := row_ints h
  have hnn : ∀ i, i < l.length → l.getD i 0 = ((l.map Int.toNat).getD i 0 : Nat) := fun i hi => by
    have := wf_u8 (hw (l.getD i 0) (by rw [List.getD_eq_getElem?_getD, List.getElem?_eq_getElem hi]; simp))
    rw [List.getD_eq_getElem?_getD, List.getElem?_eq_getElem hi] at this
    simp only [Option.getD_some] at this
    rw [List.getD_eq_getElem?_getD, List.getD_eq_getElem?_getD, List.getElem?_map, List.getElem?_eq_getElem hi]
    simp only [Option.map_some, Option.getD_some]
    omega
  refine ⟨l.map Int.toNat, by rw [List.length_map, hl], fun h0 => ?_, fun x hx => ?_, fun e => ?_, hn, ?_⟩
  · rw [List.length_map] at h0
    obtain ⟨b, off, e, hc⟩ := hI h0
    refine ⟨b, off, e, fun i hi => ?_⟩
    rw [List.length_map] at hi
    rw [hc i hi, hnn i hi]
  · obtain ⟨y, hy, rfl⟩ := List.mem_map.1 hx
    have := wf_u8 (hw y hy)
    omega
  · rcases h with ⟨_, _, h3, _⟩ | ⟨x, h1, _⟩
    · exact h3
    · rw [e] at h1; cases h1
  · rcases h with ⟨_, h2, h3, _⟩ | ⟨x, _, h2, _⟩ <;> omega
theorem row_byts2 {w : World} {a : Option Addr} {len cap : Nat} {zs : List Int}
    (h : (a = none ∧ len = 0 ∧ cap = 0 ∧ zs = []) ∨
      ∃ x, a = some x ∧ len ≤ cap ∧ cap ≤ maxLen ∧ zs.length = cap ∧ (∀ i, i < zs.length → w.cell? (x.add i) = some (.int .u8 (zs.getD i 0))) ∧ ∀ n ∈ zs, (Lit.int .u8 n).wf = true) :
    ∃ l : List Nat, l.length = len ∧ Byts w a l ∧ Oct l ∧ (a = none → cap = 0) ∧ len ≤ 9223372036854775807 ∧ len ≤ cap ∧ cap ≤ 9223372036854775807 ∧ (cap = 0 ∨ ∃ b off, a = some ⟨b, off, none⟩) := by
  obtain ⟨l, h1, h2, h3, h4, h5, h6⟩ := row_byts h
  refine ⟨l, h1, h2, h3, h4, h5, h6, ?_, ?_⟩
  · rcases h with ⟨_, _, rfl, _⟩ | ⟨x, _, _, hm, _⟩
    · omega
    · unfold maxLen at hm; exact hm
  · rcases h with ⟨_, _, h0, _⟩ | ⟨x, rfl, _, hm, hz, hc, _⟩
    · exact .inl h0
    · by_cases h0 : cap = 0
      · exact .inl h0
      · have c0 := hc 0 (by omega)
        obtain ⟨b1, off1, s1⟩ := x
        have hspot : s1 = none := by simpa [Addr.add] using World.cell?_spot c0
        subst hspot
        exact .inr ⟨b1, off1, rfl⟩
end Go.Proofs.Ytmpipjangbedkaa

/-
  Plain numbers: what an int64 can hold, words of 64 bits, and what package amount leans on. No program is named here.
-/
namespace Go.Proofs.Ytmpipjangbedkaa
set_option maxRecDepth 8000
open Go.RowKit

/-- Can an int64 hold it? -/
def fits (x : Int) : Bool := decide (-9223372036854775808 ≤ x ∧ x ≤ 9223372036854775807)
/-- What the answer tells of an exact number. -/
def held (x : Int) : Int := if fits x then x else 0
/-- An int64. -/
def I64 (x : Int) : Prop := -9223372036854775808 ≤ x ∧ x ≤ 9223372036854775807

theorem fits_of {x : Int} (h : I64 x) : fits x = true := by unfold fits; unfold I64 at h; simp [h]
theorem held_of {x : Int} (h : I64 x) : held x = x := by unfold held; rw [fits_of h]; rfl
theorem fits_not {x : Int} (h : ¬ I64 x) : fits x = false := by unfold fits; unfold I64 at h; exact decide_eq_false h
theorem held_not {x : Int} (h : ¬ I64 x) : held x = 0 := by unfold held; rw [fits_not h]; rfl
theorem i64_held (x : Int) : I64 (held x) := by
  by_cases h : I64 x
  · rw [held_of h]; exact h
  · rw [held_not h]; unfold I64; omega
theorem fits_iff {x : Int} : fits x = true ↔ I64 x := by unfold fits I64; simp

theorem ret_int {k : IntKind} {a b : Int} (h : a = b) : Ending.returned (.int k a) = .returned (.int k b) := by rw [h]
theorem ret_two {k : IntKind} {a b : Int} {p q : Bool} (h : a = b) (h' : p = q) : Ending.returned (.tuple #[.int k a, .bool p]) = .returned (.tuple #[.int k b, .bool q]) := by rw [h, h']

/-- The lower word, and what is above it. -/
def lo64 (n : Int) : Int := n % 18446744073709551616
def up64 (n : Int) : Int := n / 18446744073709551616
/-- The upper word of an int64 as a number of 128 bits. -/
def sgnW (x : Int) : Int := if x < 0 then 18446744073709551615 else 0
theorem lo64_nn (n : Int) : 0 ≤ lo64 n := by unfold lo64; omega
theorem lo64_le (n : Int) : lo64 n ≤ 18446744073709551615 := by unfold lo64; omega
theorem sgnW_nn (n : Int) : 0 ≤ sgnW n := by unfold sgnW; split <;> omega
theorem sgnW_le (n : Int) : sgnW n ≤ 18446744073709551615 := by unfold sgnW; split <;> omega
theorem wrapu (n : Int) : IntKind.u64.wrap n = lo64 n := IntKind.wrap_u64 n

/-- One step of a sum in two words. -/
theorem step_lo (S x : Int) : lo64 (lo64 S + lo64 x) = lo64 (S + x) := by unfold lo64; omega
theorem step_ca (S x : Int) : 0 ≤ up64 (lo64 S + lo64 x) ∧ up64 (lo64 S + lo64 x) ≤ 1 := by unfold up64 lo64; omega
theorem step_hi (S x : Int) (hx : I64 x) : lo64 (lo64 (up64 S) + sgnW x + up64 (lo64 S + lo64 x)) = lo64 (up64 (S + x)) := by
  unfold I64 at hx
  unfold sgnW lo64 up64
  split <;> omega
/-- What the two words tell. -/
theorem two_words (S : Int) (h : -85070591730234615865843651857942052864 ≤ S ∧ S ≤ 85070591730234615865843651857942052864) : (lo64 (up64 S) = sgnW (wrap64 (lo64 S))) ↔ I64 S := by
  unfold sgnW lo64 up64 I64 wrap64
  split <;> omega
theorem one_word (S : Int) (h : I64 S) : wrap64 (lo64 S) = S := by
  unfold I64 at h
  unfold lo64 wrap64
  omega

theorem mask32 (a : Nat) (ha : a < 18446744073709551616) : bits .and .u64 (a : Int) 4294967295 = ((a % 4294967296 : Nat) : Int) := by
  have h := bits_and_u64_nat a 4294967295 ha (by omega)
  rw [show a &&& 4294967295 = a % 4294967296 from Nat.and_two_pow_sub_one_eq_mod a 32] at h
  exact h
theorem divN (a : Nat) : (a : Int) / 4294967296 = ((a / 4294967296 : Nat) : Int) := by omega
theorem mulN (a b : Nat) : (a : Int) * (b : Int) = ((a * b : Nat) : Int) := (Int.natCast_mul a b).symm
theorem addN (a b : Nat) : (a : Int) + (b : Int) = ((a + b : Nat) : Int) := (Int.natCast_add a b).symm
theorem wrapN (a : Nat) (ha : a < 18446744073709551616) : IntKind.u64.wrap (a : Int) = (a : Int) := by rw [IntKind.wrap_u64]; omega
theorem wrapM (a : Nat) : IntKind.u64.wrap (a : Int) = ((a % 18446744073709551616 : Nat) : Int) := by rw [IntKind.wrap_u64]; omega

theorem mask32i (a : Int) (h0 : 0 ≤ a) (h1 : a < 18446744073709551616) : bits .and .u64 a 4294967295 = a % 4294967296 := by
  obtain ⟨n, rfl⟩ := Int.eq_ofNat_of_zero_le h0
  rw [mask32 n (by omega)]
  omega

theorem take_sum (l : List Int) (k : Nat) (h : k < l.length) : (l.take (k + 1)).sum = (l.take k).sum + l.getD k 0 := by
  rw [List.take_succ_eq_append_getElem h, List.sum_append, List.getD_eq_getElem?_getD, List.getElem?_eq_getElem h]
  simp

theorem take_bound (l : List Int) (hl : ∀ x ∈ l, I64 x) (k : Nat) (hk : k ≤ l.length) : -(9223372036854775808 * (k : Int)) ≤ (l.take k).sum ∧ (l.take k).sum ≤ 9223372036854775808 * (k : Int) := by
  induction k with
  | zero => simp
  | succ k ih =>
    have h := ih (by omega)
    have hx := hl (l.getD k 0) (by rw [List.getD_eq_getElem?_getD, List.getElem?_eq_getElem (by omega)]; simp)
    unfold I64 at hx
    rw [take_sum l k (by omega)]
    omega

end Go.Proofs.Ytmpipjangbedkaa
