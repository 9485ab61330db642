/-
  The walks of package share's small calls: anyBelowZero, anyAboveZero, areWeights, part, openWeights.
-/
import Derived.Test.YtiblbhppojfdaaaSh1
import Derived.Test.YtiblbhppojfdaaaWd6
import Derived.Test.YtiblbhppojfdaaaWd10
namespace Go.Proofs.Ytiblbhppojfdaaa
open Go.RowKit

set_option maxRecDepth 8000 in
set_option maxHeartbeats 400000 in
theorem containsBelow_any (A : Option Addr) (l : List Int) (c : Nat) (w : World) (hr : Ints w .i64 A l) (hn : l.length ≤ 9223372036854775807) (p : Int → Bool) (hp : Hid (∀ x w, Calls Try.prog 78 #[.int .i64 x] w fun e w' => e = .returned (.bool (p x)) ∧ w = w')) :
    Calls Try.prog 72 #[.slice A l.length c, .func (.func 78) #[] #[]] w fun e w' => e = .returned (.bool (l.any p)) ∧ w = w' := by
  have C := Lib.hid (indexBelow_any A l c w hr hn p hp)
  have HF := Lib.hid (firstAt_nn p l 0)
  clear hr hp
  generalize firstAt p l 0 = x at *
  go_enter Try.func72, Try.ntmps72
  go_wp2_with (go_at_call 82; refine C.out.mono ?_; rintro e w' ⟨rfl, rfl⟩)
  go_ret
  exact ⟨by rw [← HF.out]; rfl, rfl⟩
set_option maxRecDepth 8000 in
set_option maxHeartbeats 400000 in
theorem containsAbove_any (A : Option Addr) (l : List Int) (c : Nat) (w : World) (hr : Ints w .i64 A l) (hn : l.length ≤ 9223372036854775807) (p : Int → Bool) (hp : Hid (∀ x w, Calls Try.prog 73 #[.int .i64 x] w fun e w' => e = .returned (.bool (p x)) ∧ w = w')) :
    Calls Try.prog 72 #[.slice A l.length c, .func (.func 73) #[] #[]] w fun e w' => e = .returned (.bool (l.any p)) ∧ w = w' := by
  have C := Lib.hid (indexAbove_any A l c w hr hn p hp)
  have HF := Lib.hid (firstAt_nn p l 0)
  clear hr hp
  generalize firstAt p l 0 = x at *
  go_enter Try.func72, Try.ntmps72
  go_wp2_with (go_at_call 82; refine C.out.mono ?_; rintro e w' ⟨rfl, rfl⟩)
  go_ret
  exact ⟨by rw [← HF.out]; rfl, rfl⟩

set_option maxRecDepth 8000 in
set_option maxHeartbeats 400000 in
theorem anyNeg_any (A : Option Addr) (l : List Int) (c : Nat) (w : World) (hr : Ints w .i64 A l) (hn : l.length ≤ 9223372036854775807) :
    Calls Try.prog 67 #[.slice A l.length c] w fun e w' => e = .returned (.bool (anyNeg l)) ∧ w = w' := by
  have C := Lib.hid (containsBelow_any A l c w hr hn _ (Lib.hid isNeg_any))
  have HF : Hid (l.any (fun x => decide (x < 0)) = anyNeg l) := Lib.hid rfl
  rw [HF.out] at C
  clear hr HF
  generalize anyNeg l = x at *
  go_enter Try.func67, Try.ntmps67
  go_wp2_with (go_at_call 72; refine C.out.mono ?_; rintro e w' ⟨rfl, rfl⟩)
  go_ret
  exact ⟨rfl, rfl⟩

set_option maxRecDepth 8000 in
set_option maxHeartbeats 400000 in
theorem anyPos_any (A : Option Addr) (l : List Int) (c : Nat) (w : World) (hr : Ints w .i64 A l) (hn : l.length ≤ 9223372036854775807) :
    Calls Try.prog 56 #[.slice A l.length c] w fun e w' => e = .returned (.bool (anyPos l)) ∧ w = w' := by
  have C := Lib.hid (containsAbove_any A l c w hr hn _ (Lib.hid isPos_any))
  have HF : Hid (l.any (fun x => decide (0 < x)) = anyPos l) := Lib.hid rfl
  rw [HF.out] at C
  clear hr HF
  generalize anyPos l = x at *
  go_enter Try.func56, Try.ntmps56
  go_wp2_with (go_at_call 72; refine C.out.mono ?_; rintro e w' ⟨rfl, rfl⟩)
  go_ret
  exact ⟨rfl, rfl⟩

/-- May these be weights? -/
def areW (l : List Int) : Bool := decide (l.length ≤ 64) && !anyNeg l

set_option maxRecDepth 8000 in
set_option maxHeartbeats 400000 in
theorem areW_any (A : Option Addr) (l : List Int) (c : Nat) (w : World) (hr : Ints w .i64 A l) (hn : l.length ≤ 9223372036854775807) :
    Calls Try.prog 55 #[.slice A l.length c] w fun e w' => e = .returned (.bool (areW l)) ∧ w = w' := by
  have C := Lib.hid (anyNeg_any A l c w hr hn)
  unfold areW
  clear hr
  by_cases h : l.length ≤ 64
  · have d1 : decide ((l.length : Int) ≤ 64) = true := by simp; omega
    have d2 : decide (l.length ≤ 64) = true := by simp [h]
    rw [d2]
    generalize anyNeg l = x at *
    clear d2
    cases x
    · go_enter Try.func55, Try.ntmps55
      go_wp2_with (go_at_call 67; refine C.out.mono ?_; rintro e w' ⟨rfl, rfl⟩)
      go_ret
      exact ⟨rfl, rfl⟩
    · go_enter Try.func55, Try.ntmps55
      go_wp2_with (go_at_call 67; refine C.out.mono ?_; rintro e w' ⟨rfl, rfl⟩)
      go_ret
      exact ⟨rfl, rfl⟩
  · have d1 : decide ((l.length : Int) ≤ 64) = false := by simp; omega
    have d2 : decide (l.length ≤ 64) = false := by simp [h]
    rw [d2]
    clear d2 C
    go_enter Try.func55, Try.ntmps55
    go_wp2
    go_ret
    exact ⟨rfl, rfl⟩

theorem mul_i64_w128 {a b : Int} (ha : I64 a) (hb : I64 b) : W128 (a * b) := by
  have h : (a * b).natAbs ≤ 85070591730234615865843651857942052864 := by
    rw [Int.natAbs_mul]
    have h1 := i64_nat ha
    have h2 := i64_nat hb
    exact Nat.le_trans (Nat.mul_le_mul h1 h2) (by omega)
  unfold W128; omega

set_option maxRecDepth 8000 in
set_option maxHeartbeats 1000000 in
theorem part_any (t x s : Int) (ht : I64 t) (hx : I64 x) (hs : 1 ≤ s) (hs1 : I64 s) (w : World) :
    Calls Try.prog 58 #[.int .i64 t, .int .i64 x, .int .i64 s] w fun e w' => e = .returned (.tuple #[.int .i64 (held (t * x / s)), .int .i64 (t * x % s)]) ∧ Below w.heap.size w w' := by
  have hp := mul_i64_w128 ht hx
  have hq : W128 (t * x / s) := by
    unfold W128 at hp ⊢
    generalize t * x = p at *
    constructor
    · exact Int.le_ediv_of_mul_le (by omega) (Int.le_trans (Int.mul_le_mul_of_nonpos_left (by omega) hs) (by omega))
    · by_cases h0 : 0 ≤ p
      · exact Int.le_trans (Int.ediv_le_self s h0) hp.2
      · have := Int.ediv_neg_of_neg_of_pos (a := p) (b := s) (by omega) (by omega)
        omega
  have c1 := Lib.hid (wmul_any t x ht hx)
  have c2 := Lib.hid (wdiv_any (t * x) s hp hs hs1)
  have c3 := Lib.hid (wint_any (t * x / s) hq)
  clear hq hp
  generalize t * x / s = q at *
  generalize t * x % s = r at *
  generalize t * x = p at *
  generalize held q = hq at *
  generalize fits q = fq at *
  generalize up64 q = qh at *
  generalize lo64 q = ql at *
  generalize up64 p = ph at *
  generalize lo64 p = pl at *
  unfold I64 at ht hx hs1
  go_enter Try.func58, Try.ntmps58
  go_wp2_with (first
    | (go_at_call 21; refine (c1.out _).mono ?_; rintro e w1 ⟨rfl, hb1⟩; have HB1 := Lib.hid hb1; clear hb1)
    | (go_at_call 31; refine (c2.out _).mono ?_; rintro e w2 ⟨rfl, hb2⟩; have HB2 := Lib.hid (HB1.out.trans (hb2.mono HB1.out.size)); clear hb2)
    | (go_at_call 12; refine (c3.out _).mono ?_; rintro e w3 ⟨rfl, hb3⟩; have HB3 := Lib.hid (show Below w.heap.size w w3 from (HB2.out.alloc HB2.out.size _).trans (hb3.mono (Nat.le_trans HB2.out.size (by simp)))); clear hb3))
  go_ret2
  exact ⟨rfl, HB3.out⟩

/-- The weights of those that lack something to their cap. -/
def openL (w s c : List Int) : List Int := (List.range w.length).map fun i => if s.getD i 0 < c.getD i 0 then w.getD i 0 else 0
theorem openL_length (w s c : List Int) : (openL w s c).length = w.length := by simp [openL]
theorem openL_getD (w s c : List Int) (i : Nat) (h : i < w.length) : (openL w s c).getD i 0 = if s.getD i 0 < c.getD i 0 then w.getD i 0 else 0 := by
  unfold openL
  rw [getD_map _ _ _ 0 (by simpa using h)]
  simp [List.getD_eq_getElem?_getD, h]
end Go.Proofs.Ytiblbhppojfdaaa
