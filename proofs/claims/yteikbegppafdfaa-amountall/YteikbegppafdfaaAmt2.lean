/-
  The walks of amount's product, sum and least place.
-/
import Derived.Test.YteikbegppafdfaaAmt
import Derived.Test.YteikbegppafdfaaMem
namespace Go.Proofs.Yteikbegppafdfaa
open Go.RowKit

theorem abs_mul (a b : Int) : ((a.natAbs * b.natAbs : Nat) : Int) = if decide (a < 0) == decide (b < 0) then a * b else -(a * b) := by
  rw [← Int.natAbs_mul]
  have h1 : a < 0 → b < 0 → 0 < a * b := fun x y => Int.mul_pos_of_neg_of_neg x y
  have h2 : 0 ≤ a → 0 ≤ b → 0 ≤ a * b := fun x y => Int.mul_nonneg x y
  have h3 : a < 0 → 0 ≤ b → a * b ≤ 0 := fun x y => Int.mul_nonpos_of_nonpos_of_nonneg (by omega) y
  have h4 : 0 ≤ a → b < 0 → a * b ≤ 0 := fun x y => Int.mul_nonpos_of_nonneg_of_nonpos x (by omega)
  generalize a * b = p at *
  by_cases ha : a < 0 <;> by_cases hb : b < 0 <;> simp [ha, hb] <;> omega

set_option maxHeartbeats 400000 in
theorem mul_any (a b : Int) (ha : I64 a) (hb : I64 b) (w : World) :
    Calls Try.prog 11 #[.int .i64 a, .int .i64 b] w fun e w' => e = .returned (.tuple #[.int .i64 (held (a * b)), .bool (fits (a * b))]) ∧ w = w' := by
  have hab := abs_mul a b
  have c1 := Lib.hid (size_any a ha)
  have c2 := Lib.hid (size_any b hb)
  unfold I64 at ha hb
  have hx : a.natAbs < 18446744073709551616 := by omega
  have hy : b.natAbs < 18446744073709551616 := by omega
  generalize a.natAbs = x at *
  generalize b.natAbs = y at *
  have c3 := Lib.hid (bits_mul64 x y hx hy)
  generalize x * y = p at *
  by_cases hp : p < 18446744073709551616
  · have e1 : p / 18446744073709551616 = 0 := by omega
    have e2 : p % 18446744073709551616 = p := by omega
    rw [e1, e2] at c3
    clear e1 e2
    by_cases hs : decide (a < 0) == decide (b < 0)
    · rw [if_pos hs] at hab
      have c4 : ∀ w, Calls Try.prog 25 #[.int .u64 p, .bool false] w fun e w' => e = .returned (.tuple #[.int .i64 (held (a * b)), .bool (fits (a * b))]) ∧ w = w' := by
        intro w; rw [← hab]; exact signed_no p (by omega) w
      have C4 := Lib.hid c4
      have hs' : (!(decide (a < 0) == decide (b < 0))) = false := by rw [hs]; rfl
      clear hab hs ha hb hx hy c4
      go_enter Try.func11, Try.ntmps11
      go_wp2_with (first | (go_at_call 18; first | ((with_reducible refine (c1.out _).mono ?_); rintro e w' ⟨rfl, rfl⟩) | ((with_reducible refine (c2.out _).mono ?_); rintro e w' ⟨rfl, rfl⟩)) | (go_at_call 24; refine (c3.out _).mono ?_; rintro e w' ⟨rfl, rfl⟩) | (go_at_call 25; refine (C4.out _).mono ?_; rintro e w' ⟨rfl, rfl⟩))
      go_ret2
      exact ⟨rfl, rfl⟩
    · rw [if_neg hs] at hab
      have hab' : a * b = -(p : Int) := by omega
      have c4 : ∀ w, Calls Try.prog 25 #[.int .u64 p, .bool true] w fun e w' => e = .returned (.tuple #[.int .i64 (held (a * b)), .bool (fits (a * b))]) ∧ w = w' := by
        intro w; rw [hab']; exact signed_yes p (by omega) w
      have C4 := Lib.hid c4
      have hs' : (!(decide (a < 0) == decide (b < 0))) = true := by simpa using hs
      clear hab hs ha hb hx hy c4 hab'
      go_enter Try.func11, Try.ntmps11
      go_wp2_with (first | (go_at_call 18; first | ((with_reducible refine (c1.out _).mono ?_); rintro e w' ⟨rfl, rfl⟩) | ((with_reducible refine (c2.out _).mono ?_); rintro e w' ⟨rfl, rfl⟩)) | (go_at_call 24; refine (c3.out _).mono ?_; rintro e w' ⟨rfl, rfl⟩) | (go_at_call 25; refine (C4.out _).mono ?_; rintro e w' ⟨rfl, rfl⟩))
      go_ret2
      exact ⟨rfl, rfl⟩
  · have hn : ¬ I64 (a * b) := by
      unfold I64
      split at hab <;> omega
    rw [held_not hn, fits_not hn]
    have hq : 0 < p / 18446744073709551616 := by omega
    generalize p / 18446744073709551616 = q at *
    have hq' : ((q : Int) != 0) = true := by rw [bne_iff_ne]; omega
    clear hab ha hb hx hy hn hp
    go_enter Try.func11, Try.ntmps11
    go_wp2_with (first | (go_at_call 18; first | ((with_reducible refine (c1.out _).mono ?_); rintro e w' ⟨rfl, rfl⟩) | ((with_reducible refine (c2.out _).mono ?_); rintro e w' ⟨rfl, rfl⟩)) | (go_at_call 24; refine (c3.out _).mono ?_; rintro e w' ⟨rfl, rfl⟩))
    go_ret2
    exact ⟨rfl, rfl⟩

set_option maxHeartbeats 400000 in
theorem signWord_any (x : Int) (hx : I64 x) (w : World) :
    Calls Try.prog 32 #[.int .i64 x] w fun e w' => e = .returned (.int .u64 (sgnW x)) ∧ w = w' := by
  unfold I64 at hx
  go_enter Try.func32, Try.ntmps32
  go_wp2
  go_ret
  refine ⟨ret_int ?_, rfl⟩
  rw [IntKind.wrap_u64]
  unfold sgnW
  split <;> omega

theorem take_sum (l : List Int) (k : Nat) (h : k < l.length) : (l.take (k + 1)).sum = (l.take k).sum + l.getD k 0 := by
  rw [List.take_succ_eq_append_getElem h, List.sum_append, List.getD_eq_getElem?_getD, List.getElem?_eq_getElem h]
  simp

theorem take_bound (l : List Int) (hl : ∀ x ∈ l, I64 x) (k : Nat) (hk : k ≤ l.length) : -(9223372036854775808 * (k : Int)) ≤ (l.take k).sum ∧ (l.take k).sum ≤ 9223372036854775808 * (k : Int) := by
  induction k with
  | zero => simp
  | succ k ih =>
    have h := ih (by omega)
    have hx := hl (l.getD k 0) (by rw [List.getD_eq_getElem?_getD, List.getElem?_eq_getElem (by omega)]; simp)
    unfold I64 at hx
    rw [take_sum l k (by omega)]
    omega

set_option maxHeartbeats 1000000 in
theorem sum_any (A : Option Addr) (l : List Int) (c : Nat) (w : World) (hr : Ints w .i64 A l) (hl : ∀ x ∈ l, I64 x) (hn : l.length ≤ 9223372036854775807) :
    Calls Try.prog 19 #[.slice A l.length c] w fun e w' => e = .returned (.tuple #[.int .i64 (held l.sum), .bool (fits l.sum)]) ∧ w = w' := by
  go_enter Try.func19, Try.ntmps19
  go_wp2
  go_loop [4, 5, 12] (fun hi lo i => ∃ k : Nat, k ≤ l.length ∧ i = .int .i64 k ∧ hi = .int .u64 (lo64 (up64 (l.take k).sum)) ∧ lo = .int .u64 (lo64 (l.take k).sum)) (fun _ _ i => l.length - (intOf i).toNat)
  case atStart => exact ⟨0, Nat.zero_le _, rfl, rfl, rfl⟩
  case round =>
    obtain ⟨k, hk, rfl, rfl, rfl⟩ := hrel
    have hb := take_bound l hl k hk
    by_cases hlt : k < l.length
    · obtain ⟨b, off, rfl, hc⟩ := hr (by omega)
      have hcell := hc k hlt
      have hx := hl (l.getD k 0) (by rw [List.getD_eq_getElem?_getD, List.getElem?_eq_getElem hlt]; simp)
      have hts := take_sum l k hlt
      generalize (l.take k).sum = S at *
      generalize l.getD k 0 = x at *
      have H1 := Lib.hid (step_lo S x)
      have H2 := Lib.hid (step_hi S x hx)
      have hca := step_ca S x
      have C := Lib.hid (signWord_any x hx)
      have HT := Lib.hid hts
      have n1 := lo64_nn S
      have n2 := lo64_nn x
      have n3 := lo64_nn (up64 S)
      have n4 := sgnW_nn x
      unfold I64 at hx
      clear hts hc hr hl
      have A1 := Lib.hid (bits_add64_0 (lo64 S) (lo64 x) n1 n2)
      have A2 := Lib.hid (bits_add64 (lo64 (up64 S)) (sgnW x) (up64 (lo64 S + lo64 x)) n3 n4 hca.1 hca.2)
      go_wp2_with (first | (go_at_call 32; refine (C.out _).mono ?_; rintro e w' ⟨rfl, rfl⟩) | simp only [wrapu, A1.out, A2.out])
      go_round
      case rel => exact ⟨k + 1, by omega, by go_num, by rw [HT.out, H2.out], by rw [HT.out, H1.out]⟩
      case measure => simp [intOf]; omega
    · have hkl : k = l.length := by omega
      subst hkl
      rw [List.take_length] at hb ⊢
      have h2 := two_words l.sum (by omega)
      have h1 := one_word l.sum
      have hw : I64 (wrap64 (lo64 l.sum)) := by unfold I64 wrap64; omega
      have C := Lib.hid (signWord_any (wrap64 (lo64 l.sum)) hw)
      have n1 := lo64_nn l.sum
      have n2 := lo64_nn (up64 l.sum)
      have n3 := lo64_le l.sum
      by_cases h : I64 l.sum
      · have e1 : (lo64 (up64 l.sum) != sgnW (wrap64 (lo64 l.sum))) = false := by rw [h2.2 h]; simp
        have H1 := Lib.hid ((h1 h).trans (held_of h).symm)
        have H2 := Lib.hid (fits_of h).symm
        clear h2 h1 hw hb hr hl h
        go_wp2_with (first | (go_at_call 32; refine (C.out _).mono ?_; rintro e w' ⟨rfl, rfl⟩))
        go_ret2
        exact ⟨ret_two H1.out H2.out, rfl⟩
      · have e1 : (lo64 (up64 l.sum) != sgnW (wrap64 (lo64 l.sum))) = true := by rw [bne_iff_ne]; exact fun e => h (h2.1 e)
        have H1 := Lib.hid (held_not h).symm
        have H2 := Lib.hid (fits_not h).symm
        clear h2 h1 hw hb hr hl h
        go_wp2_with (first | (go_at_call 32; refine (C.out _).mono ?_; rintro e w' ⟨rfl, rfl⟩))
        go_ret2
        exact ⟨ret_two H1.out H2.out, rfl⟩

/-- What Least tells of numbers that are some. -/
def LeastAt (l : List Int) (w : World) (e : Ending) (w' : World) : Prop :=
  (∃ k : Nat, k < l.length ∧ (∀ j, j < l.length → l.getD k 0 ≤ l.getD j 0) ∧ (∀ j, j < k → l.getD k 0 < l.getD j 0) ∧ e = .returned (.tuple #[.int .i64 k, .bool true])) ∧ w = w'

set_option maxHeartbeats 400000 in
theorem least_none (A : Option Addr) (c : Nat) (w : World) :
    Calls Try.prog 20 #[.slice A 0 c] w fun e w' => e = .returned (.tuple #[.int .i64 0, .bool false]) ∧ w = w' := by
  go_enter Try.func20, Try.ntmps20
  go_wp2
  go_ret2
  exact ⟨rfl, rfl⟩

/-- At is the first place of the least among the first k. -/
def LeastTo (l : List Int) (k at_ : Nat) : Prop :=
  at_ < l.length ∧ (∀ j, j < k → l.getD at_ 0 ≤ l.getD j 0) ∧ (∀ j, j < at_ → l.getD at_ 0 < l.getD j 0)
theorem leastTo_zero (l : List Int) (h : 0 < l.length) : LeastTo l 0 0 := ⟨h, fun _ h => absurd h (by omega), fun _ h => absurd h (by omega)⟩
theorem leastTo_less {l : List Int} {k a : Nat} (h : LeastTo l k a) (hk : k < l.length) (hl : l.getD k 0 < l.getD a 0) : LeastTo l (k + 1) k := by
  obtain ⟨_, h2, _⟩ := h
  refine ⟨hk, fun j hj => ?_, fun j hj => ?_⟩
  · by_cases e : j = k
    · subst e; omega
    · have := h2 j (by omega); omega
  · have := h2 j hj; omega
theorem leastTo_same {l : List Int} {k a : Nat} (h : LeastTo l k a) (hl : ¬ l.getD k 0 < l.getD a 0) : LeastTo l (k + 1) a := by
  obtain ⟨h1, h2, h3⟩ := h
  refine ⟨h1, fun j hj => ?_, h3⟩
  by_cases e : j = k
  · subst e; omega
  · exact h2 j (by omega)

set_option maxHeartbeats 1000000 in
theorem least_some (A : Option Addr) (l : List Int) (c : Nat) (w : World) (hr : Ints w .i64 A l) (h0 : 0 < l.length) (hn : l.length ≤ 9223372036854775807) :
    Calls Try.prog 20 #[.slice A l.length c] w (LeastAt l w) := by
  obtain ⟨b, off, rfl, hc⟩ := hr h0
  have hz : ((l.length : Int) == 0) = false := beq_eq_false_iff_ne.2 (by omega)
  go_enter Try.func20, Try.ntmps20
  go_wp2
  go_loop [4, 12] (fun a i => ∃ k p : Nat, k ≤ l.length ∧ i = .int .i64 k ∧ a = .int .i64 p ∧ p < l.length ∧ Hid (LeastTo l k p)) (fun _ i => l.length - (intOf i).toNat)
  case atStart => exact ⟨0, 0, Nat.zero_le _, rfl, rfl, h0, Lib.hid (leastTo_zero l h0)⟩
  case round =>
    obtain ⟨k, p, hk, rfl, rfl, hp, HL⟩ := hrel
    by_cases hlt : k < l.length
    · have c1 := hc k hlt
      have c2 := hc p hp
      by_cases hx : l.getD k 0 < l.getD p 0
      · have HN := Lib.hid (leastTo_less HL.out hlt hx)
        generalize l.getD k 0 = x at *
        generalize l.getD p 0 = y at *
        clear hc
        go_wp2
        go_round
        case rel => exact ⟨k + 1, k, by omega, by go_num, rfl, hlt, HN⟩
        case measure => simp [intOf]; omega
      · have HN := Lib.hid (leastTo_same HL.out hx)
        generalize l.getD k 0 = x at *
        generalize l.getD p 0 = y at *
        clear hc
        go_wp2
        go_round
        case rel => exact ⟨k + 1, p, by omega, by go_num, rfl, hp, HN⟩
        case measure => simp [intOf]; omega
    · have hkl : k = l.length := by omega
      subst hkl
      go_wp2
      go_ret2
      exact ⟨⟨p, HL.out.1, HL.out.2.1, HL.out.2.2, rfl⟩, rfl⟩
end Go.Proofs.Yteikbegppafdfaa
