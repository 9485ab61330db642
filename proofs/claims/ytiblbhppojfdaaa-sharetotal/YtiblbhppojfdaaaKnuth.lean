/-
  Long division of two words by one, in halves of 32 bits: plain numbers. No program is named here.
-/
namespace Go.Proofs.Ytiblbhppojfdaaa

/-- While a quotient's half is guessed: r is what is left of u by the divisor's upper half, q is not too small. -/
def Guess (a b u v q r : Nat) : Prop :=
  r + q * a = u ∧ (u * 4294967296 + v) / (a * 4294967296 + b) ≤ q ∧ q ≤ 4294967297
/-- The quotient's half. -/
def halfQ (a b u v : Nat) : Nat := (u * 4294967296 + v) / (a * 4294967296 + b)

theorem guess_first {a b u v : Nat} (ha : 2147483648 ≤ a) (ha2 : a < 4294967296) (hb : b < 4294967296) (hv : v < 4294967296) (hu : u < a * 4294967296 + b) :
    Guess a b u v (u / a) (u - u / a * a) ∧ u - u / a * a < a ∧ u / a * a ≤ u := by
  have h0 : u / a * a ≤ u := Nat.div_mul_le_self u a
  have h1 : u - u / a * a < a := by
    have := Nat.div_add_mod u a
    have h2 := Nat.mod_lt u (show a > 0 by omega)
    rw [Nat.mul_comm] at this
    omega
  refine ⟨⟨by omega, ?_, ?_⟩, h1, h0⟩
  · have hq : u < (u / a + 1) * a := by rw [Nat.add_mul]; omega
    apply Nat.le_of_lt_succ
    rw [Nat.div_lt_iff_lt_mul (by omega)]
    have e : (u / a).succ * (a * 4294967296 + b) = (u / a + 1) * a * 4294967296 + (u / a).succ * b := by
      rw [Nat.mul_add, ← Nat.mul_assoc]
    rw [e]
    have h3 : (u + 1) * 4294967296 ≤ (u / a + 1) * a * 4294967296 := Nat.mul_le_mul_right _ hq
    omega
  · apply Nat.le_of_lt_succ
    rw [Nat.div_lt_iff_lt_mul (by omega)]
    have e : 4294967297 * a ≥ 0 := Nat.zero_le _
    omega

theorem halfQ_lt {a b u v : Nat} (hv : v < 4294967296) (hu : u < a * 4294967296 + b) : halfQ a b u v < 4294967296 := by
  unfold halfQ
  rw [Nat.div_lt_iff_lt_mul (by omega)]
  have : (u + 1) * 4294967296 ≤ 4294967296 * (a * 4294967296 + b) := by rw [Nat.mul_comm 4294967296]; exact Nat.mul_le_mul_right _ hu
  omega

theorem guess_mul {a b u q r : Nat} (h : r + q * a = u) : q * (a * 4294967296 + b) + r * 4294967296 = u * 4294967296 + q * b := by
  rw [← h, Nat.add_mul, Nat.mul_add, Nat.mul_assoc]
  omega

/-- The guess is too great: one less is not too small. -/
theorem guess_less {a b u v q r : Nat} (hv : v < 4294967296) (hu : u < a * 4294967296 + b) (h : Guess a b u v q r) (hc : 4294967296 ≤ q ∨ 4294967296 * r + v < q * b) :
    1 ≤ q ∧ Guess a b u v (q - 1) (r + a) := by
  obtain ⟨h1, h2, h3⟩ := h
  have hlt : halfQ a b u v < q := by
    rcases hc with hc | hc
    · have := halfQ_lt (b := b) (u := u) hv hu
      omega
    · unfold halfQ
      rw [Nat.div_lt_iff_lt_mul (by omega)]
      have := guess_mul (b := b) h1
      omega
  have hq : 1 ≤ q := by omega
  refine ⟨hq, ?_, ?_, by omega⟩
  · have e : (q - 1) * a + a = q * a := by
      rw [show q * a = (q - 1 + 1) * a by rw [Nat.sub_add_cancel hq], Nat.add_mul, Nat.one_mul]
    omega
  · unfold halfQ at hlt; omega

/-- The guess is right. -/
theorem guess_right {a b u v q r : Nat} (ha : 2147483648 ≤ a) (h : Guess a b u v q r) (hc : q * b ≤ 4294967296 * r + v) : q = halfQ a b u v := by
  obtain ⟨h1, h2, _⟩ := h
  apply Nat.le_antisymm
  · unfold halfQ
    rw [Nat.le_div_iff_mul_le (by omega)]
    have := guess_mul (b := b) h1
    omega
  · exact h2
theorem guess_stop {a b u v q r : Nat} (ha : 2147483648 ≤ a) (hb : b < 4294967296) (hq : q ≤ 4294967296) (h : Guess a b u v q r) (hr : 4294967296 ≤ r) : q = halfQ a b u v := by
  refine guess_right ha h ?_
  have h1 : q * b ≤ 4294967296 * 4294967296 := Nat.mul_le_mul hq (by omega)
  have h2 : 4294967296 * 4294967296 ≤ 4294967296 * r := Nat.mul_le_mul_left _ hr
  omega

/-- Both halves. -/
theorem halves {u v1 v0 Y : Nat} (hp : 0 < Y) (q1 r1 q0 r0 : Nat) (h1 : q1 = (u * 4294967296 + v1) / Y) (e1 : r1 = (u * 4294967296 + v1) % Y) (h0 : q0 = (r1 * 4294967296 + v0) / Y) (e0 : r0 = (r1 * 4294967296 + v0) % Y) :
    q1 * 4294967296 + q0 = (u * 18446744073709551616 + v1 * 4294967296 + v0) / Y ∧ r0 = (u * 18446744073709551616 + v1 * 4294967296 + v0) % Y := by
  have k1 := Nat.div_add_mod (u * 4294967296 + v1) Y
  have k0 := Nat.div_add_mod (r1 * 4294967296 + v0) Y
  have hr := Nat.mod_lt (r1 * 4294967296 + v0) hp
  rw [← h1, ← e1] at k1
  rw [← h0, ← e0] at k0
  rw [← e0] at hr
  have key : u * 18446744073709551616 + v1 * 4294967296 + v0 = Y * (q1 * 4294967296 + q0) + r0 := by
    rw [Nat.mul_add, ← Nat.mul_assoc]
    generalize Y * q1 = P at *
    generalize Y * q0 = Q at *
    clear h1 e1 h0 e0
    omega
  rw [key]
  constructor
  · rw [Nat.mul_add_div hp, Nat.div_eq_of_lt hr, Nat.add_zero]
  · rw [Nat.mul_add_mod, Nat.mod_eq_of_lt hr]

/-- Shifted by s: the same quotient, the rest shifted. -/
theorem shifted (N y s : Nat) : N * 2 ^ s / (y * 2 ^ s) = N / y ∧ N * 2 ^ s % (y * 2 ^ s) / 2 ^ s = N % y := by
  have hp : 0 < 2 ^ s := Nat.two_pow_pos s
  constructor
  · exact Nat.mul_div_mul_right N y hp
  · rw [Nat.mul_mod_mul_right, Nat.mul_div_cancel _ hp]
end Go.Proofs.Ytiblbhppojfdaaa
