/-
  What math/bits.Div64 leans on: its words, shifted.
-/
import Derived.Test.YtiblbhppojfdaaaKnuth
import Derived.Test.YtiblbhppojfdaaaNum
namespace Go.Proofs.Ytiblbhppojfdaaa
open Go.RowKit

/-- The words that the division works with, and what they are. -/
structure Shift (hi lo y s : Nat) (Y a b u v v1 v0 : Nat) : Prop where
  eY : IntKind.u64.wrap ((y : Int) * 2 ^ s) = (Y : Int)
  ea : (Y : Int) / 4294967296 = (a : Int)
  eb : bits .and .u64 (Y : Int) 4294967295 = (b : Int)
  eu : bits .or .u64 (IntKind.u64.wrap ((hi : Int) * 2 ^ s)) ((lo : Int) / 2 ^ (64 - s)) = (u : Int)
  ev : IntKind.u64.wrap ((lo : Int) * 2 ^ s) = (v : Int)
  ev1 : (v : Int) / 4294967296 = (v1 : Int)
  ev0 : bits .and .u64 (v : Int) 4294967295 = (v0 : Int)
  ha : 2147483648 ≤ a
  ha2 : a < 4294967296
  hb : b < 4294967296
  hY : Y = a * 4294967296 + b
  hu : u < Y
  hv1 : v1 < 4294967296
  hv0 : v0 < 4294967296
  hN : (hi * 18446744073709551616 + lo) * 2 ^ s = u * 18446744073709551616 + v1 * 4294967296 + v0
  hYs : Y = y * 2 ^ s

theorem shift_words (hi lo y n s : Nat) (hn : 1 ≤ n) (h1 : 2 ^ (n - 1) ≤ y) (h2 : y < 2 ^ n) (hs : n + s = 64) (hh : hi < y) (hl : lo < 18446744073709551616) :
    ∃ Y a b u v v1 v0 : Nat, Shift hi lo y s Y a b u v v1 v0 := by
  have hp : 0 < 2 ^ s := Nat.two_pow_pos s
  have e64 : 2 ^ n * 2 ^ s = 18446744073709551616 := by rw [← Nat.pow_add, hs]
  have e63 : 2 ^ (n - 1) * 2 ^ s = 9223372036854775808 := by
    rw [← Nat.pow_add, show n - 1 + s = 63 by omega]
  have en : 64 - s = n := by omega
  have hY1 : y * 2 ^ s < 18446744073709551616 := by rw [← e64]; exact Nat.mul_lt_mul_of_pos_right h2 hp
  have hY2 : 9223372036854775808 ≤ y * 2 ^ s := by rw [← e63]; exact Nat.mul_le_mul_right _ h1
  have hH1 : hi * 2 ^ s < 18446744073709551616 := by rw [← e64]; exact Nat.mul_lt_mul_of_pos_right (by omega) hp
  have hq : lo / 2 ^ n < 2 ^ s := by
    rw [Nat.div_lt_iff_lt_mul (Nat.two_pow_pos n), Nat.mul_comm, e64]
    exact hl
  have hdiv : lo * 2 ^ s / 18446744073709551616 = lo / 2 ^ n := by
    rw [← e64]
    exact Nat.mul_div_mul_right lo (2 ^ n) hp
  have hdm := Nat.div_add_mod (lo * 2 ^ s) 18446744073709551616
  rw [hdiv] at hdm
  have hm := Nat.mod_lt (lo * 2 ^ s) (show 18446744073709551616 > 0 by omega)
  have hN : (hi * 18446744073709551616 + lo) * 2 ^ s = (hi * 2 ^ s + lo / 2 ^ n) * 18446744073709551616 + lo * 2 ^ s % 18446744073709551616 := by
    rw [Nat.add_mul, Nat.mul_right_comm]
    omega
  have hlt : (hi * 18446744073709551616 + lo) * 2 ^ s < y * 2 ^ s * 18446744073709551616 := by
    rw [Nat.mul_right_comm y]
    refine Nat.mul_lt_mul_of_pos_right ?_ hp
    omega
  have eor : hi * 2 ^ s ||| lo / 2 ^ n = hi * 2 ^ s + lo / 2 ^ n := by
    rw [show hi * 2 ^ s = hi <<< s from by rw [Nat.shiftLeft_eq], Nat.shiftLeft_add_eq_or_of_lt hq]
  have q64 : lo / 2 ^ n < 18446744073709551616 := Nat.lt_of_le_of_lt (Nat.div_le_self _ _) hl
  have c1 : ((y : Int) * 2 ^ s) = ((y * 2 ^ s : Nat) : Int) := by simp
  have c2 : ((hi : Int) * 2 ^ s) = ((hi * 2 ^ s : Nat) : Int) := by simp
  have c3 : ((lo : Int) * 2 ^ s) = ((lo * 2 ^ s : Nat) : Int) := by simp
  have c4 : ((lo : Int) / 2 ^ (64 - s)) = ((lo / 2 ^ n : Nat) : Int) := by rw [en]; simp
  generalize hYY : y * 2 ^ s = Y at *
  generalize hi * 2 ^ s = H at *
  generalize lo / 2 ^ n = q at *
  generalize hvv : lo * 2 ^ s % 18446744073709551616 = v at *
  refine ⟨Y, Y / 4294967296, Y % 4294967296, H + q, v, v / 4294967296, v % 4294967296, ?_⟩
  constructor
  · rw [c1, wrapN _ hY1]
  · omega
  · exact mask32 Y hY1
  · rw [c2, wrapN _ hH1, c4, bits_or_u64_nat H q hH1 q64, eor]
  · rw [c3, wrapM, hvv]
  · omega
  · exact mask32 v hm
  · omega
  · omega
  · omega
  · omega
  · omega
  · omega
  · omega
  · rw [hN]; omega
  · rw [hYY]

/-- What is left when a half of the quotient is known: the next word. -/
theorem next_word (a b u v q Y : Nat) (hY : Y = a * 4294967296 + b) (hY64 : Y < 18446744073709551616) (hq : q = halfQ a b u v) (hp : 0 < Y) :
    IntKind.u64.wrap (IntKind.u64.wrap (IntKind.u64.wrap ((u : Int) * 4294967296) + (v : Int)) - IntKind.u64.wrap ((q : Int) * (Y : Int))) = (((u * 4294967296 + v) % Y : Nat) : Int) := by
  have h := Nat.div_add_mod (u * 4294967296 + v) Y
  have hlt := Nat.mod_lt (u * 4294967296 + v) hp
  unfold halfQ at hq
  rw [← hY] at hq
  rw [← hq, Nat.mul_comm] at h
  rw [mulN, wrapu, wrapu, wrapu, wrapu]
  generalize q * Y = P at *
  generalize (u * 4294967296 + v) % Y = x at *
  unfold lo64
  omega

/-- Both halves of the quotient, and the rest. -/
theorem whole_words {hi lo y s Y a b u v v1 v0 : Nat} (h : Shift hi lo y s Y a b u v v1 v0) (hp : 0 < Y) {q1 q0 : Nat} (h1 : q1 = halfQ a b u v1) (h0 : q0 = halfQ a b ((u * 4294967296 + v1) % Y) v0) :
    q1 * 4294967296 + q0 = (hi * 18446744073709551616 + lo) / y ∧ ((((u * 4294967296 + v1) % Y * 4294967296 + v0) % Y : Nat) : Int) / 2 ^ s = (((hi * 18446744073709551616 + lo) % y : Nat) : Int) := by
  unfold halfQ at h1 h0
  rw [← h.hY] at h1 h0
  obtain ⟨k1, k2⟩ := halves hp q1 _ q0 _ h1 rfl h0 rfl
  obtain ⟨m1, m2⟩ := shifted (hi * 18446744073709551616 + lo) y s
  rw [← h.hN, h.hYs, m1] at k1
  refine ⟨k1, ?_⟩
  rw [k2, ← h.hN, h.hYs, show ((2 : Int) ^ s) = ((2 ^ s : Nat) : Int) from by simp, ← Int.natCast_ediv, m2]
end Go.Proofs.Ytiblbhppojfdaaa
