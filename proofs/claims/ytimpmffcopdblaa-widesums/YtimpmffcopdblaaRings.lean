/-
  The walk of the law WideRings.
-/
import Derived.Test.YtimpmffcopdblaaKnown2
namespace Go.Proofs.Ytimpmffcopdblaa
open Go.RowKit

theorem wf_i64 {a : Int} (h : (Lit.int .i64 a).wf = true) : I64 a := by
  unfold I64; simpa [Lit.wf, IntKind.min, IntKind.max, IntKind.signed, IntKind.bits] using h
theorem wf_u64 {a : Int} (h : (Lit.int .u64 a).wf = true) : 0 ≤ a ∧ a ≤ 18446744073709551615 := by
  simpa [Lit.wf, IntKind.min, IntKind.max, IntKind.signed, IntKind.bits] using h
theorem w128_add {b c : Int} (hb : I64 b) (hc : I64 c) : W128 (b + c) := by unfold I64 at hb hc; unfold W128; omega
theorem w128_mul {a b : Int} (ha : I64 a) (hb : I64 b) : W128 (a * b) := by
  have h := abs_mul a b
  have hp : a.natAbs * b.natAbs ≤ 9223372036854775808 * 9223372036854775808 := Nat.mul_le_mul (i64_nat ha) (i64_nat hb)
  generalize a.natAbs * b.natAbs = p at *
  unfold W128
  split at h <;> omega

set_option maxHeartbeats 1000000 in
theorem rings_walk (a b c : Int) (w0 : (Lit.int .i64 a).wf = true) (w1 : (Lit.int .i64 b).wf = true) (w2 : (Lit.int .i64 c).wf = true) (w : World) :
    Calls Try.prog 8 #[.int .i64 a, .int .i64 b, .int .i64 c] w fun e w' => e = .returned (.bool true) ∧ Below w.heap.size w w' := by
  have ha := wf_i64 w0
  have hb := wf_i64 w1
  have hc := wf_i64 w2
  have c0 := Lib.hid known_any
  have c1 := Lib.hid (of_any b hb)
  have c2 := Lib.hid (of_any c hc)
  have c3 := wadd_any b c (w128_i64 hb) (w128_i64 hc)
  rw [wheld_of (w128_add hb hc), wfits_of (w128_add hb hc)] at c3
  have c4 := wtimes_any (b + c) a (w128_add hb hc) ha
  have c5 := Lib.hid (wmul_any a b ha hb)
  have c6 := Lib.hid (wmul_any c a hc ha)
  have c7 := wadd_any (a * b) (c * a) (w128_mul ha hb) (w128_mul hc ha)
  have c8 := wmul_any b a hb ha
  rw [show (b + c) * a = a * b + c * a from by rw [Int.add_mul, Int.mul_comm b a]] at c4
  rw [Int.mul_comm b a] at c8
  have C3 := Lib.hid c3
  have C4 := Lib.hid c4
  have C7 := Lib.hid c7
  have C8 := Lib.hid c8
  clear c3 c4 c7 c8 w0 w1 w2
  unfold I64 at ha hb hc
  generalize wfits (a * b + c * a) = f at *
  generalize up64 (wheld (a * b + c * a)) = yh at *
  generalize lo64 (wheld (a * b + c * a)) = yl at *
  generalize up64 (a * b) = ph at *
  generalize lo64 (a * b) = pl at *
  generalize up64 (c * a) = qh at *
  generalize lo64 (c * a) = ql at *
  generalize up64 (b + c) = sh at *
  generalize lo64 (b + c) = sl at *
  generalize up64 b = bh at *
  generalize lo64 b = bl at *
  generalize up64 c = ch at *
  generalize lo64 c = cl at *
  have K : Hid (Kn w [] w) := Lib.hid (Below.refl _ _)
  go_enter Try.func8, Try.ntmps8
  go_wp2_with (first
    | (go_at_call 9; refine (c0.out _).mono ?_; rintro e w1 ⟨rfl, hb⟩; replace K := Lib.hid (K.out.below hb); clear hb)
    | (go_at_call 26; first | ((with_reducible refine (c1.out _).mono ?_); rintro e w1 ⟨rfl, hb⟩; replace K := Lib.hid (K.out.below hb); clear hb) | ((with_reducible refine (c2.out _).mono ?_); rintro e w1 ⟨rfl, hb⟩; replace K := Lib.hid (K.out.below hb); clear hb))
    | (go_at_call 11; first | ((with_reducible refine (C3.out _).mono ?_); rintro e w1 ⟨rfl, hb⟩; replace K := Lib.hid ((K.out.below hb).push (.int .i64 sh) (.int .u64 sl) 24); clear hb) | ((with_reducible refine (C7.out _).mono ?_); rintro e w1 ⟨rfl, hb⟩; replace K := Lib.hid ((K.out.below hb).push (.int .i64 yh) (.int .u64 yl) 24); clear hb; obtain ⟨⟨a0, a1, _, _⟩, ⟨b0, b1, _, _⟩, _⟩ := K.out))
    | (go_at_call 15; refine (C4.out _).mono ?_; rintro e w1 ⟨rfl, hb⟩; replace K := Lib.hid ((K.out.below hb).push (.int .i64 yh) (.int .u64 yl) 24); clear hb)
    | (go_at_call 25; first | ((with_reducible refine (c5.out _).mono ?_); rintro e w1 ⟨rfl, hb⟩; replace K := Lib.hid (K.out.below hb); clear hb) | ((with_reducible refine (c6.out _).mono ?_); rintro e w1 ⟨rfl, hb⟩; replace K := Lib.hid (K.out.below hb); clear hb) | ((with_reducible refine (C8.out _).mono ?_); rintro e w1 ⟨rfl, hb⟩; replace K := Lib.hid (K.out.below hb); clear hb)))
  go_ret
  exact ⟨rfl, K.out.old⟩
end Go.Proofs.Ytimpmffcopdblaa
