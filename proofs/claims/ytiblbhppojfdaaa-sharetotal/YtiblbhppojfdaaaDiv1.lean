/-
  The walks of math/bits: how long a word is, leading noughts.
-/
import Derived.Test.YtiblbhppojfdaaaRows
import Derived.Lib.Walk
import Derived.Lib.BitFns
namespace Go.Proofs.Ytiblbhppojfdaaa

/-- A byte of the number, by the table: how long the whole is. -/
theorem len_at (x b k p : Int) (n : Nat) (hp : p = ((2 ^ n : Nat) : Int)) (hk : k = (n : Int)) (hb : b = x / p) (h0 : 0 ≤ x) (h1 : x ≤ 18446744073709551615) (hl : p ≤ x ∨ n = 0) (h8 : b ≤ 255) (hb0 : 0 ≤ b) :
    k + Lib.len8 b = (Lib.bitLen x.toNat : Int) ∧ 0 ≤ Lib.len8 b ∧ Lib.len8 b ≤ 8 := by
  have l8 := Lib.bitLen_le8' b hb0 h8
  rw [Lib.len8_of b hb0 h8, hk]
  obtain ⟨X, rfl⟩ := Int.eq_ofNat_of_zero_le h0
  have e : b.toNat = X / 2 ^ n := by rw [hb, hp, ← Int.natCast_ediv, Int.toNat_natCast]
  refine ⟨?_, by omega, by omega⟩
  clear l8
  rw [e, Int.toNat_natCast]
  rcases hl with hl | hl
  · have := Lib.bitLen_shift n X (by rw [hp] at hl; omega) (by omega)
    omega
  · subst hl
    simp

set_option maxRecDepth 100000 in
set_option maxHeartbeats 1000000 in
theorem len64_any (x : Int) (h0 : 0 ≤ x) (h1 : x ≤ 18446744073709551615) (w : World) :
    Calls Try.prog 94 #[.int .u64 x] w fun e w' => e = .returned (.int .i64 (Lib.bitLen x.toNat)) ∧ w = w' := by
  go_enter Try.func94, Try.ntmps94
  go_wp2
  all_goals (go_ret; refine ⟨congrArg Ending.returned (congrArg (Value.int IntKind.i64) ?_), rfl⟩)
  all_goals first
    | (obtain ⟨e, l0, l1⟩ := len_at x (x / 4294967296 / 65536 / 256 % 256) 56 72057594037927936 56 rfl rfl (by omega) h0 h1 (by omega) (by omega) (by omega)
       generalize Lib.len8 (x / 4294967296 / 65536 / 256 % 256) = b at *
       omega)
    | (obtain ⟨e, l0, l1⟩ := len_at x (x / 4294967296 / 65536 % 256) 48 281474976710656 48 rfl rfl (by omega) h0 h1 (by omega) (by omega) (by omega)
       generalize Lib.len8 (x / 4294967296 / 65536 % 256) = b at *
       omega)
    | (obtain ⟨e, l0, l1⟩ := len_at x (x / 4294967296 / 256 % 256) 40 1099511627776 40 rfl rfl (by omega) h0 h1 (by omega) (by omega) (by omega)
       generalize Lib.len8 (x / 4294967296 / 256 % 256) = b at *
       omega)
    | (obtain ⟨e, l0, l1⟩ := len_at x (x / 4294967296 % 256) 32 4294967296 32 rfl rfl (by omega) h0 h1 (by omega) (by omega) (by omega)
       generalize Lib.len8 (x / 4294967296 % 256) = b at *
       omega)
    | (obtain ⟨e, l0, l1⟩ := len_at x (x / 65536 / 256 % 256) 24 16777216 24 rfl rfl (by omega) h0 h1 (by omega) (by omega) (by omega)
       generalize Lib.len8 (x / 65536 / 256 % 256) = b at *
       omega)
    | (obtain ⟨e, l0, l1⟩ := len_at x (x / 65536 % 256) 16 65536 16 rfl rfl (by omega) h0 h1 (by omega) (by omega) (by omega)
       generalize Lib.len8 (x / 65536 % 256) = b at *
       omega)
    | (obtain ⟨e, l0, l1⟩ := len_at x (x / 256 % 256) 8 256 8 rfl rfl (by omega) h0 h1 (by omega) (by omega) (by omega)
       generalize Lib.len8 (x / 256 % 256) = b at *
       omega)
    | (obtain ⟨e, l0, l1⟩ := len_at x (x % 256) 0 1 0 rfl rfl (by omega) h0 h1 (by omega) (by omega) (by omega)
       generalize Lib.len8 (x % 256) = b at *
       omega)

theorem bl_spec (f : Nat) : ∀ x : Nat, x < 2 ^ f → f ≤ 64 → 0 < x → 1 ≤ Lib.bitLen x ∧ Lib.bitLen x ≤ f ∧ 2 ^ (Lib.bitLen x - 1) ≤ x ∧ x < 2 ^ Lib.bitLen x := by
  induction f with
  | zero => intro x h _ h0; simp at h; omega
  | succ f ih =>
    intro x h hf h0
    have hx : x < 2 ^ 64 := Nat.lt_of_lt_of_le h (Nat.pow_le_pow_right (by omega) hf)
    have e := Lib.bitLen_half x (by omega) hx
    by_cases h1 : x / 2 = 0
    · have : x = 1 := by omega
      subst this
      rw [show Lib.bitLen 1 = 1 from by decide]
      simp
    · have hh : x / 2 < 2 ^ f := by rw [Nat.pow_succ] at h; omega
      obtain ⟨a, b, c, d⟩ := ih (x / 2) hh (by omega) (by omega)
      rw [e]
      obtain ⟨m, hm⟩ : ∃ m, Lib.bitLen (x / 2) = m + 1 := ⟨Lib.bitLen (x / 2) - 1, by omega⟩
      rw [hm] at b c d ⊢
      simp only [Nat.add_sub_cancel, Nat.add_sub_cancel_left] at c ⊢
      rw [show 1 + (m + 1) = m + 1 + 1 from by omega, Nat.pow_succ 2 (m + 1)]
      rw [Nat.pow_succ] at d ⊢
      omega

set_option maxRecDepth 8000 in
set_option maxHeartbeats 1000000 in
theorem lz64_any (x : Int) (h0 : 0 < x) (h1 : x ≤ 18446744073709551615) (w : World) :
    Calls Try.prog 83 #[.int .u64 x] w fun e w' => e = .returned (.int .i64 (64 - (Lib.bitLen x.toNat : Int))) ∧ w = w' := by
  have hl := (bl_spec 64 x.toNat (by omega) (by omega) (by omega)).2.1
  have C := len64_any x (by omega) h1
  generalize Lib.bitLen x.toNat = n at *
  go_enter Try.func83, Try.ntmps83
  go_wp2_with (go_at_call 94; refine (C _).mono ?_; rintro e w' ⟨rfl, rfl⟩)
  go_ret
  refine ⟨congrArg Ending.returned (congrArg (Value.int IntKind.i64) ?_), rfl⟩
  omega
end Go.Proofs.Ytiblbhppojfdaaa
