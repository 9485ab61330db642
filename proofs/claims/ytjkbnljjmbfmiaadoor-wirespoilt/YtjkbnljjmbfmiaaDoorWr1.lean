/-
  Decimal digits; the walk of the reference's Decimal (practice for stage 8).
-/
import Derived.Test.YtjkbnljjmbfmiaaDoorBst
namespace Go.Proofs.YtjkbnljjmbfmiaaDoor
open Go Go.RowKit
set_option linter.unusedVariables false

/-- A number's digits, as bytes. -/
def digs (u : Nat) : List Nat := if u < 10 then [48 + u] else digs (u / 10) ++ [48 + u % 10]
termination_by u
decreasing_by omega
theorem digs_small {u : Nat} (h : u < 10) : digs u = [48 + u] := by rw [digs, if_pos h]
theorem digs_great {u : Nat} (h : ¬ u < 10) : digs u = digs (u / 10) ++ [48 + u % 10] := by rw [digs, if_neg h]
/-- A number in decimal digits, with its sign. -/
def dec (n : Int) : List Nat := if n < 0 then 45 :: digs n.natAbs else digs n.natAbs
theorem digs_oct : ∀ u, ∀ x ∈ digs u, 48 ≤ x ∧ x < 58 := by
  intro u
  induction u using Nat.strongRecOn with
  | ind u ih =>
    intro x hx
    by_cases h : u < 10
    · rw [digs_small h, List.mem_singleton] at hx
      omega
    · rw [digs_great h] at hx
      rcases List.mem_append.1 hx with hx | hx
      · exact ih (u / 10) (by omega) x hx
      · rw [List.mem_singleton] at hx; omega
theorem neg_u64 {n : Int} (h : I64 n) (h0 : n < 0) : IntKind.u64.wrap (-(IntKind.u64.wrap n)) = ((n.natAbs : Nat) : Int) := by
  unfold I64 at h
  simp [IntKind.wrap, IntKind.bits, IntKind.signed]
  omega
theorem digs_len : ∀ k u, u < 10 ^ (k + 1) → (digs u).length ≤ k + 1 := by
  intro k
  induction k with
  | zero => intro u h; rw [digs_small (by omega)]; simp
  | succ k ih =>
    intro u h
    by_cases h1 : u < 10
    · rw [digs_small h1]; simp
    · have h10 : (10 : Nat) ^ (k + 1 + 1) = 10 * 10 ^ (k + 1) := by rw [Nat.pow_succ, Nat.mul_comm]
      have := ih (u / 10) (by omega)
      rw [digs_great h1, List.length_append, List.length_singleton]
      omega
theorem digs_len64 {u : Nat} (h : u < 18446744073709551616) : (digs u).length ≤ 20 := digs_len 19 u (by omega)
theorem dec_neg {n : Int} (h : n < 0) : bstr (dec n) = { data := #[45] } ++ bstr (digs n.natAbs) := by
  have h45 : ({ data := #[45] } : ByteArray) = bstr [45] := by decide +kernel
  rw [h45, bstr_cat]
  unfold dec
  rw [if_pos h]
  rfl
theorem dec_pos {n : Int} (h : ¬ n < 0) : bstr (dec n) = bstr (digs n.natAbs) := by unfold dec; rw [if_neg h]
set_option maxRecDepth 8000 in
set_option maxHeartbeats 4000000 in
theorem decimal_neg (n : Int) (hn : I64 n) (h0 : n < 0) (w : World) : Calls Tryd.prog 20 #[.int .i64 n] w fun e w' => e = .returned (.string (bstr (dec n))) ∧ Below w.heap.size w w' := by
  rw [dec_neg h0]
  obtain ⟨U0, hU0⟩ : ∃ U0, U0 = n.natAbs := ⟨_, rfl⟩
  have hU64 : U0 < 18446744073709551616 := by unfold I64 at hn; omega
  rw [← hU0]
  have hw : IntKind.u64.wrap (-(IntKind.u64.wrap n)) = (U0 : Int) := by
    rw [hU0]; exact neg_u64 hn h0
  have hb0 : ({ data := #[] } : ByteArray) = bstr [] := rfl
  clear hU0 hn
  go_enter Tryd.func20, Tryd.ntmps20
  go_wp2
  go_loopw [3, 4] (fun u s wr => ∃ (U : Nat) (dn : List Nat), u = .int .u64 (U : Int) ∧ U < 18446744073709551616 ∧ s = .string (bstr dn) ∧ Hid (digs U ++ dn = digs U0) ∧ Hid (Below w.heap.size w wr)) (fun u _ _ => (intOf u).toNat)
  case atStart => exact ⟨U0, [], rfl, hU64, by first | rfl | rw [← hb0], Lib.hid (List.append_nil _), Lib.hid (Below.refl _ _)⟩
  case round =>
    obtain ⟨U, dn, rfl, hU, rfl, HD, HB⟩ := hrel
    obtain ⟨d, hd⟩ : ∃ d, d = 48 + U % 10 := ⟨_, rfl⟩
    have hd58 : d < 58 := by omega
    have hmod : (48 : Int) + (U : Int) % 10 = (d : Int) := by omega
    have hw1 : IntKind.u64.wrap (48 + (U : Int) % 10) = (d : Int) := by rw [hmod]; simp [IntKind.wrap, IntKind.bits, IntKind.signed]; omega
    have hw8 : IntKind.u8.wrap (d : Int) = (d : Int) := by simp [IntKind.wrap, IntKind.bits, IntKind.signed]; omega
    obtain ⟨q, hq⟩ : ∃ q, q = U / 10 := ⟨_, rfl⟩
    have hdiv : (U : Int) / 10 = (q : Int) := by omega
    have hst := run_bstr (wr.alloc (.cells #[.int .u8 (d : Int)] 5)) (some ⟨wr.heap.size, 0, none⟩) [d] 1 1 rfl (byts_new _ _ _ [d] rfl _ rfl)
    have hcat : bstr [d] ++ bstr dn = bstr (d :: dn) := bstr_cat [d] dn
    have hln : dn.length ≤ 20 := by
      have h1 := digs_len64 hU64
      rw [← HD.out, List.length_append] at h1
      omega
    have hz1 : (bstr [d]).size = 1 := bstr_size [d]
    have hz2 : (bstr dn).size = dn.length := bstr_size dn
    have HBn : Hid (Below w.heap.size w (wr.alloc (.cells #[.int .u8 (d : Int)] 5))) := Lib.hid (HB.out.alloc HB.out.size _)
    by_cases hz : q = 0
    · have HD2 : Hid (d :: dn = digs U0) := Lib.hid (by rw [← HD.out, digs_small (by omega), hd, Nat.mod_eq_of_lt (by omega)]; rfl)
      have hz3 : (bstr (d :: dn)).size = dn.length + 1 := by rw [bstr_size]; simp
      have hz4 : ({ data := #[45] } : ByteArray).size = 1 := rfl
      clear hd hq
      subst hz
      go_wp2
      go_ret
      exact ⟨by rw [← HD2.out]; rfl, HBn.out⟩
    · have HD2 : Hid (digs q ++ (d :: dn) = digs U0) := Lib.hid (by rw [← HD.out, digs_great (u := U) (by omega), hd, hq]; simp)
      have hqU : q < U := by omega
      clear hd hq
      go_wp2
      go_roundw
      case rel => exact ⟨q, d :: dn, rfl, by omega, rfl, HD2, HBn⟩
      case measure => simp [intOf]; omega
set_option maxRecDepth 8000 in
set_option maxHeartbeats 4000000 in
theorem decimal_pos (n : Int) (hn : I64 n) (h0 : ¬ n < 0) (w : World) : Calls Tryd.prog 20 #[.int .i64 n] w fun e w' => e = .returned (.string (bstr (dec n))) ∧ Below w.heap.size w w' := by
  rw [dec_pos h0]
  obtain ⟨U0, hU0⟩ : ∃ U0, U0 = n.natAbs := ⟨_, rfl⟩
  have hU64 : U0 < 18446744073709551616 := by unfold I64 at hn; omega
  rw [← hU0]
  have hw : IntKind.u64.wrap n = (U0 : Int) := by
    unfold I64 at hn; simp [IntKind.wrap, IntKind.bits, IntKind.signed]; omega
  have hb0 : ({ data := #[] } : ByteArray) = bstr [] := rfl
  clear hU0 hn
  go_enter Tryd.func20, Tryd.ntmps20
  go_wp2
  go_loopw [3, 4] (fun u s wr => ∃ (U : Nat) (dn : List Nat), u = .int .u64 (U : Int) ∧ U < 18446744073709551616 ∧ s = .string (bstr dn) ∧ Hid (digs U ++ dn = digs U0) ∧ Hid (Below w.heap.size w wr)) (fun u _ _ => (intOf u).toNat)
  case atStart => exact ⟨U0, [], rfl, hU64, by first | rfl | rw [← hb0], Lib.hid (List.append_nil _), Lib.hid (Below.refl _ _)⟩
  case round =>
    obtain ⟨U, dn, rfl, hU, rfl, HD, HB⟩ := hrel
    obtain ⟨d, hd⟩ : ∃ d, d = 48 + U % 10 := ⟨_, rfl⟩
    have hd58 : d < 58 := by omega
    have hmod : (48 : Int) + (U : Int) % 10 = (d : Int) := by omega
    have hw1 : IntKind.u64.wrap (48 + (U : Int) % 10) = (d : Int) := by rw [hmod]; simp [IntKind.wrap, IntKind.bits, IntKind.signed]; omega
    have hw8 : IntKind.u8.wrap (d : Int) = (d : Int) := by simp [IntKind.wrap, IntKind.bits, IntKind.signed]; omega
    obtain ⟨q, hq⟩ : ∃ q, q = U / 10 := ⟨_, rfl⟩
    have hdiv : (U : Int) / 10 = (q : Int) := by omega
    have hst := run_bstr (wr.alloc (.cells #[.int .u8 (d : Int)] 5)) (some ⟨wr.heap.size, 0, none⟩) [d] 1 1 rfl (byts_new _ _ _ [d] rfl _ rfl)
    have hcat : bstr [d] ++ bstr dn = bstr (d :: dn) := bstr_cat [d] dn
    have hln : dn.length ≤ 20 := by
      have h1 := digs_len64 hU64
      rw [← HD.out, List.length_append] at h1
      omega
    have hz1 : (bstr [d]).size = 1 := bstr_size [d]
    have hz2 : (bstr dn).size = dn.length := bstr_size dn
    have HBn : Hid (Below w.heap.size w (wr.alloc (.cells #[.int .u8 (d : Int)] 5))) := Lib.hid (HB.out.alloc HB.out.size _)
    by_cases hz : q = 0
    · have HD2 : Hid (d :: dn = digs U0) := Lib.hid (by rw [← HD.out, digs_small (by omega), hd, Nat.mod_eq_of_lt (by omega)]; rfl)
      have hz3 : (bstr (d :: dn)).size = dn.length + 1 := by rw [bstr_size]; simp
      have hz4 : ({ data := #[45] } : ByteArray).size = 1 := rfl
      clear hd hq
      subst hz
      go_wp2
      go_ret
      exact ⟨by rw [← HD2.out]; rfl, HBn.out⟩
    · have HD2 : Hid (digs q ++ (d :: dn) = digs U0) := Lib.hid (by rw [← HD.out, digs_great (u := U) (by omega), hd, hq]; simp)
      have hqU : q < U := by omega
      clear hd hq
      go_wp2
      go_roundw
      case rel => exact ⟨q, d :: dn, rfl, by omega, rfl, HD2, HBn⟩
      case measure => simp [intOf]; omega
theorem decimal_any (n : Int) (hn : I64 n) (w : World) : Calls Tryd.prog 20 #[.int .i64 n] w fun e w' => e = .returned (.string (bstr (dec n))) ∧ Below w.heap.size w w' := by
  by_cases h : n < 0
  · exact decimal_neg n hn h w
  · exact decimal_pos n hn h w
end Go.Proofs.YtjkbnljjmbfmiaaDoor
