/-
  Numbers by sevens of bits; the walk of the reference's Number.
-/
import Derived.Test.YtldceocbmmidmaaBst
import Derived.Laws.BitsAllLaws
namespace Go.Proofs.Ytldceocbmmidmaa
open Go Go.RowKit
set_option linter.unusedVariables false

/-- New bytes. -/
def BytesN (w : World) (l : List Nat) (e : Ending) (w' : World) : Prop := ∃ v, e = .returned v ∧ OwnB w' w.heap.size v l ∧ Below w.heap.size w w'
/-- 2 n, or -2 n - 1. -/
def zig (n : Int) : Nat := if 0 ≤ n then (2 * n).toNat else (-2 * n - 1).toNat
/-- By sevens of bits. -/
def sevens (u : Nat) : List Nat := if u < 128 then [u] else (u % 128 + 128) :: sevens (u / 128)
termination_by u
decreasing_by omega
def numB (n : Int) : List Nat := sevens (zig n)
theorem zig_lt {n : Int} (h : I64 n) : zig n < 18446744073709551616 := by unfold I64 at h; unfold zig; split <;> omega
theorem sevens_small {u : Nat} (h : u < 128) : sevens u = [u] := by rw [sevens, if_pos h]
theorem sevens_great {u : Nat} (h : ¬ u < 128) : sevens u = (u % 128 + 128) :: sevens (u / 128) := by rw [sevens, if_neg h]
theorem sevens_oct (u : Nat) : Oct (sevens u) := by
  induction u using Nat.strongRecOn with
  | ind u ih =>
    by_cases h : u < 128
    · rw [sevens_small h]; intro x hx; simp at hx; omega
    · rw [sevens_great h]
      intro x hx
      rcases List.mem_cons.1 hx with rfl | hx
      · omega
      · exact ih (u / 128) (by omega) x hx
theorem sevens_len (u : Nat) : ∀ k, u < 128 ^ (k + 1) → (sevens u).length ≤ k + 1 := by
  intro k
  induction k generalizing u with
  | zero => intro h; rw [sevens_small (by simpa using h)]; simp
  | succ k ih =>
    intro h
    by_cases h1 : u < 128
    · rw [sevens_small h1]; simp
    · rw [sevens_great h1, List.length_cons]
      have := ih (u / 128) (by rw [Nat.div_lt_iff_lt_mul (by omega), ← Nat.pow_succ]; exact h)
      omega
theorem numB_len {n : Int} (h : I64 n) : (numB n).length ≤ 10 := sevens_len _ 9 (by have := zig_lt h; omega)
theorem numB_oct (n : Int) : Oct (numB n) := sevens_oct _
theorem numB_pos (n : Int) : 0 < (numB n).length := by unfold numB; rw [sevens]; split <;> simp
theorem and_127 (U : Nat) (h : U < 18446744073709551616) : bits .and .u64 (U : Int) 127 = ((U % 128 : Nat) : Int) := by
  rw [show (127 : Int) = ((127 : Nat) : Int) from rfl, u64_and_nat U 127 h (by omega)]
  have : U &&& 127 = U % 128 := Nat.and_two_pow_sub_one_eq_mod U 7
  rw [this]
theorem or_128 (y : Nat) (h : y < 128) : bits .or .u8 (y : Int) 128 = ((y + 128 : Nat) : Int) := by
  rw [show (128 : Int) = ((128 : Nat) : Int) from rfl, u8_or_nat y 128 (by omega) (by omega)]
  have : y ||| 128 = 128 + y := by rw [Nat.or_comm]; exact (Nat.two_pow_add_eq_or_of_lt (i := 7) h 1).symm
  rw [this, Nat.add_comm]
theorem or_one (x : Nat) (h : 2 * x + 1 < 18446744073709551616) : bits .or .u64 ((x : Int) * 2) 1 = ((2 * x + 1 : Nat) : Int) := by
  rw [show (1 : Int) = ((1 : Nat) : Int) from rfl, show (x : Int) * 2 = ((2 * x : Nat) : Int) by omega, u64_or_nat _ 1 (by omega) (by omega)]
  have : 2 * x ||| 1 = 2 * x + 1 := by
    have := (Nat.two_pow_add_eq_or_of_lt (i := 1) (b := 1) (by omega) x).symm
    simpa using this
  rw [this]
set_option maxRecDepth 8000 in
set_option maxHeartbeats 4000000 in
theorem number_pos (A : Option Addr) (l : List Nat) (c : Nat) (n : Int) (w : World) (hB : Byts w A l) (hO : Oct l) (hA : A = none → c = 0) (hl : l.length ≤ 1000000000000) (hn : I64 n) (h0 : 0 ≤ n) :
    Calls Try.prog 24 #[.slice A l.length c, .int .i64 n] w (BytesN w (l ++ numB n)) := by
  obtain ⟨m, hm⟩ : ∃ m, m = l.length := ⟨_, rfl⟩
  have HM := Lib.hid hm
  have HB := Lib.hid hB
  have HA := Lib.hid hA
  rw [← hm] at hl ⊢
  obtain ⟨Z, hZ⟩ : ∃ Z, Z = zig n := ⟨_, rfl⟩
  have hZl : Z < 18446744073709551616 := by rw [hZ]; exact zig_lt hn
  have HZ : Hid (numB n = sevens Z) := Lib.hid (by rw [hZ]; rfl)
  have HZL : Hid ((sevens Z).length ≤ 10) := Lib.hid (by rw [← HZ.out]; exact numB_len hn)
  unfold I64 at hn
  unfold zig at hZ
  obtain ⟨x, hx⟩ : ∃ x : Nat, n = (x : Int) := ⟨n.toNat, by omega⟩
  have HE : Hid ((x : Int) * 2 = (Z : Int)) := Lib.hid (by rw [hZ]; rw [if_pos h0]; omega)
  have hxl : x < 9223372036854775808 := by omega
  subst hx
  have hee := HE.out
  clear hm hB hA hZ
  go_enter Try.func24, Try.ntmps24
  go_wp2_with (at_builtin; refine wpList_app rfl (.tmp 7) (.tmp 8) rfl w.heap.size _ [] rfl (ownB_lit w _ _ [] (Nat.le_refl _) ?c1 rfl _ rfl _ rfl) _ _ _ l rfl HM.out (HB.out.below ?c3) HA.out ?c6 ?c7 ?_)
  case c1 => simp
  case c3 => exact (Below.refl _ _).alloc (Nat.le_refl _) _
  case c6 => have := HM.out; simp; omega
  case c7 => simp
  intro v1 w1 ho1 hg1 _
  have hb1 : Below w.heap.size w w1 := below_one (grown_below (ownB_lit w w.heap.size #[] [] (Nat.le_refl _) (by simp) rfl _ rfl 0 rfl) hg1 (by simp))
  have HO1 := Lib.hid ho1
  have HB1 := Lib.hid hb1
  clear ho1 hb1 hg1
  go_wp2
  go_loopw [5, 6] (fun out u wr => ∃ (U : Nat) (dn : List Nat), u = .int .u64 (U : Int) ∧ U < 18446744073709551616 ∧ Hid (OwnB wr w.heap.size out (l ++ dn)) ∧ Hid (dn ++ sevens U = sevens Z) ∧ Hid (Below w.heap.size w wr)) (fun _ u _ => (intOf u).toNat)
  case atStart => exact ⟨Z, [], by first | rfl | (rw [HE.out]) | (simp [hee]), hZl, by rw [List.append_nil]; exact HO1, Lib.hid rfl, HB1⟩
  case round =>
    obtain ⟨U, dn, rfl, hU, HO, HD, HBW⟩ := hrel
    have HLN : Hid (dn.length ≤ 10) := Lib.hid (by have := HZL.out; rw [← HD.out, List.length_append] at this; omega)
    by_cases hg : 127 < U
    · have hsv := sevens_great (show ¬ U < 128 by omega)
      have HD2 : Hid ((dn ++ [U % 128 + 128]) ++ sevens (U / 128) = sevens Z) := Lib.hid (by rw [← HD.out, hsv]; simp)
      have hand := and_127 U hU
      have hor := or_128 (U % 128) (by omega)
      have hylt : U % 128 < 128 := by omega
      obtain ⟨q, hq⟩ : ∃ q, q = U / 128 := ⟨_, rfl⟩
      have hshr : (U : Int) / 128 = (q : Int) := by omega
      have hqU : q < U := by omega
      rw [← hq] at HD2
      generalize U % 128 = y at *
      obtain ⟨z, hz⟩ : ∃ z, z = y + 128 := ⟨_, rfl⟩
      rw [← hz] at hor HD2
      have hz8 : z < 256 := by omega
      have HQ := Lib.hid hq
      clear hq hsv HD hz
      have hsz := HBW.out.size
      go_wp2_with (at_builtin; refine wpList_app rfl (.tmp 23) (.tmp 28) rfl w.heap.size _ (l ++ dn) rfl (HO.out.alloc _) _ _ _ [z] rfl ?c1 ?c2 ?c3 ?c4 ?c5 ?_)
      case c1 => rfl
      case c2 => exact byts_new _ _ _ [z] rfl _ rfl
      case c3 => intro e; cases e
      case c4 => have := HM.out; have := HLN.out; simp; omega
      case c5 => simp; omega
      intro v2 w2 ho2 hg2 _
      have hb2 : Below w.heap.size w w2 := (HBW.out.alloc hsz _).trans (grown_below (HO.out.alloc _) hg2 (by simp; omega))
      try rw [List.append_assoc] at ho2
      have HO2 := Lib.hid ho2
      have HB2 := Lib.hid hb2
      clear ho2 hb2 hg2 hand hor HO
      go_wp2
      go_roundw
      case rel => exact ⟨q, dn ++ [z], rfl, by omega, HO2, HD2, HB2⟩
      case measure => simp [intOf]; omega
    · have HD2 : Hid (dn ++ [U] = sevens Z) := Lib.hid (by rw [← HD.out, sevens_small (by omega)])
      have hU8 : U < 128 := by omega
      have hsz := HBW.out.size
      clear HD
      go_wp2_with (at_builtin; refine wpList_app rfl (.tmp 32) (.tmp 35) rfl w.heap.size _ (l ++ dn) rfl (HO.out.alloc _) _ _ _ [U] rfl ?c1 ?c2 ?c3 ?c4 ?c5 ?_)
      case c1 => rfl
      case c2 => exact byts_new _ _ _ [U] rfl _ rfl
      case c3 => intro e; cases e
      case c4 => have := HM.out; have := HLN.out; simp; omega
      case c5 => simp; omega
      intro v2 w2 ho2 hg2 _
      have hb2 : Below w.heap.size w w2 := (HBW.out.alloc hsz _).trans (grown_below (HO.out.alloc _) hg2 (by simp; omega))
      try rw [List.append_assoc] at ho2
      rw [HD2.out, ← HZ.out] at ho2
      have HO2 := Lib.hid ho2
      clear ho2 hg2
      go_wp2
      go_ret
      exact ⟨_, rfl, HO2.out, hb2⟩
set_option maxRecDepth 8000 in
set_option maxHeartbeats 4000000 in
theorem number_neg (A : Option Addr) (l : List Nat) (c : Nat) (n : Int) (w : World) (hB : Byts w A l) (hO : Oct l) (hA : A = none → c = 0) (hl : l.length ≤ 1000000000000) (hn : I64 n) (h0 : n < 0) :
    Calls Try.prog 24 #[.slice A l.length c, .int .i64 n] w (BytesN w (l ++ numB n)) := by
  obtain ⟨m, hm⟩ : ∃ m, m = l.length := ⟨_, rfl⟩
  have HM := Lib.hid hm
  have HB := Lib.hid hB
  have HA := Lib.hid hA
  rw [← hm] at hl ⊢
  obtain ⟨Z, hZ⟩ : ∃ Z, Z = zig n := ⟨_, rfl⟩
  have hZl : Z < 18446744073709551616 := by rw [hZ]; exact zig_lt hn
  have HZ : Hid (numB n = sevens Z) := Lib.hid (by rw [hZ]; rfl)
  have HZL : Hid ((sevens Z).length ≤ 10) := Lib.hid (by rw [← HZ.out]; exact numB_len hn)
  unfold I64 at hn
  unfold zig at hZ
  obtain ⟨x, hx⟩ : ∃ x : Nat, n = -(x : Int) - 1 := ⟨(-n - 1).toNat, by omega⟩
  have HE : Hid (bits .or .u64 ((x : Int) * 2) 1 = (Z : Int)) := Lib.hid (by rw [hZ, or_one x (by omega)]; rw [if_neg (by omega)]; omega)
  have hxl : x < 9223372036854775808 := by omega
  subst hx
  have hee := HE.out
  clear hm hB hA hZ
  go_enter Try.func24, Try.ntmps24
  go_wp2_with (at_builtin; refine wpList_app rfl (.tmp 7) (.tmp 8) rfl w.heap.size _ [] rfl (ownB_lit w _ _ [] (Nat.le_refl _) ?c1 rfl _ rfl _ rfl) _ _ _ l rfl HM.out (HB.out.below ?c3) HA.out ?c6 ?c7 ?_)
  case c1 => simp
  case c3 => exact (Below.refl _ _).alloc (Nat.le_refl _) _
  case c6 => have := HM.out; simp; omega
  case c7 => simp
  intro v1 w1 ho1 hg1 _
  have hb1 : Below w.heap.size w w1 := below_one (grown_below (ownB_lit w w.heap.size #[] [] (Nat.le_refl _) (by simp) rfl _ rfl 0 rfl) hg1 (by simp))
  have HO1 := Lib.hid ho1
  have HB1 := Lib.hid hb1
  clear ho1 hb1 hg1
  go_wp2
  go_loopw [5, 6] (fun out u wr => ∃ (U : Nat) (dn : List Nat), u = .int .u64 (U : Int) ∧ U < 18446744073709551616 ∧ Hid (OwnB wr w.heap.size out (l ++ dn)) ∧ Hid (dn ++ sevens U = sevens Z) ∧ Hid (Below w.heap.size w wr)) (fun _ u _ => (intOf u).toNat)
  case atStart => exact ⟨Z, [], by first | rfl | (rw [HE.out]) | (simp [hee]), hZl, by rw [List.append_nil]; exact HO1, Lib.hid rfl, HB1⟩
  case round =>
    obtain ⟨U, dn, rfl, hU, HO, HD, HBW⟩ := hrel
    have HLN : Hid (dn.length ≤ 10) := Lib.hid (by have := HZL.out; rw [← HD.out, List.length_append] at this; omega)
    by_cases hg : 127 < U
    · have hsv := sevens_great (show ¬ U < 128 by omega)
      have HD2 : Hid ((dn ++ [U % 128 + 128]) ++ sevens (U / 128) = sevens Z) := Lib.hid (by rw [← HD.out, hsv]; simp)
      have hand := and_127 U hU
      have hor := or_128 (U % 128) (by omega)
      have hylt : U % 128 < 128 := by omega
      obtain ⟨q, hq⟩ : ∃ q, q = U / 128 := ⟨_, rfl⟩
      have hshr : (U : Int) / 128 = (q : Int) := by omega
      have hqU : q < U := by omega
      rw [← hq] at HD2
      generalize U % 128 = y at *
      obtain ⟨z, hz⟩ : ∃ z, z = y + 128 := ⟨_, rfl⟩
      rw [← hz] at hor HD2
      have hz8 : z < 256 := by omega
      have HQ := Lib.hid hq
      clear hq hsv HD hz
      have hsz := HBW.out.size
      go_wp2_with (at_builtin; refine wpList_app rfl (.tmp 23) (.tmp 28) rfl w.heap.size _ (l ++ dn) rfl (HO.out.alloc _) _ _ _ [z] rfl ?c1 ?c2 ?c3 ?c4 ?c5 ?_)
      case c1 => rfl
      case c2 => exact byts_new _ _ _ [z] rfl _ rfl
      case c3 => intro e; cases e
      case c4 => have := HM.out; have := HLN.out; simp; omega
      case c5 => simp; omega
      intro v2 w2 ho2 hg2 _
      have hb2 : Below w.heap.size w w2 := (HBW.out.alloc hsz _).trans (grown_below (HO.out.alloc _) hg2 (by simp; omega))
      try rw [List.append_assoc] at ho2
      have HO2 := Lib.hid ho2
      have HB2 := Lib.hid hb2
      clear ho2 hb2 hg2 hand hor HO
      go_wp2
      go_roundw
      case rel => exact ⟨q, dn ++ [z], rfl, by omega, HO2, HD2, HB2⟩
      case measure => simp [intOf]; omega
    · have HD2 : Hid (dn ++ [U] = sevens Z) := Lib.hid (by rw [← HD.out, sevens_small (by omega)])
      have hU8 : U < 128 := by omega
      have hsz := HBW.out.size
      clear HD
      go_wp2_with (at_builtin; refine wpList_app rfl (.tmp 32) (.tmp 35) rfl w.heap.size _ (l ++ dn) rfl (HO.out.alloc _) _ _ _ [U] rfl ?c1 ?c2 ?c3 ?c4 ?c5 ?_)
      case c1 => rfl
      case c2 => exact byts_new _ _ _ [U] rfl _ rfl
      case c3 => intro e; cases e
      case c4 => have := HM.out; have := HLN.out; simp; omega
      case c5 => simp; omega
      intro v2 w2 ho2 hg2 _
      have hb2 : Below w.heap.size w w2 := (HBW.out.alloc hsz _).trans (grown_below (HO.out.alloc _) hg2 (by simp; omega))
      try rw [List.append_assoc] at ho2
      rw [HD2.out, ← HZ.out] at ho2
      have HO2 := Lib.hid ho2
      clear ho2 hg2
      go_wp2
      go_ret
      exact ⟨_, rfl, HO2.out, hb2⟩
theorem number_any (A : Option Addr) (l : List Nat) (c : Nat) (n : Int) (w : World) (hB : Byts w A l) (hO : Oct l) (hA : A = none → c = 0) (hl : l.length ≤ 1000000000000) (hn : I64 n) :
    Calls Try.prog 24 #[.slice A l.length c, .int .i64 n] w (BytesN w (l ++ numB n)) := by
  by_cases h0 : 0 ≤ n
  · exact number_pos A l c n w hB hO hA hl hn h0
  · exact number_neg A l c n w hB hO hA hl hn (by omega)
end Go.Proofs.Ytldceocbmmidmaa
