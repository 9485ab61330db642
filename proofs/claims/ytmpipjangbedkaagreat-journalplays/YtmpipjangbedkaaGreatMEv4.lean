import Derived.Test.YtmpipjangbedkaaGreatMBst
import Derived.Laws.BitsAllLaws
import Derived.Laws.DeepNot64
/-
  Numbers by sevens of bits; the walk of the reference's Number.
-/
namespace Go.Proofs.YtmpipjangbedkaaGreat
set_option maxRecDepth 8000
open Go Go.RowKit
set_option linter.unusedVariables false

/-- New bytes. -/
def BytesN (w : World) (l : List Nat) (e : Ending) (w' : World) : Prop := ∃ v, e = .returned v ∧ OwnB w' w.heap.size v l ∧ Below w.heap.size w w'
/-- 2 n, or -2 n - 1. -/
def zig (n : Int) : Nat := if 0 ≤ n then (2 * n).toNat else (-2 * n - 1).toNat
/-- By sevens of bits. -/
def sevens (u : Nat) : List Nat := if u < 128 then [u] else (u % 128 + 128) :: sevens (u / 128)
termination_by u
decreasing_by omega
def numB (n : Int) : List Nat := sevens (zig n)
theorem zig_lt {n : Int} (h : I64 n) : zig n < 18446744073709551616 := by unfold I64 at h; unfold zig; split <;> omega
theorem sevens_small {u : Nat} (h : u < 128) : sevens u = [u] := by rw [sevens, if_pos h]
theorem sevens_great {u : Nat} (h : ¬ u < 128) : sevens u = (u % 128 + 128) :: sevens (u / 128) := by rw [sevens, if_neg h]
theorem sevens_oct (u : Nat) : Oct (sevens u) := by
  induction u using Nat.strongRecOn with
  | ind u ih =>
    by_cases h : u < 128
    · rw [sevens_small h]; intro x hx; simp at hx; omega
    · rw [sevens_great h]
      intro x hx
      rcases List.mem_cons.1 hx with rfl | hx
      · omega
      · exact ih (u / 128) (by omega) x hx
theorem sevens_len (u : Nat) : ∀ k, u < 128 ^ (k + 1) → (sevens u).length ≤ k + 1 := by
  intro k
  induction k generalizing u with
  | zero => intro h; rw [sevens_small (by simpa using h)]; simp
  | succ k ih =>
    intro h
    by_cases h1 : u < 128
    · rw [sevens_small h1]; simp
    · rw [sevens_great h1, List.length_cons]
      have := ih (u / 128) (by rw [Nat.div_lt_iff_lt_mul (by omega), ← Nat.pow_succ]; exact h)
      omega
theorem numB_len {n : Int} (h : I64 n) : (numB n).length ≤ 10 := sevens_len _ 9 (by have := zig_lt h; omega)
theorem numB_oct (n : Int) : Oct (numB n) := sevens_oct _
theorem numB_pos (n : Int) : 0 < (numB n).length := by unfold numB; rw [sevens]; split <;> simp
theorem and_127 (U : Nat) (h : U < 18446744073709551616) : bits .and .u64 (U : Int) 127 = ((U % 128 : Nat) : Int) := by
  rw [show (127 : Int) = ((127 : Nat) : Int) from rfl, u64_and_nat U 127 h (by omega)]
  have : U &&& 127 = U % 128 := Nat.and_two_pow_sub_one_eq_mod U 7
  rw [this]
theorem or_128 (y : Nat) (h : y < 128) : bits .or .u8 (y : Int) 128 = ((y + 128 : Nat) : Int) := by
  rw [show (128 : Int) = ((128 : Nat) : Int) from rfl, u8_or_nat y 128 (by omega) (by omega)]
  have : y ||| 128 = 128 + y := by rw [Nat.or_comm]; exact (Nat.two_pow_add_eq_or_of_lt (i := 7) h 1).symm
  rw [this, Nat.add_comm]
theorem or_one (x : Nat) (h : 2 * x + 1 < 18446744073709551616) : bits .or .u64 ((x : Int) * 2) 1 = ((2 * x + 1 : Nat) : Int) := by
  rw [show (1 : Int) = ((1 : Nat) : Int) from rfl, show (x : Int) * 2 = ((2 * x : Nat) : Int) by omega, u64_or_nat _ 1 (by omega) (by omega)]
  have : 2 * x ||| 1 = 2 * x + 1 := by
    have := (Nat.two_pow_add_eq_or_of_lt (i := 1) (b := 1) (by omega) x).symm
    simpa using this
  rw [this]
set_option maxRecDepth 8000 in
set_option maxHeartbeats 4000000 in
theorem number_pos (A : Option Addr) (l : List Nat) (c : Nat) (n : Int) (w : World) (hB : Byts w A l) (hO : Oct l) (hA : A = none → c = 0) (hl : l.length ≤ 1000000000000) (hn : I64 n) (h0 : 0 ≤ n) :
    Calls Tryz.prog 39 #[.slice A l.length c, .int .i64 n] w (BytesN w (l ++ numB n)) := by
  obtain ⟨m, hm⟩ : ∃ m, m = l.length := ⟨_, rfl⟩
  have HM := Lib.hid hm
  have HB := Lib.hid hB
  have HA := Lib.hid hA
  rw [← hm] at hl ⊢
  obtain ⟨Z, hZ⟩ : ∃ Z, Z = zig n := ⟨_, rfl⟩
  have hZl : Z < 18446744073709551616 := by rw [hZ]; exact zig_lt hn
  have HZ : Hid (numB n = sevens Z) := Lib.hid (by rw [hZ]; rfl)
  have HZL : Hid ((sevens Z).length ≤ 10) := Lib.hid (by rw [← HZ.out]; exact numB_len hn)
  unfold I64 at hn
  unfold zig at hZ
  obtain ⟨x, hx⟩ : ∃ x : Nat, n = (x : Int) := ⟨n.toNat, by omega⟩
  have HE : Hid ((x : Int) * 2 = (Z : Int)) := Lib.hid (by rw [hZ]; rw [if_pos h0]; omega)
  have hxl : x < 9223372036854775808 := by omega
  subst hx
  have hee := HE.out
  clear hm hB hA hZ
  go_enter Tryz.func39, Tryz.ntmps39
  go_wp2_with (at_builtin; refine wpList_app rfl (.tmp 7) (.tmp 8) rfl w.heap.size _ [] rfl (ownB_lit w _ _ [] (Nat.le_refl _) ?c1 rfl _ rfl _ rfl) _ _ _ l rfl HM.out (HB.out.below ?c3) HA.out ?c6 ?c7 ?_)
  case c1 => simp
  case c3 => exact (Below.refl _ _).alloc (Nat.le_refl _) _
  case c6 => have := HM.out; simp; omega
  case c7 => simp
  intro v1 w1 ho1 hg1 _
  have hb1 : Below w.heap.size w w1 := below_one (grown_below (ownB_lit w w.heap.size #[] [] (Nat.le_refl _) (by simp) rfl _ rfl 0 rfl) hg1 (by simp))
  have HO1 := Lib.hid ho1
  have HB1 := Lib.hid hb1
  clear ho1 hb1 hg1
  go_wp2
  go_loopw [5, 6] (fun out u wr => ∃ (U : Nat) (dn : List Nat), u = .int .u64 (U : Int) ∧ U < 18446744073709551616 ∧ Hid (OwnB wr w.heap.size out (l ++ dn)) ∧ Hid (dn ++ sevens U = sevens Z) ∧ Hid (Below w.heap.size w wr)) (fun _ u _ => (intOf u).toNat)
  case atStart => exact ⟨Z, [], by first | rfl | (rw [HE.out]) | (simp [hee]), hZl, by rw [List.append_nil]; exact HO1, Lib.hid rfl, HB1⟩
  case round =>
    obtain ⟨U, dn, rfl, hU, HO, HD, HBW⟩ := hrel
    have HLN : Hid (dn.length ≤ 10) := Lib.hid (by have := HZL.out; rw [← HD.out, List.length_append] at this; omega)
    by_cases hg : 127 < U
    · have hsv := sevens_great (show ¬ U < 128 by omega)
      have HD2 : Hid ((dn ++ [U % 128 + 128]) ++ sevens (U / 128) = sevens Z) := Lib.hid (by rw [← HD.out, hsv]; simp)
      have hand := and_127 U hU
      have hor := or_128 (U % 128) (by omega)
      have hylt : U % 128 < 128 := by omega
      obtain ⟨q, hq⟩ : ∃ q, q = U / 128 := ⟨_, rfl⟩
      have hshr : (U : Int) / 128 = (q : Int) := by omega
      have hqU : q < U := by omega
      rw [← hq] at HD2
      generalize U % 128 = y at *
      obtain ⟨z, hz⟩ : ∃ z, z = y + 128 := ⟨_, rfl⟩
      rw [← hz] at hor HD2
      have hz8 : z < 256 := by omega
      have HQ := Lib.hid hq
      clear hq hsv HD hz
      have hsz := HBW.out.size
      go_wp2_with (at_builtin; refine wpList_app rfl (.tmp 23) (.tmp 28) rfl w.heap.size _ (l ++ dn) rfl (HO.out.alloc _) _ _ _ [z] rfl ?c1 ?c2 ?c3 ?c4 ?c5 ?_)
      case c1 => rfl
      case c2 => exact byts_new _ _ _ [z] rfl _ rfl
      case c3 => intro e; cases e
      case c4 => have := HM.out; have := HLN.out; simp; omega
      case c5 => simp; omega
      intro v2 w2 ho2 hg2 _
      have hb2 : Below w.heap.size w w2 := (HBW.out.alloc hsz _).trans (grown_below (HO.out.alloc _) hg2 (by simp; omega))
      try rw [List.append_assoc] at ho2
      have HO2 := Lib.hid ho2
      have HB2 := Lib.hid hb2
      clear ho2 hb2 hg2 hand hor HO
      go_wp2
      go_roundw
      case rel => exact ⟨q, dn ++ [z], rfl, by omega, HO2, HD2, HB2⟩
      case measure => simp [intOf]; omega
    · have HD2 : Hid (dn ++ [U] = sevens Z) := Lib.hid (by rw [← HD.out, sevens_small (by omega)])
      have hU8 : U < 128 := by omega
      have hsz := HBW.out.size
      clear HD
      go_wp2_with (at_builtin; refine wpList_app rfl (.tmp 32) (.tmp 35) rfl w.heap.size _ (l ++ dn) rfl (HO.out.alloc _) _ _ _ [U] rfl ?c1 ?c2 ?c3 ?c4 ?c5 ?_)
      case c1 => rfl
      case c2 => exact byts_new _ _ _ [U] rfl _ rfl
      case c3 => intro e; cases e
      case c4 => have := HM.out; have := HLN.out; simp; omega
      case c5 => simp; omega
      intro v2 w2 ho2 hg2 _
      have hb2 : Below w.heap.size w w2 := (HBW.out.alloc hsz _).trans (grown_below (HO.out.alloc _) hg2 (by simp; omega))
      try rw [List.append_assoc] at ho2
      rw [HD2.out, ← HZ.out] at ho2
      have HO2 := Lib.hid ho2
      clear ho2 hg2
      go_wp2
      go_ret
      exact ⟨_, rfl, HO2.out, hb2⟩
set_option maxRecDepth 8000 in
set_option maxHeartbeats 4000000 in
theorem number_neg (A : Option Addr) (l : List Nat) (c : Nat) (n : Int) (w : World) (hB : Byts w A l) (hO : Oct l) (hA : A = none → c = 0) (hl : l.length ≤ 1000000000000) (hn : I64 n) (h0 : n < 0) :
    Calls Tryz.prog 39 #[.slice A l.length c, .int .i64 n] w (BytesN w (l ++ numB n)) := by
  obtain ⟨m, hm⟩ : ∃ m, m = l.length := ⟨_, rfl⟩
  have HM := Lib.hid hm
  have HB := Lib.hid hB
  have HA := Lib.hid hA
  rw [← hm] at hl ⊢
  obtain ⟨Z, hZ⟩ : ∃ Z, Z = zig n := ⟨_, rfl⟩
  have hZl : Z < 18446744073709551616 := by rw [hZ]; exact zig_lt hn
  have HZ : Hid (numB n = sevens Z) := Lib.hid (by rw [hZ]; rfl)
  have HZL : Hid ((sevens Z).length ≤ 10) := Lib.hid (by rw [← HZ.out]; exact numB_len hn)
  unfold I64 at hn
  unfold zig at hZ
  obtain ⟨x, hx⟩ : ∃ x : Nat, n = -(x : Int) - 1 := ⟨(-n - 1).toNat, by omega⟩
  have HE : Hid (bits .or .u64 ((x : Int) * 2) 1 = (Z : Int)) := Lib.hid (by rw [hZ, or_one x (by omega)]; rw [if_neg (by omega)]; omega)
  have hxl : x < 9223372036854775808 := by omega
  subst hx
  have hee := HE.out
  clear hm hB hA hZ
  go_enter Tryz.func39, Tryz.ntmps39
  go_wp2_with (at_builtin; refine wpList_app rfl (.tmp 7) (.tmp 8) rfl w.heap.size _ [] rfl (ownB_lit w _ _ [] (Nat.le_refl _) ?c1 rfl _ rfl _ rfl) _ _ _ l rfl HM.out (HB.out.below ?c3) HA.out ?c6 ?c7 ?_)
  case c1 => simp
  case c3 => exact (Below.refl _ _).alloc (Nat.le_refl _) _
  case c6 => have := HM.out; simp; omega
  case c7 => simp
  intro v1 w1 ho1 hg1 _
  have hb1 : Below w.heap.size w w1 := below_one (grown_below (ownB_lit w w.heap.size #[] [] (Nat.le_refl _) (by simp) rfl _ rfl 0 rfl) hg1 (by simp))
  have HO1 := Lib.hid ho1
  have HB1 := Lib.hid hb1
  clear ho1 hb1 hg1
  go_wp2
  go_loopw [5, 6] (fun out u wr => ∃ (U : Nat) (dn : List Nat), u = .int .u64 (U : Int) ∧ U < 18446744073709551616 ∧ Hid (OwnB wr w.heap.size out (l ++ dn)) ∧ Hid (dn ++ sevens U = sevens Z) ∧ Hid (Below w.heap.size w wr)) (fun _ u _ => (intOf u).toNat)
  case atStart => exact ⟨Z, [], by first | rfl | (rw [HE.out]) | (simp [hee]), hZl, by rw [List.append_nil]; exact HO1, Lib.hid rfl, HB1⟩
  case round =>
    obtain ⟨U, dn, rfl, hU, HO, HD, HBW⟩ := hrel
    have HLN : Hid (dn.length ≤ 10) := Lib.hid (by have := HZL.out; rw [← HD.out, List.length_append] at this; omega)
    by_cases hg : 127 < U
    · have hsv := sevens_great (show ¬ U < 128 by omega)
      have HD2 : Hid ((dn ++ [U % 128 + 128]) ++ sevens (U / 128) = sevens Z) := Lib.hid (by rw [← HD.out, hsv]; simp)
      have hand := and_127 U hU
      have hor := or_128 (U % 128) (by omega)
      have hylt : U % 128 < 128 := by omega
      obtain ⟨q, hq⟩ : ∃ q, q = U / 128 := ⟨_, rfl⟩
      have hshr : (U : Int) / 128 = (q : Int) := by omega
      have hqU : q < U := by omega
      rw [← hq] at HD2
      generalize U % 128 = y at *
      obtain ⟨z, hz⟩ : ∃ z, z = y + 128 := ⟨_, rfl⟩
      rw [← hz] at hor HD2
      have hz8 : z < 256 := by omega
      have HQ := Lib.hid hq
      clear hq hsv HD hz
      have hsz := HBW.out.size
      go_wp2_with (at_builtin; refine wpList_app rfl (.tmp 23) (.tmp 28) rfl w.heap.size _ (l ++ dn) rfl (HO.out.alloc _) _ _ _ [z] rfl ?c1 ?c2 ?c3 ?c4 ?c5 ?_)
      case c1 => rfl
      case c2 => exact byts_new _ _ _ [z] rfl _ rfl
      case c3 => intro e; cases e
      case c4 => have := HM.out; have := HLN.out; simp; omega
      case c5 => simp; omega
      intro v2 w2 ho2 hg2 _
      have hb2 : Below w.heap.size w w2 := (HBW.out.alloc hsz _).trans (grown_below (HO.out.alloc _) hg2 (by simp; omega))
      try rw [List.append_assoc] at ho2
      have HO2 := Lib.hid ho2
      have HB2 := Lib.hid hb2
      clear ho2 hb2 hg2 hand hor HO
      go_wp2
      go_roundw
      case rel => exact ⟨q, dn ++ [z], rfl, by omega, HO2, HD2, HB2⟩
      case measure => simp [intOf]; omega
    · have HD2 : Hid (dn ++ [U] = sevens Z) := Lib.hid (by rw [← HD.out, sevens_small (by omega)])
      have hU8 : U < 128 := by omega
      have hsz := HBW.out.size
      clear HD
      go_wp2_with (at_builtin; refine wpList_app rfl (.tmp 32) (.tmp 35) rfl w.heap.size _ (l ++ dn) rfl (HO.out.alloc _) _ _ _ [U] rfl ?c1 ?c2 ?c3 ?c4 ?c5 ?_)
      case c1 => rfl
      case c2 => exact byts_new _ _ _ [U] rfl _ rfl
      case c3 => intro e; cases e
      case c4 => have := HM.out; have := HLN.out; simp; omega
      case c5 => simp; omega
      intro v2 w2 ho2 hg2 _
      have hb2 : Below w.heap.size w w2 := (HBW.out.alloc hsz _).trans (grown_below (HO.out.alloc _) hg2 (by simp; omega))
      try rw [List.append_assoc] at ho2
      rw [HD2.out, ← HZ.out] at ho2
      have HO2 := Lib.hid ho2
      clear ho2 hg2
      go_wp2
      go_ret
      exact ⟨_, rfl, HO2.out, hb2⟩
theorem number_any (A : Option Addr) (l : List Nat) (c : Nat) (n : Int) (w : World) (hB : Byts w A l) (hO : Oct l) (hA : A = none → c = 0) (hl : l.length ≤ 1000000000000) (hn : I64 n) :
    Calls Tryz.prog 39 #[.slice A l.length c, .int .i64 n] w (BytesN w (l ++ numB n)) := by
  by_cases h0 : 0 ≤ n
  · exact number_pos A l c n w hB hO hA hl hn h0
  · exact number_neg A l c n w hB hO hA hl hn (by omega)
end Go.Proofs.YtmpipjangbedkaaGreat

/-
  The walks of the program's folded, appendNumber, Number; bytes.Clone.
-/
namespace Go.Proofs.YtmpipjangbedkaaGreat
set_option maxRecDepth 8000
open Go Go.RowKit
set_option linter.unusedVariables false

theorem not_neg (x : Nat) (hx : x < 9223372036854775808) : bits .xor .i64 (-1) (-(x : Int) - 1) = (x : Int) := by
  show IntKind.i64.wrap ((BitVec.ofInt 64 (-1) ^^^ BitVec.ofInt 64 (-(x : Int) - 1)).toNat : Int) = _
  have h1 : BitVec.ofInt 64 (-1) = BitVec.allOnes 64 := by decide
  rw [h1, BitVec.allOnes_xor, BitVec.toNat_not, BitVec.toNat_ofInt]
  simp [IntKind.wrap, IntKind.bits, IntKind.signed]
  omega
set_option maxRecDepth 8000 in
set_option maxHeartbeats 2000000 in
theorem folded_any (n : Int) (hn : I64 n) (w : World) : Calls Tryz.prog 94 #[.int .i64 n] w fun e w' => e = .returned (.int .u64 ((zig n : Nat) : Int)) ∧ w = w' := by
  obtain ⟨Z, hZ⟩ : ∃ Z, Z = zig n := ⟨_, rfl⟩
  rw [← hZ]
  unfold I64 at hn
  unfold zig at hZ
  by_cases h0 : 0 ≤ n
  · rw [if_pos h0] at hZ
    obtain ⟨x, rfl⟩ : ∃ x : Nat, n = (x : Int) := ⟨n.toNat, by omega⟩
    have hxl : x < 9223372036854775808 := by omega
    have he : (x : Int) * 2 = (Z : Int) := by omega
    clear hZ
    go_enter Tryz.func94, Tryz.ntmps94
    go_wp2
    go_ret
    exact ⟨by first | rfl | (rw [he]; rfl), rfl⟩
  · rw [if_neg h0] at hZ
    obtain ⟨x, rfl⟩ : ∃ x : Nat, n = -(x : Int) - 1 := ⟨(-n - 1).toNat, by omega⟩
    have hxl : x < 9223372036854775808 := by omega
    have he : bits .or .u64 ((x : Int) * 2) 1 = (Z : Int) := by rw [hZ, or_one x (by omega)]; omega
    have hneg : (-(x : Int) - 1 < 0) := by omega
    have hx := not_neg x hxl
    have hw : IntKind.u64.wrap (x : Int) = (x : Int) := by simp [IntKind.wrap, IntKind.bits, IntKind.signed]; omega
    have hw2 : IntKind.u64.wrap ((x : Int) * 2) = (x : Int) * 2 := by simp [IntKind.wrap, IntKind.bits, IntKind.signed]; omega
    clear hZ
    go_enter Tryz.func94, Tryz.ntmps94
    go_wp2
    go_ret
    exact ⟨by first | rfl | (rw [he]; rfl), rfl⟩
theorem not_pos (x : Nat) (hx : x < 9223372036854775808) : bits .xor .i64 (-1) (x : Int) = -(x : Int) - 1 := by rw [i64_not x hx]; omega
theorem or_more : ∀ c, c < 256 → c ||| 128 = c % 128 + 128 := by decide +kernel
/-- The elder row, or a new one. -/
def Since (w : World) (v v' : Value) : Prop := v'.ownBlock = v.ownBlock ∨ ∃ g, v'.ownBlock = some g ∧ w.heap.size ≤ g
/-- Bytes behind a slice of the call's own. -/
def AppN (w : World) (base : Nat) (v : Value) (l : List Nat) (e : Ending) (w' : World) : Prop := ∃ v', e = .returned v' ∧ OwnB w' base v' l ∧ Touch (fun k => v.ownBlock = some k) w w' ∧ Since w v v'
theorem since_app {w wr w1 w2 : World} {v vr v2 : Value} (ht : Touch (fun k => v.ownBlock = some k) w wr) (hs : Since w v vr) (hb : Below wr.heap.size wr w1) (hg : w1.grownBy w2 vr.ownBlock) (hm : Moved w1 vr v2) : Touch (fun k => v.ownBlock = some k) w w2 ∧ Since w v v2 := by
  have hsz : w.heap.size ≤ w1.heap.size := Nat.le_trans ht.size hb.size
  refine ⟨(ht.trans (Touch.of_below (fun _ => False) hb) (fun _ _ h => h.elim)).trans (Touch.grown hg) ?_, ?_⟩
  · intro i hi hy
    rcases hs with h | ⟨g, h, hge⟩
    · rw [← h]; exact hy
    · rw [h] at hy; injection hy with hy; omega
  · rcases hm with h | h
    · rcases hs with h2 | ⟨g, h2, hge⟩
      · exact .inl (h.trans h2)
      · exact .inr ⟨g, h.trans h2, hge⟩
    · exact .inr ⟨_, h, hsz⟩
set_option maxRecDepth 8000 in
set_option maxHeartbeats 4000000 in
theorem appnum_any (base : Nat) (v : Value) (l : List Nat) (n : Int) (w : World) (hown : OwnB w base v l) (hl : l.length ≤ 1000000000000) (hn : I64 n) (hbase : base ≤ w.heap.size) :
    Calls Tryz.prog 79 #[v, .int .i64 n] w (AppN w base v (l ++ numB n)) := by
  obtain ⟨Z, hZ⟩ : ∃ Z, Z = zig n := ⟨_, rfl⟩
  have hZl : Z < 18446744073709551616 := by rw [hZ]; exact zig_lt hn
  have HZ : Hid (numB n = sevens Z) := Lib.hid (by rw [hZ]; rfl)
  have HZL : Hid ((sevens Z).length ≤ 10) := Lib.hid (by rw [← HZ.out]; exact numB_len hn)
  have CF := Lib.hid (fun W => folded_any n hn W)
  rw [← hZ] at CF
  have HO0 := Lib.hid hown
  clear hZ hn hown
  go_enter Tryz.func79, Tryz.ntmps79
  go_wp2_with (go_at_call 94; (with_reducible refine (CF.out _).mono ?_); rintro e' _ ⟨rfl, rfl⟩)
  go_loopw [0, 5] (fun out u wr => ∃ (U : Nat) (dn : List Nat), u = .int .u64 (U : Int) ∧ U < 18446744073709551616 ∧ Hid (OwnB wr base out (l ++ dn)) ∧ Hid (dn ++ sevens U = sevens Z) ∧ Hid (Touch (fun k => v.ownBlock = some k) w wr ∧ Since w v out)) (fun _ u _ => (intOf u).toNat)
  case atStart => exact ⟨Z, [], rfl, hZl, by rw [List.append_nil]; exact HO0, Lib.hid rfl, Lib.hid ⟨Touch.refl _ _, .inl rfl⟩⟩
  case round =>
    obtain ⟨U, dn, rfl, hU, HO, HD, HT⟩ := hrel
    have HLN : Hid (dn.length ≤ 10) := Lib.hid (by have := HZL.out; rw [← HD.out, List.length_append] at this; omega)
    have hsz : base ≤ wr.heap.size := Nat.le_trans hbase HT.out.1.size
    by_cases hg : 128 ≤ U
    · have hsv := sevens_great (show ¬ U < 128 by omega)
      have HD2 : Hid ((dn ++ [U % 128 + 128]) ++ sevens (U / 128) = sevens Z) := Lib.hid (by rw [← HD.out, hsv]; simp)
      obtain ⟨c, hc⟩ : ∃ c, c = U % 256 := ⟨_, rfl⟩
      have hwr : IntKind.u8.wrap (U : Int) = (c : Int) := by simp [IntKind.wrap, IntKind.bits, IntKind.signed]; omega
      have hc8 : c < 256 := by omega
      obtain ⟨z, hz⟩ : ∃ z, z = U % 128 + 128 := ⟨_, rfl⟩
      have hor : bits .or .u8 (c : Int) 128 = (z : Int) := by
        rw [show (128 : Int) = ((128 : Nat) : Int) from rfl, u8_or_nat c 128 (by omega) (by omega), or_more c hc8]
        omega
      obtain ⟨q, hq⟩ : ∃ q, q = U / 128 := ⟨_, rfl⟩
      have hshr : (U : Int) / 128 = (q : Int) := by omega
      have hqU : q < U := by omega
      rw [← hq, ← hz] at HD2
      have hz8 : z < 256 := by omega
      clear hq hsv HD hz hc
      go_wp2_with (at_builtin; refine wpList_app rfl (.tmp 10) (.tmp 14) rfl base _ (l ++ dn) rfl (HO.out.alloc _) _ _ _ [z] rfl ?c1 ?c2 ?c3 ?c4 ?c5 ?_)
      case c1 => rfl
      case c2 => exact byts_new _ _ _ [z] rfl _ rfl
      case c3 => intro e; cases e
      case c4 => have := HLN.out; simp; omega
      case c5 => simp; omega
      intro v2 w2 ho2 hg2 hm2
      have ht2 := since_app HT.out.1 HT.out.2 ((Below.refl _ wr).alloc (Nat.le_refl _) _) hg2 hm2
      try rw [List.append_assoc] at ho2
      have HO2 := Lib.hid ho2
      have HT2 := Lib.hid ht2
      clear ho2 ht2 hg2 hm2 hor hwr HO
      go_wp2
      go_roundw
      case rel => exact ⟨q, dn ++ [z], rfl, by omega, HO2, HD2, HT2⟩
      case measure => simp [intOf]; omega
    · have HD2 : Hid (dn ++ [U] = sevens Z) := Lib.hid (by rw [← HD.out, sevens_small (by omega)])
      have hU8 : U < 128 := by omega
      have hwr : IntKind.u8.wrap (U : Int) = (U : Int) := by simp [IntKind.wrap, IntKind.bits, IntKind.signed]; omega
      clear HD
      go_wp2_with (at_builtin; refine wpList_app rfl (.tmp 18) (.tmp 21) rfl base _ (l ++ dn) rfl (HO.out.alloc _) _ _ _ [U] rfl ?c1 ?c2 ?c3 ?c4 ?c5 ?_)
      case c1 => rfl
      case c2 => exact byts_new _ _ _ [U] rfl _ rfl
      case c3 => intro e; cases e
      case c4 => have := HLN.out; simp; omega
      case c5 => simp; omega
      intro v2 w2 ho2 hg2 hm2
      have ht2 := since_app HT.out.1 HT.out.2 ((Below.refl _ wr).alloc (Nat.le_refl _) _) hg2 hm2
      try rw [List.append_assoc] at ho2
      rw [HD2.out, ← HZ.out] at ho2
      have HO2 := Lib.hid ho2
      have HT2 := Lib.hid ht2
      clear ho2 ht2 hg2 hm2
      go_wp2
      go_ret
      exact ⟨_, rfl, HO2.out, HT2.out.1, HT2.out.2⟩
set_option maxRecDepth 8000 in
set_option maxHeartbeats 1000000 in
theorem bclone_any (A : Option Addr) (l : List Nat) (c : Nat) (w : World) (hr : Byts w A l) (hA : A = none → c = 0) (hn : l.length ≤ 1000000000000) :
    Calls Tryz.prog 60 #[.slice A l.length c] w (BytesN w l) := by
  cases A with
  | none =>
    have h0 : l = [] := by
      cases l with
      | nil => rfl
      | cons x l => obtain ⟨b, off, e, _⟩ := hr (by simp); cases e
    subst h0
    have F : Hid (BytesN w [] (.returned (.slice none 0 0)) w) := Lib.hid ⟨_, rfl, ownB_nil w _, Below.refl _ _⟩
    clear hr hA
    have he : ∀ w : World, (binOp .eql 26 (.slice none 0 c) (.slice none 0 0)).run Tryz.prog w = .ok (.bool true) w := fun _ => rfl
    go_enter Tryz.func60, Tryz.ntmps60
    go_wp2
    go_ret
    exact F.out
  | some a =>
    obtain ⟨n, hn'⟩ : ∃ n, n = l.length := ⟨_, rfl⟩
    rw [← hn']
    have HN := Lib.hid hn'
    have HB := Lib.hid hr
    rw [← hn'] at hn
    clear hn' hr hA
    have he : ∀ w : World, (binOp .eql 26 (.slice (some a) n c) (.slice none 0 0)).run Tryz.prog w = .ok (.bool false) w := fun _ => rfl
    go_enter Tryz.func60, Tryz.ntmps60
    go_wp2_with (at_builtin; refine wpList_app rfl (.tmp 5) (.tmp 6) rfl w.heap.size _ [] rfl (ownB_lit w _ _ [] (Nat.le_refl _) ?c1 rfl _ rfl _ rfl) _ _ _ l rfl HN.out (HB.out.below ?c3) ?c5 ?c6 ?c7 ?_)
    case c1 => simp
    case c3 => exact (Below.refl _ _).alloc (Nat.le_refl _) _
    case c5 => intro e; cases e
    case c6 => have := HN.out; simp; omega
    case c7 => simp
    intro v2 w2 ho2 hb2 _
    have hb3 : Below w.heap.size w w2 := below_one (grown_below (ownB_lit w w.heap.size #[] [] (Nat.le_refl _) (by simp) rfl _ rfl 0 rfl) hb2 (by simp))
    go_wp2
    go_ret
    exact ⟨v2, rfl, ho2, hb3⟩
set_option maxRecDepth 8000 in
set_option maxHeartbeats 2000000 in
theorem pnumber_any (A : Option Addr) (l : List Nat) (c : Nat) (n : Int) (w : World) (hB : Byts w A l) (hA : A = none → c = 0) (hl : l.length ≤ 1000000000000) (hn : I64 n) :
    Calls Tryz.prog 75 #[.slice A l.length c, .int .i64 n] w (BytesN w (l ++ numB n)) := by
  have C1 := Lib.hid (bclone_any A l c w hB hA hl)
  have C2 : Hid (∀ v W, OwnB W w.heap.size v l → w.heap.size ≤ W.heap.size → Calls Tryz.prog 79 #[v, .int .i64 n] W (AppN W w.heap.size v (l ++ numB n))) := Lib.hid (fun v W h1 h2 => appnum_any w.heap.size v l n W h1 hl hn h2)
  generalize l ++ numB n = l2 at *
  have HL := Lib.hid hl
  generalize l.length = m at *
  clear hB hA hl hn
  go_enter Tryz.func75, Tryz.ntmps75
  go_wp2_with (first
    | (go_at_call 60; (with_reducible refine C1.out.mono ?_); rintro e' w1 ⟨v1, rfl, ho1, hb1⟩; have HO1 := Lib.hid ho1; have HB1 := Lib.hid hb1; clear ho1 hb1)
    | (go_at_call 79; (with_reducible refine (C2.out _ _ HO1.out HB1.out.size).mono ?_); rintro e' w2 ⟨v2, rfl, ho2, ht2, hs2⟩; have HO2 := Lib.hid ho2; have HB2 := Lib.hid (HB1.out.trans (ht2.below HB1.out.size (fun k e => (HO1.out.lt k e).1))); clear ho2 ht2 hs2))
  go_ret
  exact ⟨_, rfl, HO2.out, HB2.out⟩
end Go.Proofs.YtmpipjangbedkaaGreat
