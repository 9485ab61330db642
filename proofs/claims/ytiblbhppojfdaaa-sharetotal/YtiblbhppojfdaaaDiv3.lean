/-
  The walk of math/bits.Div64.
-/
import Derived.Test.YtiblbhppojfdaaaDiv1
import Derived.Test.YtiblbhppojfdaaaDiv2
import Derived.WalkKit
import Derived.WalkSpells
import Derived.WalkLawsBesides
import Derived.Lib.Hide
import Derived.BigQuiet
import Derived.Deep.DeepCutAuto
import Derived.Deep.CutBlock
namespace Go.Proofs.Ytiblbhppojfdaaa
open Go.RowKit

theorem divNN (a b : Nat) : ((a : Int) / (b : Int)) = ((a / b : Nat) : Int) := rfl
theorem ret_uu2 {a b c d : Int} (h : a = b) (h' : c = d) : Ending.returned (.tuple #[.int .u64 a, .int .u64 c]) = .returned (.tuple #[.int .u64 b, .int .u64 d]) := by rw [h, h']

set_option maxRecDepth 8000 in
set_option maxHeartbeats 400000 in
theorem div64_zero (lo y : Nat) (hl : lo < 18446744073709551616) (hy0 : 0 < y) (hy : y < 18446744073709551616) (w : World) :
    Calls Try.prog 75 #[.int .u64 0, .int .u64 lo, .int .u64 y] w fun e w' => e = .returned (.tuple #[.int .u64 ((lo / y : Nat) : Int), .int .u64 ((lo % y : Nat) : Int)]) ∧ Below w.heap.size w w' := by
  have h1 : ((y : Int) == 0) = false := by rw [beq_eq_false_iff_ne]; omega
  have h2 : decide ((y : Int) ≤ 0) = false := by simp; omega
  have hd : lo / y < 18446744073709551616 := Nat.lt_of_le_of_lt (Nat.div_le_self _ _) hl
  go_enter Try.func75, Try.ntmps75
  go_wp2
  go_quiet (fail)
  go_wp2
  go_ret2
  refine ⟨ret_uu2 ?_ ?_, below_drewN (Below.refl _ _) _⟩
  · rw [divNN, wrapN _ hd]
  · rfl

set_option maxRecDepth 100000 in
set_option maxHeartbeats 2000000 in
theorem div64_some (hi lo y : Nat) (hh : hi < y) (hh0 : 0 < hi) (hl : lo < 18446744073709551616) (hy : y < 9223372036854775808) (w : World) :
    Calls Try.prog 75 #[.int .u64 hi, .int .u64 lo, .int .u64 y] w fun e w' => e = .returned (.tuple #[.int .u64 (((hi * 18446744073709551616 + lo) / y : Nat) : Int), .int .u64 (((hi * 18446744073709551616 + lo) % y : Nat) : Int)]) ∧ Below w.heap.size w w' := by
  have h1 : ((y : Int) == 0) = false := by rw [beq_eq_false_iff_ne]; omega
  have h2' : decide (y ≤ hi) = false := by simp; omega
  have h3 : ((hi : Int) == 0) = false := by rw [beq_eq_false_iff_ne]; omega
  have C := lz64_any (y : Int) (by omega) (by omega)
  rw [Int.toNat_natCast] at C
  obtain ⟨n1, n2, n3, n4⟩ := bl_spec 63 y (by omega) (by omega) (by omega)
  obtain ⟨s, hs⟩ : ∃ s, Lib.bitLen y + s = 64 := ⟨64 - Lib.bitLen y, by omega⟩
  have e1 : (64 : Int) - (Lib.bitLen y : Int) = (s : Int) := by omega
  rw [e1] at C
  have hs1 : 1 ≤ s ∧ s ≤ 63 := by omega
  obtain ⟨Y, a, b, u, v, v1, v0, hS⟩ := shift_words hi lo y _ s n1 n3 n4 hs hh hl
  have CC := Lib.hid C
  have HS := Lib.hid hS
  obtain ⟨g1, g2, g3⟩ := guess_first hS.ha hS.ha2 hS.hb hS.hv1 (by rw [← hS.hY]; exact hS.hu)
  have G1 := Lib.hid g1
  have hY64 : Y < 18446744073709551616 := by have := hS.hY; have := hS.ha2; have := hS.hb; omega
  have hu := hS.hu
  have ha := hS.ha
  have ha2 := hS.ha2
  have hb := hS.hb
  have hv1 := hS.hv1
  have hv0 := hS.hv0
  have hq : u / a ≤ 4294967297 := g1.2.2
  have eq : IntKind.u64.wrap ((u : Int) / (a : Int)) = ((u / a : Nat) : Int) := by rw [divNN, wrapN _ (by omega)]
  have ep : IntKind.u64.wrap (((u / a : Nat) : Int) * (a : Int)) = ((u / a * a : Nat) : Int) := by rw [mulN, wrapN _ (by omega)]
  have er : IntKind.u64.wrap ((u : Int) - ((u / a * a : Nat) : Int)) = ((u - u / a * a : Nat) : Int) := by
    rw [show (u : Int) - ((u / a * a : Nat) : Int) = ((u - u / a * a : Nat) : Int) from by omega, wrapN _ (by omega)]
  have ha0 : ((a : Int) == 0) = false := by rw [beq_eq_false_iff_ne]; omega
  generalize u - u / a * a = r0 at *
  generalize u / a * a = p0 at *
  generalize u / a = q0 at *
  have eY := hS.eY
  have ea := hS.ea
  have eb := hS.eb
  have eu := hS.eu
  have ev := hS.ev
  have ev1 := hS.ev1
  have ev0 := hS.ev0
  obtain ⟨q1, hq1⟩ : ∃ q1, q1 = halfQ a b u v1 := ⟨_, rfl⟩
  have HQ1 := Lib.hid hq1
  have hq1b : q1 < 4294967296 := by rw [hq1]; exact halfQ_lt hv1 (by rw [← hS.hY]; exact hu)
  clear C e1 n3 n4 hS g1 hs n1 n2 hq1
  go_enter Try.func75, Try.ntmps75
  go_upto_block 0 with (go_at_call 83; refine (CC.out _).mono ?_; rintro e w' ⟨rfl, rfl⟩)
  go_cut [15, 16] (fun q _ wx => q = .int .u64 q1 ∧ wx = w)
  case first =>
    go_wp2
    go_loop [15, 16] (fun q r => ∃ Q R : Int, q = .int .u64 Q ∧ r = .int .u64 R ∧ 0 ≤ R ∧ R < 4294967296 ∧ 0 ≤ Q ∧ Q ≤ 4294967297 ∧ Hid (Guess a b u v1 Q.toNat R.toNat)) (fun q _ => (intOf q).toNat)
    case atStart => exact ⟨q0, r0, rfl, rfl, by omega, by omega, by omega, by omega, G1⟩
    case round =>
      obtain ⟨Q, R, rfl, rfl, hR0, hR, hQ0, hQ, HG⟩ := hrel
      clear eq ep er eY eu ev ea eb ev1 ev0
      by_cases hbig : 4294967296 ≤ Q
      · obtain ⟨k1, k2⟩ := guess_less hv1 (by rw [← HS.out.hY]; exact hu) HG.out (.inl (by omega))
        by_cases hstop : 4294967296 ≤ R + a
        · have k3 := guess_stop ha hb (by omega) k2 (by omega)
          rw [← HQ1.out] at k3
          have k4 : Q - 1 = (q1 : Int) := by omega
          clear k2 k1 k3
          go_wp2
          go_meet
          exact ⟨rfl, rfl⟩
        · have HG2 : Hid (Guess a b u v1 (Q - 1).toNat (R + a).toNat) := Lib.hid (by rw [show (Q - 1).toNat = Q.toNat - 1 from by omega, show (R + a).toNat = R.toNat + a from by omega]; exact k2)
          clear k2 k1
          go_wp2
          go_round
          case rel => exact ⟨Q - 1, R + a, by go_num, by go_num, by omega, by omega, by omega, by omega, HG2⟩
          case measure => simp [intOf]; omega
      · obtain ⟨m, hm⟩ : ∃ m : Nat, m = Q.toNat * b := ⟨_, rfl⟩
        have hm2 : m ≤ 4294967295 * 4294967295 := by rw [hm]; exact Nat.mul_le_mul (by omega) (by omega)
        have em : IntKind.u64.wrap (Q * (b : Int)) = (m : Int) := by
          rw [show Q * (b : Int) = (m : Int) from by rw [hm, Int.natCast_mul, Int.toNat_of_nonneg hQ0], wrapN _ (by omega)]
        by_cases hc : 4294967296 * R + (v1 : Int) < (m : Int)
        · obtain ⟨k1, k2⟩ := guess_less hv1 (by rw [← HS.out.hY]; exact hu) HG.out (.inr (by rw [← hm]; omega))
          by_cases hstop : 4294967296 ≤ R + a
          · have k3 := guess_stop ha hb (by omega) k2 (by omega)
            rw [← HQ1.out] at k3
            have k4 : Q - 1 = (q1 : Int) := by omega
            clear k2 k3 hm
            go_wp2
            go_meet
            exact ⟨rfl, rfl⟩
          · have HG2 : Hid (Guess a b u v1 (Q - 1).toNat (R + a).toNat) := Lib.hid (by rw [show (Q - 1).toNat = Q.toNat - 1 from by omega, show (R + a).toNat = R.toNat + a from by omega]; exact k2)
            clear k2 hm
            go_wp2
            go_round
            case rel => exact ⟨Q - 1, R + a, by go_num, by go_num, by omega, by omega, by omega, by omega, HG2⟩
            case measure => simp [intOf]; omega
        · have k3 := guess_right ha HG.out (by rw [← hm]; omega)
          rw [← HQ1.out] at k3
          have k4 : Q = (q1 : Int) := by omega
          subst k4
          clear k3 hm
          go_wp2
          go_meet
          exact ⟨rfl, rfl⟩
  case rest =>
    obtain ⟨rfl, rfl⟩ := hcut
    clear eq ep er eY eu ev ea eb ev1 ev0 g2 g3 hq G1 h1 h2' h3
    have hYp : 0 < Y := by omega
    have ex := next_word a b u v1 q1 Y HS.out.hY hY64 HQ1.out hYp
    have hx := Nat.mod_lt (u * 4294967296 + v1) hYp
    have HF : Hid (∀ q2, q2 = halfQ a b ((u * 4294967296 + v1) % Y) v0 → q1 * 4294967296 + q2 = (hi * 18446744073709551616 + lo) / y ∧ ((((u * 4294967296 + v1) % Y * 4294967296 + v0) % Y : Nat) : Int) / 2 ^ s = (((hi * 18446744073709551616 + lo) % y : Nat) : Int)) := Lib.hid fun q2 h2 => whole_words HS.out hYp HQ1.out h2
    obtain ⟨x, hxx⟩ : ∃ x, (u * 4294967296 + v1) % Y = x := ⟨_, rfl⟩
    rw [hxx] at ex hx HF
    clear hxx
    obtain ⟨g1, g2, g3⟩ := guess_first (v := v0) ha ha2 hb hv0 (by rw [← HS.out.hY]; exact hx)
    have G2 := Lib.hid g1
    have hq : x / a ≤ 4294967297 := g1.2.2
    have eq : IntKind.u64.wrap ((x : Int) / (a : Int)) = ((x / a : Nat) : Int) := by rw [divNN, wrapN _ (by omega)]
    have ep : IntKind.u64.wrap (((x / a : Nat) : Int) * (a : Int)) = ((x / a * a : Nat) : Int) := by rw [mulN, wrapN _ (by omega)]
    have er : IntKind.u64.wrap ((x : Int) - ((x / a * a : Nat) : Int)) = ((x - x / a * a : Nat) : Int) := by
      rw [show (x : Int) - ((x / a * a : Nat) : Int) = ((x - x / a * a : Nat) : Int) from by omega, wrapN _ (by omega)]
    generalize x - x / a * a = r3 at *
    generalize x / a * a = p3 at *
    generalize x / a = q3 at *
    obtain ⟨q2, hq2⟩ : ∃ q2, q2 = halfQ a b x v0 := ⟨_, rfl⟩
    have HQ2 := Lib.hid hq2
    have hq2b : q2 < 4294967296 := by rw [hq2]; exact halfQ_lt hv0 (by rw [← HS.out.hY]; exact hx)
    have ey := next_word a b x v0 q2 Y HS.out.hY hY64 hq2 hYp
    obtain ⟨f1, f2⟩ := HF.out q2 hq2
    have F1 := Lib.hid f1
    have F2 := Lib.hid f2
    obtain ⟨z, hzz⟩ : ∃ z, (x * 4294967296 + v0) % Y = z := ⟨_, rfl⟩
    rw [hzz] at ey F2
    have EY := Lib.hid ey
    clear hq2 f1 f2 g1 HF ey hzz
    go_upto_block 2 with (fail)
    go_cut [18, 16] (fun q _ wx => q = .int .u64 q2 ∧ wx = wc)
    case first =>
      go_wp2
      go_loop [18, 16] (fun q r => ∃ Q R : Int, q = .int .u64 Q ∧ r = .int .u64 R ∧ 0 ≤ R ∧ R < 4294967296 ∧ 0 ≤ Q ∧ Q ≤ 4294967297 ∧ Hid (Guess a b x v0 Q.toNat R.toNat)) (fun q _ => (intOf q).toNat)
      case atStart => exact ⟨q3, r3, rfl, rfl, by omega, by omega, by omega, by omega, G2⟩
      case round =>
        obtain ⟨Q, R, rfl, rfl, hR0, hR, hQ0, hQ, HG⟩ := hrel
        clear eq ep er ex
        by_cases hbig : 4294967296 ≤ Q
        · obtain ⟨k1, k2⟩ := guess_less hv0 (by rw [← HS.out.hY]; exact hx) HG.out (.inl (by omega))
          by_cases hstop : 4294967296 ≤ R + a
          · have k3 := guess_stop ha hb (by omega) k2 (by omega)
            rw [← HQ2.out] at k3
            have k4 : Q - 1 = (q2 : Int) := by omega
            clear k2 k1 k3
            go_wp2
            go_meet
            exact ⟨rfl, rfl⟩
          · have HG2 : Hid (Guess a b x v0 (Q - 1).toNat (R + a).toNat) := Lib.hid (by rw [show (Q - 1).toNat = Q.toNat - 1 from by omega, show (R + a).toNat = R.toNat + a from by omega]; exact k2)
            clear k2 k1
            go_wp2
            go_round
            case rel => exact ⟨Q - 1, R + a, by go_num, by go_num, by omega, by omega, by omega, by omega, HG2⟩
            case measure => simp [intOf]; omega
        · obtain ⟨m, hm⟩ : ∃ m : Nat, m = Q.toNat * b := ⟨_, rfl⟩
          have hm2 : m ≤ 4294967295 * 4294967295 := by rw [hm]; exact Nat.mul_le_mul (by omega) (by omega)
          have em : IntKind.u64.wrap (Q * (b : Int)) = (m : Int) := by
            rw [show Q * (b : Int) = (m : Int) from by rw [hm, Int.natCast_mul, Int.toNat_of_nonneg hQ0], wrapN _ (by omega)]
          by_cases hc : 4294967296 * R + (v0 : Int) < (m : Int)
          · obtain ⟨k1, k2⟩ := guess_less hv0 (by rw [← HS.out.hY]; exact hx) HG.out (.inr (by rw [← hm]; omega))
            by_cases hstop : 4294967296 ≤ R + a
            · have k3 := guess_stop ha hb (by omega) k2 (by omega)
              rw [← HQ2.out] at k3
              have k4 : Q - 1 = (q2 : Int) := by omega
              clear k2 k3 hm
              go_wp2
              go_meet
              exact ⟨rfl, rfl⟩
            · have HG2 : Hid (Guess a b x v0 (Q - 1).toNat (R + a).toNat) := Lib.hid (by rw [show (Q - 1).toNat = Q.toNat - 1 from by omega, show (R + a).toNat = R.toNat + a from by omega]; exact k2)
              clear k2 hm
              go_wp2
              go_round
              case rel => exact ⟨Q - 1, R + a, by go_num, by go_num, by omega, by omega, by omega, by omega, HG2⟩
              case measure => simp [intOf]; omega
          · have k3 := guess_right ha HG.out (by rw [← hm]; omega)
            rw [← HQ2.out] at k3
            have k4 : Q = (q2 : Int) := by omega
            subst k4
            clear k3 hm
            go_wp2
            go_meet
            exact ⟨rfl, rfl⟩
    case rest =>
      obtain ⟨rfl, rfl⟩ := hcut
      clear eq ep er ex g2 g3 hq G2
      have ey := EY.out
      go_wp2
      go_ret2
      refine ⟨ret_uu2 ?_ ?_, Below.refl _ _⟩
      · have := F1.out
        omega
      · exact F2.out
end Go.Proofs.Ytiblbhppojfdaaa
