/-
  The walk of novationlaw5.TapeKeeps.
-/
import Derived.Test.YtcpimdafpmdjnaaKp
import Derived.Laws.BitsAllLaws
import Derived.Laws.Concat
namespace Go.Proofs.Ytcpimdafpmdjnaa
open Go Go.RowKit
set_option linter.unusedVariables false

theorem xor_255 (y : Nat) (hy : y < 256) : bits .xor .u8 (y : Int) 255 = ((y ^^^ 255 : Nat) : Int) := u8_xor_nat y 255 hy (by decide)
theorem xor_255_lt (y : Nat) (hy : y < 256) : y ^^^ 255 < 256 := Nat.xor_lt_two_pow (n := 8) hy (by decide)
set_option maxRecDepth 8000 in
set_option maxHeartbeats 1000000 in
theorem keeps_long (A A' : Option Addr) (n m c c' : Nat) (w : World) (hn : n ≤ 9223372036854775807) (hm : m ≤ 9223372036854775807) (h : 300 < n ∨ 300 < m) :
    Calls Try.prog 6 #[.slice A n c, .slice A' m c'] w fun e w' => e = .returned (.bool true) ∧ Below w.heap.size w w' := by
  have C := Lib.hid (known_any w)
  rcases (by omega : 300 < n ∨ (¬ 300 < n ∧ 300 < m)) with h1 | ⟨h1, h2⟩
  all_goals
    clear h
    go_enter Try.func6, Try.ntmps6
    go_wp2_with (go_at_call 8; refine C.out.mono ?_; rintro e w1 ⟨rfl, HB⟩)
    go_ret
    exact ⟨rfl, HB⟩
theorem low_of {w : World} {A : Option Addr} {l : List Nat} (h : Byts w A l) : ∀ b off, A = some ⟨b, off, none⟩ → 0 < l.length → b < w.heap.size := by
  intro b off e h0
  obtain ⟨b', off', e', hc⟩ := h h0
  rw [e] at e'; injection e' with e'; injection e' with e1 e2; subst e1
  exact block_lt (hc 0 h0)
set_option maxRecDepth 100000 in
set_option maxHeartbeats 4000000 in
theorem keeps_walk (A A' : Option Addr) (l l' : List Nat) (c c' : Nat) (w : World) (hr : Byts w A l) (hl : Oct l) (hA : A = none → c = 0) (hc : l.length ≤ c) (hcm : c ≤ 9223372036854775807) (hr' : Byts w A' l') (hl' : Oct l') (hA' : A' = none → c' = 0) (hc' : l'.length ≤ c') (hcm' : c' ≤ 9223372036854775807) :
    Calls Try.prog 6 #[.slice A l.length c, .slice A' l'.length c'] w fun e w' => e = .returned (.bool true) ∧ Below w.heap.size w w' := by
  by_cases hg : 300 < l.length ∨ 300 < l'.length
  · exact keeps_long A A' _ _ c c' w (by omega) (by omega) hg
  obtain ⟨n, hn⟩ : ∃ n, n = l.length := ⟨_, rfl⟩
  obtain ⟨m, hm⟩ : ∃ m, m = l'.length := ⟨_, rfl⟩
  obtain ⟨L, hL⟩ : ∃ L, L = l ++ l' := ⟨_, rfl⟩
  obtain ⟨N, hN⟩ : ∃ N, N = L.length := ⟨_, rfl⟩
  have h1 : ¬ 300 < n := by omega
  have h2 : ¬ 300 < m := by omega
  have hNs : N ≤ 600 := by rw [hN, hL, List.length_append]; omega
  have C := Lib.hid (known_any w)
  have HR := Lib.hid hr
  have HR' := Lib.hid hr'
  have HL := Lib.hid hl
  have HA := Lib.hid hA
  have HN := Lib.hid hn
  have HLow := Lib.hid (low_of hr')
  have hcat : bstr l ++ bstr l' = bstr L := by rw [hL]; exact bstr_cat l l'
  have HAdd : Hid (∀ W : World, (Op.stringOp .add (bstr l) (bstr l')).run Try.prog W = .ok (.string (bstr L)) W) := Lib.hid (fun W => by have h := run_string_add_sum (P := Try.prog) (w := W) (bstr l) (bstr l') (by rw [bstr_size, bstr_size]; omega); rw [hcat] at h; exact h)
  have P1 : Hid ((newTp 1000).append l = (⟨l, 1000, false, false, 0, 0⟩, 0)) := Lib.hid (append_plain [] l 1000 (by simp; omega))
  have P2 : Hid ((⟨l, 1000, false, false, 0, 0⟩ : Tp).append l' = (⟨L, 1000, false, false, 0, 0⟩, 0)) := Lib.hid (by rw [hL]; exact append_plain l l' 1000 (by omega))
  have CB : Hid (∀ (w1 w4 : World) (A3 : Option Addr), Below w.heap.size w w1 → InX w1 w1.heap.size w1.heap.size ⟨l, 1000, false, false, 0, 0⟩ A3 n w4 → Calls Try.prog 17 #[.pointer (some ⟨w1.heap.size, 0, none⟩), .slice A' m c'] w4 fun e w' => e = .returned (.int .i64 0) ∧ InX w1 w1.heap.size w1.heap.size ⟨L, 1000, false, false, 0, 0⟩ A3 n w') := Lib.hid (fun w1 w4 A3 hb hX => by
    have := hX.append A' m c' l' hm (hr'.below (hb.trans (hX.below.mono hb.size))) hl' hA' hc' hcm' (.inr (fun bb off e h0 => Nat.lt_of_lt_of_le (low_of hr' bb off e h0) hb.size))
    rw [P2.out] at this
    exact this.mono (fun e w' ⟨a1, a2, _⟩ => ⟨a1, a2⟩))
  have CR : Hid (∀ (w1 w5 : World), In w1 w1.heap.size w1.heap.size ⟨L, 1000, false, false, 0, 0⟩ w5 → Calls Try.prog 21 #[.pointer (some ⟨w1.heap.size, 0, none⟩)] w5 fun e w' => ∃ A c, e = .returned (.tuple #[.slice A N c, .int .i64 0]) ∧ Byts w' A L ∧ InX w1 w1.heap.size w1.heap.size ⟨L, 1000, false, false, 0, 0⟩ A N w') := Lib.hid (fun w1 w5 h => by rw [hN]; exact h.read_apart rfl)
  have HNN := Lib.hid hN
  rw [← hn, ← hm]
  have HM := Lib.hid hm
  clear hr hr' hl hl' hA hA' hn hm hL hN hg hc hcm hc' hcm'
  go_enter Try.func6, Try.ntmps6
  go_wp2_with (first
    | (go_at_call 8; refine C.out.mono ?_; rintro e w1 ⟨rfl, hb1⟩; have C2 := Lib.hid (new_any 1000 w1); have HB1 := Lib.hid hb1; clear hb1)
    | (go_at_call 10; (with_reducible refine C2.out.mono ?_); rintro e w2 ⟨rfl, ht2, hb2⟩; have HT2 := Lib.hid ht2; have HB2 := Lib.hid hb2; clear ht2 hb2)
    | (at_builtin; refine wpList_app rfl (.tmp 25) (.tmp 26) rfl w2.heap.size _ [] rfl (ownB_lit w2 _ _ [] (Nat.le_refl _) ?c1 rfl _ rfl _ rfl) _ _ _ l rfl HN.out (HR.out.below ?c3) HA.out ?c6 ?c7 ?_))
  case c1 => simp
  case c3 => exact (HB1.out.trans (HB2.out.mono HB1.out.size)).alloc (Nat.le_trans HB1.out.size HB2.out.size) _
  case c6 => have := HN.out; simp; omega
  case c7 => simp
  intro v3 w3 ho3 hg3 _
  have hb3 : Below w2.heap.size w2 w3 := below_one (grown_below (ownB_lit w2 w2.heap.size #[] [] (Nat.le_refl _) (by simp) rfl _ rfl 0 rfl) hg3 (by simp))
  obtain ⟨A3, c3, rfl, hB3, hc3, hcm3, hA3, hl3⟩ := OwnB.form ho3
  have hX3 : InX w1 w1.heap.size w1.heap.size (newTp 1000) A3 n w3 := ⟨_, HT2.out.keep hb3, HB2.out.trans (hb3.mono HB2.out.size), by rw [HN.out]; exact (ho3.base HB2.out.size).row8 HL.out, fun g o s e => ⟨fun hf => by have := hl3 g o s e; have := HT2.out.lt hf; omega, by subst e; exact (ho3.lt g rfl).2⟩⟩
  have CA := Lib.hid (hX3.append A3 n c3 l HN.out hB3 HL.out hA3 hc3 hcm3 (.inl rfl))
  rw [P1.out] at CA
  rw [← HN.out]
  clear ho3 hg3 hb3 hB3 hc3 hcm3 hA3 hl3 hX3
  go_wp2_with (first
    | (go_at_call 17; (with_reducible refine CA.out.mono ?_); rintro e w4 ⟨rfl, hX4, _⟩; have HX4 := Lib.hid (CB.out w1 w4 A3 HB1.out hX4); clear hX4)
    | (go_at_call 17; (with_reducible refine HX4.out.mono ?_); rintro e w5 ⟨rfl, hX5⟩; have HX5 := Lib.hid hX5; clear hX5))
  clear CA HX4 HT2 C2
  go_loopw [7] (fun i wr => ∃ k : Nat, k ≤ n ∧ i = .int .i64 k ∧ Hid (InX w1 w1.heap.size w1.heap.size ⟨L, 1000, false, false, 0, 0⟩ A3 n wr)) (fun i _ => n - (intOf i).toNat)
  case atStart => exact ⟨0, by omega, rfl, HX5⟩
  case round =>
    obtain ⟨k, hk, rfl, HX⟩ := hrel
    by_cases hlt : k < n
    · obtain ⟨g, y, rfl, hgb, hy, hcell, hfz⟩ := HX.out.row k hlt
      have hxx := xor_255 y hy
      have HS := Lib.hid (HX.out.set hgb k (y ^^^ 255) (xor_255_lt y hy))
      clear hy hgb
      generalize y ^^^ 255 = z at *
      go_wp2
      go_roundw
      case rel => exact ⟨k + 1, by omega, by go_num, HS⟩
      case measure => simp [intOf]; omega
    · obtain rfl : k = n := by omega
      have hbw := HB1.out.trans (HX.out.below.mono HB1.out.size)
      have hs1 := run_bstr wr A l k c HN.out (HR.out.below hbw)
      have hs2 := run_bstr wr A' l' m c' HM.out (HR'.out.below hbw)
      have C6 := Lib.hid (CR.out w1 wr HX.out.within)
      have hadd := HAdd.out wr
      clear hbw
      go_wp2_with (go_at_call 21; (with_reducible refine C6.out.mono ?_); rintro e w6 ⟨A6, c6, rfl, hB6, hX6⟩; have hs3 := run_bstr w6 A6 L N c6 HNN.out hB6; have HX6 := Lib.hid hX6; clear hB6 hX6)
      clear hs1 hs2 hs3 C6 HX
      go_loopw [11] (fun i wr => ∃ k : Nat, k ≤ N ∧ i = .int .i64 k ∧ Hid (InX w1 w1.heap.size w1.heap.size ⟨L, 1000, false, false, 0, 0⟩ A6 N wr)) (fun i _ => N - (intOf i).toNat)
      case atStart => exact ⟨0, by omega, rfl, HX6⟩
      case round =>
        obtain ⟨j, hj, rfl, HX⟩ := hrel
        by_cases hlt : j < N
        · obtain ⟨g, y, rfl, hgb, hy, hcell, hfz⟩ := HX.out.row j hlt
          have hxx := xor_255 y hy
          have HS := Lib.hid (HX.out.set hgb j (y ^^^ 255) (xor_255_lt y hy))
          clear hy hgb
          generalize y ^^^ 255 = z at *
          go_wp2
          go_roundw
          case rel => exact ⟨j + 1, by omega, by go_num, HS⟩
          case measure => simp [intOf]; omega
        · obtain rfl : j = N := by omega
          have C7 := Lib.hid (CR.out w1 _ HX.out.within)
          go_wp2_with (go_at_call 21; (with_reducible refine C7.out.mono ?_); rintro e w7 ⟨A7, c7, rfl, hB7, hX7⟩; have hs7 := run_bstr w7 A7 L j c7 HNN.out hB7; have HX7 := Lib.hid hX7; clear hB7 hX7)
          go_ret
          exact ⟨rfl, HB1.out.trans (HX7.out.below.mono HB1.out.size)⟩
end Go.Proofs.Ytcpimdafpmdjnaa
