/-
  The walk of novationlaw4.FrameBursts.
-/
import Derived.Test.YtmopipclheohcaaKnown4
import Derived.Test.YtmopipclheohcaaBur
namespace Go.Proofs.Ytmopipclheohcaa
open Go Go.RowKit Go.Shelf

set_option maxRecDepth 8000 in
set_option maxHeartbeats 2000000 in
theorem bursts_out (A : Option Addr) (l : List Nat) (c : Nat) (at_ m : Int) (w : World) (hn : l.length ≤ 9223372036854775807) (h : 400 < l.length ∨ m = 0) :
    Calls Try.prog 7 #[.slice A l.length c, .int .u16 at_, .int .u32 m] w fun e w' => e = .returned (.bool true) ∧ Below w.heap.size w w' := by
  have C := Lib.hid (known_any w)
  by_cases h1 : 400 < l.length
  · go_enter Try.func7, Try.ntmps7
    go_wp2_with (go_at_call 8; refine C.out.mono ?_; rintro e w1 ⟨rfl, HB⟩)
    go_ret
    exact ⟨rfl, HB⟩
  · obtain rfl : m = 0 := by omega
    go_enter Try.func7, Try.ntmps7
    go_wp2_with (go_at_call 8; refine C.out.mono ?_; rintro e w1 ⟨rfl, HB⟩)
    go_ret
    exact ⟨rfl, HB⟩
theorem shr_bit (m i : Nat) (hm : m < 4294967296) : bits .and .u32 ((m : Int) / 2 ^ i) 1 = ((m / 2 ^ i % 2 : Nat) : Int) := by
  have h1 : m / 2 ^ i < 4294967296 := Nat.lt_of_le_of_lt (Nat.div_le_self _ _) hm
  rw [show (m : Int) / 2 ^ i = ((m / 2 ^ i : Nat) : Int) from by rw [Int.natCast_ediv]; norm_cast]
  exact and1 _ h1
theorem xor_u8 (y e : Nat) (hy : y < 256) (he : e < 8) : bits .xor .u8 (y : Int) (2 ^ e % 256) = ((y ^^^ 2 ^ e : Nat) : Int) := by
  rcases (by omega : e = 0 ∨ e = 1 ∨ e = 2 ∨ e = 3 ∨ e = 4 ∨ e = 5 ∨ e = 6 ∨ e = 7) with rfl | rfl | rfl | rfl | rfl | rfl | rfl | rfl <;> exact u8_xor_nat y _ hy (by decide)
set_option maxRecDepth 8000 in
set_option maxHeartbeats 4000000 in
theorem bursts_walk (A : Option Addr) (l : List Nat) (c : Nat) (at_ m : Nat) (w : World) (hr : Byts w A l) (hl : Oct l) (hA : A = none → c = 0) (hn : l.length ≤ 9223372036854775807) (hat : at_ ≤ 65535) (hm : m < 4294967296) :
    Calls Try.prog 7 #[.slice A l.length c, .int .u16 (at_ : Int), .int .u32 (m : Int)] w fun e w' => e = .returned (.bool true) ∧ Below w.heap.size w w' := by
  by_cases h : 400 < l.length ∨ (m : Int) = 0
  · exact bursts_out A l c at_ m w hn h
  have h1 : ¬ 400 < l.length := fun e => h (.inl e)
  have h2 : ((m : Int) == 0) = false := by rw [beq_eq_false_iff_ne]; exact fun e => h (.inr e)
  have h2' : m ≠ 0 := fun e => h (.inr (by rw [e]; rfl))
  obtain ⟨n, hk⟩ : ∃ n, n = l.length := ⟨_, rfl⟩
  obtain ⟨k, hkk⟩ : ∃ k : Nat, k = 16 + at_ % (8 * (n + 6) - 47) := ⟨_, rfl⟩
  have hk1 : 16 ≤ k := by omega
  have hk2 : k + 32 ≤ 8 * (n + 6) := by
    have := Nat.mod_lt at_ (show 0 < 8 * (n + 6) - 47 by omega)
    omega
  have hkI : wrap64 ((16 : Int) + (at_ : Int) % (8 * ((n : Int) + 6) - 47)) = (k : Int) := by
    rw [show (8 * ((n : Int) + 6) - 47) = ((8 * (n + 6) - 47 : Nat) : Int) from by omega, show (16 : Int) + (at_ : Int) % ((8 * (n + 6) - 47 : Nat) : Int) = (k : Int) from by rw [hkk]; omega]
    unfold wrap64
    omega
  have HBN := Lib.hid (burst_none l hl (by omega) k m hm h2' hk1 (by rw [recL_length, ← hk]; exact hk2))
  have HRL := Lib.hid (show (recL l).length = n + 6 by rw [recL_length, hk])
  have HRO := Lib.hid (oct_rec hl (by omega))
  have C := Lib.hid (known_any w)
  have HC1 := Lib.hid (fun (W : World) (hb : Below w.heap.size w W) => by have := put_any A l c W (hr.below hb) hl hA (by omega); rw [← hk] at this; exact this)
  rw [← hk] at h1 ⊢
  clear hr hl hA hk hn h hkk
  generalize recL l = R at *
  go_enter Try.func7, Try.ntmps7
  go_wp2_with (first
    | (go_at_call 8; refine C.out.mono ?_; rintro e w1 ⟨rfl, hb1⟩)
    | (go_at_call 9; refine (HC1.out _ hb1).mono ?_; rintro e w2 ⟨v2, rfl, hv2, hb2⟩; have HB2 := Lib.hid (hb1.trans (hb2.mono hb1.size)); obtain ⟨g, c2, rfl, hg, hc2, hc3, hk0⟩ := OwnB.row hv2 (by rw [HRL.out]; omega); have HK := Lib.hid hk0; have hgg := Nat.le_trans hb1.size hg; rw [HRL.out] at hc2 ⊢; clear hv2 hb2 hk0 hg HC1 C))
  rw [hkI]
  clear hkI
  go_loopw [10] (fun i wr => ∃ j : Nat, j ≤ 32 ∧ i = .int .i64 j ∧ Hid (ByK wr g (flips R k m j)) ∧ Hid (Below w.heap.size w wr)) (fun i _ => 32 - (intOf i).toNat)
  case atStart => exact ⟨0, by omega, rfl, HK, HB2⟩
  case round =>
    obtain ⟨j, hj, rfl, HY, HB⟩ := hrel
    by_cases hlt : j < 32
    · have hsb := shr_bit m j hm
      have HL : Hid ((flips R k m j).length = n + 6) := Lib.hid (by rw [flips_length, HRL.out])
      have HF := Lib.hid (show flips R k m (j + 1) = if m / 2 ^ j % 2 = 1 then flipL (flips R k m j) (k + j) else flips R k m j from rfl)
      have HO := Lib.hid (flips_oct HRO.out k m j)
      by_cases hbit : m / 2 ^ j % 2 = 1
      · have hb9 : (bits .and .u32 ((m : Int) / 2 ^ j) 1 == 1) = true := by rw [hsb, hbit]; rfl
        have HF2 := Lib.hid (HF.out.trans (if_pos hbit))
        clear hsb HF hbit
        obtain ⟨q, hq⟩ : ∃ q, q = (k + j) / 8 := ⟨_, rfl⟩
        obtain ⟨e, he⟩ : ∃ e, e = (k + j) % 8 := ⟨_, rfl⟩
        have hqn : q < n + 6 := by omega
        have he8 : e < 8 := by omega
        obtain ⟨hc, hf⟩ := HY.out q (by rw [HL.out]; exact hqn)
        have hy := getD_oct HO.out q
        have HS := Lib.hid (HY.out.set q (by rw [HL.out]; exact hqn) ((flips R k m j).getD q 0 ^^^ 2 ^ e))
        have HFL := Lib.hid (show flipL (flips R k m j) (k + j) = (flips R k m j).set q ((flips R k m j).getD q 0 ^^^ 2 ^ e) from by unfold flipL; rw [hq, he])
        generalize (flips R k m j).getD q 0 = y at *
        have hqI : ((k : Int) + (j : Int)) / 8 = (q : Int) := by omega
        have heI : ((k : Int) + (j : Int)) % 8 = (e : Int) := by omega
        unfold byteV at hc
        clear hq he
        go_wp2
        go_region
        rw [xor_u8 y e hy he8]
        have HS2 : Hid (ByK ((wr.setCell ⟨g, q, none⟩ (Value.int .u8 ((y ^^^ 2 ^ e : Nat) : Int))).drew) g (flips R k m (j + 1))) := Lib.hid (by rw [HF2.out, HFL.out]; exact HS.out)
        have HW2 : Hid (Below w.heap.size w ((wr.setCell ⟨g, q, none⟩ (Value.int .u8 ((y ^^^ 2 ^ e : Nat) : Int))).drew)) := Lib.hid ((HB.out.setCell (p := ⟨g, q, none⟩) hgg _).drew)
        generalize ((wr.setCell ⟨g, q, none⟩ (Value.int .u8 ((y ^^^ 2 ^ e : Nat) : Int))).drew) = W3 at *
        clear HS HFL HF2 hc hf HY HB
        go_wp2
        go_roundw
        case rel => exact ⟨j + 1, by omega, by go_num, HS2, HW2⟩
        case measure => simp [intOf]; omega
      · have hb9 : (bits .and .u32 ((m : Int) / 2 ^ j) 1 == 1) = false := by rw [hsb, show m / 2 ^ j % 2 = 0 from by omega]; rfl
        have HF2 := Lib.hid (HF.out.trans (if_neg hbit))
        clear hsb HF hbit
        go_wp2
        go_roundw
        case rel => exact ⟨j + 1, by omega, by go_num, Lib.hid (by rw [HF2.out]; exact HY.out), HB⟩
        case measure => simp [intOf]; omega
    · obtain rfl : j = 32 := by omega
      have HO := Lib.hid (flips_oct HRO.out k m 32)
      have hlen : (flips R k m 32).length = n + 6 := by rw [flips_length, HRL.out]
      have C7 : Hid (∀ W, Below wr.heap.size wr W → Calls Try.prog 18 #[.slice (some ⟨g, 0, none⟩) (n + 6) c2] W fun e W' => ∃ v, e = .returned (.tuple #[v, .int .i64 0, .int .i64 13]) ∧ Below W.heap.size W W') := Lib.hid fun W hb => by
        have := next_any (some ⟨g, 0, none⟩) (flips R k m 32) c2 W (HY.out.below hb).byts HO.out (by omega) (by omega)
        rw [hlen] at this
        refine this.mono ?_
        rintro e w' ⟨v, rfl, hv, hb⟩
        rw [HBN.out]
        exact ⟨v, rfl, hb⟩
      have C8 : Hid (∀ W, Below wr.heap.size wr W → Calls Try.prog 16 #[.slice (some ⟨g, 0, none⟩) (n + 6) c2] W fun e w' => e = .returned (.int .i64 0) ∧ Below W.heap.size W w') := Lib.hid fun W hb => by
        have := whole_any (some ⟨g, 0, none⟩) (flips R k m 32) c2 W (HY.out.below hb).byts HO.out (by omega)
        rw [hlen, recs_none HBN.out] at this
        exact this
      clear hlen HO HY
      go_wp2_with (first
        | (go_at_call 18; refine (C7.out _ (Below.refl _ _)).mono ?_; rintro e w7 ⟨v7, rfl, hb7⟩)
        | (go_at_call 16; refine (C8.out _ hb7).mono ?_; rintro e w8 ⟨rfl, hb8⟩))
      go_ret
      exact ⟨rfl, (HB.out.trans (hb7.mono HB.out.size)).trans (hb8.mono (Nat.le_trans HB.out.size hb7.size))⟩
end Go.Proofs.Ytmopipclheohcaa
