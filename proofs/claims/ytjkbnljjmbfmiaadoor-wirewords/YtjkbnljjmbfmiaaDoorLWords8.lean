/-
  The walk of novationlaw8.WireWords.
-/
import Derived.Test.YtjkbnljjmbfmiaaDoorLReads8
import Derived.Test.YtjkbnljjmbfmiaaDoorSby
namespace Go.Proofs.YtjkbnljjmbfmiaaDoor
open Go Go.RowKit
set_option linter.unusedVariables false

set_option maxRecDepth 100000 in
set_option maxHeartbeats 8000000 in
theorem wwordsl_walk (kd : Nat) (hkd : kd < 256) (A : Option Addr) (ns : List Int) (c n : Nat) (hn : n = ns.length) (hI : ∀ x ∈ ns, I64 x) (hn0 : n ≤ 9223372036854775807) (sd : Nat) (hsd : sd < 256) (w : World) (hA : Ints w .i64 A ns) (hw : Laid w) : Calls Tryd.prog 7 #[.int .u8 (kd : Int), .slice A n c, .int .u8 (sd : Int)] w fun r w' => r = .returned (.bool true) ∧ Below w.heap.size w w' := by
  have CK := Lib.hid (known8 w hw)
  by_cases h8 : n ≤ 8
  · have hd8 : decide (8 < (n : Int)) = false := decide_eq_false (by omega)
    obtain ⟨q22, hq22⟩ : ∃ q, q = kd % 22 := ⟨_, rfl⟩
    have hm22 : (kd : Int) % 22 = (q22 : Int) := by omega
    have hw22 : IntKind.i64.wrap (q22 : Int) = (q22 : Int) := by simp [IntKind.wrap, IntKind.bits, IntKind.signed]; omega
    have hb22 : q22 < 22 := by omega
    obtain ⟨q4, hq4⟩ : ∃ q, q = sd % 4 := ⟨_, rfl⟩
    have hm4 : (sd : Int) % 4 = (q4 : Int) := by omega
    have hw4 : IntKind.i64.wrap (q4 : Int) = (q4 : Int) := by simp [IntKind.wrap, IntKind.bits, IntKind.signed]; omega
    obtain ⟨q3, hq3⟩ : ∃ q, q = sd % 3 := ⟨_, rfl⟩
    have hm3 : (sd : Int) % 3 = (q3 : Int) := by omega
    obtain ⟨p2, hp2⟩ : ∃ q, q = sd / 200 := ⟨_, rfl⟩
    have hmp : (sd : Int) / 200 = (p2 : Int) := by omega
    obtain ⟨q2, hq2⟩ : ∃ q, q = p2 % 2 := ⟨_, rfl⟩
    have hm2 : (p2 : Int) % 2 = (q2 : Int) := by omega
    have hb3 : q3 < 3 := by omega
    have hb2 : q2 < 2 := by omega
    have HSUM : Hid (∀ q : Nat, q = q3 + q2 → IntKind.u8.wrap ((q3 : Int) + (q2 : Int)) = (q : Int)) := Lib.hid (fun q h => by simp [IntKind.wrap, IntKind.bits, IntKind.signed]; omega)
    have CW := Lib.hid (fun W => wword_any (1 + (q22 : Int)) W)
    have HWL := Lib.hid (word_len (1 + (q22 : Int)))
    have HWO := Lib.hid (word_octs (1 + (q22 : Int)))
    obtain ⟨D0, hD0⟩ : ∃ D, D = wordOf (1 + (q22 : Int)) := ⟨_, rfl⟩
    rw [← hD0] at CW HWL HWO
    have HLW := Lib.hid hw
    have HA := Lib.hid hA
    have HN := Lib.hid hn
    have HI := Lib.hid hI
    clear hq22 hq4 hq3 hp2 hq2 hn hI hA hw hD0 hkd hsd hn0
    go_enter Tryd.func7, Tryd.ntmps7
    go_wp2_with (first
      | (go_at_call 9; (with_reducible refine CK.out.mono ?_); rintro r w1 ⟨rfl, hb1⟩; have HB1 := Lib.hid hb1; clear hb1 CK)
      | (go_at_call 15; (with_reducible refine (CW.out _).mono ?_); rintro r w2 ⟨rfl, hb2'⟩; have HB2 := Lib.hid (HB1.out.trans (hb2'.mono HB1.out.size)); clear hb2' CW))
    go_loopw [7, 8] (fun s i wr => ∃ (k : Nat) (D : List Nat), s = .string (bstr D) ∧ i = .int .i64 (k : Int) ∧ k ≤ n ∧ Hid (D.length ≤ 9 + 22 * k) ∧ Hid (Oct D) ∧ Hid (Below w.heap.size w wr)) (fun _ i _ => n - (intOf i).toNat)
    case atStart => exact ⟨0, D0, rfl, rfl, Nat.zero_le _, Lib.hid (by have := HWL.out; omega), HWO, HB2⟩
    case round =>
      obtain ⟨k, D, rfl, rfl, hk, HL, HO, HB⟩ := hrel
      have hsD : (bstr D).size = D.length := bstr_size D
      have hlD : D.length ≤ 300 := by have := HL.out; omega
      by_cases hlt : k < n
      · by_cases hc4 : k = q4 ∧ 40 < sd
        · obtain ⟨hkq', h40'⟩ := hc4
          have h40 : decide (40 < (sd : Int)) = true := decide_eq_true (by omega)
          have hqq : ∃ q, q = q3 + q2 ∧ q < 4 := ⟨_, rfl, by omega⟩
          obtain ⟨q, hq, hqb⟩ := hqq
          have hsum := HSUM.out q hq
          clear h40' hq
          subst hkq'
          rcases (by omega : q = 0 ∨ q = 1 ∨ q = 2 ∨ q = 3) with rfl | rfl | rfl | rfl
          · have hs : IntKind.u8.wrap ((q3 : Int) + (q2 : Int)) = 0 := hsum
            have hcat : bstr D ++ ({ data := #[32, 98, 117, 121] } : ByteArray) = bstr (D ++ [32, 98, 117, 121]) := bstr_cat D [32, 98, 117, 121]
            clear hsum
            go_wp2
            go_roundw
            case rel => exact ⟨k + 1, D ++ [32, 98, 117, 121], rfl, by go_num, by omega, Lib.hid (by rw [List.length_append]; have := HL.out; simp only [List.length_cons, List.length_nil]; omega), Lib.hid (fun z hz => by rcases List.mem_append.1 hz with h | h; exact HO.out z h; exact (show Oct [32, 98, 117, 121] by unfold Oct; decide) z h), Lib.hid (HB.out.alloc HB.out.size _)⟩
            case measure => simp [intOf]; omega
          · have hs : IntKind.u8.wrap ((q3 : Int) + (q2 : Int)) = 1 := hsum
            have hcat : bstr D ++ ({ data := #[32, 115, 101, 108, 108] } : ByteArray) = bstr (D ++ [32, 115, 101, 108, 108]) := bstr_cat D [32, 115, 101, 108, 108]
            clear hsum
            go_wp2
            go_roundw
            case rel => exact ⟨k + 1, D ++ [32, 115, 101, 108, 108], rfl, by go_num, by omega, Lib.hid (by rw [List.length_append]; have := HL.out; simp only [List.length_cons, List.length_nil]; omega), Lib.hid (fun z hz => by rcases List.mem_append.1 hz with h | h; exact HO.out z h; exact (show Oct [32, 115, 101, 108, 108] by unfold Oct; decide) z h), Lib.hid (HB.out.alloc HB.out.size _)⟩
            case measure => simp [intOf]; omega
          · have hs : IntKind.u8.wrap ((q3 : Int) + (q2 : Int)) = 2 := hsum
            have hcat : bstr D ++ ({ data := #[32, 104, 111, 117, 115, 101] } : ByteArray) = bstr (D ++ [32, 104, 111, 117, 115, 101]) := bstr_cat D [32, 104, 111, 117, 115, 101]
            clear hsum
            go_wp2
            go_roundw
            case rel => exact ⟨k + 1, D ++ [32, 104, 111, 117, 115, 101], rfl, by go_num, by omega, Lib.hid (by rw [List.length_append]; have := HL.out; simp only [List.length_cons, List.length_nil]; omega), Lib.hid (fun z hz => by rcases List.mem_append.1 hz with h | h; exact HO.out z h; exact (show Oct [32, 104, 111, 117, 115, 101] by unfold Oct; decide) z h), Lib.hid (HB.out.alloc HB.out.size _)⟩
            case measure => simp [intOf]; omega
          · have hs : IntKind.u8.wrap ((q3 : Int) + (q2 : Int)) = 3 := hsum
            have hcat : bstr D ++ ({ data := #[32, 99, 108, 105, 101, 110, 116] } : ByteArray) = bstr (D ++ [32, 99, 108, 105, 101, 110, 116]) := bstr_cat D [32, 99, 108, 105, 101, 110, 116]
            clear hsum
            go_wp2
            go_roundw
            case rel => exact ⟨k + 1, D ++ [32, 99, 108, 105, 101, 110, 116], rfl, by go_num, by omega, Lib.hid (by rw [List.length_append]; have := HL.out; simp only [List.length_cons, List.length_nil]; omega), Lib.hid (fun z hz => by rcases List.mem_append.1 hz with h | h; exact HO.out z h; exact (show Oct [32, 99, 108, 105, 101, 110, 116] by unfold Oct; decide) z h), Lib.hid (HB.out.alloc HB.out.size _)⟩
            case measure => simp [intOf]; omega
        · obtain ⟨bA, oA, rfl, hcA⟩ := (HA.out.below HB.out) (by rw [← HN.out]; omega)
          have hca := hcA k (by rw [← HN.out]; exact hlt)
          have hx : I64 (ns.getD k 0) := HI.out _ (by rw [List.getD_eq_getElem?_getD, List.getElem?_eq_getElem (by rw [← HN.out]; exact hlt)]; exact List.getElem_mem _)
          have CD1 := Lib.hid (fun W => decimal_any (ns.getD k 0) hx W)
          have HFL := Lib.hid (dec_len hx)
          have HFO := Lib.hid (dec_oct (ns.getD k 0))
          obtain ⟨F, hF⟩ : ∃ F, F = dec (ns.getD k 0) := ⟨_, rfl⟩
          rw [← hF] at CD1 HFL HFO
          generalize ns.getD k 0 = x at *
          have hsF : (bstr F).size = F.length := bstr_size F
          have hlF : F.length ≤ 20 := HFL.out
          have hcat1 : ({ data := #[32] } : ByteArray) ++ bstr F = bstr (32 :: F) := bstr_cat [32] F
          have hs1 : (bstr (32 :: F)).size = F.length + 1 := by rw [bstr_size]; rfl
          have hcat2 : bstr D ++ bstr (32 :: F) = bstr (D ++ 32 :: F) := bstr_cat D (32 :: F)
          clear hF hx hcA
          by_cases hkq' : k = q4
          · have h40 : decide (40 < (sd : Int)) = false := decide_eq_false (fun h => hc4 ⟨hkq', by omega⟩)
            clear hc4
            subst hkq'
            have hkq : True := trivial
            go_wp2_with (go_at_call 20; (with_reducible refine (CD1.out _).mono ?_); rintro r w4 ⟨rfl, hb4⟩; have HB4 := Lib.hid (HB.out.trans (hb4.mono HB.out.size)); clear hb4)
            go_roundw
            case rel => exact ⟨k + 1, D ++ 32 :: F, rfl, by go_num, by omega, Lib.hid (by rw [List.length_append, List.length_cons]; have := HL.out; have := HFL.out; omega), Lib.hid (fun z hz => by rcases List.mem_append.1 hz with h | h; exact HO.out z h; rcases List.mem_cons.1 h with h | h; omega; exact HFO.out z h), HB4⟩
            case measure => simp [intOf]; omega
          · have hkq : ((k : Int) == (q4 : Int)) = false := beq_eq_false_iff_ne.2 (by omega)
            clear hc4 hkq'
            go_wp2_with (go_at_call 20; (with_reducible refine (CD1.out _).mono ?_); rintro r w4 ⟨rfl, hb4⟩; have HB4 := Lib.hid (HB.out.trans (hb4.mono HB.out.size)); clear hb4)
            go_roundw
            case rel => exact ⟨k + 1, D ++ 32 :: F, rfl, by go_num, by omega, Lib.hid (by rw [List.length_append, List.length_cons]; have := HL.out; have := HFL.out; omega), Lib.hid (fun z hz => by rcases List.mem_append.1 hz with h | h; exact HO.out z h; rcases List.mem_cons.1 h with h | h; omega; exact HFO.out z h), HB4⟩
            case measure => simp [intOf]; omega
      · obtain rfl : k = n := by omega
        have HDD : Hid (∀ W, Below w.heap.size w W → ∃ (c5 : Nat) (W5 : World), (convert 9 38 (.string (bstr D))).run Tryd.prog W = .ok (.slice (some ⟨W.heap.size, 0, none⟩) D.length c5) W5 ∧ Below W.heap.size W W5 ∧ Byts W5 (some ⟨W.heap.size, 0, none⟩) D) := Lib.hid (fun W _ => by
          obtain ⟨c5, W5, h1, h2, h3, _⟩ := run_sbytes W D HO.out _ rfl
          exact ⟨c5, W5, h1, h2, h3⟩)
        obtain ⟨c5, W5, hcv, hbl, hy⟩ := HDD.out wr HB.out
        have HB5 := Lib.hid (HB.out.trans (hbl.mono HB.out.size))
        have CR := Lib.hid (reads_any (some ⟨wr.heap.size, 0, none⟩) D D.length c5 W5 rfl hy HO.out (by omega) (HLW.out.keep HB5.out))
        clear hbl hy HDD
        go_wp2_with (go_at_call 17; (with_reducible refine CR.out.mono ?_); rintro r w6 ⟨rfl, hb6⟩; have HB6 := Lib.hid (HB5.out.trans (hb6.mono HB5.out.size)); clear hb6)
        go_ret
        exact ⟨rfl, HB6.out⟩
  · have hd8 : decide (8 < (n : Int)) = true := decide_eq_true (by omega)
    clear hn hI hA hw hkd hsd hn0
    go_enter Tryd.func7, Tryd.ntmps7
    go_wp2_with (go_at_call 9; (with_reducible refine CK.out.mono ?_); rintro r w1 ⟨rfl, hb1⟩; have HB1 := Lib.hid hb1; clear hb1 CK)
    go_ret
    exact ⟨rfl, HB1.out⟩
theorem wwords_top (a0 : Int) (h0 : (Lit.int .u8 a0).wf = true) (A : Option Addr) (ns : List Int) (c n : Nat) (hn : n = ns.length) (hI : ∀ x ∈ ns, (Lit.int .i64 x).wf = true) (hn0 : n ≤ 9223372036854775807) (a2 : Int) (h2 : (Lit.int .u8 a2).wf = true) (w : World) (hA : Ints w .i64 A ns) (hw : Laid w) : Calls Tryd.prog 7 #[.int .u8 a0, .slice A n c, .int .u8 a2] w fun r w' => r = .returned (.bool true) ∧ Below w.heap.size w w' := by
  obtain ⟨g0, g1⟩ := wf_u8 h0
  obtain ⟨g2, g3⟩ := wf_u8 h2
  obtain ⟨kd, rfl⟩ : ∃ k : Nat, a0 = (k : Int) := ⟨a0.toNat, by omega⟩
  obtain ⟨sd, rfl⟩ : ∃ k : Nat, a2 = (k : Int) := ⟨a2.toNat, by omega⟩
  exact wwordsl_walk kd (by omega) A ns c n hn (fun x hx => by have := hI x hx; unfold I64; simp [Lit.wf, IntKind.min, IntKind.max, IntKind.bits, IntKind.signed] at this; omega) hn0 sd (by omega) w hA hw
end Go.Proofs.YtjkbnljjmbfmiaaDoor
