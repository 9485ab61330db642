/-
  The walk of novationlaw5.known.
-/
import Derived.Test.YtcpimdafpmdjnaaStr5
namespace Go.Proofs.Ytcpimdafpmdjnaa
open Go Go.RowKit
set_option linter.unusedVariables false

theorem made_nine (w : World) : ∃ W, (Instr.makeSlice 31 (.int .i64 9) (.int .i64 9)).run Try.prog w = .ok (.slice (some ⟨w.heap.size, 0, none⟩) 9 9) W ∧ Below w.heap.size w W := by
  obtain ⟨i0, hi, hz0, hz1, hz2⟩ := parts_of info_u8
  have h := run_make (P := Try.prog) w 31 5 i0 (.int .u8 0) Try.underlying31 hi hz0 .i64 .i64 9 9 (by omega) (by omega) (by rw [hz2]; omega) (by omega)
  exact ⟨_, h, (Below.refl _ _).alloc (Nat.le_refl _) _⟩
theorem ap1 : (newTp 9).append [97, 98] = (⟨[97, 98], 9, false, false, 0, 0⟩, 0) := by rfl
theorem ap2 : (Tp.arm ⟨[97, 98], 9, false, false, 0, 0⟩ 0 1).append [99, 100] = (⟨[97, 98, 99], 9, true, false, 0, 0⟩, 15) := by rfl
theorem ap3 : Tp.wake ⟨[97, 98, 99], 9, true, false, 0, 0⟩ = ⟨[97, 98, 99], 9, false, false, 0, 0⟩ := by rfl
theorem ap4 : Tp.cut ⟨[97, 98, 99], 9, false, false, 0, 0⟩ 1 = (⟨[97], 9, false, false, 0, 0⟩, 0) := by rfl
theorem bstr_abc : bstr [97, 98, 99] = { data := #[97, 98, 99] } := by decide +kernel
set_option maxRecDepth 100000 in
set_option maxHeartbeats 2000000 in
theorem known_any (w : World) : Calls Try.prog 8 #[] w fun e W' => e = .returned (.bool true) ∧ Below w.heap.size w W' := by
  have C1 := Lib.hid (in_new 9 w)
  go_enter Try.func8, Try.ntmps8
  go_wp2_with (first
    | (go_at_call 10; refine C1.out.mono ?_; rintro e w1 ⟨rfl, h1⟩; obtain ⟨W1, cc1, b1, y1⟩ := lit_bytes w1 #[.int .u8 97, .int .u8 98] [97, 98] rfl 2 2; have CA1 := Lib.hid (h1.append b1 (some ⟨w1.heap.size, 0, none⟩) 2 2 [97, 98] rfl y1 (by unfold Oct; decide) (by intro e; cases e) (by decide) (by decide) (by intro bb off e _; injection e with e; injection e with e; exact .inr (by omega))); rw [ap1] at CA1; clear h1 b1 y1)
    | (go_at_call 17; (with_reducible refine (CA1.out).mono ?_); rintro e w2 ⟨rfl, h2⟩; have CA2 := Lib.hid (h2.arm 0 1 (by unfold I64; omega) (by unfold I64; omega)); clear h2 cc1)
    | (go_at_call 16; (with_reducible refine (CA2.out).mono ?_); rintro e w3 ⟨rfl, h3⟩; obtain ⟨W3, cc3, b3, y3⟩ := lit_bytes w3 #[.int .u8 99, .int .u8 100] [99, 100] rfl 2 2; have CA3 := Lib.hid (h3.append b3 (some ⟨w3.heap.size, 0, none⟩) 2 2 [99, 100] rfl y3 (by unfold Oct; decide) (by intro e; cases e) (by decide) (by decide) (by intro bb off e _; injection e with e; injection e with e; exact .inr (by omega))); rw [ap2] at CA3; clear h3 b3 y3))
  go_wp2_with (first
    | (go_at_call 17; (with_reducible refine (CA3.out).mono ?_); rintro e w4 ⟨rfl, h4⟩; have H4 := Lib.hid h4; clear h4 cc3)
    | (go_at_call 18; (with_reducible refine (H4.out.down).mono ?_); rintro e _ ⟨rfl, rfl⟩)
    | (go_at_call 20; (with_reducible refine (H4.out.wake).mono ?_); rintro e w5 ⟨rfl, h5⟩; rw [ap3] at h5; have H5 := Lib.hid h5; clear h5))
  have CR : Hid (Calls Try.prog 21 #[.pointer (some ⟨w.heap.size, 0, none⟩)] w5 fun e w' => BytesC w5 [97, 98, 99] 0 e w' ∧ In w w.heap.size w.heap.size ⟨[97, 98, 99], 9, false, false, 0, 0⟩ w') := Lib.hid H5.out.read
  go_wp2_with (first
    | (go_at_call 21; (with_reducible refine (CR.out).mono ?_); rintro e w6 ⟨⟨v6, rfl, ho6, hb6⟩, h6⟩; have H6 := Lib.hid h6; obtain ⟨A6, c6, rfl, hy6, _⟩ := OwnB.form ho6; have hst := run_bstr w6 A6 [97, 98, 99] 3 c6 rfl hy6; rw [bstr_abc] at hst; have CC := Lib.hid (h6.cut 1); rw [ap4] at CC; clear h6 ho6 hb6 hy6)
    | (go_at_call 22; (with_reducible refine (H6.out.len).mono ?_); rintro e _ ⟨rfl, rfl⟩)
    | (go_at_call 23; (with_reducible refine (H6.out.room).mono ?_); rintro e _ ⟨rfl, rfl⟩)
    | (go_at_call 19; (with_reducible refine (CC.out).mono ?_); rintro e w7 ⟨rfl, h7⟩; have H7 := Lib.hid h7; obtain ⟨W7, hmk, b7⟩ := made_nine w7; have CF := Lib.hid (h7.full b7 (some ⟨w7.heap.size, 0, none⟩) 9 9 (by decide) rfl (by decide)); clear h7 b7)
    | (go_at_call 22; (with_reducible refine (H7.out.len).mono ?_); rintro e _ ⟨rfl, rfl⟩)
    | (go_at_call 17; (with_reducible refine (CF.out).mono ?_); rintro e w8 ⟨rfl, h8⟩; have H8 := Lib.hid h8; clear h8)
    | (go_at_call 18; (with_reducible refine (H8.out.down).mono ?_); rintro e _ ⟨rfl, rfl⟩))
  go_ret
  exact ⟨rfl, H8.out.below⟩
end Go.Proofs.Ytcpimdafpmdjnaa
