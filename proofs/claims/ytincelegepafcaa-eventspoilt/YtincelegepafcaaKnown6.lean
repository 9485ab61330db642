/-
  The walk of novationlaw6.known.
-/
import Derived.Test.YtincelegepafcaaPv7
namespace Go.Proofs.Ytincelegepafcaa
open Go Go.RowKit
set_option linter.unusedVariables false

theorem str_own {w w' : World} {base : Nat} {v : Value} {l : List Nat} (h : OwnB w base v l) (hb : Below w.heap.size w w') : (convert 25 9 v).run Try.prog w' = .ok (.string (bstr l)) w' := by
  obtain ⟨A, c, rfl, hB, _⟩ := h.form
  exact run_bstr w' A l _ c rfl (hB.below hb)
def ev0 : Ev := ⟨19, 2, 0, 0, 0, 9, 0, -1⟩
theorem ev0_ok : ev0.Ok := by constructor <;> (unfold I64 ev0; simp only; omega)
theorem zero_ok : Ev.zero.Ok := by constructor <;> (unfold I64 Ev.zero; simp only; omega)
theorem ev0_right : rightE ev0 = true := by decide +kernel
theorem ev0_put : putE? ev0 = ([19, 4, 18, 1], 0) := by
  have hz1 : zig 2 = 4 := by decide
  have hz2 : zig 9 = 18 := by decide
  have hz3 : zig (-1) = 1 := by decide
  have hb : putB ev0 (fieldsOf ev0.kind) = [19, 4, 18, 1] := by
    rw [show fieldsOf ev0.kind = [77, 68, 80] by decide]
    simp [putB, ev0, Ev.val, numB, hz1, hz2, hz3, sevens_small]
  unfold putE?
  rw [ev0_right, hb]
  rfl
theorem ev0_read : readOut [19, 4, 18, 1] = (ev0, 0) := by
  have h := readE_put ev0_ok ev0_right
  have hp := ev0_put
  unfold putE? at hp
  rw [ev0_right] at hp
  have hb : putB ev0 (fieldsOf ev0.kind) = [19, 4, 18, 1] := congrArg Prod.fst hp
  rw [hb] at h
  exact readOut_some h
theorem zero_put : putE? Ev.zero = ([], 1) := by
  have : rightE Ev.zero = false := by decide +kernel
  unfold putE?
  rw [this]
  rfl
theorem nil_read : readOut [] = (Ev.zero, 13) := by
  rw [readOut_none (by unfold readE; rw [if_neg (by simp)])]
theorem num_300 : [97] ++ numB 300 = [97, 216, 4] := by
  have hz : zig 300 = 600 := by decide
  unfold numB
  rw [hz, sevens_great (by omega), sevens_small (by omega)]
  rfl
theorem str_ev0 : bstr [19, 4, 18, 1] = { data := #[19, 4, 18, 1] } := by decide +kernel
theorem str_fill : bstr (fieldsOf 17) = { data := #[65, 68, 81, 80] } := by decide +kernel
theorem str_300 : bstr [97, 216, 4] = { data := #[97, 216, 4] } := by decide +kernel
set_option maxRecDepth 100000 in
set_option maxHeartbeats 4000000 in
theorem known_any (w : World) : Calls Try.prog 9 #[] w fun e W' => e = .returned (.bool true) ∧ Below w.heap.size w W' := by
  have C1 : Hid (∀ W, Calls Try.prog 10 #[.agg #[.int .i64 19, .int .i64 2, .int .i64 0, .int .i64 0, .int .i64 0, .int .i64 9, .int .i64 0, .int .i64 (-1)]] W (BytesK W [19, 4, 18, 1] 0)) := Lib.hid fun W => by
    have := pput_any ev0 ev0_ok W
    rw [ev0_put] at this
    exact this
  have C2 : Hid (∀ A c W, Byts W A [19, 4, 18, 1] → 4 ≤ c → Calls Try.prog 20 #[.slice A 4 c] W fun r w' => r = .returned (.tuple #[.agg #[.int .i64 19, .int .i64 2, .int .i64 0, .int .i64 0, .int .i64 0, .int .i64 9, .int .i64 0, .int .i64 (-1)], .int .i64 0]) ∧ Below W.heap.size W w') := Lib.hid fun A c W h hc => by
    have := pread_any A [19, 4, 18, 1] c W h (by unfold Oct; decide) (by decide) hc
    rw [ev0_read] at this
    exact this
  have C3 : Hid (∀ W, Calls Try.prog 10 #[.agg #[.int .i64 0, .int .i64 0, .int .i64 0, .int .i64 0, .int .i64 0, .int .i64 0, .int .i64 0, .int .i64 0]] W (BytesK W [] 1)) := Lib.hid fun W => by
    have := pput_any Ev.zero zero_ok W
    rw [zero_put] at this
    exact this
  have C4 : Hid (∀ W, Calls Try.prog 20 #[.slice none 0 0] W fun r w' => r = .returned (.tuple #[.agg #[.int .i64 0, .int .i64 0, .int .i64 0, .int .i64 0, .int .i64 0, .int .i64 0, .int .i64 0, .int .i64 0], .int .i64 13]) ∧ Below W.heap.size W w') := Lib.hid fun W => by
    have := pread_any none [] 0 W (byts_none _ _ rfl) (by unfold Oct; decide) (by decide) (by decide)
    rw [nil_read] at this
    exact this
  have C5 : Hid (∀ W, Calls Try.prog 12 #[.agg #[.int .i64 19, .int .i64 2, .int .i64 0, .int .i64 0, .int .i64 0, .int .i64 9, .int .i64 0, .int .i64 (-1)]] W fun r w' => r = .returned (.bool true) ∧ Below W.heap.size W w') := Lib.hid fun W => by
    have := pright_any ev0 W
    rw [ev0_right] at this
    exact this
  have C6 : Hid (∀ W, Calls Try.prog 14 #[.int .i64 17] W fun r w' => r = .returned (.string { data := #[65, 68, 81, 80] }) ∧ W = w') := Lib.hid fun W => by
    have := pfields_any 17 W
    rw [str_fill] at this
    exact this
  have C7 : Hid (∀ A c W, Byts W A [97] → (A = none → c = 0) → Calls Try.prog 21 #[.slice A 1 c, .int .i64 300] W (BytesN W [97, 216, 4])) := Lib.hid fun A c W h hA => by
    have := pnumber_any A [97] c 300 W h hA (by decide) (by unfold I64; omega)
    rw [num_300] at this
    exact this
  have HE1 : Hid (EvAt (w.alloc (.cells ev0.cells.toArray 23)) w.heap.size ev0) := Lib.hid (Rec.new w _ ev0.cells _ rfl)
  have HB0 : Hid (Below w.heap.size w (w.alloc (.cells ev0.cells.toArray 23))) := Lib.hid ((Below.refl _ _).alloc (Nat.le_refl _) _)
  unfold ev0 Ev.cells at HE1 HB0
  dsimp only at HE1 HB0
  go_enter Try.func9, Try.ntmps9
  go_wp2_with (first
    | (go_at_call 10; (with_reducible refine (C1.out _).mono ?_); rintro r w1 ⟨v1, rfl, ho1, hb1⟩; have H1 := Lib.hid (HE1.out.keep hb1); have HB1 := Lib.hid (HB0.out.trans (hb1.mono HB0.out.size)); have HO1 := Lib.hid ho1; obtain ⟨A1, c1, rfl, hy1, hc1, _⟩ := ho1.form; have CR := Lib.hid (C2.out A1 c1 w1 hy1 hc1); clear ho1 hb1 hy1 hc1)
    | (go_at_call 20; (with_reducible refine CR.out.mono ?_); rintro r w2 ⟨rfl, hb2⟩; have HB2 := Lib.hid hb2; have K1 : Hid (EvAt (w2.alloc (.cells #[.int .i64 19, .int .i64 2, .int .i64 0, .int .i64 0, .int .i64 0, .int .i64 9, .int .i64 0, .int .i64 (-1)] 23)) w.heap.size ev0 ∧ EvAt (w2.alloc (.cells #[.int .i64 19, .int .i64 2, .int .i64 0, .int .i64 0, .int .i64 0, .int .i64 9, .int .i64 0, .int .i64 (-1)] 23)) w2.heap.size ev0 ∧ Below w1.heap.size w1 (w2.alloc (.cells #[.int .i64 19, .int .i64 2, .int .i64 0, .int .i64 0, .int .i64 0, .int .i64 9, .int .i64 0, .int .i64 (-1)] 23))) := (Lib.hid ⟨(H1.out.keep hb2).keep ((Below.refl _ _).alloc (Nat.le_refl _) _), Rec.new w2 _ ev0.cells _ rfl, hb2.alloc hb2.size _⟩); clear hb2 CR)
    | (go_at_call 10; (with_reducible refine (C3.out _).mono ?_); rintro r w3 ⟨v3, rfl, ho3, hb3⟩; have K2 := Lib.hid (⟨K1.out.1.keep hb3, K1.out.2.1.keep hb3, K1.out.2.2.trans (hb3.mono K1.out.2.2.size)⟩ : EvAt w3 w.heap.size ev0 ∧ EvAt w3 w2.heap.size ev0 ∧ Below w1.heap.size w1 w3); obtain ⟨A3, c3, rfl, _⟩ := ho3.form; clear hb3 K1 ho3)
    | (go_at_call 20; (with_reducible refine (C4.out _).mono ?_); rintro r w4 ⟨rfl, hb4⟩; have K3 := Lib.hid (⟨K2.out.1.keep hb4, K2.out.2.1.keep hb4, K2.out.2.2.trans (hb4.mono K2.out.2.2.size)⟩ : EvAt w4 w.heap.size ev0 ∧ EvAt w4 w2.heap.size ev0 ∧ Below w1.heap.size w1 w4); clear hb4 K2; have K4 : Hid (EvAt (w4.alloc (.cells #[.int .i64 0, .int .i64 0, .int .i64 0, .int .i64 0, .int .i64 0, .int .i64 0, .int .i64 0, .int .i64 0] 23)) w.heap.size ev0 ∧ EvAt (w4.alloc (.cells #[.int .i64 0, .int .i64 0, .int .i64 0, .int .i64 0, .int .i64 0, .int .i64 0, .int .i64 0, .int .i64 0] 23)) w2.heap.size ev0 ∧ Below w1.heap.size w1 (w4.alloc (.cells #[.int .i64 0, .int .i64 0, .int .i64 0, .int .i64 0, .int .i64 0, .int .i64 0, .int .i64 0, .int .i64 0] 23))) := (Lib.hid ⟨K3.out.1.keep ((Below.refl _ _).alloc (Nat.le_refl _) _), K3.out.2.1.keep ((Below.refl _ _).alloc (Nat.le_refl _) _), K3.out.2.2.alloc K3.out.2.2.size _⟩); have hst : (convert 25 9 (.slice A1 4 c1)).run Try.prog (w4.alloc (.cells #[.int .i64 0, .int .i64 0, .int .i64 0, .int .i64 0, .int .i64 0, .int .i64 0, .int .i64 0, .int .i64 0] 23)) = .ok (.string { data := #[19, 4, 18, 1] }) (w4.alloc (.cells #[.int .i64 0, .int .i64 0, .int .i64 0, .int .i64 0, .int .i64 0, .int .i64 0, .int .i64 0, .int .i64 0] 23)) := (by have h := str_own HO1.out K4.out.2.2; rw [str_ev0] at h; exact h); obtain ⟨a0, a1, a2, a3, a4, a5, a6, a7⟩ := K4.out.1.reads; obtain ⟨b0, b1, b2, b3, b4, b5, b6, b7⟩ := K4.out.2.1.reads; unfold ev0 at a0 a1 a2 a3 a4 a5 a6 a7 b0 b1 b2 b3 b4 b5 b6 b7; dsimp only at a0 a1 a2 a3 a4 a5 a6 a7 b0 b1 b2 b3 b4 b5 b6 b7)
    | (go_at_call 12; (with_reducible refine (C5.out _).mono ?_); rintro r w6 ⟨rfl, hb6⟩; have HB6 := Lib.hid (HB1.out.trans ((K4.out.2.2.trans (hb6.mono K4.out.2.2.size)).mono HB1.out.size)); obtain ⟨W7, hcv, hb7, hy7⟩ := lit_bytes w6 #[.int .u8 97] [97] rfl 1 1; have CM := Lib.hid (C7.out _ 1 W7 hy7 (by intro e; cases e)); have HB7 := Lib.hid (HB6.out.trans (hb7.mono HB6.out.size)); clear hb6 hb7 hy7 a0 a1 a2 a3 a4 a5 a6 a7 b0 b1 b2 b3 b4 b5 b6 b7 hst)
    | (go_at_call 14; (with_reducible refine (C6.out _).mono ?_); rintro r _ ⟨rfl, rfl⟩)
    | (go_at_call 21; (with_reducible refine CM.out.mono ?_); rintro r w8 ⟨v8, rfl, ho8, hb8⟩; obtain ⟨A8, c8, rfl, _⟩ := ho8.form; have hst8 : (convert 25 9 (.slice A8 3 c8)).run Try.prog w8 = .ok (.string { data := #[97, 216, 4] }) w8 := (by have h := str_own ho8 (Below.refl _ _); rw [str_300] at h; exact h); have HB8 := Lib.hid (HB7.out.trans (hb8.mono HB7.out.size)); clear ho8 hb8))
  go_ret
  exact ⟨rfl, HB8.out⟩
end Go.Proofs.Ytincelegepafcaa
