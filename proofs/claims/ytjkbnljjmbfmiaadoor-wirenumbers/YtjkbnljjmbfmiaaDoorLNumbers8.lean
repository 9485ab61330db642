/-
  The walk of novationlaw8.WireNumbers.
-/
import Derived.Test.YtjkbnljjmbfmiaaDoorDep8
import Derived.Laws.BitsAllLaws
namespace Go.Proofs.YtjkbnljjmbfmiaaDoor
open Go Go.RowKit
set_option linter.unusedVariables false

theorem or_one (H : Nat) (h : H < 9223372036854775808) : bits .or .i64 (H : Int) 1 = ((H ||| 1 : Nat) : Int) := by
  have hx : H ||| 1 < 2 ^ 63 := Nat.or_lt_two_pow (by omega) (by omega)
  show IntKind.i64.wrap ((BitVec.ofInt 64 (H : Int) ||| BitVec.ofInt 64 ((1 : Nat) : Int)).toNat : Int) = _
  rw [BitVec.toNat_or, ofInt_u64 H (by omega), ofInt_u64 1 (by omega)]
  generalize H ||| 1 = y at *
  simp [IntKind.wrap, IntKind.bits, IntKind.signed]
  omega
theorem dep_app (a : Int) (X : List Nat) : depL a X = depL a [] ++ X := by
  unfold depL
  simp [tailOf]
theorem run_ev_ne (x e : Ev) (W : World) : (binOp .neq 23 x.v e.v).run Tryd.prog W = .ok (.bool (!decide (x = e))) W := by
  rw [ev_eq]
  unfold Ev.v
  simp [go_sem]
  repeat' split
  all_goals simp_all
set_option maxRecDepth 100000 in
set_option maxHeartbeats 16000000 in
theorem wnumbers_walk (ac Q hw8 : Nat) (hac : ac < 256) (hQ : Q < 18446744073709551616) (hh : hw8 < 256) (w : World) (hw : Laid w) : Calls Tryd.prog 8 #[.int .u8 (ac : Int), .int .u64 (Q : Int), .int .u8 (hw8 : Int)] w fun r w' => r = .returned (.bool true) ∧ Below w.heap.size w w' := by
  have CK := Lib.hid (known8 w hw)
  obtain ⟨H, hH⟩ : ∃ q, q = Q / 2 := ⟨_, rfl⟩
  have hm2 : (Q : Int) / 2 = (H : Int) := by omega
  have hHb : H < 9223372036854775808 := by omega
  have hwH : IntKind.i64.wrap (H : Int) = (H : Int) := by simp [IntKind.wrap, IntKind.bits, IntKind.signed]; omega
  obtain ⟨r24, hr24⟩ : ∃ q, q = ac % 24 := ⟨_, rfl⟩
  have hm24 : (ac : Int) % 24 = (r24 : Int) := by omega
  have hb24 : r24 < 24 := by omega
  have hwac : IntKind.i64.wrap (ac : Int) = (ac : Int) := by simp [IntKind.wrap, IntKind.bits, IntKind.signed]; omega
  obtain ⟨a, ha⟩ : ∃ a : Int, a = 1 + (r24 : Int) := ⟨_, rfl⟩
  have hm1 : 1 + (r24 : Int) = a := ha.symm
  have hab : 1 ≤ a ∧ a ≤ 24 := by omega
  have hwa : IntKind.i64.wrap a = a := by simp [IntKind.wrap, IntKind.bits, IntKind.signed]; omega
  obtain ⟨m, hm⟩ : ∃ m : Int, m = ((H ||| 1 : Nat) : Int) := ⟨_, rfl⟩
  have hor : bits .or .i64 (H : Int) 1 = m := by rw [or_one H hHb, hm]
  have hmb : 1 ≤ m ∧ m ≤ 9223372036854775807 := by
    have h1 : 1 ≤ H ||| 1 := Nat.right_le_or
    have h2 : H ||| 1 < 2 ^ 63 := Nat.or_lt_two_pow (by omega) (by omega)
    omega
  have HAB := Lib.hid hab
  have HMB := Lib.hid hmb
  have hq8 : ∃ q, q = hw8 % 8 ∧ q < 8 := ⟨_, rfl, by omega⟩
  have hIa : I64 a := by unfold I64; omega
  have hIm : I64 m := by unfold I64; omega
  have CDa := Lib.hid (fun W => decimal_any a hIa W)
  have CDm := Lib.hid (fun W => decimal_any m hIm W)
  have HFL := Lib.hid (dec_len hIm)
  have HFO := Lib.hid (dec_oct m)
  have HGL := Lib.hid (dec_len hIa)
  have HF1 : Hid (1 ≤ (dec m).length) := Lib.hid (good_digs ⟨m, hmb.1, hmb.2, rfl⟩).2.1
  have CP1 : Hid (∀ (A : Option Addr) (c : Nat) (W : World), Below w.heap.size w W → Byts W A (depL a [] ++ dec m) → Calls Tryd.prog 18 #[.slice A (depL a [] ++ dec m).length c] W fun r w' => r = .returned (.tuple #[.agg #[.int .i64 3, .int .i64 0, .int .i64 a, .int .i64 0, .int .i64 0, .int .i64 0, .int .i64 m, .int .i64 0], .int .i64 0]) ∧ Below W.heap.size W w') := Lib.hid (fun A c W hW hA => by
    have hO : Oct (depL a [] ++ dec m) := by rw [← dep_app]; exact dep_oct (dec_oct m)
    refine (wparse_any A _ _ c W rfl hA hO (by rw [← dep_app]; have := text_len (depE_ok hab hmb); rw [depE_text] at this; omega) (hw.keep hW)).mono ?_
    rintro r w' ⟨x, cc, rfl, hp, hb⟩
    obtain ⟨rfl, rfl⟩ := parsed_one hp (.inl ⟨depE_ok hab hmb, depE_right hab hmb, by rw [depE_text, dep_app], rfl⟩)
    exact ⟨rfl, hb⟩)
  have CPX : Hid (∀ (k : Nat) (A : Option Addr) (n : Nat) (c : Nat) (W : World), Below w.heap.size w W → Byts W A (depL a [] ++ badL (dec m) k) → n = (depL a [] ++ badL (dec m) k).length → Calls Tryd.prog 18 #[.slice A n c] W fun r w' => r = .returned (.tuple #[.agg #[.int .i64 0, .int .i64 0, .int .i64 0, .int .i64 0, .int .i64 0, .int .i64 0, .int .i64 0, .int .i64 0], .int .i64 1]) ∧ Below W.heap.size W w') := Lib.hid (fun k A n c W hW hA hn => by
    have hO : Oct (depL a [] ++ badL (dec m) k) := by rw [← dep_app]; exact dep_oct (bad_oct (dec_oct m) k)
    refine (wparse_any A _ n c W hn hA hO (by
      have h1 := bad_len (dec m) k
      have h2 := dec_len hIm
      have h3 := dec_len hIa
      rw [hn, List.length_append]
      have h4 : (depL a []).length ≤ 30 := by unfold depL; simp only [tailOf, List.length_append, List.length_cons, List.length_nil]; omega
      omega) (hw.keep hW)).mono ?_
    rintro r w' ⟨x, cc, rfl, hp, hb⟩
    obtain ⟨rfl, rfl⟩ := parsed_one hp (.inr ⟨rfl, rfl, by rw [← dep_app]; exact dep_none (bad_bad (good_digs ⟨m, hmb.1, hmb.2, rfl⟩).2.1 k)⟩)
    exact ⟨rfl, hb⟩)
  have hne : ∀ W, (binOp .neq 23 (.agg #[.int .i64 3, .int .i64 0, .int .i64 a, .int .i64 0, .int .i64 0, .int .i64 0, .int .i64 m, .int .i64 0]) (.agg #[.int .i64 3, .int .i64 0, .int .i64 a, .int .i64 0, .int .i64 0, .int .i64 0, .int .i64 m, .int .i64 0])).run Tryd.prog W = .ok (.bool false) W := fun W => by
    have := run_ev_ne (depE a m) (depE a m) W
    rw [decide_eq_true rfl] at this
    exact this
  obtain ⟨G, hG⟩ : ∃ G, G = dec a := ⟨_, rfl⟩
  have HDP : Hid (depL a [] = [100, 101, 112, 111, 115, 105, 116, 32] ++ G ++ [32]) := Lib.hid (by rw [hG]; unfold depL; simp [tailOf])
  rw [← hG] at CDa HGL
  obtain ⟨F, hF⟩ : ∃ F, F = dec m := ⟨_, rfl⟩
  rw [← hF] at CDm HFL HFO HF1 CP1 CPX
  have hlF : F.length ≤ 20 := HFL.out
  have hlG : G.length ≤ 20 := HGL.out
  obtain ⟨P1, hP1⟩ : ∃ l : List Nat, l = [100, 101, 112, 111, 115, 105, 116, 32] ++ G := ⟨_, rfl⟩
  obtain ⟨SG, hSG⟩ : ∃ S, S = bstr G := ⟨_, rfl⟩
  obtain ⟨SF, hSF⟩ : ∃ S, S = bstr F := ⟨_, rfl⟩
  obtain ⟨S1, hS1⟩ : ∃ S, S = bstr P1 := ⟨_, rfl⟩
  obtain ⟨PP, hPP⟩ : ∃ l : List Nat, l = depL a [] := ⟨_, rfl⟩
  obtain ⟨SP, hSP⟩ : ∃ S, S = bstr PP := ⟨_, rfl⟩
  obtain ⟨SPF, hSPF⟩ : ∃ S, S = bstr (PP ++ F) := ⟨_, rfl⟩
  have hsF : SF.size = F.length := by rw [hSF]; exact bstr_size F
  have hsG : SG.size = G.length := by rw [hSG]; exact bstr_size G
  have hc1 : ({ data := #[100, 101, 112, 111, 115, 105, 116, 32] } : ByteArray) ++ SG = S1 := by rw [hSG, hS1, hP1]; exact bstr_cat [100, 101, 112, 111, 115, 105, 116, 32] G
  have hs1 : S1.size = G.length + 8 := by rw [hS1, bstr_size, hP1, List.length_append]; simp only [List.length_cons, List.length_nil]; omega
  have hc2 : S1 ++ ({ data := #[32] } : ByteArray) = SP := by rw [hS1, hSP, hPP, hP1, HDP.out]; exact bstr_cat ([100, 101, 112, 111, 115, 105, 116, 32] ++ G) [32]
  have hsP : SP.size = G.length + 9 := by rw [hSP, bstr_size, hPP, HDP.out, List.length_append, List.length_append]; simp only [List.length_cons, List.length_nil]; omega
  have hc3 : SP ++ SF = SPF := by rw [hSP, hSF, hSPF]; exact bstr_cat PP F
  obtain ⟨X0, hX0⟩ : ∃ S, S = bstr (48 :: F) := ⟨_, rfl⟩
  have hb0 : ({ data := #[48] } : ByteArray) ++ SF = X0 := by rw [hSF, hX0]; exact bstr_cat [48] F
  have HX0 := Lib.hid hX0
  obtain ⟨X1, hX1⟩ : ∃ S, S = bstr (43 :: F) := ⟨_, rfl⟩
  have hb1 : ({ data := #[43] } : ByteArray) ++ SF = X1 := by rw [hSF, hX1]; exact bstr_cat [43] F
  have HX1 := Lib.hid hX1
  obtain ⟨X2, hX2⟩ : ∃ S, S = bstr (45 :: F) := ⟨_, rfl⟩
  have hb2 : ({ data := #[45] } : ByteArray) ++ SF = X2 := by rw [hSF, hX2]; exact bstr_cat [45] F
  have HX2 := Lib.hid hX2
  obtain ⟨X3, hX3⟩ : ∃ S, S = bstr (F ++ [32]) := ⟨_, rfl⟩
  have hb3 : SF ++ ({ data := #[32] } : ByteArray) = X3 := by rw [hSF, hX3]; exact bstr_cat F [32]
  have HX3 := Lib.hid hX3
  obtain ⟨X4, hX4⟩ : ∃ S, S = bstr (32 :: F) := ⟨_, rfl⟩
  have hb4 : ({ data := #[32] } : ByteArray) ++ SF = X4 := by rw [hSF, hX4]; exact bstr_cat [32] F
  have HX4 := Lib.hid hX4
  obtain ⟨X5, hX5⟩ : ∃ S, S = bstr ([57, 57, 57, 57, 57, 57, 57, 57, 57, 57, 57, 57, 57, 57, 57, 57, 57, 57, 57] ++ F) := ⟨_, rfl⟩
  have hb5 : ({ data := #[57, 57, 57, 57, 57, 57, 57, 57, 57, 57, 57, 57, 57, 57, 57, 57, 57, 57, 57] } : ByteArray) ++ SF = X5 := by rw [hSF, hX5]; exact bstr_cat [57, 57, 57, 57, 57, 57, 57, 57, 57, 57, 57, 57, 57, 57, 57, 57, 57, 57, 57] F
  have HX5 := Lib.hid hX5
  obtain ⟨X6, hX6⟩ : ∃ S, S = bstr (F ++ [10]) := ⟨_, rfl⟩
  have hb6 : SF ++ ({ data := #[10] } : ByteArray) = X6 := by rw [hSF, hX6]; exact bstr_cat F [10]
  have HX6 := Lib.hid hX6
  have hsX0 : X0.size = F.length + 1 := by rw [hX0, bstr_size]; rfl
  obtain ⟨Y0, hY0⟩ : ∃ S, S = bstr (PP ++ (48 :: F)) := ⟨_, rfl⟩
  have hcY0 : SP ++ X0 = Y0 := by rw [hSP, hX0, hY0]; exact bstr_cat PP _
  have HY0 := Lib.hid hY0
  have hsX1 : X1.size = F.length + 1 := by rw [hX1, bstr_size]; rfl
  obtain ⟨Y1, hY1⟩ : ∃ S, S = bstr (PP ++ (43 :: F)) := ⟨_, rfl⟩
  have hcY1 : SP ++ X1 = Y1 := by rw [hSP, hX1, hY1]; exact bstr_cat PP _
  have HY1 := Lib.hid hY1
  have hsX2 : X2.size = F.length + 1 := by rw [hX2, bstr_size]; rfl
  obtain ⟨Y2, hY2⟩ : ∃ S, S = bstr (PP ++ (45 :: F)) := ⟨_, rfl⟩
  have hcY2 : SP ++ X2 = Y2 := by rw [hSP, hX2, hY2]; exact bstr_cat PP _
  have HY2 := Lib.hid hY2
  have hsX3 : X3.size = F.length + 1 := by rw [hX3, bstr_size, List.length_append]; rfl
  obtain ⟨Y3, hY3⟩ : ∃ S, S = bstr (PP ++ (F ++ [32])) := ⟨_, rfl⟩
  have hcY3 : SP ++ X3 = Y3 := by rw [hSP, hX3, hY3]; exact bstr_cat PP _
  have HY3 := Lib.hid hY3
  have hsX4 : X4.size = F.length + 1 := by rw [hX4, bstr_size]; rfl
  obtain ⟨Y4, hY4⟩ : ∃ S, S = bstr (PP ++ (32 :: F)) := ⟨_, rfl⟩
  have hcY4 : SP ++ X4 = Y4 := by rw [hSP, hX4, hY4]; exact bstr_cat PP _
  have HY4 := Lib.hid hY4
  have hsX5 : X5.size = F.length + 19 := by rw [hX5, bstr_size, List.length_append]; simp only [List.length_cons, List.length_nil]; omega
  obtain ⟨Y5, hY5⟩ : ∃ S, S = bstr (PP ++ ([57, 57, 57, 57, 57, 57, 57, 57, 57, 57, 57, 57, 57, 57, 57, 57, 57, 57, 57] ++ F)) := ⟨_, rfl⟩
  have hcY5 : SP ++ X5 = Y5 := by rw [hSP, hX5, hY5]; exact bstr_cat PP _
  have HY5 := Lib.hid hY5
  have hsX6 : X6.size = F.length + 1 := by rw [hX6, bstr_size, List.length_append]; rfl
  obtain ⟨Y6, hY6⟩ : ∃ S, S = bstr (PP ++ (F ++ [10])) := ⟨_, rfl⟩
  have hcY6 : SP ++ X6 = Y6 := by rw [hSP, hX6, hY6]; exact bstr_cat PP _
  have HY6 := Lib.hid hY6
  obtain ⟨Y7, hY7⟩ : ∃ S, S = bstr (PP ++ []) := ⟨_, rfl⟩
  have hcY7 : SP ++ ({ data := #[] } : ByteArray) = Y7 := by rw [hSP, hY7]; exact bstr_cat PP []
  have HY7 := Lib.hid hY7
  have HSP := Lib.hid hSP
  have HPP := Lib.hid hPP
  have HPF : Hid (∀ W, ∃ (c5 : Nat) (W5 : World), (convert 9 38 (.string SPF)).run Tryd.prog W = .ok (.slice (some ⟨W.heap.size, 0, none⟩) (PP ++ F).length c5) W5 ∧ Below W.heap.size W W5 ∧ Byts W5 (some ⟨W.heap.size, 0, none⟩) (PP ++ F)) := Lib.hid (fun W => by
    obtain ⟨c5, W5, h1, h2, h3, _⟩ := run_sbytes W (PP ++ F) (by rw [hPP, ← dep_app]; exact dep_oct HFO.out) _ rfl
    exact ⟨c5, W5, by rw [hSPF]; exact h1, h2, h3⟩)
  rw [← hPP] at CP1 CPX
  rw [← hSG] at CDa
  rw [← hSF] at CDm
  obtain ⟨n5, hn5⟩ : ∃ z, z = (PP ++ F).length := ⟨_, rfl⟩
  rw [← hn5] at CP1 HPF
  clear hP1 hSG hSF hS1 hPP hSP hSPF hn5 HDP hY0 hY1 hY2 hY3 hY4 hY5 hY6 hY7 hX0 hX1 hX2 hX3 hX4 hX5 hX6
  clear hH hr24 hac hQ hh hw ha hab hm hmb hIa hIm hF hG hHb hb24
  go_enter Tryd.func8, Tryd.ntmps8
  go_wp2_with (first
    | (go_at_call 9; (with_reducible refine CK.out.mono ?_); rintro r w1 ⟨rfl, hb1'⟩; have HB1 := Lib.hid hb1'; clear hb1' CK)
    | (go_at_call 20; (with_reducible refine (CDa.out _).mono ?_); rintro r w2 ⟨rfl, hb2'⟩; have HB2 := Lib.hid (HB1.out.trans (hb2'.mono HB1.out.size)); clear hb2')
    | (go_at_call 20; (with_reducible refine (CDm.out _).mono ?_); rintro r w3 ⟨rfl, hb3'⟩; have HB3 := Lib.hid (HB2.out.trans (hb3'.mono HB2.out.size)); (obtain ⟨c5, W5, hcv5, hbl5, hy5⟩ := HPF.out w3); have HB5 := Lib.hid (HB3.out.trans (hbl5.mono HB3.out.size)); have CP := Lib.hid (CP1.out _ c5 W5 HB5.out hy5); clear hb3' hbl5 hy5)
    | (go_at_call 18; (with_reducible refine CP.out.mono ?_); rintro r w4' ⟨rfl, hb4'⟩; have HB4' := Lib.hid (HB5.out.trans (hb4'.mono HB5.out.size)); have HB4 := Lib.hid (HB4'.out.alloc HB4'.out.size (.cells #[.int .i64 3, .int .i64 0, .int .i64 a, .int .i64 0, .int .i64 0, .int .i64 0, .int .i64 m, .int .i64 0] 23)); clear hb4' CP; (obtain ⟨k8, hk8, hk8b⟩ := hq8); have hm8 : (hw8 : Int) % 8 = (k8 : Int) := (by omega); clear hk8; rcases (by omega : k8 = 0 ∨ k8 = 1 ∨ k8 = 2 ∨ k8 = 3 ∨ k8 = 4 ∨ k8 = 5 ∨ k8 = 6 ∨ k8 = 7) with rfl | rfl | rfl | rfl | rfl | rfl | rfl | rfl))
  · have CP2 := Lib.hid (CPX.out 0)
    have HXO := Lib.hid (bad_oct HFO.out 0)
    have HXL := Lib.hid (bad_len F 0)
    rw [show badL F 0 = 48 :: F from rfl] at CP2 HXO HXL
    obtain ⟨Y, hY⟩ : ∃ Y : List Nat, Y = (48 :: F) := ⟨_, rfl⟩
    have hYY : Y0 = bstr (PP ++ Y) := by rw [HY0.out, hY]
    rw [← hY] at CP2 HXO HXL
    obtain ⟨c6, W6, hcv6, hbl6, hy6, _⟩ := run_sbytes ((w4'.alloc (.cells #[.int .i64 3, .int .i64 0, .int .i64 a, .int .i64 0, .int .i64 0, .int .i64 0, .int .i64 m, .int .i64 0] 23)).alloc (.cells #[.string X0, .string X1, .string X2, .string X3, .string X4, .string X5, .string X6, .string { data := #[] }] 9)) (PP ++ Y) (by rw [HPP.out, ← dep_app]; exact dep_oct HXO.out) _ rfl
    rw [← hYY, show ((w4'.alloc (.cells #[.int .i64 3, .int .i64 0, .int .i64 a, .int .i64 0, .int .i64 0, .int .i64 0, .int .i64 m, .int .i64 0] 23)).alloc (.cells #[.string X0, .string X1, .string X2, .string X3, .string X4, .string X5, .string X6, .string { data := #[] }] 9)).heap.size = w4'.heap.size + 1 + 1 from by simp] at hcv6
    have hy7 : Byts W6 (some ⟨w4'.heap.size + 1 + 1, 0, none⟩) (PP ++ Y) := by
      have : ((w4'.alloc (.cells #[.int .i64 3, .int .i64 0, .int .i64 a, .int .i64 0, .int .i64 0, .int .i64 0, .int .i64 m, .int .i64 0] 23)).alloc (.cells #[.string X0, .string X1, .string X2, .string X3, .string X4, .string X5, .string X6, .string { data := #[] }] 9)).heap.size = w4'.heap.size + 1 + 1 := by simp
      rw [this] at hy6
      exact hy6
    have HB6 := Lib.hid ((HB4.out.alloc HB4.out.size (.cells #[.string X0, .string X1, .string X2, .string X3, .string X4, .string X5, .string X6, .string { data := #[] }] 9)).trans (hbl6.mono (HB4.out.alloc HB4.out.size _).size))
    obtain ⟨n6, hn6⟩ : ∃ z, z = (PP ++ Y).length := ⟨_, rfl⟩
    rw [← hn6] at hcv6
    have CP3 := Lib.hid (CP2.out _ n6 c6 W6 HB6.out hy7 hn6)
    clear hbl6 hy6 hy7 CP2 CPX hm8 hn6 hYY hY
    rw [hcv6]
    go_wp2_with (go_at_call 18; (with_reducible refine CP3.out.mono ?_); rintro r w7 ⟨rfl, hb7⟩; have HB7 := Lib.hid (HB6.out.trans (hb7.mono HB6.out.size)); have HB8 := Lib.hid (HB7.out.alloc HB7.out.size (.cells #[.int .i64 0, .int .i64 0, .int .i64 0, .int .i64 0, .int .i64 0, .int .i64 0, .int .i64 0, .int .i64 0] 23)); clear hb7)
    go_ret
    exact ⟨rfl, HB8.out⟩
  · have CP2 := Lib.hid (CPX.out 1)
    have HXO := Lib.hid (bad_oct HFO.out 1)
    have HXL := Lib.hid (bad_len F 1)
    rw [show badL F 1 = 43 :: F from rfl] at CP2 HXO HXL
    obtain ⟨Y, hY⟩ : ∃ Y : List Nat, Y = (43 :: F) := ⟨_, rfl⟩
    have hYY : Y1 = bstr (PP ++ Y) := by rw [HY1.out, hY]
    rw [← hY] at CP2 HXO HXL
    obtain ⟨c6, W6, hcv6, hbl6, hy6, _⟩ := run_sbytes ((w4'.alloc (.cells #[.int .i64 3, .int .i64 0, .int .i64 a, .int .i64 0, .int .i64 0, .int .i64 0, .int .i64 m, .int .i64 0] 23)).alloc (.cells #[.string X0, .string X1, .string X2, .string X3, .string X4, .string X5, .string X6, .string { data := #[] }] 9)) (PP ++ Y) (by rw [HPP.out, ← dep_app]; exact dep_oct HXO.out) _ rfl
    rw [← hYY, show ((w4'.alloc (.cells #[.int .i64 3, .int .i64 0, .int .i64 a, .int .i64 0, .int .i64 0, .int .i64 0, .int .i64 m, .int .i64 0] 23)).alloc (.cells #[.string X0, .string X1, .string X2, .string X3, .string X4, .string X5, .string X6, .string { data := #[] }] 9)).heap.size = w4'.heap.size + 1 + 1 from by simp] at hcv6
    have hy7 : Byts W6 (some ⟨w4'.heap.size + 1 + 1, 0, none⟩) (PP ++ Y) := by
      have : ((w4'.alloc (.cells #[.int .i64 3, .int .i64 0, .int .i64 a, .int .i64 0, .int .i64 0, .int .i64 0, .int .i64 m, .int .i64 0] 23)).alloc (.cells #[.string X0, .string X1, .string X2, .string X3, .string X4, .string X5, .string X6, .string { data := #[] }] 9)).heap.size = w4'.heap.size + 1 + 1 := by simp
      rw [this] at hy6
      exact hy6
    have HB6 := Lib.hid ((HB4.out.alloc HB4.out.size (.cells #[.string X0, .string X1, .string X2, .string X3, .string X4, .string X5, .string X6, .string { data := #[] }] 9)).trans (hbl6.mono (HB4.out.alloc HB4.out.size _).size))
    obtain ⟨n6, hn6⟩ : ∃ z, z = (PP ++ Y).length := ⟨_, rfl⟩
    rw [← hn6] at hcv6
    have CP3 := Lib.hid (CP2.out _ n6 c6 W6 HB6.out hy7 hn6)
    clear hbl6 hy6 hy7 CP2 CPX hm8 hn6 hYY hY
    rw [hcv6]
    go_wp2_with (go_at_call 18; (with_reducible refine CP3.out.mono ?_); rintro r w7 ⟨rfl, hb7⟩; have HB7 := Lib.hid (HB6.out.trans (hb7.mono HB6.out.size)); have HB8 := Lib.hid (HB7.out.alloc HB7.out.size (.cells #[.int .i64 0, .int .i64 0, .int .i64 0, .int .i64 0, .int .i64 0, .int .i64 0, .int .i64 0, .int .i64 0] 23)); clear hb7)
    go_ret
    exact ⟨rfl, HB8.out⟩
  · have CP2 := Lib.hid (CPX.out 2)
    have HXO := Lib.hid (bad_oct HFO.out 2)
    have HXL := Lib.hid (bad_len F 2)
    rw [show badL F 2 = 45 :: F from rfl] at CP2 HXO HXL
    obtain ⟨Y, hY⟩ : ∃ Y : List Nat, Y = (45 :: F) := ⟨_, rfl⟩
    have hYY : Y2 = bstr (PP ++ Y) := by rw [HY2.out, hY]
    rw [← hY] at CP2 HXO HXL
    obtain ⟨c6, W6, hcv6, hbl6, hy6, _⟩ := run_sbytes ((w4'.alloc (.cells #[.int .i64 3, .int .i64 0, .int .i64 a, .int .i64 0, .int .i64 0, .int .i64 0, .int .i64 m, .int .i64 0] 23)).alloc (.cells #[.string X0, .string X1, .string X2, .string X3, .string X4, .string X5, .string X6, .string { data := #[] }] 9)) (PP ++ Y) (by rw [HPP.out, ← dep_app]; exact dep_oct HXO.out) _ rfl
    rw [← hYY, show ((w4'.alloc (.cells #[.int .i64 3, .int .i64 0, .int .i64 a, .int .i64 0, .int .i64 0, .int .i64 0, .int .i64 m, .int .i64 0] 23)).alloc (.cells #[.string X0, .string X1, .string X2, .string X3, .string X4, .string X5, .string X6, .string { data := #[] }] 9)).heap.size = w4'.heap.size + 1 + 1 from by simp] at hcv6
    have hy7 : Byts W6 (some ⟨w4'.heap.size + 1 + 1, 0, none⟩) (PP ++ Y) := by
      have : ((w4'.alloc (.cells #[.int .i64 3, .int .i64 0, .int .i64 a, .int .i64 0, .int .i64 0, .int .i64 0, .int .i64 m, .int .i64 0] 23)).alloc (.cells #[.string X0, .string X1, .string X2, .string X3, .string X4, .string X5, .string X6, .string { data := #[] }] 9)).heap.size = w4'.heap.size + 1 + 1 := by simp
      rw [this] at hy6
      exact hy6
    have HB6 := Lib.hid ((HB4.out.alloc HB4.out.size (.cells #[.string X0, .string X1, .string X2, .string X3, .string X4, .string X5, .string X6, .string { data := #[] }] 9)).trans (hbl6.mono (HB4.out.alloc HB4.out.size _).size))
    obtain ⟨n6, hn6⟩ : ∃ z, z = (PP ++ Y).length := ⟨_, rfl⟩
    rw [← hn6] at hcv6
    have CP3 := Lib.hid (CP2.out _ n6 c6 W6 HB6.out hy7 hn6)
    clear hbl6 hy6 hy7 CP2 CPX hm8 hn6 hYY hY
    rw [hcv6]
    go_wp2_with (go_at_call 18; (with_reducible refine CP3.out.mono ?_); rintro r w7 ⟨rfl, hb7⟩; have HB7 := Lib.hid (HB6.out.trans (hb7.mono HB6.out.size)); have HB8 := Lib.hid (HB7.out.alloc HB7.out.size (.cells #[.int .i64 0, .int .i64 0, .int .i64 0, .int .i64 0, .int .i64 0, .int .i64 0, .int .i64 0, .int .i64 0] 23)); clear hb7)
    go_ret
    exact ⟨rfl, HB8.out⟩
  · have CP2 := Lib.hid (CPX.out 3)
    have HXO := Lib.hid (bad_oct HFO.out 3)
    have HXL := Lib.hid (bad_len F 3)
    rw [show badL F 3 = F ++ [32] from rfl] at CP2 HXO HXL
    obtain ⟨Y, hY⟩ : ∃ Y : List Nat, Y = (F ++ [32]) := ⟨_, rfl⟩
    have hYY : Y3 = bstr (PP ++ Y) := by rw [HY3.out, hY]
    rw [← hY] at CP2 HXO HXL
    obtain ⟨c6, W6, hcv6, hbl6, hy6, _⟩ := run_sbytes ((w4'.alloc (.cells #[.int .i64 3, .int .i64 0, .int .i64 a, .int .i64 0, .int .i64 0, .int .i64 0, .int .i64 m, .int .i64 0] 23)).alloc (.cells #[.string X0, .string X1, .string X2, .string X3, .string X4, .string X5, .string X6, .string { data := #[] }] 9)) (PP ++ Y) (by rw [HPP.out, ← dep_app]; exact dep_oct HXO.out) _ rfl
    rw [← hYY, show ((w4'.alloc (.cells #[.int .i64 3, .int .i64 0, .int .i64 a, .int .i64 0, .int .i64 0, .int .i64 0, .int .i64 m, .int .i64 0] 23)).alloc (.cells #[.string X0, .string X1, .string X2, .string X3, .string X4, .string X5, .string X6, .string { data := #[] }] 9)).heap.size = w4'.heap.size + 1 + 1 from by simp] at hcv6
    have hy7 : Byts W6 (some ⟨w4'.heap.size + 1 + 1, 0, none⟩) (PP ++ Y) := by
      have : ((w4'.alloc (.cells #[.int .i64 3, .int .i64 0, .int .i64 a, .int .i64 0, .int .i64 0, .int .i64 0, .int .i64 m, .int .i64 0] 23)).alloc (.cells #[.string X0, .string X1, .string X2, .string X3, .string X4, .string X5, .string X6, .string { data := #[] }] 9)).heap.size = w4'.heap.size + 1 + 1 := by simp
      rw [this] at hy6
      exact hy6
    have HB6 := Lib.hid ((HB4.out.alloc HB4.out.size (.cells #[.string X0, .string X1, .string X2, .string X3, .string X4, .string X5, .string X6, .string { data := #[] }] 9)).trans (hbl6.mono (HB4.out.alloc HB4.out.size _).size))
    obtain ⟨n6, hn6⟩ : ∃ z, z = (PP ++ Y).length := ⟨_, rfl⟩
    rw [← hn6] at hcv6
    have CP3 := Lib.hid (CP2.out _ n6 c6 W6 HB6.out hy7 hn6)
    clear hbl6 hy6 hy7 CP2 CPX hm8 hn6 hYY hY
    rw [hcv6]
    go_wp2_with (go_at_call 18; (with_reducible refine CP3.out.mono ?_); rintro r w7 ⟨rfl, hb7⟩; have HB7 := Lib.hid (HB6.out.trans (hb7.mono HB6.out.size)); have HB8 := Lib.hid (HB7.out.alloc HB7.out.size (.cells #[.int .i64 0, .int .i64 0, .int .i64 0, .int .i64 0, .int .i64 0, .int .i64 0, .int .i64 0, .int .i64 0] 23)); clear hb7)
    go_ret
    exact ⟨rfl, HB8.out⟩
  · have CP2 := Lib.hid (CPX.out 4)
    have HXO := Lib.hid (bad_oct HFO.out 4)
    have HXL := Lib.hid (bad_len F 4)
    rw [show badL F 4 = 32 :: F from rfl] at CP2 HXO HXL
    obtain ⟨Y, hY⟩ : ∃ Y : List Nat, Y = (32 :: F) := ⟨_, rfl⟩
    have hYY : Y4 = bstr (PP ++ Y) := by rw [HY4.out, hY]
    rw [← hY] at CP2 HXO HXL
    obtain ⟨c6, W6, hcv6, hbl6, hy6, _⟩ := run_sbytes ((w4'.alloc (.cells #[.int .i64 3, .int .i64 0, .int .i64 a, .int .i64 0, .int .i64 0, .int .i64 0, .int .i64 m, .int .i64 0] 23)).alloc (.cells #[.string X0, .string X1, .string X2, .string X3, .string X4, .string X5, .string X6, .string { data := #[] }] 9)) (PP ++ Y) (by rw [HPP.out, ← dep_app]; exact dep_oct HXO.out) _ rfl
    rw [← hYY, show ((w4'.alloc (.cells #[.int .i64 3, .int .i64 0, .int .i64 a, .int .i64 0, .int .i64 0, .int .i64 0, .int .i64 m, .int .i64 0] 23)).alloc (.cells #[.string X0, .string X1, .string X2, .string X3, .string X4, .string X5, .string X6, .string { data := #[] }] 9)).heap.size = w4'.heap.size + 1 + 1 from by simp] at hcv6
    have hy7 : Byts W6 (some ⟨w4'.heap.size + 1 + 1, 0, none⟩) (PP ++ Y) := by
      have : ((w4'.alloc (.cells #[.int .i64 3, .int .i64 0, .int .i64 a, .int .i64 0, .int .i64 0, .int .i64 0, .int .i64 m, .int .i64 0] 23)).alloc (.cells #[.string X0, .string X1, .string X2, .string X3, .string X4, .string X5, .string X6, .string { data := #[] }] 9)).heap.size = w4'.heap.size + 1 + 1 := by simp
      rw [this] at hy6
      exact hy6
    have HB6 := Lib.hid ((HB4.out.alloc HB4.out.size (.cells #[.string X0, .string X1, .string X2, .string X3, .string X4, .string X5, .string X6, .string { data := #[] }] 9)).trans (hbl6.mono (HB4.out.alloc HB4.out.size _).size))
    obtain ⟨n6, hn6⟩ : ∃ z, z = (PP ++ Y).length := ⟨_, rfl⟩
    rw [← hn6] at hcv6
    have CP3 := Lib.hid (CP2.out _ n6 c6 W6 HB6.out hy7 hn6)
    clear hbl6 hy6 hy7 CP2 CPX hm8 hn6 hYY hY
    rw [hcv6]
    go_wp2_with (go_at_call 18; (with_reducible refine CP3.out.mono ?_); rintro r w7 ⟨rfl, hb7⟩; have HB7 := Lib.hid (HB6.out.trans (hb7.mono HB6.out.size)); have HB8 := Lib.hid (HB7.out.alloc HB7.out.size (.cells #[.int .i64 0, .int .i64 0, .int .i64 0, .int .i64 0, .int .i64 0, .int .i64 0, .int .i64 0, .int .i64 0] 23)); clear hb7)
    go_ret
    exact ⟨rfl, HB8.out⟩
  · have CP2 := Lib.hid (CPX.out 5)
    have HXO := Lib.hid (bad_oct HFO.out 5)
    have HXL := Lib.hid (bad_len F 5)
    rw [show badL F 5 = [57, 57, 57, 57, 57, 57, 57, 57, 57, 57, 57, 57, 57, 57, 57, 57, 57, 57, 57] ++ F from rfl] at CP2 HXO HXL
    obtain ⟨Y, hY⟩ : ∃ Y : List Nat, Y = ([57, 57, 57, 57, 57, 57, 57, 57, 57, 57, 57, 57, 57, 57, 57, 57, 57, 57, 57] ++ F) := ⟨_, rfl⟩
    have hYY : Y5 = bstr (PP ++ Y) := by rw [HY5.out, hY]
    rw [← hY] at CP2 HXO HXL
    obtain ⟨c6, W6, hcv6, hbl6, hy6, _⟩ := run_sbytes ((w4'.alloc (.cells #[.int .i64 3, .int .i64 0, .int .i64 a, .int .i64 0, .int .i64 0, .int .i64 0, .int .i64 m, .int .i64 0] 23)).alloc (.cells #[.string X0, .string X1, .string X2, .string X3, .string X4, .string X5, .string X6, .string { data := #[] }] 9)) (PP ++ Y) (by rw [HPP.out, ← dep_app]; exact dep_oct HXO.out) _ rfl
    rw [← hYY, show ((w4'.alloc (.cells #[.int .i64 3, .int .i64 0, .int .i64 a, .int .i64 0, .int .i64 0, .int .i64 0, .int .i64 m, .int .i64 0] 23)).alloc (.cells #[.string X0, .string X1, .string X2, .string X3, .string X4, .string X5, .string X6, .string { data := #[] }] 9)).heap.size = w4'.heap.size + 1 + 1 from by simp] at hcv6
    have hy7 : Byts W6 (some ⟨w4'.heap.size + 1 + 1, 0, none⟩) (PP ++ Y) := by
      have : ((w4'.alloc (.cells #[.int .i64 3, .int .i64 0, .int .i64 a, .int .i64 0, .int .i64 0, .int .i64 0, .int .i64 m, .int .i64 0] 23)).alloc (.cells #[.string X0, .string X1, .string X2, .string X3, .string X4, .string X5, .string X6, .string { data := #[] }] 9)).heap.size = w4'.heap.size + 1 + 1 := by simp
      rw [this] at hy6
      exact hy6
    have HB6 := Lib.hid ((HB4.out.alloc HB4.out.size (.cells #[.string X0, .string X1, .string X2, .string X3, .string X4, .string X5, .string X6, .string { data := #[] }] 9)).trans (hbl6.mono (HB4.out.alloc HB4.out.size _).size))
    obtain ⟨n6, hn6⟩ : ∃ z, z = (PP ++ Y).length := ⟨_, rfl⟩
    rw [← hn6] at hcv6
    have CP3 := Lib.hid (CP2.out _ n6 c6 W6 HB6.out hy7 hn6)
    clear hbl6 hy6 hy7 CP2 CPX hm8 hn6 hYY hY
    rw [hcv6]
    go_wp2_with (go_at_call 18; (with_reducible refine CP3.out.mono ?_); rintro r w7 ⟨rfl, hb7⟩; have HB7 := Lib.hid (HB6.out.trans (hb7.mono HB6.out.size)); have HB8 := Lib.hid (HB7.out.alloc HB7.out.size (.cells #[.int .i64 0, .int .i64 0, .int .i64 0, .int .i64 0, .int .i64 0, .int .i64 0, .int .i64 0, .int .i64 0] 23)); clear hb7)
    go_ret
    exact ⟨rfl, HB8.out⟩
  · have CP2 := Lib.hid (CPX.out 6)
    have HXO := Lib.hid (bad_oct HFO.out 6)
    have HXL := Lib.hid (bad_len F 6)
    rw [show badL F 6 = F ++ [10] from rfl] at CP2 HXO HXL
    obtain ⟨Y, hY⟩ : ∃ Y : List Nat, Y = (F ++ [10]) := ⟨_, rfl⟩
    have hYY : Y6 = bstr (PP ++ Y) := by rw [HY6.out, hY]
    rw [← hY] at CP2 HXO HXL
    obtain ⟨c6, W6, hcv6, hbl6, hy6, _⟩ := run_sbytes ((w4'.alloc (.cells #[.int .i64 3, .int .i64 0, .int .i64 a, .int .i64 0, .int .i64 0, .int .i64 0, .int .i64 m, .int .i64 0] 23)).alloc (.cells #[.string X0, .string X1, .string X2, .string X3, .string X4, .string X5, .string X6, .string { data := #[] }] 9)) (PP ++ Y) (by rw [HPP.out, ← dep_app]; exact dep_oct HXO.out) _ rfl
    rw [← hYY, show ((w4'.alloc (.cells #[.int .i64 3, .int .i64 0, .int .i64 a, .int .i64 0, .int .i64 0, .int .i64 0, .int .i64 m, .int .i64 0] 23)).alloc (.cells #[.string X0, .string X1, .string X2, .string X3, .string X4, .string X5, .string X6, .string { data := #[] }] 9)).heap.size = w4'.heap.size + 1 + 1 from by simp] at hcv6
    have hy7 : Byts W6 (some ⟨w4'.heap.size + 1 + 1, 0, none⟩) (PP ++ Y) := by
      have : ((w4'.alloc (.cells #[.int .i64 3, .int .i64 0, .int .i64 a, .int .i64 0, .int .i64 0, .int .i64 0, .int .i64 m, .int .i64 0] 23)).alloc (.cells #[.string X0, .string X1, .string X2, .string X3, .string X4, .string X5, .string X6, .string { data := #[] }] 9)).heap.size = w4'.heap.size + 1 + 1 := by simp
      rw [this] at hy6
      exact hy6
    have HB6 := Lib.hid ((HB4.out.alloc HB4.out.size (.cells #[.string X0, .string X1, .string X2, .string X3, .string X4, .string X5, .string X6, .string { data := #[] }] 9)).trans (hbl6.mono (HB4.out.alloc HB4.out.size _).size))
    obtain ⟨n6, hn6⟩ : ∃ z, z = (PP ++ Y).length := ⟨_, rfl⟩
    rw [← hn6] at hcv6
    have CP3 := Lib.hid (CP2.out _ n6 c6 W6 HB6.out hy7 hn6)
    clear hbl6 hy6 hy7 CP2 CPX hm8 hn6 hYY hY
    rw [hcv6]
    go_wp2_with (go_at_call 18; (with_reducible refine CP3.out.mono ?_); rintro r w7 ⟨rfl, hb7⟩; have HB7 := Lib.hid (HB6.out.trans (hb7.mono HB6.out.size)); have HB8 := Lib.hid (HB7.out.alloc HB7.out.size (.cells #[.int .i64 0, .int .i64 0, .int .i64 0, .int .i64 0, .int .i64 0, .int .i64 0, .int .i64 0, .int .i64 0] 23)); clear hb7)
    go_ret
    exact ⟨rfl, HB8.out⟩
  · have CP2 := Lib.hid (CPX.out 7)
    have HXO := Lib.hid (bad_oct HFO.out 7)
    have HXL := Lib.hid (bad_len F 7)
    rw [show badL F 7 = [] from rfl] at CP2 HXO HXL
    obtain ⟨Y, hY⟩ : ∃ Y : List Nat, Y = ([] : List Nat) := ⟨_, rfl⟩
    have hYY : Y7 = bstr (PP ++ Y) := by rw [HY7.out, hY]
    rw [← hY] at CP2 HXO HXL
    obtain ⟨c6, W6, hcv6, hbl6, hy6, _⟩ := run_sbytes ((w4'.alloc (.cells #[.int .i64 3, .int .i64 0, .int .i64 a, .int .i64 0, .int .i64 0, .int .i64 0, .int .i64 m, .int .i64 0] 23)).alloc (.cells #[.string X0, .string X1, .string X2, .string X3, .string X4, .string X5, .string X6, .string { data := #[] }] 9)) (PP ++ Y) (by rw [HPP.out, ← dep_app]; exact dep_oct HXO.out) _ rfl
    rw [← hYY, show ((w4'.alloc (.cells #[.int .i64 3, .int .i64 0, .int .i64 a, .int .i64 0, .int .i64 0, .int .i64 0, .int .i64 m, .int .i64 0] 23)).alloc (.cells #[.string X0, .string X1, .string X2, .string X3, .string X4, .string X5, .string X6, .string { data := #[] }] 9)).heap.size = w4'.heap.size + 1 + 1 from by simp] at hcv6
    have hy7 : Byts W6 (some ⟨w4'.heap.size + 1 + 1, 0, none⟩) (PP ++ Y) := by
      have : ((w4'.alloc (.cells #[.int .i64 3, .int .i64 0, .int .i64 a, .int .i64 0, .int .i64 0, .int .i64 0, .int .i64 m, .int .i64 0] 23)).alloc (.cells #[.string X0, .string X1, .string X2, .string X3, .string X4, .string X5, .string X6, .string { data := #[] }] 9)).heap.size = w4'.heap.size + 1 + 1 := by simp
      rw [this] at hy6
      exact hy6
    have HB6 := Lib.hid ((HB4.out.alloc HB4.out.size (.cells #[.string X0, .string X1, .string X2, .string X3, .string X4, .string X5, .string X6, .string { data := #[] }] 9)).trans (hbl6.mono (HB4.out.alloc HB4.out.size _).size))
    obtain ⟨n6, hn6⟩ : ∃ z, z = (PP ++ Y).length := ⟨_, rfl⟩
    rw [← hn6] at hcv6
    have CP3 := Lib.hid (CP2.out _ n6 c6 W6 HB6.out hy7 hn6)
    clear hbl6 hy6 hy7 CP2 CPX hm8 hn6 hYY hY
    rw [hcv6]
    go_wp2_with (go_at_call 18; (with_reducible refine CP3.out.mono ?_); rintro r w7 ⟨rfl, hb7⟩; have HB7 := Lib.hid (HB6.out.trans (hb7.mono HB6.out.size)); have HB8 := Lib.hid (HB7.out.alloc HB7.out.size (.cells #[.int .i64 0, .int .i64 0, .int .i64 0, .int .i64 0, .int .i64 0, .int .i64 0, .int .i64 0, .int .i64 0] 23)); clear hb7)
    go_ret
    exact ⟨rfl, HB8.out⟩
end Go.Proofs.YtjkbnljjmbfmiaaDoor
