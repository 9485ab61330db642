/-
  The walk of novationlaw6.EventPuts.
-/
import Derived.Test.YtincelegepafcaaKnown6
import Derived.Test.YtincelegepafcaaRegD
namespace Go.Proofs.Ytincelegepafcaa
open Go Go.RowKit
set_option linter.unusedVariables false

set_option maxRecDepth 8000 in
set_option maxHeartbeats 4000000 in
theorem eputs_any (e : Ev) (ok : e.Ok) (x : Int) (w : World) : Calls Try.prog 3 #[e.v, .int .i64 x] w fun r w' => r = .returned (.bool true) ∧ Below w.heap.size w w' := by
  have HE0 : Hid (EvAt (w.alloc (.cells e.cells.toArray 23)) w.heap.size e) := Lib.hid (Rec.new w _ e.cells _ rfl)
  have HB0 : Hid (Below w.heap.size w (w.alloc (.cells e.cells.toArray 23))) := Lib.hid ((Below.refl _ _).alloc (Nat.le_refl _) _)
  have CK := Lib.hid (fun W => known_any W)
  have C1 := Lib.hid (fun W => pput_any e ok W)
  have C2 := Lib.hid (fun W => putev_any e ok W)
  have C3 := Lib.hid (fun W => pright_any e W)
  have C4 := Lib.hid (fun W => right_any e W)
  have C5 := Lib.hid (fun W => pfields_any x W)
  have C6 := Lib.hid (fun W => fields_any x W)
  generalize bstr (fieldsOf x) = S at *
  generalize rightE e = R at *
  obtain ⟨L, hL⟩ : ∃ L, L = (putE? e).1 := ⟨_, rfl⟩
  obtain ⟨k, hk⟩ : ∃ k, k = (putE? e).2 := ⟨_, rfl⟩
  rw [← hL, ← hk] at C1 C2
  unfold Ev.v at C1 C2 C3 C4 ⊢
  obtain ⟨n, hn⟩ : ∃ n, n = L.length := ⟨_, rfl⟩
  have HN := Lib.hid hn
  clear hL hk ok hn
  go_enter Try.func3, Try.ntmps3
  go_wp2_with (first
    | (go_at_call 9; (with_reducible refine (CK.out _).mono ?_); rintro r w1 ⟨rfl, hb1⟩; have H1 := Lib.hid (HE0.out.keep hb1); have HB1 := Lib.hid (HB0.out.trans (hb1.mono HB0.out.size)); obtain ⟨c0, c1, c2, c3, c4, c5, c6, c7⟩ := H1.out.reads; clear hb1)
    | (go_at_call 10; (with_reducible refine (C1.out _).mono ?_); rintro r w2 ⟨v2, rfl, ho2, hb2⟩; have H2 := Lib.hid (H1.out.keep hb2); have HB2 := Lib.hid (HB1.out.trans (hb2.mono HB1.out.size)); (obtain ⟨A2, k2, rfl, hy2, _⟩ := ho2.form); rw [← HN.out]; have HY2 := Lib.hid hy2; clear c0 c1 c2 c3 c4 c5 c6 c7; obtain ⟨d0, d1, d2, d3, d4, d5, d6, d7⟩ := H2.out.reads; clear hb2 ho2 hy2)
    | (go_at_call 11; (with_reducible refine (C2.out _).mono ?_); rintro r w3 ⟨v3, rfl, ho3, hb3⟩; have H3 := Lib.hid (H2.out.keep hb3); have HB3 := Lib.hid (HB2.out.trans (hb3.mono HB2.out.size)); have HY3 := Lib.hid (HY2.out.below hb3); (obtain ⟨A3, k3, rfl, hy3, _⟩ := ho3.form); rw [← HN.out]; have HZ3 := Lib.hid hy3; clear d0 d1 d2 d3 d4 d5 d6 d7; clear hb3 ho3 hy3))
  have FE : Hid (∀ W, Below w3.heap.size w3 W → EvAt W w.heap.size e) := Lib.hid (fun W hW => H3.out.keep hW)
  have HS2 : Hid (∀ W, Below w3.heap.size w3 W → (convert 25 9 (.slice A2 n k2)).run Try.prog W = .ok (.string (bstr L)) W) := Lib.hid (fun W hW => run_bstr W A2 L n k2 HN.out (HY3.out.below hW))
  have HS3 : Hid (∀ W, Below w3.heap.size w3 W → (convert 25 9 (.slice A3 n k3)).run Try.prog W = .ok (.string (bstr L)) W) := Lib.hid (fun W hW => run_bstr W A3 L n k3 HN.out (HZ3.out.below hW))
  clear CK C1 C2 HE0 HB0 H1 HB1 H2 HB2 HY2 HY3 HZ3 H3
  refine wp_region_dag [21, 22, 23, 24, 25, 26, 27, 28, 29, 30, 31, 32, 33, 34, 35, 36, 37, 38, 39, 40, 41, 42, 43, 44, 4] (fun W W' => Below W.heap.size W W') (fun W => Below w3.heap.size w3 W) (spAt [.val (.agg #[.int .i64 e.kind, .int .i64 e.member, .int .i64 e.acc, .int .i64 e.inst, .int .i64 e.side, .int .i64 e.id, .int .i64 e.q, .int .i64 e.p]), .val (.bool R), .val (.agg #[.int .i64 e.kind, .int .i64 e.member, .int .i64 e.acc, .int .i64 e.inst, .int .i64 e.side, .int .i64 e.id, .int .i64 e.q, .int .i64 e.p]), .val (.bool R), .val (.bool true), .val (.bool true), .val (.int .i64 k), .val (.int .i64 k), .val (.bool true), .val (.bool true), .val (.bool true), .val (.slice A2 n k2), .val (.string (bstr L)), .val (.slice A3 n k3), .val (.string (bstr L)), .val (.bool true), .val (.bool true), .val (.bool true), .val (.int .i64 x), .val (.string S), .val (.int .i64 x), .val (.string S), .val (.bool true), .val (.bool true), .val (.bool true)]) rfl rfl rfl rfl (spAt_st _) ((Below.refl _ _).drew) ⟨?_, ?_, ?_, ?_, ?_, ?_, ?_, ?_, ?_, ?_, ?_, ?_, ?_, ?_, ?_, ?_, ?_, ?_, ?_, ?_, ?_, ?_, ?_, ?_, ?_, trivial⟩ ?_
  · intro a W K ho hW hpre hK
    rw [if_pos (wanted_none rfl)]
    have e0 : a.tmps.getD 2 undef = .pointer (some ⟨w.heap.size, 0, none⟩) := ho.slot 2 (by decide)
    obtain ⟨c0, c1, c2, c3, c4, c5, c6, c7⟩ := (FE.out W hW).reads
    go_simp
    exact hK _ _ (Below.refl _ _) hW rfl
  · intro a W K ho hW hpre hK
    rw [if_pos (wanted_none rfl)]
    have e0 : a.tmps.getD 21 undef = .agg #[.int .i64 e.kind, .int .i64 e.member, .int .i64 e.acc, .int .i64 e.inst, .int .i64 e.side, .int .i64 e.id, .int .i64 e.q, .int .i64 e.p] := hpre ⟨0, .data⟩ (by simp) rfl _ rfl
    go_simp
    refine (C3.out _).mono ?_
    rintro r w5 ⟨rfl, hb5⟩
    exact hK _ _ hb5 (hW.trans (hb5.mono hW.size)) rfl
  · intro a W K ho hW hpre hK
    rw [if_pos (wanted_none rfl)]
    have e0 : a.tmps.getD 2 undef = .pointer (some ⟨w.heap.size, 0, none⟩) := ho.slot 2 (by decide)
    obtain ⟨c0, c1, c2, c3, c4, c5, c6, c7⟩ := (FE.out W hW).reads
    go_simp
    exact hK _ _ (Below.refl _ _) hW rfl
  · intro a W K ho hW hpre hK
    rw [if_pos (wanted_none rfl)]
    have e0 : a.tmps.getD 23 undef = .agg #[.int .i64 e.kind, .int .i64 e.member, .int .i64 e.acc, .int .i64 e.inst, .int .i64 e.side, .int .i64 e.id, .int .i64 e.q, .int .i64 e.p] := hpre ⟨2, .data⟩ (by simp) rfl _ rfl
    go_simp
    refine (C4.out _).mono ?_
    rintro r w5 ⟨rfl, hb5⟩
    exact hK _ _ hb5 (hW.trans (hb5.mono hW.size)) rfl
  · intro a W K ho hW hpre hK
    rw [if_pos (wanted_none rfl)]
    have e0 : a.tmps.getD 22 undef = .bool R := hpre ⟨1, .data⟩ (by simp) rfl _ rfl
    have e1 : a.tmps.getD 24 undef = .bool R := hpre ⟨3, .data⟩ (by simp) rfl _ rfl
    go_simp
    exact hK _ _ (Below.refl _ _) hW rfl
  · intro a W K ho hW hpre hK
    rw [if_pos (wanted_none rfl)]
    have e0 : a.tmps.getD 25 undef = .bool true := hpre ⟨4, .data⟩ (by simp) rfl _ rfl
    go_simp
    exact hK _ _ (Below.refl _ _) hW rfl
  · intro a W K ho hW hpre hK
    have eg : a.tmps.getD 26 undef = .bool true := hpre ⟨5, .guard⟩ (by simp) rfl _ rfl
    rw [if_pos (wanted_at ho rfl rfl rfl (Nat.le_of_ble_eq_true rfl) eg)]
    clear eg
    have e0 : a.tmps.getD 6 undef = .int .i64 k := ho.slot 6 (by decide)
    go_simp
    exact hK _ _ (Below.refl _ _) hW rfl
  · intro a W K ho hW hpre hK
    have eg : a.tmps.getD 26 undef = .bool true := hpre ⟨5, .guard⟩ (by simp) rfl _ rfl
    rw [if_pos (wanted_at ho rfl rfl rfl (Nat.le_of_ble_eq_true rfl) eg)]
    clear eg
    have e0 : a.tmps.getD 8 undef = .int .i64 k := ho.slot 8 (by decide)
    go_simp
    exact hK _ _ (Below.refl _ _) hW rfl
  · intro a W K ho hW hpre hK
    have eg : a.tmps.getD 26 undef = .bool true := hpre ⟨5, .guard⟩ (by simp) rfl _ rfl
    rw [if_pos (wanted_at ho rfl rfl rfl (Nat.le_of_ble_eq_true rfl) eg)]
    clear eg
    have e0 : a.tmps.getD 27 undef = .int .i64 k := hpre ⟨6, .data⟩ (by simp) rfl _ rfl
    have e1 : a.tmps.getD 28 undef = .int .i64 k := hpre ⟨7, .data⟩ (by simp) rfl _ rfl
    go_simp
    exact hK _ _ (Below.refl _ _) hW rfl
  · intro a W K ho hW hpre hK
    rw [if_pos (wanted_none rfl)]
    have e0 : a.tmps.getD 26 undef = .bool true := hpre ⟨5, .data⟩ (by simp) rfl _ rfl
    have e1 : a.tmps.getD 29 undef = .bool true := hpre ⟨8, .data⟩ (by simp) rfl _ rfl
    go_simp
    exact hK _ _ (Below.refl _ _) hW rfl
  · intro a W K ho hW hpre hK
    rw [if_pos (wanted_none rfl)]
    have e0 : a.tmps.getD 30 undef = .bool true := hpre ⟨9, .data⟩ (by simp) rfl _ rfl
    go_simp
    exact hK _ _ (Below.refl _ _) hW rfl
  · intro a W K ho hW hpre hK
    have eg : a.tmps.getD 31 undef = .bool true := hpre ⟨10, .guard⟩ (by simp) rfl _ rfl
    rw [if_pos (wanted_at ho rfl rfl rfl (Nat.le_of_ble_eq_true rfl) eg)]
    clear eg
    have e0 : a.tmps.getD 5 undef = .slice A2 n k2 := ho.slot 5 (by decide)
    go_simp
    exact hK _ _ (Below.refl _ _) hW rfl
  · intro a W K ho hW hpre hK
    have eg : a.tmps.getD 31 undef = .bool true := hpre ⟨10, .guard⟩ (by simp) rfl _ rfl
    rw [if_pos (wanted_at ho rfl rfl rfl (Nat.le_of_ble_eq_true rfl) eg)]
    clear eg
    have e0 : a.tmps.getD 32 undef = .slice A2 n k2 := hpre ⟨11, .data⟩ (by simp) rfl _ rfl
    have hc := HS2.out W hW
    go_simp
    exact hK _ _ (Below.refl _ _) hW rfl
  · intro a W K ho hW hpre hK
    have eg : a.tmps.getD 31 undef = .bool true := hpre ⟨10, .guard⟩ (by simp) rfl _ rfl
    rw [if_pos (wanted_at ho rfl rfl rfl (Nat.le_of_ble_eq_true rfl) eg)]
    clear eg
    have e0 : a.tmps.getD 7 undef = .slice A3 n k3 := ho.slot 7 (by decide)
    go_simp
    exact hK _ _ (Below.refl _ _) hW rfl
  · intro a W K ho hW hpre hK
    have eg : a.tmps.getD 31 undef = .bool true := hpre ⟨10, .guard⟩ (by simp) rfl _ rfl
    rw [if_pos (wanted_at ho rfl rfl rfl (Nat.le_of_ble_eq_true rfl) eg)]
    clear eg
    have e0 : a.tmps.getD 34 undef = .slice A3 n k3 := hpre ⟨13, .data⟩ (by simp) rfl _ rfl
    have hc := HS3.out W hW
    go_simp
    exact hK _ _ (Below.refl _ _) hW rfl
  · intro a W K ho hW hpre hK
    have eg : a.tmps.getD 31 undef = .bool true := hpre ⟨10, .guard⟩ (by simp) rfl _ rfl
    rw [if_pos (wanted_at ho rfl rfl rfl (Nat.le_of_ble_eq_true rfl) eg)]
    clear eg
    have e0 : a.tmps.getD 33 undef = .string (bstr L) := hpre ⟨12, .data⟩ (by simp) rfl _ rfl
    have e1 : a.tmps.getD 35 undef = .string (bstr L) := hpre ⟨14, .data⟩ (by simp) rfl _ rfl
    go_simp
    exact hK _ _ (Below.refl _ _) hW rfl
  · intro a W K ho hW hpre hK
    rw [if_pos (wanted_none rfl)]
    have e0 : a.tmps.getD 31 undef = .bool true := hpre ⟨10, .data⟩ (by simp) rfl _ rfl
    have e1 : a.tmps.getD 36 undef = .bool true := hpre ⟨15, .data⟩ (by simp) rfl _ rfl
    go_simp
    exact hK _ _ (Below.refl _ _) hW rfl
  · intro a W K ho hW hpre hK
    rw [if_pos (wanted_none rfl)]
    have e0 : a.tmps.getD 37 undef = .bool true := hpre ⟨16, .data⟩ (by simp) rfl _ rfl
    go_simp
    exact hK _ _ (Below.refl _ _) hW rfl
  · intro a W K ho hW hpre hK
    have eg : a.tmps.getD 38 undef = .bool true := hpre ⟨17, .guard⟩ (by simp) rfl _ rfl
    rw [if_pos (wanted_at ho rfl rfl rfl (Nat.le_of_ble_eq_true rfl) eg)]
    clear eg
    have e0 : a.tmps.getD 1 undef = .int .i64 x := ho.slot 1 (by decide)
    go_simp
    exact hK _ _ (Below.refl _ _) hW rfl
  · intro a W K ho hW hpre hK
    have eg : a.tmps.getD 38 undef = .bool true := hpre ⟨17, .guard⟩ (by simp) rfl _ rfl
    rw [if_pos (wanted_at ho rfl rfl rfl (Nat.le_of_ble_eq_true rfl) eg)]
    clear eg
    have e0 : a.tmps.getD 39 undef = .int .i64 x := hpre ⟨18, .data⟩ (by simp) rfl _ rfl
    go_simp
    refine (C5.out _).mono ?_
    rintro r _ ⟨rfl, rfl⟩
    exact hK _ _ (Below.refl _ _) hW rfl
  · intro a W K ho hW hpre hK
    have eg : a.tmps.getD 38 undef = .bool true := hpre ⟨17, .guard⟩ (by simp) rfl _ rfl
    rw [if_pos (wanted_at ho rfl rfl rfl (Nat.le_of_ble_eq_true rfl) eg)]
    clear eg
    have e0 : a.tmps.getD 1 undef = .int .i64 x := ho.slot 1 (by decide)
    go_simp
    exact hK _ _ (Below.refl _ _) hW rfl
  · intro a W K ho hW hpre hK
    have eg : a.tmps.getD 38 undef = .bool true := hpre ⟨17, .guard⟩ (by simp) rfl _ rfl
    rw [if_pos (wanted_at ho rfl rfl rfl (Nat.le_of_ble_eq_true rfl) eg)]
    clear eg
    have e0 : a.tmps.getD 41 undef = .int .i64 x := hpre ⟨20, .data⟩ (by simp) rfl _ rfl
    go_simp
    refine (C6.out _).mono ?_
    rintro r _ ⟨rfl, rfl⟩
    exact hK _ _ (Below.refl _ _) hW rfl
  · intro a W K ho hW hpre hK
    have eg : a.tmps.getD 38 undef = .bool true := hpre ⟨17, .guard⟩ (by simp) rfl _ rfl
    rw [if_pos (wanted_at ho rfl rfl rfl (Nat.le_of_ble_eq_true rfl) eg)]
    clear eg
    have e0 : a.tmps.getD 40 undef = .string S := hpre ⟨19, .data⟩ (by simp) rfl _ rfl
    have e1 : a.tmps.getD 42 undef = .string S := hpre ⟨21, .data⟩ (by simp) rfl _ rfl
    go_simp
    exact hK _ _ (Below.refl _ _) hW rfl
  · intro a W K ho hW hpre hK
    rw [if_pos (wanted_none rfl)]
    have e0 : a.tmps.getD 38 undef = .bool true := hpre ⟨17, .data⟩ (by simp) rfl _ rfl
    have e1 : a.tmps.getD 43 undef = .bool true := hpre ⟨22, .data⟩ (by simp) rfl _ rfl
    go_simp
    exact hK _ _ (Below.refl _ _) hW rfl
  · intro a W K ho hW hpre hK
    rw [if_pos (wanted_none rfl)]
    have e0 : a.tmps.getD 44 undef = .bool true := hpre ⟨23, .data⟩ (by simp) rfl _ rfl
    go_simp
    exact hK _ _ (Below.refl _ _) hW rfl
  · intro a W ho hW hall
    have e8 : a.tmps.getD 4 undef = .bool true := hall 24 _ rfl
    have hdf : a.defers = [] := ho.defers
    have HW := Lib.hid (HB3.out.trans (hW.mono HB3.out.size))
    clear hall hW ho
    rename_i hKK
    refine hKK _ _ ?_
    refine wp_ret ?_
    refine bodyPost_ret (v := .bool true) ?_ hdf ⟨rfl, HW.out⟩
    rw [results_tmp rfl, e8]
end Go.Proofs.Ytincelegepafcaa
