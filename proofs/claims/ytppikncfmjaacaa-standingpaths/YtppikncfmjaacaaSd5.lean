/-
  The walk of novationlaw10.StandingPaths.
-/
import Derived.Test.YtppikncfmjaacaaSd3
import Derived.Test.YtppikncfmjaacaaOwnA
namespace Go.Proofs.Ytppikncfmjaacaa
set_option maxRecDepth 8000
open Go Go.RowKit
set_option linter.unusedVariables false

set_option maxRecDepth 100000 in
set_option maxHeartbeats 16000000 in
theorem spaths_walk (A0 : Option Addr) (kd0 : List Int) (c0 n0 : Nat) (h0 : n0 = kd0.length) (A : Option Addr) (ks : List Nat) (c : Nat) (w : World) (hi : Ints w .i64 A0 kd0) (ha : A0 = none → c0 = 0) (hm : n0 ≤ 9223372036854775807) (hr : Byts w A ks) (hn : ks.length ≤ 9223372036854775807) : Calls Try.prog 4 #[.slice A0 n0 c0, .slice A ks.length c] w fun r w' => r = .returned (.bool true) ∧ Below w.heap.size w w' := by
  have CK := Lib.hid (known10_any w)
  subst h0
  by_cases hbig : kd0.length > 200
  · have hb2 : ((200 : Int) < (kd0.length : Int)) := by omega
    clear hr hi
    go_enter Try.func4, Try.ntmps4
    go_wp2_with (first
      | (go_at_call 7; (with_reducible refine CK.out.mono ?_); rintro r w1 ⟨rfl, hb1⟩; have HB1 := Lib.hid hb1; clear hb1))
    go_ret
    exact ⟨rfl, HB1.out⟩
  by_cases hbig2 : ks.length > 200
  · have hb2 : ((200 : Int) < (ks.length : Int)) := by omega
    have hb3 : ¬ ((200 : Int) < (kd0.length : Int)) := by omega
    clear hr hi
    go_enter Try.func4, Try.ntmps4
    go_wp2_with (first
      | (go_at_call 7; (with_reducible refine CK.out.mono ?_); rintro r w1 ⟨rfl, hb1⟩; have HB1 := Lib.hid hb1; clear hb1))
    go_ret
    exact ⟨rfl, HB1.out⟩
  · have HLE : Hid (ks.length ≤ 200) := Lib.hid (by omega)
    have HBL : Hid (kd0.length ≤ 200) := Lib.hid (by omega)
    have hle : ks.length ≤ 200 := by omega
    have hlf : kd0.length ≤ 200 := by omega
    have HR := Lib.hid hr
    have HI0 := Lib.hid hi
    have HA0 := Lib.hid ha
    clear hr hbig hbig2 hi ha
    go_enter Try.func4, Try.ntmps4
    go_wp2_with (first
      | (go_at_call 7; (with_reducible refine CK.out.mono ?_); rintro r w1 ⟨rfl, hb1⟩; have HB0 := Lib.hid hb1; have hsz1 := hb1.size; have HO0 : Hid (OwnI64 (w1.alloc (.cells #[] 3)) w.heap.size (.slice (some ⟨w1.heap.size, 0, none⟩) 0 0) []) := Lib.hid (ownL_lit lay_int w1 w.heap.size #[] [] hsz1 (by simp) rfl _ rfl _ rfl); have HI2 : Hid (Ints (w1.alloc (.cells #[] 3)) .i64 A0 kd0) := Lib.hid ((HI0.out.below HB0.out).below ((Below.refl _ _).alloc (Nat.le_refl _) _)); clear hb1)
      | (at_builtin; refine wpList_appA lay_int rfl (.tmp 22) (.tmp 23) rfl w.heap.size _ [] rfl HO0.out A0 kd0.length c0 kd0 rfl rfl (fun e => ⟨HA0.out e, by subst e; exact ints_none HI0.out⟩) (ints_cells HI2.out) (by simp; omega) (by simp; omega) (by simp; omega) ?_; intro v3 w3 ho3 hb3 _; rw [List.nil_append] at ho3; have HO1 : Hid (OwnI64 w3 w.heap.size v3 (kd0 ++ (ks.take 0).map kindOf)) := Lib.hid (by rw [List.take_zero, List.map_nil, List.append_nil]; exact ho3); have HB1 := Lib.hid ((alloc_b HB0.out (Nat.le_refl _) _).trans hb3); clear ho3 hb3))
    go_loopw [5, 6] (fun V i wr => ∃ (j : Nat) (U : Value), U = V ∧ j ≤ ks.length ∧ i = .int .i64 (j : Int) ∧ Hid (OwnI64 wr w.heap.size U (kd0 ++ (ks.take j).map kindOf)) ∧ Hid (Below w.heap.size w wr)) (fun _ i _ => ks.length - (intOf i).toNat)
    case atStart => exact ⟨0, _, rfl, Nat.zero_le _, rfl, HO1, HB1⟩
    case round =>
      obtain ⟨j, V, rfl, hj, rfl, HO, HB⟩ := hrel
      by_cases hlt : j < ks.length
      · obtain ⟨b, off, rfl, hc⟩ := (HR.out.below HB.out) (by omega)
        have hcell := hc j hlt
        have hbl := block_lt hcell
        obtain ⟨q, hq1, hq2, hq5, hq⟩ := kind_mod (ks.getD j 0)
        have HK := kind_cell wr 3 q hq5
        have HN : Hid (kd0 ++ (ks.take (j + 1)).map kindOf = (kd0 ++ (ks.take j).map kindOf) ++ [kindL.getD q 0]) := Lib.hid (by
          rw [List.append_assoc, List.take_succ_eq_append_getElem hlt, List.map_append, ← hq, List.getD_eq_getElem?_getD, List.getElem?_eq_getElem hlt]
          rfl)
        have HLN : Hid ((kd0 ++ (ks.take j).map kindOf).length ≤ 400) := Lib.hid (by
          rw [List.length_append, List.length_map, List.length_take]
          have := HLE.out
          have := HBL.out
          omega)
        have hsz := HB.out.size
        generalize ks.getD j 0 = x at *
        generalize kindL.getD q 0 = kd at *
        generalize kd0 ++ (ks.take j).map kindOf = L at *
        clear hc
        go_wp2_with (at_builtin; refine wpList_appL lay_int rfl (.tmp 31) (.tmp 40) rfl w.heap.size _ L rfl ((HO.out.alloc _).alloc _) _ 1 kd rfl (lit_one _ _ _ (encI kd) rfl _ (by simp)) (by have := HLN.out; omega) (by have := HLN.out; omega) (by simp; omega) ?_; rintro v' w' ho hg _; have HO5 := Lib.hid ho; have HB5 := Lib.hid (OwnL.below ((HO.out.alloc _).alloc _) hg (by simp; omega)); clear ho hg)
        go_roundw
        case rel => exact ⟨j + 1, _, rfl, by omega, by go_num, Lib.hid (by rw [HN.out]; exact HO5.out), Lib.hid ((alloc_b (alloc_b HB.out (Nat.le_refl _) _) (Nat.le_refl _) _).trans HB5.out)⟩
        case measure => simp [intOf]; omega
      · obtain rfl : j = ks.length := by omega
        rw [List.take_length] at HO
        obtain ⟨l, hl⟩ : ∃ l, l = kd0 ++ ks.map kindOf := ⟨_, rfl⟩
        rw [← hl] at HO
        have HLN : Hid (l.length ≤ 400) := Lib.hid (by rw [hl, List.length_append, List.length_map]; have := HLE.out; have := HBL.out; omega)
        obtain ⟨A, c, rfl, hI, hA, hcl⟩ := ownI_form HO.out
        have HI := Lib.hid hI
        have HA := Lib.hid hA
        clear hI hA hl
        have CP := Lib.hid (path_any A l c wr HI.out (by have := HLN.out; omega))
        have hll := HLN.out
        go_wp2
        go_loop [7, 8, 9] (fun s o i => ∃ (j : Nat) (t : Int) (q : Bool), j ≤ l.length ∧ i = .int .i64 (j : Int) ∧ s = .int .i64 t ∧ o = .bool q ∧ Hid ((q = true ∧ goS 0 (l.take j) = some t) ∨ (q = false ∧ t = 0 ∧ pst l = 0 ∧ pok l = false))) (fun _ _ i => l.length - (intOf i).toNat)
        case atStart => exact ⟨0, 0, true, Nat.zero_le _, rfl, rfl, rfl, Lib.hid (.inl ⟨rfl, rfl⟩)⟩
        case round =>
          obtain ⟨j, t, q, hj, rfl, rfl, rfl, HG⟩ := hrel
          cases q with
          | false =>
            obtain ⟨h, _⟩ | ⟨_, rfl, h1, h2⟩ := HG.out
            · cases h
            rw [h1, h2] at CP
            clear h1 h2
            go_wp2_with (first
              | (go_at_call 13; (with_reducible refine CP.out.mono ?_); rintro r wq ⟨rfl, hwq⟩; obtain rfl : wr = wq := hwq))
            all_goals
              go_ret
              exact ⟨rfl, HB.out⟩
          | true =>
            have hg : goS 0 (l.take j) = some t := by
              obtain ⟨_, h⟩ | ⟨h, _⟩ := HG.out
              · exact h
              · cases h
            by_cases hlt : j < l.length
            · obtain ⟨b, off, rfl, hc⟩ := HI.out (by omega)
              have hcell := hc j hlt
              have HT := Lib.hid (goS_take hlt hg)
              generalize l.getD j 0 = x at *
              have C := Lib.hid (rnext_any t x)
              have HQ : Hid ((nok t x = true ∧ goS 0 (l.take (j + 1)) = some (nxt t x)) ∨ (nok t x = false ∧ nxt t x = 0 ∧ pst l = 0 ∧ pok l = false)) := Lib.hid (by
                by_cases hok : nok t x = true
                · exact .inl ⟨hok, by rw [HT.out, if_pos hok]⟩
                · have h2 := HT.out
                  rw [if_neg hok] at h2
                  exact .inr ⟨by simpa using hok, nxt_no (by simpa using hok), goS_off h2⟩)
              clear hc hg HG
              go_wp2_with (first | (go_at_call 9; (with_reducible refine (C.out _).mono ?_); rintro e w' ⟨rfl, rfl⟩))
              go_round
              case rel => exact ⟨j + 1, _, _, by omega, by go_num, rfl, rfl, HQ⟩
              case measure => simp [intOf]; omega
            · obtain rfl : j = l.length := by omega
              rw [List.take_length] at hg
              have h1 : pst l = t := by unfold pst; rw [hg]; rfl
              have h2 : pok l = true := by unfold pok; rw [hg]; rfl
              rw [h1, h2] at CP
              clear h1 h2 hg HG
              go_wp2_with (first
                | (go_at_call 13; (with_reducible refine CP.out.mono ?_); rintro r wq ⟨rfl, hwq⟩; obtain rfl : wr = wq := hwq))
              go_ret
              exact ⟨rfl, HB.out⟩
end Go.Proofs.Ytppikncfmjaacaa
