/-
  The walk of novationlaw10.StandingSteps.
-/
import Derived.Test.YtppikncfmjaacaaSd3
import Derived.Test.YtppikncfmjaacaaOwnA
namespace Go.Proofs.Ytppikncfmjaacaa
set_option maxRecDepth 8000
open Go Go.RowKit
set_option linter.unusedVariables false

theorem pok_snoc (l : List Int) (k : Int) : pst (l ++ [k]) = (if pok l then nxt (pst l) k else 0) ∧ pok (l ++ [k]) = (pok l && nok (pst l) k) ∧ (pok l = false → pst l = 0) := by
  unfold pst pok
  rw [goS_snoc]
  cases h : goS 0 l with
  | none => exact ⟨rfl, rfl, fun _ => rfl⟩
  | some t =>
    refine ⟨?_, ?_, fun h => by cases h⟩
    · show ((if nok t k = true then some (nxt t k) else none : Option Int)).getD 0 = nxt t k
      by_cases hk : nok t k = true
      · rw [if_pos hk]; rfl
      · rw [if_neg hk, nxt_no (by simpa using hk)]; rfl
    · show (if nok t k = true then some (nxt t k) else none : Option Int).isSome = (true && nok t k)
      by_cases hk : nok t k = true
      · rw [if_pos hk, hk]; rfl
      · have hn : nok t k = false := by simpa using hk
        rw [if_neg hk, hn]; rfl
set_option maxRecDepth 100000 in
set_option maxHeartbeats 16000000 in
theorem ssteps_walk (A : Option Addr) (ks : List Nat) (c : Nat) (k : Int) (w : World) (hr : Byts w A ks) (hn : ks.length ≤ 9223372036854775807) : Calls Try.prog 5 #[.slice A ks.length c, .int .i64 k] w fun r w' => r = .returned (.bool true) ∧ Below w.heap.size w w' := by
  have CK := Lib.hid (known10_any w)
  by_cases hbig : ks.length > 200
  · have hb2 : ((200 : Int) < (ks.length : Int)) := by omega
    clear hr
    go_enter Try.func5, Try.ntmps5
    go_wp2_with (first
      | (go_at_call 7; (with_reducible refine CK.out.mono ?_); rintro r w1 ⟨rfl, hb1⟩; have HB1 := Lib.hid hb1; clear hb1))
    go_ret
    exact ⟨rfl, HB1.out⟩
  · have HLE : Hid (ks.length ≤ 200) := Lib.hid (by omega)
    have HBL : Hid (([] : List Int).length ≤ 200) := Lib.hid (by simp)
    have hle : ks.length ≤ 200 := by omega
    have HR := Lib.hid hr
    clear hr hbig
    go_enter Try.func5, Try.ntmps5
    go_wp2_with (first
      | (go_at_call 7; (with_reducible refine CK.out.mono ?_); rintro r w1 ⟨rfl, hb1⟩; have HB1 := Lib.hid hb1; have HO1 : Hid (OwnI64 w1 w.heap.size (.slice none 0 0) ([] ++ (ks.take 0).map kindOf)) := Lib.hid (ownL_nil _ _); clear hb1))
    go_loopw [5, 6] (fun V i wr => ∃ (j : Nat) (U : Value), U = V ∧ j ≤ ks.length ∧ i = .int .i64 (j : Int) ∧ Hid (OwnI64 wr w.heap.size U ([] ++ (ks.take j).map kindOf)) ∧ Hid (Below w.heap.size w wr)) (fun _ i _ => ks.length - (intOf i).toNat)
    case atStart => exact ⟨0, _, rfl, Nat.zero_le _, rfl, HO1, HB1⟩
    case round =>
      obtain ⟨j, V, rfl, hj, rfl, HO, HB⟩ := hrel
      by_cases hlt : j < ks.length
      · obtain ⟨b, off, rfl, hc⟩ := (HR.out.below HB.out) (by omega)
        have hcell := hc j hlt
        have hbl := block_lt hcell
        obtain ⟨q, hq1, hq2, hq5, hq⟩ := kind_mod (ks.getD j 0)
        have HK := kind_cell wr 3 q hq5
        have HN : Hid ([] ++ (ks.take (j + 1)).map kindOf = ([] ++ (ks.take j).map kindOf) ++ [kindL.getD q 0]) := Lib.hid (by
          rw [List.append_assoc, List.take_succ_eq_append_getElem hlt, List.map_append, ← hq, List.getD_eq_getElem?_getD, List.getElem?_eq_getElem hlt]
          rfl)
        have HLN : Hid (([] ++ (ks.take j).map kindOf).length ≤ 400) := Lib.hid (by
          rw [List.length_append, List.length_map, List.length_take]
          have := HLE.out
          have := HBL.out
          omega)
        have hsz := HB.out.size
        generalize ks.getD j 0 = x at *
        generalize kindL.getD q 0 = kd at *
        generalize [] ++ (ks.take j).map kindOf = L at *
        clear hc
        go_wp2_with (at_builtin; refine wpList_appL lay_int rfl (.tmp 24) (.tmp 33) rfl w.heap.size _ L rfl ((HO.out.alloc _).alloc _) _ 1 kd rfl (lit_one _ _ _ (encI kd) rfl _ (by simp)) (by have := HLN.out; omega) (by have := HLN.out; omega) (by simp; omega) ?_; rintro v' w' ho hg _; have HO5 := Lib.hid ho; have HB5 := Lib.hid (OwnL.below ((HO.out.alloc _).alloc _) hg (by simp; omega)); clear ho hg)
        go_roundw
        case rel => exact ⟨j + 1, _, rfl, by omega, by go_num, Lib.hid (by rw [HN.out]; exact HO5.out), Lib.hid ((alloc_b (alloc_b HB.out (Nat.le_refl _) _) (Nat.le_refl _) _).trans HB5.out)⟩
        case measure => simp [intOf]; omega
      · obtain rfl : j = ks.length := by omega
        rw [List.take_length] at HO
        obtain ⟨l, hl⟩ : ∃ l, l = [] ++ ks.map kindOf := ⟨_, rfl⟩
        rw [← hl] at HO
        have HLN : Hid (l.length ≤ 400) := Lib.hid (by rw [hl, List.length_append, List.length_map]; have := HLE.out; have := HBL.out; omega)
        obtain ⟨A, c, rfl, hI, hA, hcl⟩ := ownI_form HO.out
        have HI := Lib.hid hI
        have HA := Lib.hid hA
        clear hI hA hl
        have CP := Lib.hid (path_any A l c wr HI.out (by have := HLN.out; omega))
        have HSN := Lib.hid (pok_snoc l k)
        have hsz := HB.out.size
        have CN := Lib.hid (next_any (pst l) k)
        obtain ⟨P, hP⟩ : ∃ P, P = pst l := ⟨_, rfl⟩
        obtain ⟨Q, hQ⟩ : ∃ Q, Q = pok l := ⟨_, rfl⟩
        rw [← hP, ← hQ] at CP HSN
        rw [← hP] at CN
        have HO2 : Hid (OwnI64 (wr.alloc (.cells #[] 3)) w.heap.size (.slice (some ⟨wr.heap.size, 0, none⟩) 0 0) []) := Lib.hid (ownL_lit lay_int wr w.heap.size #[] [] hsz (by simp) rfl _ rfl _ rfl)
        have HI2 : Hid (Ints (wr.alloc (.cells #[] 3)) .i64 A l) := Lib.hid (HI.out.below ((Below.refl _ _).alloc (Nat.le_refl _) _))
        clear hP hQ
        cases Q with
        | true =>
          rw [show (if true = true then nxt P k else 0) = nxt P k from rfl, Bool.true_and] at HSN
          go_wp2_with (first
            | (go_at_call 13; first
                | ((with_reducible refine CP.out.mono ?_); rintro r wq ⟨rfl, hwq⟩; obtain rfl : wr = wq := hwq)
                | ((with_reducible refine CP2.out.mono ?_); rintro r wq ⟨rfl, hwq⟩; obtain rfl : w4 = wq := hwq))
            | (go_at_call 8; (with_reducible refine (CN.out _).mono ?_); rintro r wq ⟨rfl, rfl⟩)
            | (at_builtin; first
                | (refine wpList_appA lay_int rfl (.tmp 41) (.tmp 42) rfl w.heap.size _ [] rfl HO2.out A l.length c l rfl rfl (fun e => ⟨HA.out e, by subst e; exact ints_none HI.out⟩) (ints_cells HI2.out) (by have := HLN.out; simp; omega) (by have := HLN.out; simp; omega) (by simp; omega) ?_; intro v3 w3 ho3 hb3 _; rw [List.nil_append] at ho3; have HO3 := Lib.hid ho3; have HB3 := Lib.hid ((alloc_b HB.out (Nat.le_refl _) _).trans hb3); have hsz3 := HB3.out.size; clear ho3 hb3)
                | (refine wpList_appL lay_int rfl (.tmp 43) (.tmp 45) rfl w.heap.size _ l rfl (HO3.out.alloc _) _ 1 k rfl (lit_one _ _ _ (encI k) rfl _ (by simp)) (by have := HLN.out; omega) (by have := HLN.out; omega) (by simp; omega) ?_; rintro v4 w4 ho4 hg4 _; obtain ⟨A4, c4, rfl, hI4, _, _⟩ := ownI_form ho4; have HB4 := Lib.hid ((alloc_b HB3.out (Nat.le_refl _) _).trans (OwnL.below (HO3.out.alloc _) hg4 (by simp; omega))); have CP2 := Lib.hid (path_any A4 (l ++ [k]) c4 w4 hI4 (by have := HLN.out; simp; omega)); rw [HSN.out.1, HSN.out.2.1, show (l ++ [k]).length = l.length + 1 from by simp] at CP2; clear ho4 hg4 hI4)))
          go_ret
          exact ⟨rfl, HB4.out⟩
        | false =>
          rw [HSN.out.2.2 rfl] at CP HSN
          rw [show (if false = true then nxt 0 k else 0) = 0 from rfl, Bool.false_and] at HSN
          go_wp2_with (first
            | (go_at_call 13; first
                | ((with_reducible refine CP.out.mono ?_); rintro r wq ⟨rfl, hwq⟩; obtain rfl : wr = wq := hwq)
                | ((with_reducible refine CP2.out.mono ?_); rintro r wq ⟨rfl, hwq⟩; obtain rfl : w4 = wq := hwq))
            | (at_builtin; first
                | (refine wpList_appA lay_int rfl (.tmp 41) (.tmp 42) rfl w.heap.size _ [] rfl HO2.out A l.length c l rfl rfl (fun e => ⟨HA.out e, by subst e; exact ints_none HI.out⟩) (ints_cells HI2.out) (by have := HLN.out; simp; omega) (by have := HLN.out; simp; omega) (by simp; omega) ?_; intro v3 w3 ho3 hb3 _; rw [List.nil_append] at ho3; have HO3 := Lib.hid ho3; have HB3 := Lib.hid ((alloc_b HB.out (Nat.le_refl _) _).trans hb3); have hsz3 := HB3.out.size; clear ho3 hb3)
                | (refine wpList_appL lay_int rfl (.tmp 43) (.tmp 45) rfl w.heap.size _ l rfl (HO3.out.alloc _) _ 1 k rfl (lit_one _ _ _ (encI k) rfl _ (by simp)) (by have := HLN.out; omega) (by have := HLN.out; omega) (by simp; omega) ?_; rintro v4 w4 ho4 hg4 _; obtain ⟨A4, c4, rfl, hI4, _, _⟩ := ownI_form ho4; have HB4 := Lib.hid ((alloc_b HB3.out (Nat.le_refl _) _).trans (OwnL.below (HO3.out.alloc _) hg4 (by simp; omega))); have CP2 := Lib.hid (path_any A4 (l ++ [k]) c4 w4 hI4 (by have := HLN.out; simp; omega)); rw [HSN.out.1, HSN.out.2.1, show (l ++ [k]).length = l.length + 1 from by simp] at CP2; clear ho4 hg4 hI4)))
          go_ret
          exact ⟨rfl, HB4.out⟩
end Go.Proofs.Ytppikncfmjaacaa
