/-
  The walk of novationlaw6.EventNumbers.
-/
import Derived.Test.YtincelegepafcaaKnown6
import Derived.Test.YtincelegepafcaaRegD
namespace Go.Proofs.Ytincelegepafcaa
open Go Go.RowKit
set_option linter.unusedVariables false

theorem str_dr {w w' : World} {base : Nat} {v : Value} {l : List Nat} (h : OwnB w base v l) (hb : Below w.heap.size w w') : ∀ j, (convert 25 9 v).run Try.prog (w'.drewN j) = .ok (.string (bstr l)) (w'.drewN j) := fun j => str_own h (below_drewN hb j)
theorem str_by {w w' : World} {A : Option Addr} {l : List Nat} {n c : Nat} (hn : n = l.length) (h : Byts w A l) (hb : Below w.heap.size w w') : ∀ j, (convert 25 9 (.slice A n c)).run Try.prog (w'.drewN j) = .ok (.string (bstr l)) (w'.drewN j) := fun j => run_bstr _ A l n c hn (h.below (below_drewN hb j))
theorem below_drew {B : Nat} {a w : World} (h : Below B a w) : Below B a w.drew := ⟨h.os, h.tape, h.output, h.size, h.block⟩
theorem byts_take {w : World} {A : Option Addr} {b : List Nat} (h : Byts w A b) (m : Nat) : Byts w A (b.take m) := by
  intro hl
  rw [List.length_take] at hl
  obtain ⟨bb, off, e, hc⟩ := h (by omega)
  refine ⟨bb, off, e, fun i hi => ?_⟩
  rw [List.length_take] at hi
  have := hc i (by omega)
  rw [List.getD_eq_getElem?_getD] at this ⊢
  rw [List.getElem?_take_of_lt (by omega)]
  exact this
set_option maxRecDepth 8000 in
set_option maxHeartbeats 4000000 in
theorem enumbers_walk (A : Option Addr) (l : List Nat) (c : Nat) (x : Int) (w : World) (hB : Byts w A l) (hO : Oct l) (hA : A = none → c = 0) (hn : l.length ≤ 9223372036854775807) (hx : I64 x) :
    Calls Try.prog 8 #[.slice A l.length c, .int .i64 x] w fun e w' => e = .returned (.bool true) ∧ Below w.heap.size w w' := by
  have C := Lib.hid (known_any w)
  by_cases h : 100 < l.length
  · generalize l.length = n at *
    clear hB hO hA
    go_enter Try.func8, Try.ntmps8
    go_wp2_with (go_at_call 9; refine C.out.mono ?_; rintro e w1 ⟨rfl, HB⟩)
    go_ret
    exact ⟨rfl, HB⟩
  · have CR := Lib.hid (fun W (h' : Below w.heap.size w W) => number_any A l c x W (hB.below h') hO hA (by omega) hx)
    have HX := Lib.hid hx
    have HBY := Lib.hid hB
    have HAN := Lib.hid hA
    obtain ⟨n, hk⟩ : ∃ n, n = l.length := ⟨_, rfl⟩
    obtain ⟨L3, hL3⟩ : ∃ L3, L3 = l ++ numB x := ⟨_, rfl⟩
    rw [← hL3] at CR
    have HN := Lib.hid hk
    have hn100 : n ≤ 100 := by omega
    rw [← hk] at CR ⊢
    clear hB hO hA hn hx h hk
    go_enter Try.func8, Try.ntmps8
    go_wp2_with (first
      | (go_at_call 9; refine C.out.mono ?_; rintro e w1 ⟨rfl, hb1⟩; have HB1 := Lib.hid hb1; clear hb1)
      | (at_builtin; refine wpList_app rfl (.tmp 12) (.tmp 13) rfl w1.heap.size _ [] rfl (ownB_lit w1 _ _ [] (Nat.le_refl _) ?c1 rfl _ rfl _ rfl) _ _ _ l rfl HN.out (HBY.out.below ?c3) HAN.out ?c6 ?c7 ?_))
    case c1 => simp
    case c3 => exact HB1.out.alloc HB1.out.size _
    case c6 => have := HN.out; simp; omega
    case c7 => simp
    intro v2 w2 ho2 hg2 _
    have hb2 : Below w1.heap.size w1 w2 := below_one (grown_below (ownB_lit w1 w1.heap.size #[] [] (Nat.le_refl _) (by simp) rfl _ rfl 0 rfl) hg2 (by simp))
    have HO2 : Hid (OwnB w2 w1.heap.size v2 l) := Lib.hid ho2
    have HB2 := Lib.hid hb2
    clear ho2 hg2 hb2
    go_wp2_with (at_builtin; refine wpList_app rfl (.tmp 14) (.tmp 15) rfl w1.heap.size _ l rfl (HO2.out.alloc _) _ _ _ [7, 7] rfl rfl (byts_new _ _ _ [7, 7] rfl _ rfl) ?d1 ?d2 ?d3 ?_)
    case d1 => intro e; cases e
    case d2 => have := HN.out; simp; omega
    case d3 => have := HB2.out.size; simp; omega
    intro v3 w3 ho3 hg3 _
    have hb3 : Below w1.heap.size w1 w3 := (HB2.out.alloc HB2.out.size _).trans (grown_below (HO2.out.alloc _) hg3 (by have := HB2.out.size; simp; omega))
    have HB3 := Lib.hid (HB1.out.trans (hb3.mono HB1.out.size))
    obtain ⟨A3, c3, rfl, hB3, hc3, hcm3, hA3, _⟩ := ho3.form
    have hlen3 : (l ++ [7, 7]).length = n + 2 := by rw [List.length_append, ← HN.out]; rfl
    rw [hlen3] at hc3 ⊢
    have ht3 : (l ++ [7, 7]).take n = l := by rw [HN.out, List.take_left]
    have HY3 := Lib.hid hB3
    have CP : Hid (Calls Try.prog 21 #[.slice A3 n c3, .int .i64 x] w3 (BytesN w3 L3)) := Lib.hid (by
      rw [hL3]
      have h1 := byts_take hB3 n
      rw [ht3] at h1
      have := pnumber_any A3 l c3 x w3 h1 hA3 (by rw [← HN.out]; omega) HX.out
      rw [← HN.out] at this
      exact this)
    have HLN := Lib.hid hlen3
    have hst : ∀ W, Below w3.heap.size w3 W → (convert 25 9 (.slice A3 (n + 2) c3)).run Try.prog W = .ok (.string (bstr (l ++ [7, 7]))) W := fun W hW => run_bstr _ A3 _ _ c3 hlen3.symm (hB3.below hW)
    have hsl : ∀ W, Below w3.heap.size w3 W → (convert 25 9 (.slice A n c)).run Try.prog W = .ok (.string (bstr l)) W := fun W hW => run_bstr _ A _ _ c HN.out (HBY.out.below (HB3.out.trans (hW.mono HB3.out.size)))
    have HST := Lib.hid hst
    have HSL := Lib.hid hsl
    have HADD : Hid (∀ W : World, (Op.stringOp .add (bstr l) { data := #[7, 7] }).run Try.prog W = .ok (.string (bstr (l ++ [7, 7]))) W) := Lib.hid (fun W => by
      have h := run_string_add_sum (P := Try.prog) (w := W) (bstr l) (bstr [7, 7]) (by rw [bstr_size, bstr_size, ← HN.out]; simp; omega)
      rw [bstr_cat] at h
      exact h)
    clear hst hsl hB3 hlen3 ht3 ho3 hg3 hb3 HY3 HLN HO2 C HX HBY HAN hA3
    have hc0 : c3 ≠ 0 := by omega
    have hc1 : (n : Int) + 2 ≤ (c3 : Int) := by omega
    clear hL3
    obtain ⟨n4, hn4⟩ : ∃ n4, n4 = L3.length := ⟨_, rfl⟩
    have HN4 := Lib.hid hn4
    clear hn4
    go_wp2_with (go_at_call 21; (with_reducible refine CP.out.mono ?_); rintro e w4 ⟨v4, rfl, ho4, hb4⟩; (obtain ⟨A4, c4, rfl, hy4, _⟩ := ho4.form); rw [← HN4.out]; have HY4 := Lib.hid hy4; have HB4 := Lib.hid hb4; clear ho4 hb4 hy4)
    have HBW := Lib.hid (HB3.out.trans (HB4.out.mono HB3.out.size))
    have CRW := Lib.hid (fun W (h : Below w4.heap.size w4 W) => CR.out W (HBW.out.trans (h.mono HBW.out.size)))
    have HS4 : Hid (∀ W, Below w4.heap.size w4 W → (convert 25 9 (.slice A4 n4 c4)).run Try.prog W = .ok (.string (bstr L3)) W) := Lib.hid (fun W hW => run_bstr W A4 L3 n4 c4 HN4.out (HY4.out.below hW))
    replace HSL := Lib.hid (fun W (hW : Below w4.heap.size w4 W) => HSL.out W (HB4.out.trans (hW.mono HB4.out.size)))
    replace HST := Lib.hid (fun W (hW : Below w4.heap.size w4 W) => HST.out W (HB4.out.trans (hW.mono HB4.out.size)))
    clear CP CR HY4
    refine wp_region_dag [23, 24, 25, 26, 27, 28, 29, 30, 31, 32, 33, 34, 35, 36, 37, 38, 39, 40, 41, 4] (fun W W' => Below W.heap.size W W') (fun W => Below w4.heap.size w4 W) (spAt [.val (.slice A4 n4 c4), .val (.string (bstr L3)), .val (.slice A n c), .val (.int .i64 x), .byt (L3), .val (.string (bstr (L3))), .val (.bool true), .val (.bool true), .val (.slice A3 n c3), .val (.slice A n c), .val (.int .i64 (n : Int)), .val (.int .i64 ((n : Int) + 2)), .val (.slice A3 (n + 2) c3), .val (.string (bstr (l ++ [7, 7]))), .val (.slice A n c), .val (.string (bstr l)), .val (.string (bstr (l ++ [7, 7]))), .val (.bool true), .val (.bool true), .val (.bool true)]) rfl rfl rfl rfl (spAt_st _) ((Below.refl _ _).drew) ⟨?_, ?_, ?_, ?_, ?_, ?_, ?_, ?_, ?_, ?_, ?_, ?_, ?_, ?_, ?_, ?_, ?_, ?_, ?_, ?_, trivial⟩ ?_
    · intro a W K ho hW hpre hK
      rw [if_pos (wanted_none rfl)]
      have e0 : a.tmps.getD 6 undef = .slice A4 n4 c4 := ho.slot 6 (by decide)
      go_simp
      exact hK _ _ (Below.refl _ _) hW rfl
    · intro a W K ho hW hpre hK
      rw [if_pos (wanted_none rfl)]
      have e0 : a.tmps.getD 23 undef = .slice A4 n4 c4 := hpre ⟨0, .data⟩ (by simp) rfl _ rfl
      have hc := HS4.out W hW
      go_simp
      exact hK _ _ (Below.refl _ _) hW rfl
    · intro a W K ho hW hpre hK
      rw [if_pos (wanted_none rfl)]
      have e0 : a.tmps.getD 0 undef = .slice A n c := ho.slot 0 (by decide)
      go_simp
      exact hK _ _ (Below.refl _ _) hW rfl
    · intro a W K ho hW hpre hK
      rw [if_pos (wanted_none rfl)]
      have e0 : a.tmps.getD 1 undef = .int .i64 x := ho.slot 1 (by decide)
      go_simp
      exact hK _ _ (Below.refl _ _) hW rfl
    · intro a W K ho hW hpre hK
      rw [if_pos (wanted_none rfl)]
      have e0 : a.tmps.getD 25 undef = .slice A n c := hpre ⟨2, .data⟩ (by simp) rfl _ rfl
      have e1 : a.tmps.getD 26 undef = .int .i64 x := hpre ⟨3, .data⟩ (by simp) rfl _ rfl
      go_simp
      refine (CRW.out W hW).mono ?_
      rintro e w5 ⟨v5, rfl, ho5, hb5⟩
      exact hK _ _ hb5 (hW.trans (hb5.mono hW.size)) (own_byt ho5)
    · intro a W K ho hW hpre hK
      rw [if_pos (wanted_none rfl)]
      have e0 : (SpP.byt (L3)).p (a.tmps.getD 27 undef) W := hpre ⟨4, .data⟩ (by simp) rfl _ rfl
      obtain ⟨A', n', c', e1, hn', hB'⟩ := e0
      subst hn'
      have hc := run_bstr W A' _ _ c' rfl hB'
      go_simp
      exact hK _ _ (Below.refl _ _) hW rfl
    · intro a W K ho hW hpre hK
      rw [if_pos (wanted_none rfl)]
      have e0 : a.tmps.getD 24 undef = .string (bstr L3) := hpre ⟨1, .data⟩ (by simp) rfl _ rfl
      have e1 : a.tmps.getD 28 undef = .string (bstr (L3)) := hpre ⟨5, .data⟩ (by simp) rfl _ rfl
      go_simp
      exact hK _ _ (Below.refl _ _) hW rfl
    · intro a W K ho hW hpre hK
      rw [if_pos (wanted_none rfl)]
      have e0 : a.tmps.getD 29 undef = .bool true := hpre ⟨6, .data⟩ (by simp) rfl _ rfl
      go_simp
      exact hK _ _ (Below.refl _ _) hW rfl
    · intro a W K ho hW hpre hK
      have eg : a.tmps.getD 30 undef = .bool true := hpre ⟨7, .guard⟩ (by simp) rfl _ rfl
      rw [if_pos (wanted_at ho rfl rfl rfl (Nat.le_of_ble_eq_true rfl) eg)]
      clear eg
      have e0 : a.tmps.getD 5 undef = .slice A3 n c3 := ho.slot 5 (by decide)
      go_simp
      exact hK _ _ (Below.refl _ _) hW rfl
    · intro a W K ho hW hpre hK
      have eg : a.tmps.getD 30 undef = .bool true := hpre ⟨7, .guard⟩ (by simp) rfl _ rfl
      rw [if_pos (wanted_at ho rfl rfl rfl (Nat.le_of_ble_eq_true rfl) eg)]
      clear eg
      have e0 : a.tmps.getD 0 undef = .slice A n c := ho.slot 0 (by decide)
      go_simp
      exact hK _ _ (Below.refl _ _) hW rfl
    · intro a W K ho hW hpre hK
      have eg : a.tmps.getD 30 undef = .bool true := hpre ⟨7, .guard⟩ (by simp) rfl _ rfl
      rw [if_pos (wanted_at ho rfl rfl rfl (Nat.le_of_ble_eq_true rfl) eg)]
      clear eg
      have e0 : a.tmps.getD 32 undef = .slice A n c := hpre ⟨9, .data⟩ (by simp) rfl _ rfl
      go_simp
      exact hK _ _ (Below.refl _ _) hW rfl
    · intro a W K ho hW hpre hK
      have eg : a.tmps.getD 30 undef = .bool true := hpre ⟨7, .guard⟩ (by simp) rfl _ rfl
      rw [if_pos (wanted_at ho rfl rfl rfl (Nat.le_of_ble_eq_true rfl) eg)]
      clear eg
      have e0 : a.tmps.getD 33 undef = .int .i64 (n : Int) := hpre ⟨10, .data⟩ (by simp) rfl _ rfl
      have hw : IntKind.i64.wrap ((n : Int) + 2) = (n : Int) + 2 := by simp [IntKind.wrap, IntKind.bits, IntKind.signed]; omega
      go_simp
      exact hK _ _ (Below.refl _ _) hW rfl
    · intro a W K ho hW hpre hK
      have eg : a.tmps.getD 30 undef = .bool true := hpre ⟨7, .guard⟩ (by simp) rfl _ rfl
      rw [if_pos (wanted_at ho rfl rfl rfl (Nat.le_of_ble_eq_true rfl) eg)]
      clear eg
      have e0 : a.tmps.getD 31 undef = .slice A3 n c3 := hpre ⟨8, .data⟩ (by simp) rfl _ rfl
      have e1 : a.tmps.getD 34 undef = .int .i64 ((n : Int) + 2) := hpre ⟨11, .data⟩ (by simp) rfl _ rfl
      go_simp
      exact hK _ _ (Below.refl _ _) hW (by first | rfl | (simp; done))
    · intro a W K ho hW hpre hK
      have eg : a.tmps.getD 30 undef = .bool true := hpre ⟨7, .guard⟩ (by simp) rfl _ rfl
      rw [if_pos (wanted_at ho rfl rfl rfl (Nat.le_of_ble_eq_true rfl) eg)]
      clear eg
      have e0 : a.tmps.getD 35 undef = .slice A3 (n + 2) c3 := hpre ⟨12, .data⟩ (by simp) rfl _ rfl
      have hc := HST.out W hW
      go_simp
      exact hK _ _ (Below.refl _ _) hW rfl
    · intro a W K ho hW hpre hK
      have eg : a.tmps.getD 30 undef = .bool true := hpre ⟨7, .guard⟩ (by simp) rfl _ rfl
      rw [if_pos (wanted_at ho rfl rfl rfl (Nat.le_of_ble_eq_true rfl) eg)]
      clear eg
      have e0 : a.tmps.getD 0 undef = .slice A n c := ho.slot 0 (by decide)
      go_simp
      exact hK _ _ (Below.refl _ _) hW rfl
    · intro a W K ho hW hpre hK
      have eg : a.tmps.getD 30 undef = .bool true := hpre ⟨7, .guard⟩ (by simp) rfl _ rfl
      rw [if_pos (wanted_at ho rfl rfl rfl (Nat.le_of_ble_eq_true rfl) eg)]
      clear eg
      have e0 : a.tmps.getD 37 undef = .slice A n c := hpre ⟨14, .data⟩ (by simp) rfl _ rfl
      have hc := HSL.out W hW
      go_simp
      exact hK _ _ (Below.refl _ _) hW rfl
    · intro a W K ho hW hpre hK
      have eg : a.tmps.getD 30 undef = .bool true := hpre ⟨7, .guard⟩ (by simp) rfl _ rfl
      rw [if_pos (wanted_at ho rfl rfl rfl (Nat.le_of_ble_eq_true rfl) eg)]
      clear eg
      have e0 : a.tmps.getD 38 undef = .string (bstr l) := hpre ⟨15, .data⟩ (by simp) rfl _ rfl
      have hc := HADD.out W
      go_simp
      exact hK _ _ (Below.refl _ _) hW rfl
    · intro a W K ho hW hpre hK
      have eg : a.tmps.getD 30 undef = .bool true := hpre ⟨7, .guard⟩ (by simp) rfl _ rfl
      rw [if_pos (wanted_at ho rfl rfl rfl (Nat.le_of_ble_eq_true rfl) eg)]
      clear eg
      have e0 : a.tmps.getD 36 undef = .string (bstr (l ++ [7, 7])) := hpre ⟨13, .data⟩ (by simp) rfl _ rfl
      have e1 : a.tmps.getD 39 undef = .string (bstr (l ++ [7, 7])) := hpre ⟨16, .data⟩ (by simp) rfl _ rfl
      go_simp
      exact hK _ _ (Below.refl _ _) hW rfl
    · intro a W K ho hW hpre hK
      rw [if_pos (wanted_none rfl)]
      have e0 : a.tmps.getD 30 undef = .bool true := hpre ⟨7, .data⟩ (by simp) rfl _ rfl
      have e1 : a.tmps.getD 40 undef = .bool true := hpre ⟨17, .data⟩ (by simp) rfl _ rfl
      go_simp
      exact hK _ _ (Below.refl _ _) hW rfl
    · intro a W K ho hW hpre hK
      rw [if_pos (wanted_none rfl)]
      have e0 : a.tmps.getD 41 undef = .bool true := hpre ⟨18, .data⟩ (by simp) rfl _ rfl
      go_simp
      exact hK _ _ (Below.refl _ _) hW rfl
    · intro a W ho hW hall
      have e8 : a.tmps.getD 4 undef = .bool true := hall 19 _ rfl
      have hdf : a.defers = [] := ho.defers
      have HW := Lib.hid (HBW.out.trans (hW.mono HBW.out.size))
      clear hall hW ho
      rename_i hKK
      refine hKK _ _ ?_
      refine wp_ret ?_
      refine bodyPost_ret (v := .bool true) ?_ hdf ⟨rfl, HW.out⟩
      rw [results_tmp rfl, e8]
end Go.Proofs.Ytincelegepafcaa
