/-
  The walk of the reference's Text.
-/
import Derived.Test.YtjkbnljjmbfmiaaDoorWt2
import Derived.Test.YtjkbnljjmbfmiaaDoorItr
import Derived.Test.YtjkbnljjmbfmiaaDoorRegD
import Derived.Deep.RegionWith
import Derived.Deep.QuietTactic
import Derived.BigQuiet
namespace Go.Proofs.YtjkbnljjmbfmiaaDoor
open Go Go.RowKit
set_option linter.unusedVariables false

theorem tail_taken (g : Nat → List Nat) (l : List Nat) (k : Nat) (h : k < l.length) : tailOf ((l.take (k + 1)).map g) = tailOf ((l.take k).map g) ++ (32 :: g (l.getD k 0)) := by
  rw [List.take_succ_eq_append_getElem h, List.map_append, tail_app, List.getD_eq_getElem?_getD, List.getElem?_eq_getElem h]
  simp [tailOf]
theorem tail_below (e : Ev) (ok : e.Ok) (l : List Nat) : (tailOf (l.map (fieldL e))).length ≤ 21 * l.length := by
  have := tail_len (n := 20) (l := l.map (fieldL e)) (by
    intro y hy
    obtain ⟨f, _, rfl⟩ := List.mem_map.1 hy
    exact field_len ok f)
  rw [List.length_map] at this
  exact this
/-- What Text answers. -/
def RTextK (w : World) (t : List Nat) (c : Int) (r : Ending) (w' : World) : Prop := r = .returned (.tuple #[.string (bstr t), .int .i64 c]) ∧ Below w.heap.size w w'
set_option maxRecDepth 8000 in
set_option maxHeartbeats 2000000 in
theorem rtext_no (e : Ev) (hr : rightE e = false) (w : World) : Calls Tryd.prog 14 #[e.v] w (RTextK w [] 1) := by
  have CR := Lib.hid (fun W => right_any e W)
  rw [hr] at CR
  have HB0 : Hid (Below w.heap.size w (w.alloc (.cells e.cells.toArray 23))) := Lib.hid ((Below.refl _ _).alloc (Nat.le_refl _) _)
  unfold RTextK
  rw [show bstr [] = { data := #[] } from rfl]
  unfold Ev.v at CR ⊢
  clear hr
  go_enter Tryd.func14, Tryd.ntmps14
  go_wp2_with (go_at_call 28; (with_reducible refine (CR.out _).mono ?_); rintro r w1 ⟨rfl, hb1⟩; have HB1 := Lib.hid hb1; clear hb1)
  go_ret2
  exact ⟨rfl, HB0.out.trans (HB1.out.mono HB0.out.size)⟩
set_option maxRecDepth 8000 in
set_option maxHeartbeats 8000000 in
theorem rtext_yes (e : Ev) (ok : e.Ok) (hr : rightE e = true) (w : World) : Calls Tryd.prog 14 #[e.v] w (RTextK w (textL e) 0) := by
  have CR := Lib.hid (fun W => right_any e W)
  rw [hr] at CR
  have CF := Lib.hid (fun W => fields_any e.kind W)
  have CW := Lib.hid (fun W => word_any e.kind W)
  have HSD : Hid (83 ∈ fieldsOf e.kind → e.side = 1 ∨ e.side = 2) := Lib.hid (fun h => right_side hr h)
  obtain ⟨W0, hW0⟩ : ∃ l, l = wordOf e.kind := ⟨_, rfl⟩
  obtain ⟨l, hl⟩ : ∃ l, l = fieldsOf e.kind := ⟨_, rfl⟩
  have HTX : Hid (textL e = W0 ++ tailOf (l.map (fieldL e))) := Lib.hid (by rw [hW0, hl]; rfl)
  have HWL : Hid (W0.length ≤ 9) := Lib.hid (by rw [hW0]; exact word_len _)
  have hO : Oct l := by rw [hl]; exact fields_oct _
  have hlen : l.length ≤ 5 := by rw [hl]; exact fields_len _
  rw [← hl] at CF HSD
  rw [← hW0] at CW
  have hsz : (bstr l).size = l.length := bstr_size l
  have HGT : Hid (∀ k (h : k < (bstr l).size), ((bstr l)[k]'h).toNat = l.getD k 0) := Lib.hid (fun k h => bstr_get l hO k h)
  obtain ⟨S, hS⟩ : ∃ S, S = bstr l := ⟨_, rfl⟩
  rw [← hS] at CF hsz HGT
  obtain ⟨n, hn⟩ : ∃ n, n = l.length := ⟨_, rfl⟩
  rw [← hn] at hsz hlen
  have HN := Lib.hid hn
  have HOK := Lib.hid ok
  have HE0 : Hid (EvAt (w.alloc (.cells e.cells.toArray 23)) w.heap.size e) := Lib.hid (Rec.new w _ e.cells _ rfl)
  have HB0 : Hid (Below w.heap.size w (w.alloc (.cells e.cells.toArray 23))) := Lib.hid ((Below.refl _ _).alloc (Nat.le_refl _) _)
  have CV : Hid (∀ f W, Calls Tryd.prog 31 #[e.v, .int .u8 ((f : Nat) : Int)] W fun r w' => r = .returned (.int .i64 (e.val f)) ∧ Below W.heap.size W w') := Lib.hid (fun f W => value_any e f W)
  have CD : Hid (∀ f W, Calls Tryd.prog 20 #[.int .i64 (e.val f)] W fun r w' => r = .returned (.string (bstr (dec (e.val f)))) ∧ Below W.heap.size W w') := Lib.hid (fun f W => decimal_any _ (ok.val f) W)
  unfold Ev.v at CR CV ⊢
  clear hr ok hl hO hS hn hW0
  go_enter Tryd.func14, Tryd.ntmps14
  go_wp2_with (go_at_call 28; (with_reducible refine (CR.out _).mono ?_); rintro r w1 ⟨rfl, hb1⟩; have H1 := Lib.hid (HE0.out.keep hb1); have HB1 := Lib.hid (HB0.out.trans (hb1.mono HB0.out.size)); obtain ⟨c0, c1, c2, c3, c4, c5, c6, c7⟩ := H1.out.reads; have zlt := Rec.lt H1.out; clear hb1)
  clear HE0 HB0 CR
  refine wp_region_dag [10, 11, 12, 13, 14, 15, 4, 5] (fun W W' => Below W.heap.size W W') (fun W => Below w1.heap.size w1 W) (spAt [.val (.pointer (some ⟨w.heap.size, 0, none⟩)), .val (.int .i64 e.kind), .val (.string (bstr W0)), .val (.pointer (some ⟨w.heap.size, 0, none⟩)), .val (.int .i64 e.kind), .val (.string S), .val (.string (bstr W0)), .val (.string S)]) rfl rfl rfl rfl (spAt_st _) ((Below.refl _ _).drew) ⟨?_, ?_, ?_, ?_, ?_, ?_, ?_, ?_, trivial⟩ ?_
  · intro a W K ho hW hpre hK
    rw [if_pos (wanted_none rfl)]
    have e0 : a.tmps.getD 1 undef = .pointer (some ⟨w.heap.size, 0, none⟩) := ho.slot 1 (by decide)
    go_simp
    exact hK _ _ (Below.refl _ _) hW rfl
  · intro a W K ho hW hpre hK
    rw [if_pos (wanted_none rfl)]
    have e0 : a.tmps.getD 10 undef = .pointer (some ⟨w.heap.size, 0, none⟩) := hpre ⟨0, .data⟩ (by simp) rfl _ rfl
    obtain ⟨c0, c1, c2, c3, c4, c5, c6, c7⟩ := (H1.out.keep hW).reads
    go_simp
    exact hK _ _ (Below.refl _ _) hW rfl
  · intro a W K ho hW hpre hK
    rw [if_pos (wanted_none rfl)]
    have e0 : a.tmps.getD 11 undef = .int .i64 e.kind := hpre ⟨1, .data⟩ (by simp) rfl _ rfl
    go_simp
    refine (CW.out _).mono ?_
    rintro r w5 ⟨rfl, hb5⟩
    exact hK _ _ hb5 (hW.trans (hb5.mono hW.size)) rfl
  · intro a W K ho hW hpre hK
    rw [if_pos (wanted_none rfl)]
    have e0 : a.tmps.getD 1 undef = .pointer (some ⟨w.heap.size, 0, none⟩) := ho.slot 1 (by decide)
    go_simp
    exact hK _ _ (Below.refl _ _) hW rfl
  · intro a W K ho hW hpre hK
    rw [if_pos (wanted_none rfl)]
    have e0 : a.tmps.getD 13 undef = .pointer (some ⟨w.heap.size, 0, none⟩) := hpre ⟨3, .data⟩ (by simp) rfl _ rfl
    obtain ⟨c0, c1, c2, c3, c4, c5, c6, c7⟩ := (H1.out.keep hW).reads
    go_simp
    exact hK _ _ (Below.refl _ _) hW rfl
  · intro a W K ho hW hpre hK
    rw [if_pos (wanted_none rfl)]
    have e0 : a.tmps.getD 14 undef = .int .i64 e.kind := hpre ⟨4, .data⟩ (by simp) rfl _ rfl
    go_simp
    refine (CF.out _).mono ?_
    rintro r _ ⟨rfl, rfl⟩
    exact hK _ _ (Below.refl _ _) hW rfl
  · intro a W K ho hW hpre hK
    rw [if_pos (wanted_none rfl)]
    have e0 : a.tmps.getD 12 undef = .string (bstr W0) := hpre ⟨2, .data⟩ (by simp) rfl _ rfl
    go_simp
    exact hK _ _ (Below.refl _ _) hW rfl
  · intro a W K ho hW hpre hK
    rw [if_pos (wanted_none rfl)]
    have e0 : a.tmps.getD 15 undef = .string S := hpre ⟨5, .data⟩ (by simp) rfl _ rfl
    go_simp
    exact hK _ _ (Below.refl _ _) hW rfl
  · intro a W ho hW hall
    have e4 : a.tmps.getD 4 undef = .string (bstr W0) := hall 6 _ rfl
    have e5 : a.tmps.getD 5 undef = .string S := hall 7 _ rfl
    have heq := ho.eq
    have HBW := Lib.hid (HB1.out.trans (hW.mono HB1.out.size))
    have HEW := Lib.hid (H1.out.keep hW)
    clear ho hW hall
    simp only [putL, e4, e5] at heq
    clear e4 e5
    generalize a.tmps.getD 10 undef = u10 at heq
    generalize a.tmps.getD 11 undef = u11 at heq
    generalize a.tmps.getD 12 undef = u12 at heq
    generalize a.tmps.getD 13 undef = u13 at heq
    generalize a.tmps.getD 14 undef = u14 at heq
    generalize a.tmps.getD 15 undef = u15 at heq
    subst heq
    rename_i hKK
    refine hKK _ _ ?_
    go_simp
    obtain ⟨D0, hD0⟩ : ∃ D, D = W0 ++ tailOf ((l.take 0).map (fieldL e)) := ⟨_, rfl⟩
    have hWD : W0 = D0 := by rw [hD0, List.take_zero, List.map_nil, tailOf, List.append_nil]
    clear c0 c1 c2 c3 c4 c5 c6 c7 H1 HB1 CW CF hD0
    go_wp2
    go_loopw [4, 6] (fun out i wr => ∃ k : Nat, out = .string (bstr (W0 ++ tailOf ((l.take k).map (fieldL e)))) ∧ i = .int .i64 (k : Int) ∧ k ≤ n ∧ Hid (EvAt wr w.heap.size e) ∧ Hid (Below w.heap.size w wr)) (fun _ i _ => n - (intOf i).toNat)
    case atStart => exact ⟨0, by rw [List.take_zero, List.map_nil, tailOf, List.append_nil], rfl, Nat.zero_le _, HEW, HBW⟩
    case round =>
      obtain ⟨k, rfl, rfl, hk, HE, HB⟩ := hrel
      by_cases hlt : k < n
      · have hszk : k < S.size := by rw [hsz]; exact hlt
        have hkl : k < l.length := by rw [← HN.out]; exact hlt
        have HT := Lib.hid (tail_taken (fieldL e) l k hkl)
        have hgt := HGT.out k hszk
        have hLn := tail_below e HOK.out (l.take k)
        have hfl := field_len HOK.out (l.getD k 0)
        rw [List.length_take, ← HN.out] at hLn
        have hmem : l.getD k 0 ∈ l := by rw [List.getD_eq_getElem?_getD, List.getElem?_eq_getElem hkl]; exact List.getElem_mem _
        obtain ⟨f, hf⟩ : ∃ f, f = l.getD k 0 := ⟨_, rfl⟩
        rw [← hf] at HT hgt hfl hmem
        obtain ⟨F, hF⟩ : ∃ F, F = fieldL e f := ⟨_, rfl⟩
        rw [← hF] at HT hfl
        obtain ⟨c0, c1, c2, c3, c4, c5, c6, c7⟩ := HE.out.reads
        obtain ⟨D, hD⟩ : ∃ D, D = W0 ++ tailOf ((l.take k).map (fieldL e)) := ⟨_, rfl⟩
        have hsD : (bstr D).size = D.length := bstr_size D
        have hDl : D.length ≤ 114 := by
          have := HWL.out
          rw [hD, List.length_append]
          have h5 : 21 * min k n ≤ 105 := by
            have : min k n ≤ 5 := by omega
            omega
          omega
        have hsF : (bstr F).size = F.length := bstr_size F
        have hcat1 : ({ data := #[32] } : ByteArray) ++ bstr F = bstr (32 :: F) := bstr_cat [32] F
        have hs1 : (bstr (32 :: F)).size = F.length + 1 := by rw [bstr_size]; rfl
        have hcat2 : bstr D ++ bstr (32 :: F) = bstr (D ++ 32 :: F) := bstr_cat D (32 :: F)
        have HD2 : Hid (D ++ 32 :: F = W0 ++ tailOf ((l.take (k + 1)).map (fieldL e))) := Lib.hid (by rw [HT.out, hD, List.append_assoc])
        rw [← hD]
        clear hf HT hD hLn hkl
        by_cases h83 : f = 83
        · subst h83
          have hs := HSD.out hmem
          have CS := Lib.hid (fun W => side_any e.kind e.side hs W)
          rw [show sideOf e.kind e.side = F from by rw [hF]; rfl] at CS
          have hgi : ((S[k]'hszk).toNat : Int) = 83 := by rw [hgt]; rfl
          clear hgt hF hs hmem
          go_wp2_with (go_at_call 30; (with_reducible refine (CS.out _).mono ?_); rintro r w4 ⟨rfl, hb4⟩; have K4 := Lib.hid hb4; clear hb4)
          go_roundw
          case rel => exact ⟨k + 1, by rw [← HD2.out], by go_num, by omega, Lib.hid (HE.out.keep K4.out), Lib.hid (HB.out.trans (K4.out.mono HB.out.size))⟩
          case measure => simp [intOf]; omega
        · have hgi : ((S[k]'hszk).toNat : Int) = (f : Int) := by rw [hgt]
          have hne : ((f : Int) == 83) = false := beq_eq_false_iff_ne.2 (by omega)
          have CV1 := Lib.hid (fun W => CV.out f W)
          have CD1 := Lib.hid (fun W => CD.out f W)
          rw [show dec (e.val f) = F from by rw [hF]; unfold fieldL; rw [if_neg h83]] at CD1
          generalize e.val f = val at *
          clear hgt hF hmem h83 CV CD
          go_wp2
          go_region_with (first
            | (go_at_call 31; (with_reducible refine (CV1.out _).mono ?_); rintro r w4 ⟨rfl, hb4⟩; have K4 := Lib.hid (below_dr hb4); clear hb4)
            | (go_at_call 20; (with_reducible refine (CD1.out _).mono ?_); rintro r w5 ⟨rfl, hb5⟩; have K5 := Lib.hid (K4.out.trans (hb5.mono K4.out.size)); clear hb5))
          all_goals go_wp2
          all_goals go_roundw
          all_goals first
            | exact ⟨k + 1, by rw [← HD2.out], by go_num, by omega, Lib.hid (HE.out.keep K5.out), Lib.hid (HB.out.trans (K5.out.mono HB.out.size))⟩
            | (simp [intOf]; omega)
      · obtain rfl : k = n := by omega
        have HTL : Hid (l.take k = l) := Lib.hid (by rw [HN.out, List.take_length])
        rw [HTL.out, ← HTX.out]
        go_wp2
        go_ret2
        exact ⟨rfl, HB.out⟩
end Go.Proofs.YtjkbnljjmbfmiaaDoor
