/-
  The walk of novationlaw4.FrameTorn.
-/
import Derived.Test.YtmopipclheohcaaKnown4
import Derived.Test.YtmopipclheohcaaCat
namespace Go.Proofs.Ytmopipclheohcaa
open Go Go.RowKit Go.Shelf
attribute [local go_sem] Oper.semAt_some

set_option maxRecDepth 8000 in
set_option maxHeartbeats 2000000 in
theorem torn_out (A : Option Addr) (ls : List (List Nat)) (c : Nat) (cut : Int) (w : World) (hr : Rws w A ls) (hn : ls.length ≤ 9223372036854775807) (hf : ¬ Fits ls) :
    Calls Try.prog 6 #[.slice A ls.length c, .int .u16 cut] w fun e w' => e = .returned (.bool true) ∧ Below w.heap.size w w' := by
  have C := Lib.hid (known_any w)
  have C2 := Lib.hid (fun W (hb : Below w.heap.size w W) => fit_no A ls c W (hr.below hb) hn hf)
  clear hr hf
  go_enter Try.func6, Try.ntmps6
  go_wp2_with (first
    | (go_at_call 8; refine C.out.mono ?_; rintro e w1 ⟨rfl, hb1⟩)
    | (go_at_call 13; refine (C2.out _ hb1).mono ?_; rintro e w2 ⟨rfl, rfl⟩))
  go_ret
  exact ⟨rfl, hb1⟩
set_option maxRecDepth 100000 in
set_option maxHeartbeats 4000000 in
theorem torn_walk (A : Option Addr) (ls : List (List Nat)) (c : Nat) (cut : Nat) (w : World) (hr : Rws w A ls) (hn : ls.length ≤ 9223372036854775807) (hcut : cut ≤ 65535) :
    Calls Try.prog 6 #[.slice A ls.length c, .int .u16 (cut : Int)] w fun e w' => e = .returned (.bool true) ∧ Below w.heap.size w w' := by
  by_cases hnf : ¬ Fits ls
  · exact torn_out A ls c cut w hr hn hnf
  have hf : Fits ls := Classical.not_not.1 hnf
  clear hnf
  have C := Lib.hid (known_any w)
  have C2 := Lib.hid (fun W (hb : Below w.heap.size w W) => fit_yes A ls c W (hr.below hb) hf)
  have C3 := Lib.hid (fun W (hb : Below w.heap.size w W) => all_any A ls c W (hr.below hb) hf)
  have HR := Lib.hid hr
  have HF := Lib.hid hf
  have h20 := hf.1
  have hT : (catL ls).length ≤ 8120 := by have := catL_bound ls hf ls.length (Nat.le_refl _); rw [List.take_length] at this; omega
  obtain ⟨n, hnn⟩ : ∃ n, n = cut % ((catL ls).length + 1) := ⟨_, rfl⟩
  have hnT : n ≤ (catL ls).length := by have := Nat.mod_lt cut (show 0 < (catL ls).length + 1 by omega); omega
  have hnI : (cut : Int) % (((catL ls).length : Int) + 1) = (n : Int) := by rw [hnn, Int.natCast_emod]; rfl
  clear hr hf hnn
  refine (callsIn_wide (n := 4)).1 ?_
  refine callsIn_of_wp_marks Try.func6 rfl trivial ?_ rfl
  simp only [Try.ntmps6, List.size_toArray, List.length_cons, List.length_nil, Nat.reduceAdd, Nat.reduceSub, Array.replicate_succ, Array.replicate_zero, List.push_toArray, List.append_toArray, List.nil_append, List.cons_append]
  gi_wp2_with (first
    | (refine ⟨trivial, ?_⟩; gi_at_call 8; refine (callsIn_wide.2 C.out).mono ?_; rintro e w1 ⟨rfl, hb1⟩)
    | (refine ⟨trivial, ?_⟩; gi_at_call 13; refine (callsIn_wide.2 (C2.out _ hb1)).mono ?_; rintro e w2 ⟨rfl, rfl⟩)
    | (refine ⟨trivial, ?_⟩; gi_at_call 14; refine (callsIn_wide.2 (C3.out _ hb1)).mono ?_; rintro e w3 ⟨v3, rfl, hv3, hb3⟩; obtain ⟨A3, c3, rfl, hB3, hc3, hc4, hA3, _⟩ := OwnB.form hv3))
  rw [hnI]
  have HB3 := Lib.hid (hb1.trans (hb3.mono hb1.size))
  have HY3 := Lib.hid hB3
  have HA3 := Lib.hid (show A3 = none ∨ ∃ g, A3 = some ⟨g, 0, none⟩ by
    rcases hv3.2 with ⟨e, _⟩ | ⟨g, cap, cur, e, _⟩
    · injection e with e; exact .inl e
    · injection e with e; exact .inr ⟨g, e⟩)
  have HOC := Lib.hid (fun (ho : ∀ i, i < ls.length → Oct (ls.getD i [])) => oct_cat ls HF.out ho ls.length (Nat.le_refl _))
  have HO : Hid (Oct (catL ls)) := Lib.hid (by
    have := HOC.out (fun i hi => by obtain ⟨b, off, _, hc⟩ := HR.out (by omega); obtain ⟨_, _, _, _, h, _⟩ := hc i hi; exact h)
    rwa [List.take_length] at this)
  clear hb3 hv3 hB3 hnI C C2 C3 HOC
  obtain ⟨M, hM⟩ : ∃ M, M = (catL ls).length := ⟨_, rfl⟩
  rw [← hM] at hT hnT hc3 ⊢
  have HM := Lib.hid hM
  clear hM
  gi_loopw [8, 9] (fun x i wr => ∃ j : Nat, j ≤ ls.length ∧ i = .int .i64 j ∧ x = .int .i64 (((catL (ls.take j)).length : Nat) : Int) ∧ (catL (ls.take j)).length ≤ n ∧ wr = w3) (fun _ i _ => ls.length - (intOf i).toNat)
  case atStart => exact ⟨0, Nat.zero_le _, rfl, rfl, Nat.zero_le _, rfl⟩
  case round =>
    obtain ⟨j, hj, rfl, rfl, hPn, rfl⟩ := hrel
    by_cases hgo : j < ls.length ∧ (catL (ls.take j)).length + (ls.getD j []).length + 6 ≤ n
    · obtain ⟨hlt, hle⟩ := hgo
      obtain ⟨b, off, rfl, hc⟩ := (HR.out.below HB3.out) (by omega)
      obtain ⟨A', c', hcell, _⟩ := hc j hlt
      have HT : Hid ((catL (ls.take (j + 1))).length = (catL (ls.take j)).length + ((ls.getD j []).length + 6)) := Lib.hid (by rw [catL_take ls j hlt, List.length_append, recL_length])
      generalize (catL (ls.take j)).length = P at *
      generalize (ls.getD j []).length = q at *
      clear hc
      gi_wp2
      gi_wp2
      go_roundw
      case rel => exact ⟨j + 1, by omega, by go_num, by rw [HT.out]; go_num, by rw [HT.out]; omega, trivial⟩
      case measure => simp [intOf]; omega
    · obtain ⟨r, er1, er2, er3, er4⟩ := cut_cat ls HF.out n j (by rw [← HM.out]; exact hnT) hj hPn (fun hlt => by
        rcases Nat.lt_or_ge n ((catL (ls.take j)).length + (ls.getD j []).length + 6) with h | h
        · exact h
        · exact absurd ⟨hlt, h⟩ hgo)
      have HRC : Hid (recs ((catL ls).take n) = placesF 0 (ls.take j)) := Lib.hid (by
        rw [er1]
        exact recs_cat _ (fun x hx => HF.out.mem x (List.mem_of_mem_take hx)) r (by rw [er4]; decide))
      have HWH : Hid (wholeOf (recs ((catL ls).take n)) = (catL (ls.take j)).length) := Lib.hid (by rw [HRC.out, whole_cat])
      have HLN : Hid ((placesF 0 (ls.take j)).length = j) := Lib.hid (by rw [placesF_length, List.length_take]; omega)
      have hlenT : ((catL ls).take n).length = n := by rw [List.length_take, ← HM.out]; omega
      have hOr : Oct r := by rw [← er2]; exact (HO.out.take n).drop _
      have HOT : Hid (Oct ((catL ls).take n)) := Lib.hid (HO.out.take n)
      have hnl : ∃ v1 : Nat, nextL r = ((nextL r).1, v1, 12) := ⟨(nextL r).2.1, by rw [← er4]⟩
      have C5 : Hid (∀ A', ((catL (ls.take j)).length < c3 → ∀ g, A3 = some ⟨g, 0, none⟩ → A' = some ⟨g, (catL (ls.take j)).length, none⟩) → (A3 = none → A' = none) → Calls Try.prog 18 #[.slice A' (n - (catL (ls.take j)).length) (c3 - (catL (ls.take j)).length)] wr fun e W' => ∃ v m, e = .returned (.tuple #[v, .int .i64 m, .int .i64 12]) ∧ Below wr.heap.size wr W') := Lib.hid fun A' h1 h2 => by
        have hby : Byts wr A' r := by
          intro h0
          rcases HA3.out with e | ⟨g, e⟩
          · have := (hA3 e); omega
          · rw [h1 (by omega) g e]
            have hpp := HY3.out
            rw [e] at hpp
            have := hpp.part (catL (ls.take j)).length (n - (catL (ls.take j)).length) (by rw [← HM.out]; omega)
            rw [← List.drop_take, er2, Nat.zero_add] at this
            exact this h0
        have := next_any A' r (c3 - (catL (ls.take j)).length) wr hby hOr (by omega) (by omega)
        rw [er3] at this
        refine this.mono ?_
        rintro e w' ⟨v, rfl, hv, hb⟩
        rw [er4]
        exact ⟨v, _, rfl, hb⟩
      have C6 : Hid (∀ W, Below wr.heap.size wr W → Calls Try.prog 17 #[.slice A3 n c3] W (WalkC W ((catL ls).take n))) := Lib.hid fun W hb => by
        have h1 : Byts wr A3 ((catL ls).take n) := by
          rcases HA3.out with e | ⟨g, e⟩
          · have := hA3 e; intro h0; omega
          · rw [e]
            have hpp := HY3.out
            rw [e] at hpp
            have := hpp.part 0 n (by rw [← HM.out]; omega)
            simpa using this
        have := walk_any A3 ((catL ls).take n) c3 W (h1.below hb) (by omega)
        rwa [hlenT] at this
      have C7 : Hid (∀ W, Below wr.heap.size wr W → Calls Try.prog 16 #[.slice A3 n c3] W fun e w' => e = .returned (.int .i64 (((catL (ls.take j)).length : Nat) : Int)) ∧ Below W.heap.size W w') := Lib.hid fun W hb => by
        have h1 : Byts wr A3 ((catL ls).take n) := by
          rcases HA3.out with e | ⟨g, e⟩
          · have := hA3 e; intro h0; omega
          · rw [e]
            have hpp := HY3.out
            rw [e] at hpp
            have := hpp.part 0 n (by rw [← HM.out]; omega)
            simpa using this
        have := whole_any A3 ((catL ls).take n) c3 W (h1.below hb) HOT.out (by omega)
        rwa [hlenT, HWH.out] at this
      have hlT : ((catL ls).take n).length ≤ 1000000000 := by omega
      clear er1 er2 er3 er4 hlenT hOr hnl HWH HY3 HO
      have hex : ¬ j < ls.length ∨ (j < ls.length ∧ n < (catL (ls.take j)).length + (ls.getD j []).length + 6) := by
        rcases Nat.lt_or_ge j ls.length with h | h
        · rcases Nat.lt_or_ge n ((catL (ls.take j)).length + (ls.getD j []).length + 6) with h9 | h9
          · exact .inr ⟨h, h9⟩
          · exact absurd ⟨h, h9⟩ hgo
        · exact .inl (by omega)
      clear hgo
      generalize (catL (ls.take j)).length = P at *
      obtain ⟨As, a1, a2, hAs, hAs2⟩ : ∃ As a1 a2, Hid (Calls Try.prog 18 #[.slice As a1 a2] wr fun e W' => ∃ v m, e = .returned (.tuple #[v, .int .i64 m, .int .i64 12]) ∧ Below wr.heap.size wr W') ∧
          ((A3 = none ∧ As = none ∧ a1 = 0 ∧ a2 = 0 ∧ c3 = 0 ∧ P = 0 ∧ n = 0) ∨ (∃ g, A3 = some ⟨g, 0, none⟩ ∧ a1 = 0 ∧ a2 = 0 ∧ c3 = P ∧ n = P ∧ As = some ⟨g, 0, none⟩) ∨ (∃ g, A3 = some ⟨g, 0, none⟩ ∧ a1 = n - P ∧ a2 = c3 - P ∧ ¬ c3 = P ∧ P < c3 ∧ As = some ⟨g, P, none⟩)) := by
        rcases HA3.out with e | ⟨g, e⟩
        · have h0 := hA3 e
          have hp : P = 0 := by omega
          have hq : n = 0 := by omega
          have h9 := C5.out none (fun _ g e2 => by rw [e] at e2; cases e2) (fun _ => rfl)
          rw [show n - P = 0 from by omega, show c3 - P = 0 from by omega] at h9
          exact ⟨none, 0, 0, Lib.hid h9, .inl ⟨e, rfl, rfl, rfl, h0, hp, hq⟩⟩
        · by_cases hp : P = c3
          · have h9 := C5.out (some ⟨g, 0, none⟩) (fun h => by omega) (fun h => by rw [e] at h; cases h)
            rw [show n - P = 0 from by omega, show c3 - P = 0 from by omega] at h9
            exact ⟨some ⟨g, 0, none⟩, 0, 0, Lib.hid h9, .inr (.inl ⟨g, e, rfl, rfl, hp.symm, by omega, rfl⟩)⟩
          · exact ⟨some ⟨g, P, none⟩, n - P, c3 - P, Lib.hid (C5.out (some ⟨g, P, none⟩) (fun _ g' e2 => by rw [e] at e2; injection e2 with e2; injection e2 with e2; rw [e2]) (fun e2 => by rw [e] at e2; cases e2)), .inr (.inr ⟨g, e, rfl, rfl, by omega, by omega, rfl⟩)⟩
      clear C5 HA3 hA3
      rcases hex with hx | ⟨hx, hx2⟩
      · have hje : ((j : Int) == (ls.length : Int)) = true := by rw [show j = ls.length from by omega]; simp
        rcases hAs2 with ⟨rfl, rfl, rfl, rfl, rfl, rfl, rfl⟩ | ⟨g, rfl, rfl, rfl, rfl, rfl, rfl⟩ | ⟨g, rfl, rfl, rfl, hp1, hp2, rfl⟩
        · gi_wp2_with (first
            | (refine ⟨trivial, ?_⟩; gi_at_call 18; (with_reducible refine (callsIn_wide.2 hAs.out).mono ?_); rintro e w4 ⟨v4, m4, rfl, hb4⟩)
            | (refine ⟨trivial, ?_⟩; gi_at_call 17; (refine (callsIn_wide.2 (C6.out _ (hb4.alloc hb4.size _))).mono ?_); rintro e w5 ⟨Bs, v5, rfl, hBs, hBx, hv5, hb5⟩))
          have bS := Boxed.new w4 3 (.int .i64 0)
          simp only [World.size_alloc] at hBs hv5 hb5
          have bS5 : Boxed w5 w4.heap.size 3 (.int .i64 0) := (hb5.block w4.heap.size (by omega)).trans bS
          have hB5 : Below w4.heap.size w4 w5 := below_one (hb5.mono (by omega))
          have hsz := hBx.lt
          have HW := Lib.hid (walk_seq Bs (w4.heap.size + 1) v5 _ w5 hBs hBx hv5 HOT.out hlT)
          clear C6 bS hb5 hAs
          refine wpIn_rangeX rfl (by omega) (gf := 22) (lb := #[.pointer (some ⟨Bs, 0, none⟩)]) rfl trivial (enters_of Try.func22 (by kernel_rfl) rfl) HW.out nextE_put (fun h k => Kept.trans h k) (fun W l o o' h _ _ _ => Kept.putObj o' h) (Below.refl _ _) (fun _ => rfl)
            (fun pre W => (W.cell? ⟨w4.heap.size, 0, none⟩ = some (.int .i64 ((pre.length : Nat) : Int)) ∧ W.frozen? ⟨w4.heap.size, 0, none⟩ = false) ∧ Below w4.heap.size w4 W)
            (fun _ _ _ => False)
            (OwnFrom.and (Own.from (fun s A B row hs hg hr => ⟨cell_kept hs.1 hg hr, (frozen_kept hs.1 hg hr).trans hs.2⟩) _) (ownFrom_below (Nat.le_refl _) (by omega)))
            (fun _ _ _ _ _ hs _ _ => hs)
            ⟨⟨bS5.cell, bS5.frozen⟩, hB5⟩
            ?frm1 ?assign1 ?body1 ?done1 ?stop1
          case assign1 =>
            intro l x W K hK
            simp only [encE]
            gi_wp2
            exact hK
          case body1 =>
            rintro l pre ⟨p, u, bs⟩ W ⟨⟨hc, hf⟩, hB⟩ ⟨hpre, hu⟩
            have hpl : pre.length < 21 := by
              have h1 := hpre.length_le
              rw [HRC.out, HLN.out] at h1
              simp at h1
              omega
            have HL : Hid ((pre ++ [(p, u, bs)]).length = pre.length + 1) := Lib.hid (by simp)
            clear hpre hu HW
            gi_wp2
            refine ⟨(KeepsOthers.setCell _ _ _).from _, Kept.setCell (.inl (by omega)) _ _, ⟨?_, by rw [World.frozen?_setCell]; exact hf⟩, hB.setCell (p := ⟨w4.heap.size, 0, none⟩) (Nat.le_refl _) _⟩
            rw [HL.out]
            exact World.cell?_setCell_same' _ _ _ (by rw [hc]; rfl)
          case stop1 =>
            rintro D c pre W _ _ h _
            exact h.elim
          case done1 =>
            rintro D ys W hD hS ⟨⟨hc, hf⟩, hB⟩ hK
            have hlen : ys.length = j := by
              have h1 := congrArg List.length hS
              rw [HRC.out, HLN.out] at h1
              simpa using h1
            rw [hlen] at hc
            have HBW := Lib.hid (hb4.trans (hB.mono hb4.size))
            have HC := Lib.hid hc
            clear hS HW hc hf
            gi_wp2_with (refine ⟨trivial, ?_⟩; gi_at_call 16; (refine (callsIn_wide.2 (C7.out _ HBW.out)).mono ?_); rintro e w10 ⟨rfl, hb10⟩; have hr10 := (hb10.cell (p := ⟨w4.heap.size, 0, none⟩) (block_lt HC.out)).trans HC.out)
            have hK10 : w10.heap[D]? = some (.deferred (some [])) := (hb10.block D (Array.getElem?_eq_some_iff.1 hK).1).trans hK
            refine ⟨by simp, .inl ⟨_, _, rfl, run_takeDeferred hK10, ?_⟩⟩
            have hB10 := HB3.out.trans ((HBW.out.trans (hb10.mono HBW.out.size)).mono HB3.out.size)
            exact ⟨_, results_tmp rfl _ _ _, rfl, hB10.trans (belowK_b (w := w) (Nat.le_refl _) w10 D _ _ (by have := HB3.out.size; have := hb4.size; omega) hK10 rfl rfl)⟩
        · gi_wp2_with (first
            | (refine ⟨trivial, ?_⟩; gi_at_call 18; (with_reducible refine (callsIn_wide.2 hAs.out).mono ?_); rintro e w4 ⟨v4, m4, rfl, hb4⟩)
            | (refine ⟨trivial, ?_⟩; gi_at_call 17; (refine (callsIn_wide.2 (C6.out _ (hb4.alloc hb4.size _))).mono ?_); rintro e w5 ⟨Bs, v5, rfl, hBs, hBx, hv5, hb5⟩))
          have bS := Boxed.new w4 3 (.int .i64 0)
          simp only [World.size_alloc] at hBs hv5 hb5
          have bS5 : Boxed w5 w4.heap.size 3 (.int .i64 0) := (hb5.block w4.heap.size (by omega)).trans bS
          have hB5 : Below w4.heap.size w4 w5 := below_one (hb5.mono (by omega))
          have hsz := hBx.lt
          have HW := Lib.hid (walk_seq Bs (w4.heap.size + 1) v5 _ w5 hBs hBx hv5 HOT.out hlT)
          clear C6 bS hb5 hAs
          refine wpIn_rangeX rfl (by omega) (gf := 22) (lb := #[.pointer (some ⟨Bs, 0, none⟩)]) rfl trivial (enters_of Try.func22 (by kernel_rfl) rfl) HW.out nextE_put (fun h k => Kept.trans h k) (fun W l o o' h _ _ _ => Kept.putObj o' h) (Below.refl _ _) (fun _ => rfl)
            (fun pre W => (W.cell? ⟨w4.heap.size, 0, none⟩ = some (.int .i64 ((pre.length : Nat) : Int)) ∧ W.frozen? ⟨w4.heap.size, 0, none⟩ = false) ∧ Below w4.heap.size w4 W)
            (fun _ _ _ => False)
            (OwnFrom.and (Own.from (fun s A B row hs hg hr => ⟨cell_kept hs.1 hg hr, (frozen_kept hs.1 hg hr).trans hs.2⟩) _) (ownFrom_below (Nat.le_refl _) (by omega)))
            (fun _ _ _ _ _ hs _ _ => hs)
            ⟨⟨bS5.cell, bS5.frozen⟩, hB5⟩
            ?frm2 ?assign2 ?body2 ?done2 ?stop2
          case assign2 =>
            intro l x W K hK
            simp only [encE]
            gi_wp2
            exact hK
          case body2 =>
            rintro l pre ⟨p, u, bs⟩ W ⟨⟨hc, hf⟩, hB⟩ ⟨hpre, hu⟩
            have hpl : pre.length < 21 := by
              have h1 := hpre.length_le
              rw [HRC.out, HLN.out] at h1
              simp at h1
              omega
            have HL : Hid ((pre ++ [(p, u, bs)]).length = pre.length + 1) := Lib.hid (by simp)
            clear hpre hu HW
            gi_wp2
            refine ⟨(KeepsOthers.setCell _ _ _).from _, Kept.setCell (.inl (by omega)) _ _, ⟨?_, by rw [World.frozen?_setCell]; exact hf⟩, hB.setCell (p := ⟨w4.heap.size, 0, none⟩) (Nat.le_refl _) _⟩
            rw [HL.out]
            exact World.cell?_setCell_same' _ _ _ (by rw [hc]; rfl)
          case stop2 =>
            rintro D c pre W _ _ h _
            exact h.elim
          case done2 =>
            rintro D ys W hD hS ⟨⟨hc, hf⟩, hB⟩ hK
            have hlen : ys.length = j := by
              have h1 := congrArg List.length hS
              rw [HRC.out, HLN.out] at h1
              simpa using h1
            rw [hlen] at hc
            have HBW := Lib.hid (hb4.trans (hB.mono hb4.size))
            have HC := Lib.hid hc
            clear hS HW hc hf
            gi_wp2_with (refine ⟨trivial, ?_⟩; gi_at_call 16; (refine (callsIn_wide.2 (C7.out _ HBW.out)).mono ?_); rintro e w10 ⟨rfl, hb10⟩; have hr10 := (hb10.cell (p := ⟨w4.heap.size, 0, none⟩) (block_lt HC.out)).trans HC.out)
            have hK10 : w10.heap[D]? = some (.deferred (some [])) := (hb10.block D (Array.getElem?_eq_some_iff.1 hK).1).trans hK
            refine ⟨by simp, .inl ⟨_, _, rfl, run_takeDeferred hK10, ?_⟩⟩
            have hB10 := HB3.out.trans ((HBW.out.trans (hb10.mono HBW.out.size)).mono HB3.out.size)
            exact ⟨_, results_tmp rfl _ _ _, rfl, hB10.trans (belowK_b (w := w) (Nat.le_refl _) w10 D _ _ (by have := HB3.out.size; have := hb4.size; omega) hK10 rfl rfl)⟩
        · gi_wp2_with (first
            | (refine ⟨trivial, ?_⟩; gi_at_call 18; (with_reducible refine (callsIn_wide.2 hAs.out).mono ?_); rintro e w4 ⟨v4, m4, rfl, hb4⟩)
            | (refine ⟨trivial, ?_⟩; gi_at_call 17; (refine (callsIn_wide.2 (C6.out _ (hb4.alloc hb4.size _))).mono ?_); rintro e w5 ⟨Bs, v5, rfl, hBs, hBx, hv5, hb5⟩))
          have bS := Boxed.new w4 3 (.int .i64 0)
          simp only [World.size_alloc] at hBs hv5 hb5
          have bS5 : Boxed w5 w4.heap.size 3 (.int .i64 0) := (hb5.block w4.heap.size (by omega)).trans bS
          have hB5 : Below w4.heap.size w4 w5 := below_one (hb5.mono (by omega))
          have hsz := hBx.lt
          have HW := Lib.hid (walk_seq Bs (w4.heap.size + 1) v5 _ w5 hBs hBx hv5 HOT.out hlT)
          clear C6 bS hb5 hAs
          refine wpIn_rangeX rfl (by omega) (gf := 22) (lb := #[.pointer (some ⟨Bs, 0, none⟩)]) rfl trivial (enters_of Try.func22 (by kernel_rfl) rfl) HW.out nextE_put (fun h k => Kept.trans h k) (fun W l o o' h _ _ _ => Kept.putObj o' h) (Below.refl _ _) (fun _ => rfl)
            (fun pre W => (W.cell? ⟨w4.heap.size, 0, none⟩ = some (.int .i64 ((pre.length : Nat) : Int)) ∧ W.frozen? ⟨w4.heap.size, 0, none⟩ = false) ∧ Below w4.heap.size w4 W)
            (fun _ _ _ => False)
            (OwnFrom.and (Own.from (fun s A B row hs hg hr => ⟨cell_kept hs.1 hg hr, (frozen_kept hs.1 hg hr).trans hs.2⟩) _) (ownFrom_below (Nat.le_refl _) (by omega)))
            (fun _ _ _ _ _ hs _ _ => hs)
            ⟨⟨bS5.cell, bS5.frozen⟩, hB5⟩
            ?frm3 ?assign3 ?body3 ?done3 ?stop3
          case assign3 =>
            intro l x W K hK
            simp only [encE]
            gi_wp2
            exact hK
          case body3 =>
            rintro l pre ⟨p, u, bs⟩ W ⟨⟨hc, hf⟩, hB⟩ ⟨hpre, hu⟩
            have hpl : pre.length < 21 := by
              have h1 := hpre.length_le
              rw [HRC.out, HLN.out] at h1
              simp at h1
              omega
            have HL : Hid ((pre ++ [(p, u, bs)]).length = pre.length + 1) := Lib.hid (by simp)
            clear hpre hu HW
            gi_wp2
            refine ⟨(KeepsOthers.setCell _ _ _).from _, Kept.setCell (.inl (by omega)) _ _, ⟨?_, by rw [World.frozen?_setCell]; exact hf⟩, hB.setCell (p := ⟨w4.heap.size, 0, none⟩) (Nat.le_refl _) _⟩
            rw [HL.out]
            exact World.cell?_setCell_same' _ _ _ (by rw [hc]; rfl)
          case stop3 =>
            rintro D c pre W _ _ h _
            exact h.elim
          case done3 =>
            rintro D ys W hD hS ⟨⟨hc, hf⟩, hB⟩ hK
            have hlen : ys.length = j := by
              have h1 := congrArg List.length hS
              rw [HRC.out, HLN.out] at h1
              simpa using h1
            rw [hlen] at hc
            have HBW := Lib.hid (hb4.trans (hB.mono hb4.size))
            have HC := Lib.hid hc
            clear hS HW hc hf
            gi_wp2_with (refine ⟨trivial, ?_⟩; gi_at_call 16; (refine (callsIn_wide.2 (C7.out _ HBW.out)).mono ?_); rintro e w10 ⟨rfl, hb10⟩; have hr10 := (hb10.cell (p := ⟨w4.heap.size, 0, none⟩) (block_lt HC.out)).trans HC.out)
            have hK10 : w10.heap[D]? = some (.deferred (some [])) := (hb10.block D (Array.getElem?_eq_some_iff.1 hK).1).trans hK
            refine ⟨by simp, .inl ⟨_, _, rfl, run_takeDeferred hK10, ?_⟩⟩
            have hB10 := HB3.out.trans ((HBW.out.trans (hb10.mono HBW.out.size)).mono HB3.out.size)
            exact ⟨_, results_tmp rfl _ _ _, rfl, hB10.trans (belowK_b (w := w) (Nat.le_refl _) w10 D _ _ (by have := HB3.out.size; have := hb4.size; omega) hK10 rfl rfl)⟩
      · obtain ⟨b, off, rfl, hcc⟩ := (HR.out.below HB3.out) (by omega)
        obtain ⟨A', c', hcell, _⟩ := hcc j hx
        have hq := HF.out.2 j hx
        generalize (ls.getD j []).length = q at *
        clear hcc
        have hje : ((j : Int) == (ls.length : Int)) = false := by rw [beq_eq_false_iff_ne]; omega
        rcases hAs2 with ⟨rfl, rfl, rfl, rfl, rfl, rfl, rfl⟩ | ⟨g, rfl, rfl, rfl, rfl, rfl, rfl⟩ | ⟨g, rfl, rfl, rfl, hp1, hp2, rfl⟩
        · gi_wp2_with (first
            | (refine ⟨trivial, ?_⟩; gi_at_call 18; (with_reducible refine (callsIn_wide.2 hAs.out).mono ?_); rintro e w4 ⟨v4, m4, rfl, hb4⟩)
            | (refine ⟨trivial, ?_⟩; gi_at_call 17; (refine (callsIn_wide.2 (C6.out _ (hb4.alloc hb4.size _))).mono ?_); rintro e w5 ⟨Bs, v5, rfl, hBs, hBx, hv5, hb5⟩))
          have bS := Boxed.new w4 3 (.int .i64 0)
          simp only [World.size_alloc] at hBs hv5 hb5
          have bS5 : Boxed w5 w4.heap.size 3 (.int .i64 0) := (hb5.block w4.heap.size (by omega)).trans bS
          have hB5 : Below w4.heap.size w4 w5 := below_one (hb5.mono (by omega))
          have hsz := hBx.lt
          have HW := Lib.hid (walk_seq Bs (w4.heap.size + 1) v5 _ w5 hBs hBx hv5 HOT.out hlT)
          clear C6 bS hb5 hAs
          refine wpIn_rangeX rfl (by omega) (gf := 22) (lb := #[.pointer (some ⟨Bs, 0, none⟩)]) rfl trivial (enters_of Try.func22 (by kernel_rfl) rfl) HW.out nextE_put (fun h k => Kept.trans h k) (fun W l o o' h _ _ _ => Kept.putObj o' h) (Below.refl _ _) (fun _ => rfl)
            (fun pre W => (W.cell? ⟨w4.heap.size, 0, none⟩ = some (.int .i64 ((pre.length : Nat) : Int)) ∧ W.frozen? ⟨w4.heap.size, 0, none⟩ = false) ∧ Below w4.heap.size w4 W)
            (fun _ _ _ => False)
            (OwnFrom.and (Own.from (fun s A B row hs hg hr => ⟨cell_kept hs.1 hg hr, (frozen_kept hs.1 hg hr).trans hs.2⟩) _) (ownFrom_below (Nat.le_refl _) (by omega)))
            (fun _ _ _ _ _ hs _ _ => hs)
            ⟨⟨bS5.cell, bS5.frozen⟩, hB5⟩
            ?frm4 ?assign4 ?body4 ?done4 ?stop4
          case assign4 =>
            intro l x W K hK
            simp only [encE]
            gi_wp2
            exact hK
          case body4 =>
            rintro l pre ⟨p, u, bs⟩ W ⟨⟨hc, hf⟩, hB⟩ ⟨hpre, hu⟩
            have hpl : pre.length < 21 := by
              have h1 := hpre.length_le
              rw [HRC.out, HLN.out] at h1
              simp at h1
              omega
            have HL : Hid ((pre ++ [(p, u, bs)]).length = pre.length + 1) := Lib.hid (by simp)
            clear hpre hu HW
            gi_wp2
            refine ⟨(KeepsOthers.setCell _ _ _).from _, Kept.setCell (.inl (by omega)) _ _, ⟨?_, by rw [World.frozen?_setCell]; exact hf⟩, hB.setCell (p := ⟨w4.heap.size, 0, none⟩) (Nat.le_refl _) _⟩
            rw [HL.out]
            exact World.cell?_setCell_same' _ _ _ (by rw [hc]; rfl)
          case stop4 =>
            rintro D c pre W _ _ h _
            exact h.elim
          case done4 =>
            rintro D ys W hD hS ⟨⟨hc, hf⟩, hB⟩ hK
            have hlen : ys.length = j := by
              have h1 := congrArg List.length hS
              rw [HRC.out, HLN.out] at h1
              simpa using h1
            rw [hlen] at hc
            have HBW := Lib.hid (hb4.trans (hB.mono hb4.size))
            have HC := Lib.hid hc
            clear hS HW hc hf
            gi_wp2_with (refine ⟨trivial, ?_⟩; gi_at_call 16; (refine (callsIn_wide.2 (C7.out _ HBW.out)).mono ?_); rintro e w10 ⟨rfl, hb10⟩; have hr10 := (hb10.cell (p := ⟨w4.heap.size, 0, none⟩) (block_lt HC.out)).trans HC.out)
            have hK10 : w10.heap[D]? = some (.deferred (some [])) := (hb10.block D (Array.getElem?_eq_some_iff.1 hK).1).trans hK
            refine ⟨by simp, .inl ⟨_, _, rfl, run_takeDeferred hK10, ?_⟩⟩
            have hB10 := HB3.out.trans ((HBW.out.trans (hb10.mono HBW.out.size)).mono HB3.out.size)
            exact ⟨_, results_tmp rfl _ _ _, rfl, hB10.trans (belowK_b (w := w) (Nat.le_refl _) w10 D _ _ (by have := HB3.out.size; have := hb4.size; omega) hK10 rfl rfl)⟩
        · gi_wp2_with (first
            | (refine ⟨trivial, ?_⟩; gi_at_call 18; (with_reducible refine (callsIn_wide.2 hAs.out).mono ?_); rintro e w4 ⟨v4, m4, rfl, hb4⟩)
            | (refine ⟨trivial, ?_⟩; gi_at_call 17; (refine (callsIn_wide.2 (C6.out _ (hb4.alloc hb4.size _))).mono ?_); rintro e w5 ⟨Bs, v5, rfl, hBs, hBx, hv5, hb5⟩))
          have bS := Boxed.new w4 3 (.int .i64 0)
          simp only [World.size_alloc] at hBs hv5 hb5
          have bS5 : Boxed w5 w4.heap.size 3 (.int .i64 0) := (hb5.block w4.heap.size (by omega)).trans bS
          have hB5 : Below w4.heap.size w4 w5 := below_one (hb5.mono (by omega))
          have hsz := hBx.lt
          have HW := Lib.hid (walk_seq Bs (w4.heap.size + 1) v5 _ w5 hBs hBx hv5 HOT.out hlT)
          clear C6 bS hb5 hAs
          refine wpIn_rangeX rfl (by omega) (gf := 22) (lb := #[.pointer (some ⟨Bs, 0, none⟩)]) rfl trivial (enters_of Try.func22 (by kernel_rfl) rfl) HW.out nextE_put (fun h k => Kept.trans h k) (fun W l o o' h _ _ _ => Kept.putObj o' h) (Below.refl _ _) (fun _ => rfl)
            (fun pre W => (W.cell? ⟨w4.heap.size, 0, none⟩ = some (.int .i64 ((pre.length : Nat) : Int)) ∧ W.frozen? ⟨w4.heap.size, 0, none⟩ = false) ∧ Below w4.heap.size w4 W)
            (fun _ _ _ => False)
            (OwnFrom.and (Own.from (fun s A B row hs hg hr => ⟨cell_kept hs.1 hg hr, (frozen_kept hs.1 hg hr).trans hs.2⟩) _) (ownFrom_below (Nat.le_refl _) (by omega)))
            (fun _ _ _ _ _ hs _ _ => hs)
            ⟨⟨bS5.cell, bS5.frozen⟩, hB5⟩
            ?frm5 ?assign5 ?body5 ?done5 ?stop5
          case assign5 =>
            intro l x W K hK
            simp only [encE]
            gi_wp2
            exact hK
          case body5 =>
            rintro l pre ⟨p, u, bs⟩ W ⟨⟨hc, hf⟩, hB⟩ ⟨hpre, hu⟩
            have hpl : pre.length < 21 := by
              have h1 := hpre.length_le
              rw [HRC.out, HLN.out] at h1
              simp at h1
              omega
            have HL : Hid ((pre ++ [(p, u, bs)]).length = pre.length + 1) := Lib.hid (by simp)
            clear hpre hu HW
            gi_wp2
            refine ⟨(KeepsOthers.setCell _ _ _).from _, Kept.setCell (.inl (by omega)) _ _, ⟨?_, by rw [World.frozen?_setCell]; exact hf⟩, hB.setCell (p := ⟨w4.heap.size, 0, none⟩) (Nat.le_refl _) _⟩
            rw [HL.out]
            exact World.cell?_setCell_same' _ _ _ (by rw [hc]; rfl)
          case stop5 =>
            rintro D c pre W _ _ h _
            exact h.elim
          case done5 =>
            rintro D ys W hD hS ⟨⟨hc, hf⟩, hB⟩ hK
            have hlen : ys.length = j := by
              have h1 := congrArg List.length hS
              rw [HRC.out, HLN.out] at h1
              simpa using h1
            rw [hlen] at hc
            have HBW := Lib.hid (hb4.trans (hB.mono hb4.size))
            have HC := Lib.hid hc
            clear hS HW hc hf
            gi_wp2_with (refine ⟨trivial, ?_⟩; gi_at_call 16; (refine (callsIn_wide.2 (C7.out _ HBW.out)).mono ?_); rintro e w10 ⟨rfl, hb10⟩; have hr10 := (hb10.cell (p := ⟨w4.heap.size, 0, none⟩) (block_lt HC.out)).trans HC.out)
            have hK10 : w10.heap[D]? = some (.deferred (some [])) := (hb10.block D (Array.getElem?_eq_some_iff.1 hK).1).trans hK
            refine ⟨by simp, .inl ⟨_, _, rfl, run_takeDeferred hK10, ?_⟩⟩
            have hB10 := HB3.out.trans ((HBW.out.trans (hb10.mono HBW.out.size)).mono HB3.out.size)
            exact ⟨_, results_tmp rfl _ _ _, rfl, hB10.trans (belowK_b (w := w) (Nat.le_refl _) w10 D _ _ (by have := HB3.out.size; have := hb4.size; omega) hK10 rfl rfl)⟩
        · gi_wp2_with (first
            | (refine ⟨trivial, ?_⟩; gi_at_call 18; (with_reducible refine (callsIn_wide.2 hAs.out).mono ?_); rintro e w4 ⟨v4, m4, rfl, hb4⟩)
            | (refine ⟨trivial, ?_⟩; gi_at_call 17; (refine (callsIn_wide.2 (C6.out _ (hb4.alloc hb4.size _))).mono ?_); rintro e w5 ⟨Bs, v5, rfl, hBs, hBx, hv5, hb5⟩))
          have bS := Boxed.new w4 3 (.int .i64 0)
          simp only [World.size_alloc] at hBs hv5 hb5
          have bS5 : Boxed w5 w4.heap.size 3 (.int .i64 0) := (hb5.block w4.heap.size (by omega)).trans bS
          have hB5 : Below w4.heap.size w4 w5 := below_one (hb5.mono (by omega))
          have hsz := hBx.lt
          have HW := Lib.hid (walk_seq Bs (w4.heap.size + 1) v5 _ w5 hBs hBx hv5 HOT.out hlT)
          clear C6 bS hb5 hAs
          refine wpIn_rangeX rfl (by omega) (gf := 22) (lb := #[.pointer (some ⟨Bs, 0, none⟩)]) rfl trivial (enters_of Try.func22 (by kernel_rfl) rfl) HW.out nextE_put (fun h k => Kept.trans h k) (fun W l o o' h _ _ _ => Kept.putObj o' h) (Below.refl _ _) (fun _ => rfl)
            (fun pre W => (W.cell? ⟨w4.heap.size, 0, none⟩ = some (.int .i64 ((pre.length : Nat) : Int)) ∧ W.frozen? ⟨w4.heap.size, 0, none⟩ = false) ∧ Below w4.heap.size w4 W)
            (fun _ _ _ => False)
            (OwnFrom.and (Own.from (fun s A B row hs hg hr => ⟨cell_kept hs.1 hg hr, (frozen_kept hs.1 hg hr).trans hs.2⟩) _) (ownFrom_below (Nat.le_refl _) (by omega)))
            (fun _ _ _ _ _ hs _ _ => hs)
            ⟨⟨bS5.cell, bS5.frozen⟩, hB5⟩
            ?frm6 ?assign6 ?body6 ?done6 ?stop6
          case assign6 =>
            intro l x W K hK
            simp only [encE]
            gi_wp2
            exact hK
          case body6 =>
            rintro l pre ⟨p, u, bs⟩ W ⟨⟨hc, hf⟩, hB⟩ ⟨hpre, hu⟩
            have hpl : pre.length < 21 := by
              have h1 := hpre.length_le
              rw [HRC.out, HLN.out] at h1
              simp at h1
              omega
            have HL : Hid ((pre ++ [(p, u, bs)]).length = pre.length + 1) := Lib.hid (by simp)
            clear hpre hu HW
            gi_wp2
            refine ⟨(KeepsOthers.setCell _ _ _).from _, Kept.setCell (.inl (by omega)) _ _, ⟨?_, by rw [World.frozen?_setCell]; exact hf⟩, hB.setCell (p := ⟨w4.heap.size, 0, none⟩) (Nat.le_refl _) _⟩
            rw [HL.out]
            exact World.cell?_setCell_same' _ _ _ (by rw [hc]; rfl)
          case stop6 =>
            rintro D c pre W _ _ h _
            exact h.elim
          case done6 =>
            rintro D ys W hD hS ⟨⟨hc, hf⟩, hB⟩ hK
            have hlen : ys.length = j := by
              have h1 := congrArg List.length hS
              rw [HRC.out, HLN.out] at h1
              simpa using h1
            rw [hlen] at hc
            have HBW := Lib.hid (hb4.trans (hB.mono hb4.size))
            have HC := Lib.hid hc
            clear hS HW hc hf
            gi_wp2_with (refine ⟨trivial, ?_⟩; gi_at_call 16; (refine (callsIn_wide.2 (C7.out _ HBW.out)).mono ?_); rintro e w10 ⟨rfl, hb10⟩; have hr10 := (hb10.cell (p := ⟨w4.heap.size, 0, none⟩) (block_lt HC.out)).trans HC.out)
            have hK10 : w10.heap[D]? = some (.deferred (some [])) := (hb10.block D (Array.getElem?_eq_some_iff.1 hK).1).trans hK
            refine ⟨by simp, .inl ⟨_, _, rfl, run_takeDeferred hK10, ?_⟩⟩
            have hB10 := HB3.out.trans ((HBW.out.trans (hb10.mono HBW.out.size)).mono HB3.out.size)
            exact ⟨_, results_tmp rfl _ _ _, rfl, hB10.trans (belowK_b (w := w) (Nat.le_refl _) w10 D _ _ (by have := HB3.out.size; have := hb4.size; omega) hK10 rfl rfl)⟩
end Go.Proofs.Ytmopipclheohcaa
