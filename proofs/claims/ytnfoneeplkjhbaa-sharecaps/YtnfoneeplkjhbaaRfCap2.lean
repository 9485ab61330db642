/-
  The walk of the reference's Capped, over its Split by what is told of it: the rounds.
-/
import Derived.Test.YtnfoneeplkjhbaaRfCap
namespace Go.Proofs.Ytnfoneeplkjhbaa
open Go.RowKit

/-- Is any of the first k above 0? -/
def posTo (l : List Int) (k : Nat) : Bool := (l.take k).any fun x => decide (0 < x)
theorem posTo_succ (l : List Int) (k : Nat) (h : k < l.length) : posTo l (k + 1) = (posTo l k || decide (0 < l.getD k 0)) := by
  unfold posTo
  rw [List.take_succ_eq_append_getElem h, List.any_append, List.getD_eq_getElem?_getD, List.getElem?_eq_getElem h]
  simp
theorem posTo_all (l : List Int) (k : Nat) (h : k = l.length) : posTo l k = anyPos l := by
  subst h; unfold posTo anyPos; rw [List.take_length]

set_option maxRecDepth 8000 in
set_option maxHeartbeats 8000000 in
theorem rcapped_some (RS : Hid RSplitSaid) (t : Int) (A B : Option Addr) (l c : List Int) (c1 c2 : Nat) (w : World) (hr : Ints w .i64 A l) (hq : Ints w .i64 B c) (hx : ∀ x ∈ l, I64 x) (hI : CapI t l c (List.replicate l.length 0) t) (h : MayC t l c) :
    Calls Try.prog 20 #[.int .i64 t, .slice A l.length c1, .slice B c.length c2] w (SliceFC w (cappedL t l c).1 (cappedL t l c).2 0) := by
  have hn := hI.wn
  have hl := h.2.2.1
  have C1 := wrong_any t A l c1 w hr (by omega)
  have C2 := wrong_any 0 B c c2 w hq (by omega)
  rw [(mayC_wrong h).1] at C1
  rw [(mayC_wrong h).2, hl] at C2
  have H1 := Lib.hid C1
  have H2 := Lib.hid C2
  have H3 := Lib.hid (sum_told A l c1 w hr hx hn)
  have H4 : Hid (∀ W v, BigV W v l.sum 66 → Calls Try.prog 38 #[v] W fun e w' => e = .returned (.tuple #[.int .i64 (held l.sum), .bool true]) ∧ Below W.heap.size W w') := Lib.hid fun W v hv => by
    have := int_any v _ 66 W hv
    rw [fits_of hI.wS] at this
    exact this
  have hmk := made_i64 l.length (by omega)
  have HA := Lib.hid hr
  have HQ := Lib.hid hq
  have HI := Lib.hid hI
  have HE : Hid (capRun l c (l.length + 1 - 0) (List.replicate l.length 0) t = cappedL t l c) := Lib.hid rfl
  rw [hl]
  clear hr hq hx h C1 C2 hI
  generalize held l.sum = sm at *
  go_enter Try.func20, Try.ntmps20
  go_wp2_with (first
    | (go_at_call 49; first | ((with_reducible refine H1.out.mono ?_); rintro e w' ⟨rfl, rfl⟩) | ((with_reducible refine H2.out.mono ?_); rintro e w' ⟨rfl, rfl⟩))
    | (go_at_call 22; refine H3.out.mono ?_; rintro e w1 ⟨ng, A1, n1, k1, rfl, hV, hb⟩; have HV := Lib.hid hV; have HB1 := Lib.hid hb; clear hV hb)
    | (go_at_call 38; refine (H4.out _ _ HV.out).mono ?_; rintro e w2 ⟨rfl, hb⟩; have HB2 := Lib.hid (grew HB1.out hb); clear hb))
  have HN := Lib.hid (CapG.new HB2.out l.length 2)
  clear HV HB1 H1 H2 H3 H4
  go_loopg [12, 13] (l.length + 1) (fun gh m rd wr => ∃ (r : Nat) (s : List Int) (f : Int), gh = l.length + 1 - r ∧ r ≤ l.length + 1 ∧ rd = .int .i64 r ∧ m = .int .i64 f ∧ Hid (CapI t l c s f) ∧ Hid (capRun l c (l.length + 1 - r) s f = cappedL t l c) ∧ Hid (CapG w w2.heap.size s wr))
  case atStart => exact ⟨0, _, _, rfl, Nat.zero_le _, rfl, rfl, HI, HE, HN⟩
  case round =>
    clear HN HI HE
    obtain ⟨r, s, f, rfl, hrl, rfl, rfl, HI, HE, HS⟩ := hrel
    have hsl := HI.out.len
    have F : Hid (∀ W, Below wr.heap.size wr W → (s, f) = cappedL t l c → SliceFC w (cappedL t l c).1 (cappedL t l c).2 0 (.returned (.tuple #[.slice (some ⟨w2.heap.size, 0, none⟩) l.length l.length, .int .i64 f, .int .i64 0])) W) := Lib.hid fun W hb hend => by
      have hG := HS.out.below hb
      rw [← hend]
      exact ⟨some ⟨w2.heap.size, 0, none⟩, l.length, by rw [hsl], hG.row.ints, by rw [hsl]; exact Nat.le_refl _, by omega, (fun b o s e => by injection e with e; injection e with e; rw [← e]; exact hG.ge), hG.old⟩
    by_cases hrn : r ≤ l.length
    · have HR0 := Lib.hid (fillTo_zero (openL l s c) l.length (openL_length l s c) ▸ RowK.new wr .i64 l.length 2 wr.heap.size rfl)
      have HG0 := Lib.hid (HS.out.below ((Below.refl _ _).alloc (Nat.le_refl _) (.cells (madeCells #[.int .i64 0] l.length) 2)))
      have HW0 := Lib.hid (show Below wr.heap.size wr (wr.alloc (.cells (madeCells #[.int .i64 0] l.length) 2)) from (Below.refl _ _).alloc (Nat.le_refl _) _)
      generalize wr = w3 at *
      have hg0 := HS.out.lt
      go_wp2
      clear hmk
      go_loopg [15, 16] l.length (fun gh ob i wq => ∃ k : Nat, gh = l.length - k ∧ k ≤ l.length ∧ i = .int .i64 k ∧ ob = .bool (posTo (openL l s c) k) ∧ Hid (RowK wq .i64 w3.heap.size (fillTo (openL l s c) k)) ∧ Hid (Below w3.heap.size w3 wq) ∧ w3.heap.size < wq.heap.size)
      case atStart => exact ⟨0, rfl, Nat.zero_le _, rfl, rfl, HR0, HW0, by simp⟩
      case round =>
        obtain ⟨k, rfl, hk, rfl, rfl, HR, HW, hsz⟩ := hrel
        generalize wr = w4 at *
        clear HR0 HG0 HW0
        have HG := Lib.hid (HS.out.below HW.out)
        by_cases hlt : k < l.length
        · have hkl : k < (openL l s c).length := by rw [openL_length]; exact hlt
          obtain ⟨ab, ao, rfl, hca⟩ := HA.out.below HG.out.old (by omega)
          obtain ⟨bb, bo, rfl, hcb⟩ := HQ.out.below HG.out.old (by omega)
          have q1 := hca k hlt
          have q2 := hcb k (by omega)
          obtain ⟨q3, q4⟩ := HG.out.row k (by omega)
          have hw0 := HI.out.w0 _ (getD_mem hlt)
          have eo := openL_getD l s c k hlt
          have ep := posTo_succ (openL l s c) k hkl
          have hst := fillTo_step (openL l s c) k hkl
          have hsk := fillTo_skip (openL l s c) k
          clear hca hcb
          by_cases hA : 0 < l.getD k 0 ∧ s.getD k 0 < c.getD k 0
          · rw [if_pos hA.2] at eo
            rw [eo, decide_eq_true hA.1, Bool.or_true] at ep
            rw [eo] at hst
            have HEp := Lib.hid ep
            generalize l.getD k 0 = xk at *
            generalize s.getD k 0 = sk at *
            generalize c.getD k 0 = ck at *
            have d1 : decide (0 < xk) = true := decide_eq_true hA.1
            have d2 : decide (sk < ck) = true := decide_eq_true hA.2
            clear hA eo ep hsk
            go_wp2
            go_quiet (fail)
            have hB2 := below_drewN (Below.refl w4.heap.size w4) nq
            have hR2 := HR.out.below hB2
            have hW2 := grew HW.out hB2
            have hA2 : (w4.drewN nq).cell? ⟨ab, ao + k, none⟩ = some (.int .i64 xk) := (hB2.cell (p := ⟨ab, ao + k, none⟩) (block_lt q1)).trans q1
            have hz2 : w3.heap.size < (w4.drewN nq).heap.size := Nat.lt_of_lt_of_le hsz hB2.size
            clear hB2 HR HW HG q1 q2 q3 q4
            generalize w4.drewN nq = w5 at *
            obtain ⟨r1, r2⟩ := hR2 k (by rw [fillTo_length]; exact hkl)
            have hR3 := hR2.set k (by rw [fillTo_length]; exact hkl) xk
            rw [hst] at hR3
            have HR3 := Lib.hid hR3
            have HW3 := Lib.hid (hW2.setCell (p := ⟨w3.heap.size, k, none⟩) (Nat.le_refl _) (.int .i64 xk))
            have hz3 : w3.heap.size < (w5.setCell ⟨w3.heap.size, k, none⟩ (.int .i64 xk)).heap.size := by simpa [World.setCell] using hz2
            have HZ3 := Lib.hid hz3
            clear hR3 hst hR2 hW2 hz2 hz3
            go_wp2
            go_roundg (l.length - (k + 1))
            case measure => omega
            case rel => exact ⟨k + 1, rfl, by omega, by go_num, by rw [HEp.out], HR3, HW3, HZ3.out⟩
          · have e0 : (openL l s c).getD k 0 = 0 := by
              rw [eo]
              split
              · have : ¬ 0 < l.getD k 0 := fun h => hA ⟨h, by assumption⟩
                omega
              · rfl
            rw [e0] at ep
            have HEp : Hid (posTo (openL l s c) (k + 1) = posTo (openL l s c) k) := Lib.hid (by rw [ep]; simp)
            have hR3 := HR.out
            rw [hsk e0] at hR3
            have HR3 := Lib.hid hR3
            have hcase : (0 < l.getD k 0 ∧ ¬ s.getD k 0 < c.getD k 0) ∨ ¬ 0 < l.getD k 0 := by
              by_cases h1 : 0 < l.getD k 0
              · exact .inl ⟨h1, fun h2 => hA ⟨h1, h2⟩⟩
              · exact .inr h1
            generalize l.getD k 0 = xk at *
            generalize s.getD k 0 = sk at *
            generalize c.getD k 0 = ck at *
            clear hA eo ep hsk hst e0 hR3 HR
            rcases hcase with ⟨hc1, hc2⟩ | hc1
            · have d1 : decide (0 < xk) = true := decide_eq_true hc1
              have d2 : decide (sk < ck) = false := decide_eq_false hc2
              clear hc1 hc2
              go_wp2
              go_quiet (fail)
              go_wp2
              go_roundg (l.length - (k + 1))
              case measure => omega
              case rel => exact ⟨k + 1, rfl, by omega, by go_num, by rw [HEp.out], Lib.hid (HR3.out.below (below_drewN (Below.refl _ _) _)), Lib.hid (below_drewN HW.out _), Nat.lt_of_lt_of_le hsz (below_drewN (Below.refl 0 _) _).size⟩
            · have d1 : decide (0 < xk) = false := decide_eq_false hc1
              clear hc1
              go_wp2
              go_quiet (fail)
              go_wp2
              go_roundg (l.length - (k + 1))
              case measure => omega
              case rel => exact ⟨k + 1, rfl, by omega, by go_num, by rw [HEp.out], Lib.hid (HR3.out.below (below_drewN (Below.refl _ _) _)), Lib.hid (below_drewN HW.out _), Nat.lt_of_lt_of_le hsz (below_drewN (Below.refl 0 _) _).size⟩
        · obtain rfl : k = l.length := by omega
          rw [posTo_all _ _ (openL_length l s c).symm]
          rw [fillTo_all _ _ (openL_length l s c).symm] at HR
          have hend := HE.out
          by_cases hf : f = 0
          · have hg : goes l c s f = false := by unfold goes; rw [hf]; simp
            rw [goes_not hg] at hend
            have FF := Lib.hid (F.out _ HW.out hend)
            subst hf
            clear hend hg F
            go_wp2
            go_ret3
            exact FF.out
          · have d2 : (f == 0) = false := beq_eq_false_iff_ne.2 hf
            have hf0 : 0 < f := by have := HI.out.f0; omega
            cases ha : anyPos (openL l s c)
            · have hg : goes l c s f = false := by unfold goes; rw [ha]; simp
              rw [goes_not hg] at hend
              have FF := Lib.hid (F.out _ HW.out hend)
              clear hend hg F ha hf
              go_wp2
              go_ret3
              exact FF.out
            · have hg : goes l c s f = true := by unfold goes; rw [ha, decide_eq_true hf0]; rfl
              have hI2 := HI.out
              have hfi : I64 f := by have := hI2.ht; have := hI2.f0; have := hI2.ft; unfold I64 at *; omega
              have hoi : ∀ x ∈ openL l s c, I64 x := by
                intro x hx
                obtain ⟨i, hi, rfl⟩ := List.getElem_of_mem hx
                have h4 := getD_le_sum _ (openL_nn l s c hI2.w0) i hi
                have h5 := openL_nn l s c hI2.w0 _ hx
                have h6 := hI2.open_i64
                rw [List.getD_eq_getElem?_getD, List.getElem?_eq_getElem hi, Option.getD_some] at h4
                unfold I64 at *
                omega
              have hC := RS.out f (some ⟨w3.heap.size, 0, none⟩) (openL l s c) l.length w4 hfi HR.out.ints hoi (by rw [openL_length]; omega)
              rw [(hI2.code hg).1, (hI2.code hg).2, openL_length] at hC
              have CS : Hid (Calls Try.prog 12 #[.int .i64 f, .slice (some ⟨w3.heap.size, 0, none⟩) l.length l.length] w4 fun e w' => ∃ (P : Option Addr) (cp : Nat), e = .returned (.tuple #[.slice P l.length cp, .int .i64 0]) ∧ Ints w' .i64 P (splitL f (openL l s c)) ∧ (∀ b o s, P = some ⟨b, o, s⟩ → w4.heap.size ≤ b) ∧ Below w4.heap.size w4 w') := Lib.hid <| by
                refine hC.mono ?_
                rintro e w' ⟨P, cp, rfl, k1, k2, k3, k4, k5⟩
                rw [splitL_length, openL_length]
                exact ⟨P, cp, rfl, k1, k4, k5⟩
              have HGo : Hid (∀ i, i < l.length → 0 ≤ (stepG l c s f).getD i 0 ∧ (stepG l c s f).getD i 0 ≤ (splitL f (openL l s c)).getD i 0 ∧ (stepG l c s f).getD i 0 ≤ c.getD i 0 - s.getD i 0) := Lib.hid (hI2.got hg)
              have hgl : (stepG l c s f).length = l.length := by unfold stepG; rw [gotL_length]; exact hsl
              have HGs : Hid (∀ k, 0 ≤ ((stepG l c s f).take k).sum ∧ ((stepG l c s f).take k).sum ≤ f) := Lib.hid fun k => ⟨sum_take_nn _ (hI2.got_nn hg) k, Int.le_trans (take_sum_le _ (hI2.got_nn hg) k) (hI2.got_sum hg)⟩
              have HNx := Lib.hid (hI2.next hg)
              have HEn : Hid (capRun l c (l.length + 1 - (r + 1)) (stepS l c s f) (stepF l c s f) = cappedL t l c) := Lib.hid <| by
                rw [← hend, show l.length + 1 - r = (l.length + 1 - (r + 1)) + 1 from by omega]
                simp only [capRun, hg, if_true]
              have hft : f ≤ 9223372036854775807 := by unfold I64 at hfi; exact hfi.2
              have HSc : Hid (∀ i, i < l.length → 0 ≤ s.getD i 0 ∧ s.getD i 0 ≤ c.getD i 0 ∧ c.getD i 0 ≤ 9223372036854775807) := Lib.hid fun i hi => ⟨hI2.s0 i hi, hI2.sc i hi, (hI2.c1 _ (getD_mem (by omega))).2⟩
              have hgw := HG.out.lt
              clear ha hend hg hI2 hfi hoi hC HE F hf
              go_wp2_with (go_at_call 12; refine CS.out.mono ?_; rintro e w5 ⟨P, cp, rfl, hP, hP2, hb⟩; have HP := Lib.hid hP; have HG2 := Lib.hid (HG.out.below hb); have HP2 : Hid (∀ b o s, P = some ⟨b, o, s⟩ → b ≠ w2.heap.size) := Lib.hid (fun b o s e => by have k1 := hP2 b o s e; omega); clear hP hP2 hb)
              go_loopg [12, 19] l.length (fun gh m i wq => ∃ k : Nat, gh = l.length - k ∧ k ≤ l.length ∧ i = .int .i64 k ∧ m = .int .i64 (f - ((stepG l c s f).take k).sum) ∧ Hid (CapG w w2.heap.size (mix s (stepS l c s f) k) wq) ∧ Hid (Ints wq .i64 P (splitL f (openL l s c))))
              case atStart => exact ⟨0, rfl, Nat.zero_le _, rfl, by simp, by rw [mix_zero]; exact HG2, HP⟩
              case round =>
                obtain ⟨k, rfl, hk, rfl, rfl, HS3, HP3⟩ := hrel
                by_cases hlt : k < l.length
                · have hkm : k < (mix s (stepS l c s f) k).length := by rw [mix_length, hsl]; exact hlt
                  obtain ⟨pb, po, rfl, hcp⟩ := HP3.out (by rw [splitL_length, openL_length]; omega)
                  have q1 := hcp k (by rw [splitL_length, openL_length]; exact hlt)
                  obtain ⟨r1, r2⟩ := HS3.out.row k hkm
                  rw [mix_getD _ _ _ _ (by rw [hsl]; exact hlt), if_neg (by omega)] at r1
                  obtain ⟨cb, co, rfl, hcc⟩ := HQ.out.below HS3.out.old (by omega)
                  have q3 := hcc k (by omega)
                  have hgo := HGo.out k hlt
                  have hgs := HGs.out k
                  have hgs2 := HGs.out (k + 1)
                  have hsc := HSc.out k hlt
                  have hts := take_sum (stepG l c s f) k (by omega)
                  have hgd : (stepG l c s f).getD k 0 = min ((splitL f (openL l s c)).getD k 0) (c.getD k 0 - s.getD k 0) := by unfold stepG; exact gotL_getD _ _ _ _ (by omega)
                  have hst := mix_step s (stepS l c s f) k (by omega)
                  have had : (stepS l c s f).getD k 0 = s.getD k 0 + (stepG l c s f).getD k 0 := by unfold stepS; exact addL_getD _ _ _ (by omega)
                  rw [had] at hst
                  rw [hts] at hgs2
                  have HTS := Lib.hid hts
                  have HST := Lib.hid hst
                  generalize (splitL f (openL l s c)).getD k 0 = pk at *
                  generalize c.getD k 0 = ck at *
                  generalize hsk : s.getD k 0 = sk at *
                  generalize (stepG l c s f).getD k 0 = gk2 at *
                  generalize ((stepG l c s f).take k).sum = gs at *
                  clear hcp hcc hts hst had HNx HEn CS HR HW HG HG2 HP
                  have HPn := Lib.hid (HP2.out _ _ _ rfl)
                  have e1 : IntKind.i64.wrap (ck - sk) = ck - sk := IntWalk.i64_in _ (by omega)
                  have HGD := Lib.hid hgd
                  clear hgd
                  go_wp2
                  go_quiet (fail)
                  rw [← HGD.out]
                  have hB2 := below_drewN (Below.refl wr.heap.size wr) nq
                  have HS4 := HS3.out.below hB2
                  have HP4 := HP3.out.below hB2
                  clear HS3 HP3 hB2 q1 q3 r1 r2 HGD
                  generalize wr.drewN nq = wq at *
                  obtain ⟨r1, r2⟩ := HS4.row k hkm
                  rw [mix_getD _ _ _ _ (by rw [hsl]; exact hlt), if_neg (by omega), hsk] at r1
                  have hS5 := HS4.set k hkm (sk + gk2)
                  rw [HST.out] at hS5
                  have HS5 := Lib.hid hS5
                  have HP5 := Lib.hid (HP4.other (g := w2.heap.size) (fun b o s e => by injection e with e; injection e with e; rw [← e]; exact HPn.out) k (.int .i64 (sk + gk2)))
                  clear hS5 HS4 HP4
                  have e2 : IntKind.i64.wrap (sk + gk2) = sk + gk2 := IntWalk.i64_in _ (by omega)
                  have e3 : IntKind.i64.wrap (f - gs - gk2) = f - gs - gk2 := IntWalk.i64_in _ (by omega)
                  go_wp2
                  go_roundg (l.length - (k + 1))
                  case measure => omega
                  case rel => exact ⟨k + 1, rfl, by omega, by go_num, by rw [HTS.out]; congr 1; omega, HS5, HP5⟩
                · obtain rfl : k = l.length := by omega
                  have em := mix_all s (stepS l c s f) (by unfold stepS; rw [addL_length]) l.length hsl.symm
                  have et : (stepG l c s f).take l.length = stepG l c s f := by rw [← hgl]; exact List.take_length
                  rw [em] at HS3
                  rw [et, show f - (stepG l c s f).sum = stepF l c s f from rfl]
                  clear em et
                  go_wp2
                  go_roundg (l.length + 1 - (r + 1))
                  case measure => omega
                  case rel => exact ⟨r + 1, _, _, rfl, by omega, by go_num, rfl, HNx, HEn, HS3⟩
    · obtain rfl : r = l.length + 1 := by omega
      have hend := HE.out
      rw [Nat.sub_self] at hend
      have FF := Lib.hid (F.out _ (Below.refl _ _) hend)
      clear hend F
      go_wp2
      go_ret3
      exact FF.out
end Go.Proofs.Ytnfoneeplkjhbaa
