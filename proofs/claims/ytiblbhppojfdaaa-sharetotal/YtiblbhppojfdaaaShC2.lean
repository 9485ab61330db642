/-
  The walk of package share's Capped.
-/
import Derived.Test.YtiblbhppojfdaaaShC1
import Derived.Deep.LoopGhost
namespace Go.Proofs.Ytiblbhppojfdaaa
open Go.RowKit

/-- What stands in memory while shares grow. -/
def CapS (w : World) (s : List Int) (wr : World) : Prop := RowK wr .i64 w.heap.size s ∧ Below w.heap.size w wr ∧ w.heap.size < wr.heap.size
theorem CapS.below {w wr w2 : World} {s : List Int} (h : CapS w s wr) (hb : Below wr.heap.size wr w2) : CapS w s w2 :=
  ⟨h.1.below hb, h.2.1.trans (hb.mono h.2.1.size), Nat.lt_of_lt_of_le h.2.2 hb.size⟩
theorem CapS.set {w wr : World} {s : List Int} (h : CapS w s wr) (k : Nat) (hk : k < s.length) (x : Int) : CapS w (s.set k x) (wr.setCell ⟨w.heap.size, k, none⟩ (.int .i64 x)) :=
  ⟨h.1.set k hk x, h.2.1.setCell (p := ⟨w.heap.size, k, none⟩) (Nat.le_refl _) _, by simpa [World.setCell] using h.2.2⟩
theorem CapS.new (w : World) (n : Nat) (t : TypeId) : CapS w (List.replicate n 0) (w.alloc (.cells (madeCells #[.int .i64 0] n) t)) :=
  ⟨RowK.new w .i64 n t _ rfl, (Below.refl _ _).alloc (Nat.le_refl _) _, by simp⟩

set_option maxRecDepth 8000 in
set_option maxHeartbeats 4000000 in
theorem capped_some (t : Int) (A B : Option Addr) (l c : List Int) (c1 c2 : Nat) (w : World) (hr : Ints w .i64 A l) (hq : Ints w .i64 B c) (hx : ∀ x ∈ l, I64 x) (hI : CapI t l c (List.replicate l.length 0) t) (h : MayC t l c) :
    Calls Try.prog 51 #[.int .i64 t, .slice A l.length c1, .slice B c.length c2] w (SliceFC w (cappedL t l c).1 (cappedL t l c).2 0) := by
  obtain ⟨h0, h1, h2, h3⟩ := h
  have hn := hI.wn
  have C1 := Lib.hid (areW_any A l c1 w hr (by omega))
  have C2 := Lib.hid (anyNeg_any B c c2 w hq (by omega))
  have C3 := Lib.hid (asum_any A l c1 w hr hx (by omega))
  rw [h1] at C1
  rw [h3] at C2
  rw [fits_of hI.wS] at C3
  have d1 : decide (t < 0) = false := decide_eq_false (by omega)
  have hmk := made_i64 l.length (by omega)
  have HN := Lib.hid (CapS.new w l.length 2)
  have HA := Lib.hid hr
  have HQ := Lib.hid hq
  have HI := Lib.hid hI
  rw [h2] at C2 ⊢
  generalize held l.sum = sm at *
  have HE : Hid (capRun l c (l.length + 1) (List.replicate l.length 0) t = cappedL t l c) := Lib.hid rfl
  clear hr hq hx h0 h1 h3 hI
  go_enter Try.func51, Try.ntmps51
  go_wp2
  go_step3
  go_wp2_with (first
    | (go_at_call 55; refine C1.out.mono ?_; rintro e w' ⟨rfl, rfl⟩)
    | (go_at_call 67; refine C2.out.mono ?_; rintro e w' ⟨rfl, rfl⟩)
    | (go_at_call 57; refine C3.out.mono ?_; rintro e w' ⟨rfl, rfl⟩))
  go_step3
  go_wp2
  go_loopg [12] (mu (List.replicate l.length 0) c t) (fun g m wr => ∃ (s : List Int) (f : Int), g = mu s c f ∧ m = .int .i64 f ∧ Hid (CapI t l c s f) ∧ Hid (capRun l c (l.length + 1) s f = cappedL t l c) ∧ Hid (CapS w s wr)) 
  case atStart => exact ⟨_, _, rfl, rfl, HI, HE, HN⟩
  case round =>
    obtain ⟨s, f, rfl, rfl, HI, HE, HS⟩ := hrel
    have hsl := HI.out.len
    by_cases hf : 0 < f
    · have d2 : decide (0 < f) = true := decide_eq_true hf
      have CO := open_any A (some ⟨w.heap.size, 0, none⟩) B l s c c1 l.length c2 wr (HA.out.below HS.out.2.1) HS.out.1.ints (HQ.out.below HS.out.2.1) hsl h2 (by omega)
      have CO2 := Lib.hid CO
      have CP : Hid (∀ W, RowK W .i64 wr.heap.size (openL l s c) → Calls Try.prog 56 #[.slice (some ⟨wr.heap.size, 0, none⟩) l.length l.length] W fun e w' => e = .returned (.bool (anyPos (openL l s c))) ∧ W = w') := Lib.hid fun W hW => by
        have h := anyPos_any (some ⟨wr.heap.size, 0, none⟩) (openL l s c) l.length W hW.ints (by rw [openL_length]; omega)
        rw [openL_length] at h
        exact h
      cases ha : anyPos (openL l s c)
      · have hg : goes l c s f = false := by unfold goes; rw [ha]; simp
        have hend := HE.out
        rw [goes_not hg] at hend
        have F : Hid (∀ w', Below wr.heap.size wr w' → SliceFC w (cappedL t l c).1 (cappedL t l c).2 0 (.returned (.tuple #[.slice (some ⟨w.heap.size, 0, none⟩) l.length l.length, .int .i64 f, .int .i64 0])) w') := Lib.hid fun w' hb => by
          rw [← hend]
          exact ⟨some ⟨w.heap.size, 0, none⟩, l.length, by rw [hsl], (HS.out.below hb).1.ints, by rw [hsl]; exact Nat.le_refl _, by omega, (fun b o s e => by injection e with e; injection e with e; omega), (HS.out.below hb).2.1⟩
        rw [ha] at CP
        clear hend hg ha CO hmk HN C1 C2 C3 d1
        go_wp2_with (first
          | (go_at_call 68; refine CO2.out.mono ?_; rintro e w1 ⟨rfl, hR, hb⟩; have HR := Lib.hid hR; have HB1 := Lib.hid hb; clear hR hb)
          | (go_at_call 56; refine (CP.out _ HR.out).mono ?_; rintro e w' ⟨rfl, rfl⟩))
        try rw [Exit.noGoto_ret]
        go_ret3
        exact F.out _ HB1.out
      · have hg : goes l c s f = true := by unfold goes; rw [ha, d2]; rfl
        have hI2 := HI.out
        have hfi : I64 f := by have := hI2.ht; have := hI2.f0; have := hI2.ft; unfold I64 at *; omega
        have CS : Hid (∀ W, RowK W .i64 wr.heap.size (openL l s c) → Calls Try.prog 30 #[.int .i64 f, .slice (some ⟨wr.heap.size, 0, none⟩) l.length l.length] W fun e w' => ∃ (P : Option Addr) (cp : Nat), e = .returned (.tuple #[.slice P l.length cp, .int .i64 0]) ∧ Ints w' .i64 P (splitL f (openL l s c)) ∧ (∀ b o s, P = some ⟨b, o, s⟩ → W.heap.size ≤ b) ∧ Below W.heap.size W w') := Lib.hid fun W hW => by
          have hoi : ∀ x ∈ openL l s c, I64 x := by
            intro x hx
            obtain ⟨i, hi, rfl⟩ := List.getElem_of_mem hx
            have h4 := getD_le_sum _ (openL_nn l s c hI2.w0) i hi
            have h5 := openL_nn l s c hI2.w0 _ hx
            have h6 := hI2.open_i64
            rw [List.getD_eq_getElem?_getD, List.getElem?_eq_getElem hi, Option.getD_some] at h4
            unfold I64 at *
            omega
          have h := split_any f (some ⟨wr.heap.size, 0, none⟩) (openL l s c) l.length W hfi hW.ints hoi (by rw [openL_length]; omega)
          rw [(hI2.code hg).1, (hI2.code hg).2, openL_length] at h
          refine h.mono ?_
          rintro e w' ⟨P, cp, rfl, k1, k2, k3, k4, k5⟩
          rw [splitL_length, openL_length]
          exact ⟨P, cp, rfl, k1, k4, k5⟩
        rw [ha] at CP
        have HGo : Hid (∀ i, i < l.length → 0 ≤ (stepG l c s f).getD i 0 ∧ (stepG l c s f).getD i 0 ≤ (splitL f (openL l s c)).getD i 0 ∧ (stepG l c s f).getD i 0 ≤ c.getD i 0 - s.getD i 0) := Lib.hid (hI2.got hg)
        have hgl : (stepG l c s f).length = l.length := by unfold stepG; rw [gotL_length]; exact hsl
        have HGs : Hid (∀ k, 0 ≤ ((stepG l c s f).take k).sum ∧ ((stepG l c s f).take k).sum ≤ f) := Lib.hid fun k => ⟨sum_take_nn _ (hI2.got_nn hg) k, Int.le_trans (take_sum_le _ (hI2.got_nn hg) k) (hI2.got_sum hg)⟩
        have HNx := Lib.hid (hI2.next hg)
        have HLs := Lib.hid (hI2.less hg)
        have HEn := Lib.hid ((hI2.end_ hg).symm.trans HE.out)
        have hft : f ≤ 9223372036854775807 := by unfold I64 at hfi; exact hfi.2
        have HSc : Hid (∀ i, i < l.length → 0 ≤ s.getD i 0 ∧ s.getD i 0 ≤ c.getD i 0 ∧ c.getD i 0 ≤ 9223372036854775807) := Lib.hid fun i hi => ⟨hI2.s0 i hi, hI2.sc i hi, (hI2.c1 _ (getD_mem (by omega))).2⟩
        clear ha CO hmk HN C1 C2 C3 d1 hg hI2 hfi HE
        go_wp2_with (first
          | (go_at_call 68; refine CO2.out.mono ?_; rintro e w1 ⟨rfl, hR, hb⟩; have HR := Lib.hid hR; have HB1 := Lib.hid hb; clear hR hb)
          | (go_at_call 56; refine (CP.out _ HR.out).mono ?_; rintro e w' ⟨rfl, rfl⟩)
          | (go_at_call 30; refine (CS.out _ HR.out).mono ?_; rintro e w2 ⟨P, cp, rfl, hP, hP2, hb⟩; have HP := Lib.hid hP; have HS2 := Lib.hid ((HS.out.below HB1.out).below hb); have HP2 : Hid (∀ b o s, P = some ⟨b, o, s⟩ → b ≠ w.heap.size) := Lib.hid (fun b o s e => by have k1 := hP2 b o s e; have k2 := HB1.out.size; have k3 := HS.out.2.2; omega); clear hP hP2 hb))
        go_loopg [12, 65] l.length (fun g m i wr => ∃ k : Nat, g = l.length - k ∧ k ≤ l.length ∧ i = .int .i64 k ∧ m = .int .i64 (f - ((stepG l c s f).take k).sum) ∧ Hid (CapS w (mix s (stepS l c s f) k) wr) ∧ Hid (Ints wr .i64 P (splitL f (openL l s c))))
        case atStart => exact ⟨0, rfl, Nat.zero_le _, rfl, by simp, by rw [mix_zero]; exact HS2, HP⟩
        case round =>
          obtain ⟨k, rfl, hk, rfl, rfl, HS3, HP3⟩ := hrel
          by_cases hlt : k < l.length
          · have hkm : k < (mix s (stepS l c s f) k).length := by rw [mix_length, hsl]; exact hlt
            obtain ⟨pb, po, rfl, hcp⟩ := HP3.out (by rw [splitL_length, openL_length]; omega)
            have q1 := hcp k (by rw [splitL_length, openL_length]; exact hlt)
            obtain ⟨r1, r2⟩ := HS3.out.1 k hkm
            rw [mix_getD _ _ _ _ (by rw [hsl]; exact hlt), if_neg (by omega)] at r1
            obtain ⟨cb, co, rfl, hcc⟩ := HQ.out.below HS3.out.2.1 (by omega)
            have q3 := hcc k (by omega)
            have hgo := HGo.out k hlt
            have hgs := HGs.out k
            have hgs2 := HGs.out (k + 1)
            have hsc := HSc.out k hlt
            have hts := take_sum (stepG l c s f) k (by omega)
            have hgd : (stepG l c s f).getD k 0 = min ((splitL f (openL l s c)).getD k 0) (c.getD k 0 - s.getD k 0) := by unfold stepG; exact gotL_getD _ _ _ _ (by omega)
            have hst := mix_step s (stepS l c s f) k (by omega)
            have had : (stepS l c s f).getD k 0 = s.getD k 0 + (stepG l c s f).getD k 0 := by unfold stepS; exact addL_getD _ _ _ (by omega)
            rw [had] at hst
            rw [hts] at hgs2
            have HTS := Lib.hid hts
            have HST := Lib.hid hst
            generalize (splitL f (openL l s c)).getD k 0 = pk at *
            generalize c.getD k 0 = ck at *
            generalize hsk : s.getD k 0 = sk at *
            generalize (stepG l c s f).getD k 0 = gk2 at *
            generalize ((stepG l c s f).take k).sum = gs at *
            clear hcp hcc hts hst had HNx HLs HEn CO2 CP CS HR HB1 HS2 HP
            have HPn := Lib.hid (HP2.out _ _ _ rfl)
            have e1 : IntKind.i64.wrap (ck - sk) = ck - sk := IntWalk.i64_in _ (by omega)
            have HGD := Lib.hid hgd
            clear hgd
            go_wp2
            go_quiet (fail)
            rw [← HGD.out]
            have hB2 := below_drewN (Below.refl wr.heap.size wr) nq
            have HS4 := HS3.out.below hB2
            have HP4 := HP3.out.below hB2
            clear HS3 HP3 hB2 q1 q3 r1 r2 HGD
            generalize wr.drewN nq = wq at *
            obtain ⟨r1, r2⟩ := HS4.1 k hkm
            rw [mix_getD _ _ _ _ (by rw [hsl]; exact hlt), if_neg (by omega), hsk] at r1
            have hS5 := HS4.set k hkm (sk + gk2)
            rw [HST.out] at hS5
            have HS5 := Lib.hid hS5
            have HP5 := Lib.hid (HP4.other (g := w.heap.size) (fun b o s e => by injection e with e; injection e with e; rw [← e]; exact HPn.out) k (.int .i64 (sk + gk2)))
            clear hS5 HS4 HP4
            have e2 : IntKind.i64.wrap (sk + gk2) = sk + gk2 := IntWalk.i64_in _ (by omega)
            have e3 : IntKind.i64.wrap (f - gs - gk2) = f - gs - gk2 := IntWalk.i64_in _ (by omega)
            go_wp2
            go_roundg (l.length - (k + 1))
            case measure => omega
            case rel => exact ⟨k + 1, rfl, by omega, by go_num, by rw [HTS.out]; congr 1; omega, HS5, HP5⟩
          · obtain rfl : k = l.length := by omega
            have em := mix_all s (stepS l c s f) (by unfold stepS; rw [addL_length]) l.length hsl.symm
            have et : (stepG l c s f).take l.length = stepG l c s f := by rw [← hgl]; exact List.take_length
            rw [em] at HS3
            rw [et, show f - (stepG l c s f).sum = stepF l c s f from rfl]
            clear em et
            go_wp2
            go_roundg (mu (stepS l c s f) c (stepF l c s f))
            case measure => exact HLs.out
            case rel => exact ⟨_, _, rfl, rfl, HNx, HEn, HS3⟩
    · obtain rfl : f = 0 := by have := HI.out.f0; omega
      have hg : goes l c s 0 = false := by unfold goes; simp
      have hend := HE.out
      rw [goes_not hg] at hend
      have F : Hid (SliceFC w (cappedL t l c).1 (cappedL t l c).2 0 (.returned (.tuple #[.slice (some ⟨w.heap.size, 0, none⟩) l.length l.length, .int .i64 0, .int .i64 0])) wr) := Lib.hid <| by
        rw [← hend]
        exact ⟨some ⟨w.heap.size, 0, none⟩, l.length, by rw [hsl], HS.out.1.ints, by rw [hsl]; exact Nat.le_refl _, by omega, (fun b o s e => by injection e with e; injection e with e; omega), HS.out.2.1⟩
      clear hend hg hmk HN C1 C2 C3 d1
      go_wp2
      try rw [Exit.noGoto_ret]
      go_ret3
      exact F.out
end Go.Proofs.Ytiblbhppojfdaaa
