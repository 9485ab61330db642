/-
  The walk of the law ShareFull.
-/
import Derived.Test.YtnfoneeplkjhbaaLWts
import Derived.Test.YtnfoneeplkjhbaaRef1f
import Derived.Test.YtnfoneeplkjhbaaRef1h
namespace Go.Proofs.Ytnfoneeplkjhbaa
open Go.RowKit

theorem cap_final {t : Int} {w c : List Int} : ∀ (n : Nat) (s : List Int) (f : Int), CapI t w c s f → mu s c f ≤ n → CapI t w c (capRun w c n s f).1 (capRun w c n s f).2 ∧ goes w c (capRun w c n s f).1 (capRun w c n s f).2 = false := by
  intro n
  induction n with
  | zero =>
    intro s f h hn
    refine ⟨h, ?_⟩
    cases hg : goes w c s f
    · exact hg
    · have := h.less hg; omega
  | succ n ih =>
    intro s f h hn
    cases hg : goes w c s f
    · rw [goes_not hg]; exact ⟨h, hg⟩
    · have hl := h.less hg
      simp only [capRun, hg, if_true]
      exact ih _ _ (h.next hg) (by omega)
theorem cap_end {t : Int} {w c : List Int} (h : CapI t w c (List.replicate w.length 0) t) : CapI t w c (cappedL t w c).1 (cappedL t w c).2 ∧ goes w c (cappedL t w c).1 (cappedL t w c).2 = false := by
  have h1 := mu_le (List.replicate w.length 0) c t
  rw [List.length_replicate] at h1
  exact cap_final _ _ _ h h1
theorem goes_full {t : Int} {w c s : List Int} {f : Int} (h : CapI t w c s f) (hg : goes w c s f = false) (hf : 0 < f) (i : Nat) (hi : i < w.length) (hw : 0 < w.getD i 0) : s.getD i 0 = c.getD i 0 := by
  unfold goes at hg
  rw [decide_eq_true hf, Bool.true_and] at hg
  have h1 := anyPos_false hg _ (getD_mem (l := openL w s c) (i := i) (by rw [openL_length]; exact hi))
  rw [openL_getD _ _ _ _ hi] at h1
  have h2 := h.sc i hi
  by_cases hlt : s.getD i 0 < c.getD i 0
  · rw [if_pos hlt] at h1; omega
  · omega

/-- Caps out of numbers. -/
def mostL (n : Nat) (l : List Int) : List Int := (List.range n).map fun i => if i < l.length then l.getD i 0 else 7
theorem mostL_length (n : Nat) (l : List Int) : (mostL n l).length = n := by simp [mostL]
theorem mostL_succ (k : Nat) (l : List Int) : mostL (k + 1) l = mostL k l ++ [if k < l.length then l.getD k 0 else 7] := by
  unfold mostL
  rw [List.range_succ, List.map_append]; rfl
theorem mostL_range {l : List Int} (hl : ∀ x ∈ l, U32 x) (n : Nat) : ∀ x ∈ mostL n l, U32 x := by
  intro x hx
  unfold mostL at hx
  obtain ⟨i, _, rfl⟩ := List.mem_map.1 hx
  split
  · exact hl _ (getD_mem (by assumption))
  · unfold U32; omega
theorem wts_length (l : List Int) : (wts l).length ≤ 20 := by unfold wts; rw [List.length_map, List.length_take]; omega
theorem wts_mem {l : List Int} (hl : ∀ x ∈ l, U32 x) : ∀ x ∈ wts l, 0 ≤ x ∧ x ≤ 4090905 := by
  intro x hx
  unfold wts at hx
  obtain ⟨y, hy, rfl⟩ := List.mem_map.1 hx
  exact wt_range (hl y (List.mem_of_mem_take hy))
theorem sum_le_of {l : List Int} {b : Int} (hl : ∀ x ∈ l, x ≤ b) : l.sum ≤ b * l.length := by
  induction l with
  | nil => simp
  | cons x l ih =>
    have h1 := hl x List.mem_cons_self
    have h2 := ih (fun y hy => hl y (List.mem_cons_of_mem _ hy))
    simp only [List.sum_cons, List.length_cons, Int.natCast_add, Int.mul_add]
    omega
theorem wts_sum {l : List Int} (hl : ∀ x ∈ l, U32 x) : 0 ≤ (wts l).sum ∧ (wts l).sum ≤ 81818100 := by
  refine ⟨sum_nn _ (fun x hx => (wts_mem hl x hx).1), ?_⟩
  have h1 := sum_le_of (b := 4090905) (fun x hx => (wts_mem hl x hx).2)
  have h2 := wts_length l
  omega
theorem wts_may {l c : List Int} (hl : ∀ x ∈ l, U32 x) (hc : ∀ x ∈ c, U32 x) {t : Int} (h0 : 0 ≤ t) : MayC t (wts l) (mostL (wts l).length c) := by
  refine ⟨h0, ?_, mostL_length _ _, ?_⟩
  · unfold areW
    have h1 := wts_length l
    have h2 : anyNeg (wts l) = false := by
      unfold anyNeg; rw [List.any_eq_false]; intro x hx; have := (wts_mem hl x hx).1; simp; omega
    rw [h2, decide_eq_true (by omega)]; rfl
  · unfold anyNeg; rw [List.any_eq_false]; intro x hx; have := (mostL_range hc _ x hx).1; simp; omega

set_option maxRecDepth 8000 in
set_option maxHeartbeats 8000000 in
theorem full_walk (T : Int) (A B : Option Addr) (l cs : List Int) (c1 c2 : Nat) (w : World) (hT : 0 ≤ T ∧ T ≤ 18446744073709551615) (hr : Ints w .u32 A l) (hq : Ints w .u32 B cs) (hl : ∀ x ∈ l, U32 x) (hc : ∀ x ∈ cs, U32 x) (hn : l.length ≤ 9223372036854775807) (hn2 : cs.length ≤ 9223372036854775807) :
    Calls Try.prog 6 #[.int .u64 T, .slice A l.length c1, .slice B cs.length c2] w fun e w' => e = .returned (.bool true) ∧ Below w.heap.size w w' := by
  have c0 := Lib.hid known3_any
  have CW : Hid (∀ W, Below w.heap.size w W → Calls Try.prog 21 #[.slice A l.length c1] W fun e w' => ∃ v, e = .returned v ∧ w'.ownsRow W.heap.size 2 1 v (wts l).length ((wts l).map (Value.int .i64)) ∧ Below W.heap.size W w') := Lib.hid fun W hW => wts_any A l c1 W (hr.below hW) hl hn
  have HQ := Lib.hid hq
  have HC := Lib.hid hc
  have ht1 : 0 ≤ T / 2 := by omega
  have ht2 : T / 2 ≤ 9223372036854775807 := by omega
  have hti : I64 (T / 2) := by unfold I64; omega
  have hM := wts_may (c := cs) hl hc ht1
  have hws := wts_sum hl
  have hfit : fits (wts l).sum = true := fits_of (by unfold I64; omega)
  have hci : ∀ x ∈ mostL (wts l).length cs, I64 x := fun x hx => by have := mostL_range hc _ x hx; unfold U32 at this; unfold I64; omega
  have hst := mayC_start hti hci hM hfit
  obtain ⟨hE, hG⟩ := cap_end hst
  have hwi : ∀ x ∈ wts l, I64 x := fun x hx => by have := wts_mem hl x hx; unfold I64; omega
  have hwn := wts_length l
  have CC : Hid (∀ W (P Q : Option Addr) (p q : Nat), Ints W .i64 P (wts l) → Ints W .i64 Q (mostL (wts l).length cs) → Calls Try.prog 19 #[.int .i64 (T / 2), .slice P (wts l).length p, .slice Q (wts l).length q] W (SliceFC W (cappedL (T / 2) (wts l) (mostL (wts l).length cs)).1 (cappedL (T / 2) (wts l) (mostL (wts l).length cs)).2 0)) := Lib.hid fun W P Q p q h1 h2 => by
    have h := capped_any (T / 2) P Q (wts l) (mostL (wts l).length cs) p q W hti h1 h2 hwi hci (by omega) (by rw [mostL_length]; omega)
    have e0 : capC (T / 2) (wts l) (mostL (wts l).length cs) = 0 := by unfold capC; rw [(mayC_iff _ _ _).2 hM, hfit]; rfl
    unfold capV at h
    rw [e0, if_pos rfl, mostL_length] at h
    exact h
  have HE := Lib.hid hE
  have HG := Lib.hid hG
  have hal := hE.len
  have hmost := mostL_length (wts l).length cs
  obtain ⟨i0, hi, hz0, hz1, hz2⟩ := parts_i64 info_i64
  have HI := Lib.hid hi
  have HZ0 := Lib.hid hz0
  have HZ1 := Lib.hid hz1
  have HZ2 := Lib.hid hz2
  clear hi hz0 hz1 hz2 hr hq hl hc hM hws hfit hci hst hE hG hwi
  generalize wts l = wl at *
  go_enter Try.func6, Try.ntmps6
  go_wp2_with (first
    | (go_at_call 10; refine (c0.out _).mono ?_; rintro e w1 ⟨rfl, hw1⟩; have HW1 := Lib.hid hw1; clear hw1)
    | (go_at_call 21; refine (CW.out _ HW1.out).mono ?_; rintro e w2 ⟨v2, rfl, hown, hb⟩; obtain ⟨hlw, P, cp, rfl, hP, hp1, hp2⟩ := own_form2 hown; have HP := Lib.hid hP; have HW2 := Lib.hid (grew HW1.out hb); clear hown hP hb hlw))
  generalize T / 2 = t at *
  clear hT
  go_loopw [8, 10] (fun v i wr => ∃ k : Nat, k ≤ wl.length ∧ i = .int .i64 k ∧ wr.ownsRow w2.heap.size 2 1 v k ((mostL k cs).map (Value.int .i64)) ∧ Hid (Below w2.heap.size w2 wr)) (fun _ i _ => wl.length - (intOf i).toNat)
  case atStart => exact ⟨0, Nat.zero_le _, rfl, World.ownsRow_nil _ _ _ _, Lib.hid (Below.refl _ _)⟩
  case round =>
    obtain ⟨k, hk, rfl, hown, HB⟩ := hrel
    by_cases hlt : k < wl.length
    · have hsz := HB.out.size
      have hms := mostL_succ k cs
      by_cases hkc : k < cs.length
      · rw [if_pos hkc] at hms
        obtain ⟨b, off, rfl, hcc⟩ := HQ.out.below (grew HW2.out HB.out) (by omega)
        have q1 := hcc k hkc
        have hx := HC.out _ (getD_mem hkc)
        have HMS := Lib.hid hms
        generalize cs.getD k 0 = x at *
        have hx1 := hx.1
        have hx2 := hx.2
        clear hcc hms hx
        go_wp2_with (at_builtin; refine wpList_append_own _ rfl _ _ 22 rfl w2.heap.size 2 i0 (.int .i64 0) 1 8 Try.underlying22 HI.out HZ0.out HZ1.out HZ2.out rfl (by decide) _ _ _ rfl (hown.alloc _) ⟨wr.heap.size, 0, none⟩ 1 1 [.int .i64 x] rfl rfl (cell_one_new _ _ _) (one_i64 _) ?c3 ?c4 ?c5 ?_)
        case c3 => unfold maxLen; omega
        case c4 => omega
        case c5 => simp; omega
        intro v' w3 hown' hgrow _
        have hb2 := (HB.out.alloc HB.out.size _).grown hgrow (by simp; omega) (fun g hg => (hown.lt g hg).1)
        have hown2 : w3.ownsRow w2.heap.size 2 1 v' (k + 1) ((mostL (k + 1) cs).map (Value.int .i64)) := by
          rw [HMS.out, List.map_append]; exact hown'
        have HB2 := Lib.hid hb2
        have HO2 := Lib.hid hown2
        clear hown' hgrow hown hb2 hown2 q1
        go_wp2
        go_roundw
        case rel => exact ⟨k + 1, by omega, by go_num, HO2.out, HB2⟩
        case measure => simp [intOf]; omega
      · rw [if_neg hkc] at hms
        have HMS := Lib.hid hms
        clear hms
        go_wp2_with (at_builtin; refine wpList_append_own _ rfl _ _ 22 rfl w2.heap.size 2 i0 (.int .i64 0) 1 8 Try.underlying22 HI.out HZ0.out HZ1.out HZ2.out rfl (by decide) _ _ _ rfl (hown.alloc _) ⟨wr.heap.size, 0, none⟩ 1 1 [.int .i64 7] rfl rfl (cell_one_new _ _ _) (one_i64 _) ?c3 ?c4 ?c5 ?_)
        case c3 => unfold maxLen; omega
        case c4 => omega
        case c5 => simp; omega
        intro v' w3 hown' hgrow _
        have hb2 := (HB.out.alloc HB.out.size _).grown hgrow (by simp; omega) (fun g hg => (hown.lt g hg).1)
        have hown2 : w3.ownsRow w2.heap.size 2 1 v' (k + 1) ((mostL (k + 1) cs).map (Value.int .i64)) := by
          rw [HMS.out, List.map_append]; exact hown'
        have HB2 := Lib.hid hb2
        have HO2 := Lib.hid hown2
        clear hown' hgrow hown hb2 hown2
        go_wp2
        go_roundw
        case rel => exact ⟨k + 1, by omega, by go_num, HO2.out, HB2⟩
        case measure => simp [intOf]; omega
    · obtain rfl : k = wl.length := by omega
      obtain ⟨hlm, Q, cq, rfl, hQ, hq1, hq2⟩ := own_form2 hown
      have HQ3 := Lib.hid hQ
      have HP3 := Lib.hid (HP.out.below HB.out)
      have HW3 := Lib.hid (grew HW2.out HB.out)
      generalize wr = w3 at *
      clear hown hQ hlm HQ HC HI HZ0 HZ1 HZ2
      have hai : ∀ x ∈ (cappedL t wl (mostL wl.length cs)).1, I64 x := fun x hx => by
        obtain ⟨i, hi, rfl⟩ := List.getElem_of_mem hx
        have h1 := HE.out.s0 i (by omega)
        have h2 := HE.out.sc i (by omega)
        have h3 := HE.out.c1 _ (getD_mem (l := mostL wl.length cs) (i := i) (by omega))
        rw [List.getD_eq_getElem?_getD, List.getElem?_eq_getElem hi, Option.getD_some] at h1 h2
        unfold I64 at *; omega
      have hfr : 0 ≤ (cappedL t wl (mostL wl.length cs)).2 ∧ (cappedL t wl (mostL wl.length cs)).2 ≤ t := ⟨HE.out.f0, HE.out.ft⟩
      have HSm := Lib.hid HE.out.sum
      have HFull := Lib.hid (fun h i => goes_full HE.out HG.out h i)
      have HEl : Hid (∀ i, i < wl.length → 0 ≤ (cappedL t wl (mostL wl.length cs)).1.getD i 0 ∧ (cappedL t wl (mostL wl.length cs)).1.getD i 0 ≤ (mostL wl.length cs).getD i 0 ∧ (wl.getD i 0 = 0 → (cappedL t wl (mostL wl.length cs)).1.getD i 0 = 0) ∧ 0 ≤ wl.getD i 0) := Lib.hid fun i hi => ⟨HE.out.s0 i hi, HE.out.sc i hi, HE.out.wz i hi, HE.out.w0 _ (getD_mem hi)⟩
      generalize (cappedL t wl (mostL wl.length cs)).1 = a at *
      generalize (cappedL t wl (mostL wl.length cs)).2 = f at *
      generalize mostL wl.length cs = ml at *
      have CS : Hid (∀ W (A : Option Addr) (c : Nat), Ints W .i64 A a → Calls Try.prog 22 #[.slice A wl.length c] W fun e w' => ∃ v, e = .returned v ∧ BigV w' v a.sum 66 ∧ Below W.heap.size W w') := Lib.hid fun W A c hA => by
        have h := sumInts_any A a c W hA hai (by omega)
        rw [hal] at h
        refine h.mono ?_
        rintro e w' ⟨v, rfl, hV, hb⟩
        exact ⟨v, rfl, hV.more (by omega), hb⟩
      have CH := Lib.hid (whole_any f (by unfold I64; omega))
      have CT := Lib.hid (whole_any t hti)
      have CP : Hid (∀ W va vb, BigV W va a.sum 66 → BigV W vb f 66 → Calls Try.prog 29 #[va, vb] W (BigR W t 67)) := Lib.hid fun W va vb h1 h2 => by
        have h := plus_any va vb a.sum f 66 W h1 h2 (by omega)
        rw [HSm.out] at h
        exact h
      have CQ : Hid (∀ W va vb, BigV W va t 67 → BigV W vb t 67 → Calls Try.prog 24 #[va, vb] W fun e w' => e = .returned (.int .i64 0) ∧ Below W.heap.size W w') := Lib.hid fun W va vb h1 h2 => by
        have h := rcmp_any va vb t t 67 W h1 h2 (by omega)
        rw [show ord3 t t = 0 from by unfold ord3; simp] at h
        exact h
      have d0 : decide (f < 0) = false := decide_eq_false (by omega)
      clear hai HE HG HSm CW hti
      go_wp2_with (first
        | (go_at_call 19; refine (CC.out _ _ _ _ _ HP3.out HQ3.out).mono ?_; rintro e w4 ⟨A4, c4, rfl, hA4, _, _, _, hb⟩; simp only [hal]; have HA := Lib.hid hA4; have HW4 := Lib.hid (grew HW3.out hb); have HP4 := Lib.hid (HP3.out.below hb); have HQ4 := Lib.hid (HQ3.out.below hb); clear hA4 hb)
        | (go_at_call 22; refine (CS.out _ _ _ HA.out).mono ?_; rintro e w5 ⟨v5, rfl, hV, hb⟩; have HV5 := Lib.hid hV; have HB5 := Lib.hid hb; clear hV hb)
        | (go_at_call 25; refine (CH.out _).mono ?_; rintro e w6 ⟨v6, rfl, hV, hb⟩; have HV6 := Lib.hid (hV.more (show 2 ≤ 66 by omega)); replace HV5 := Lib.hid (HV5.out.below hb); replace HB5 := Lib.hid (grew HB5.out hb); clear hV hb)
        | (go_at_call 29; refine (CP.out _ _ _ HV5.out HV6.out).mono ?_; rintro e w7 ⟨v7, rfl, hV, hb⟩; obtain ⟨ng, A7, n7, c7, rfl⟩ := hV.form; have HV7 := Lib.hid hV; replace HB5 := Lib.hid (grew HB5.out hb); clear hV hb))
      have HX := Lib.hid (Box2.new w7 (.bool ng) (.slice A7 n7 c7) 42 _ rfl)
      have hB8 : Below w7.heap.size w7 (w7.alloc (.cells #[.bool ng, .slice A7 n7 c7] 42)) := (Below.refl _ _).alloc (Nat.le_refl _) _
      have HV8 := Lib.hid (HV7.out.below hB8)
      have HB8 := Lib.hid (grew HB5.out hB8)
      have HA8 := Lib.hid (HA.out.below HB8.out)
      have HP8 := Lib.hid (HP4.out.below HB8.out)
      have HQ8 := Lib.hid (HQ4.out.below HB8.out)
      have HW8 := Lib.hid (grew HW4.out HB8.out)
      clear hB8 HV5 HV6 HV7 HB5 HA HP4 HQ4 HB8 HP3 HQ3
      generalize w7.alloc (.cells #[.bool ng, .slice A7 n7 c7] 42) = w8 at *
      go_loopw [16] (fun i wr => ∃ k : Nat, k ≤ wl.length ∧ i = .int .i64 k ∧ Hid (Below w8.heap.size w8 wr)) (fun i _ => wl.length - (intOf i).toNat)
      case atStart => exact ⟨0, Nat.zero_le _, rfl, Lib.hid (Below.refl _ _)⟩
      case round =>
        obtain ⟨k, hk, rfl, HB9⟩ := hrel
        by_cases hlt : k < wl.length
        · obtain ⟨ab, ao, rfl, ha⟩ := HA8.out.below HB9.out (by omega)
          obtain ⟨pb, po, rfl, hp⟩ := HP8.out.below HB9.out (by omega)
          obtain ⟨qb, qo, rfl, hq⟩ := HQ8.out.below HB9.out (by omega)
          have q1 := ha k (by omega)
          have q2 := hp k hlt
          have q3 := hq k (by omega)
          have hel := HEl.out k hlt
          have hfu := fun h => HFull.out h k hlt
          generalize a.getD k 0 = x at *
          generalize wl.getD k 0 = y at *
          generalize ml.getD k 0 = z at *
          obtain ⟨e1, e2, e3, e4⟩ := hel
          have d1 : decide (x < 0) = false := decide_eq_false (by omega)
          have d2 : decide (z < x) = false := decide_eq_false (by omega)
          have hcase : (y = 0 ∧ 0 < f ∧ x = 0) ∨ (y = 0 ∧ f = 0 ∧ x = 0) ∨ (0 < y ∧ 0 < f ∧ x = z) ∨ (0 < y ∧ f = 0) := by
            by_cases hy : y = 0
            · by_cases hf : 0 < f
              · exact .inl ⟨hy, hf, e3 hy⟩
              · exact .inr (.inl ⟨hy, by omega, e3 hy⟩)
            · by_cases hf : 0 < f
              · exact .inr (.inr (.inl ⟨by omega, hf, hfu hf (by omega)⟩))
              · exact .inr (.inr (.inr ⟨by omega, by omega⟩))
          clear ha hp hq hfu e3
          have hF : (0 < f ∧ decide (0 < f) = true) ∨ (f = 0 ∧ decide (0 < f) = false) := by
            by_cases hf : 0 < f
            · exact .inl ⟨hf, decide_eq_true hf⟩
            · exact .inr ⟨by omega, decide_eq_false hf⟩
          have dy : (0 < y ∧ (y == 0) = false ∧ decide (0 < y) = true) ∨ (y = 0 ∧ (y == 0) = true ∧ decide (0 < y) = false) := by
            by_cases hy : y = 0
            · subst hy; exact .inr ⟨rfl, rfl, rfl⟩
            · exact .inl ⟨by omega, beq_eq_false_iff_ne.2 hy, decide_eq_true (by omega)⟩
          rcases hcase with ⟨h1, h2, h3⟩ | ⟨h1, h2, h3⟩ | ⟨h1, h2, h3⟩ | ⟨h1, h2⟩
          all_goals
            obtain ⟨_, g1⟩ | ⟨_, g1⟩ := hF <;> first | (exfalso; omega) | skip
            obtain ⟨_, g2, g3⟩ | ⟨_, g2, g3⟩ := dy <;> first | (exfalso; omega) | skip
            first
              | (have g4 : (x != 0) = false := by rw [h3]; rfl)
              | (have g4 : (x != z) = false := by rw [h3]; simp)
              | skip
            try clear h3
            clear h1 h2
            go_wp2
            go_quiet (fail)
            go_wp2
            go_roundw
            case rel => exact ⟨k + 1, by omega, by go_num, Lib.hid (below_drewN HB9.out _)⟩
            case measure => simp [intOf]; omega
        · have HX9 := Lib.hid (HX.out.below HB9.out)
          have HV9 := Lib.hid (HV8.out.below HB9.out)
          have HW9 := Lib.hid (grew HW8.out HB9.out)
          have hS0 : Hid (wr.drew.cell? ⟨w7.heap.size, 0, none⟩ = some (.bool ng) ∧ wr.drew.cell? ⟨w7.heap.size, 1, none⟩ = some (.slice A7 n7 c7)) := Lib.hid ⟨HX9.out.1, HX9.out.2.1⟩
          go_wp2
          go_region_held3 (fun w' => w'.cell? ⟨w7.heap.size, 0, none⟩ = some (.bool ng) ∧ w'.cell? ⟨w7.heap.size, 1, none⟩ = some (.slice A7 n7 c7))
            (first | exact hS0.out | exact HS1.out | exact HS2.out)
            (first
              | (go_at_call 25; refine (CT.out _).mono ?_; rintro e wa ⟨va, rfl, hV, hb⟩; have hX := (HX9.out.drew).below hb; have HS1 : Hid (wa.cell? ⟨w7.heap.size, 0, none⟩ = some (.bool ng) ∧ wa.cell? ⟨w7.heap.size, 1, none⟩ = some (.slice A7 n7 c7)) := Lib.hid ⟨hX.1, hX.2.1⟩; have HXa := Lib.hid hX; have HVa := Lib.hid (hV.more (show 2 ≤ 67 by omega)); have HVb := Lib.hid ((HV9.out.below (Below.refl _ _).drew).below hb); have HWa := Lib.hid (grew (HW9.out.drew) hb); clear hX hV hb)
              | (go_at_call 24; refine (CQ.out _ _ _ HVb.out HVa.out).mono ?_; rintro e wb ⟨rfl, hb⟩; have hX := HXa.out.below hb; have HS2 : Hid (wb.cell? ⟨w7.heap.size, 0, none⟩ = some (.bool ng) ∧ wb.cell? ⟨w7.heap.size, 1, none⟩ = some (.slice A7 n7 c7)) := Lib.hid ⟨hX.1, hX.2.1⟩; have HWb := Lib.hid (grew HWa.out hb); clear hX hb))
          go_wp2
          go_ret
          exact ⟨rfl, HWb.out⟩

theorem wf_u32 {a : Int} (h : (Lit.int .u32 a).wf = true) : U32 a := by
  simp [Lit.wf, IntKind.min, IntKind.max, IntKind.bits, IntKind.signed] at h; unfold U32; omega
theorem full_law (T : Int) (A : Option Addr) (len cap : Nat) (zs : List Int) (B : Option Addr) (len2 cap2 : Nat) (zs2 : List Int) (w : World) (h0 : (Lit.int .u64 T).wf = true)
    (h : (A = none ∧ len = 0 ∧ cap = 0 ∧ zs = []) ∨
      ∃ x, A = some x ∧ len ≤ cap ∧ cap ≤ maxLen ∧ zs.length = cap ∧ (∀ i, i < zs.length → w.cell? (x.add i) = some (.int .u32 (zs.getD i 0))) ∧ ∀ n ∈ zs, (Lit.int .u32 n).wf = true)
    (h' : (B = none ∧ len2 = 0 ∧ cap2 = 0 ∧ zs2 = []) ∨
      ∃ x, B = some x ∧ len2 ≤ cap2 ∧ cap2 ≤ maxLen ∧ zs2.length = cap2 ∧ (∀ i, i < zs2.length → w.cell? (x.add i) = some (.int .u32 (zs2.getD i 0))) ∧ ∀ n ∈ zs2, (Lit.int .u32 n).wf = true) :
    Calls Try.prog 6 #[.int .u64 T, .slice A len cap, .slice B len2 cap2] w fun e w' => e = .returned (.bool true) ∧ Below w.heap.size w w' := by
  obtain ⟨l, rfl, hr, hn, hl⟩ := row_ints h
  obtain ⟨m, rfl, hr2, hn2, hl2⟩ := row_ints h'
  exact full_walk T A B l m cap cap2 w (by simp [Lit.wf, IntKind.min, IntKind.max, IntKind.bits, IntKind.signed] at h0; omega) hr hr2 (fun x hx => wf_u32 (hl x hx)) (fun x hx => wf_u32 (hl2 x hx)) hn hn2
end Go.Proofs.Ytnfoneeplkjhbaa
