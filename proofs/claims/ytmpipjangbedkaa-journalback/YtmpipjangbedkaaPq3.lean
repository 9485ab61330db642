/-
  The walks of the program's numbers, Put.
-/
import Derived.Test.YtmpipjangbedkaaMPq1
import Derived.Test.YtmpipjangbedkaaMDag5
import Derived.Test.YtmpipjangbedkaaMEv4
namespace Go.Proofs.Ytmpipjangbedkaa
set_option maxRecDepth 8000
open Go Go.RowKit
set_option linter.unusedVariables false

/-- The numbers of the first k instruments, behind how many there are. -/
def numsK (cf : Cfg) (k : Nat) : List Int := (cf.insts.length : Int) :: (cf.insts.take k).flatMap four
theorem numsK_succ (cf : Cfg) (k : Nat) (h : k < cf.insts.length) : numsK cf (k + 1) = numsK cf k ++ four (cf.insts.getD k Ins.zero) := by
  unfold numsK
  rw [List.take_succ_eq_append_getElem h, List.flatMap_append, List.getD_eq_getElem?_getD, List.getElem?_eq_getElem h]
  simp
theorem numsK_all (cf : Cfg) : numsK cf cf.insts.length ++ restL cf = (cf.insts.length : Int) :: numsC cf := by
  unfold numsK numsC
  rw [List.take_length]
  rfl
theorem numsK_len (cf : Cfg) (k : Nat) : (numsK cf k).length ≤ 1 + 4 * k := by
  unfold numsK
  rw [List.length_cons, four_len, List.length_take]
  omega
set_option maxRecDepth 8000 in
set_option maxHeartbeats 8000000 in
theorem numbers_any (cf : Cfg) (A : Option Addr) (n c : Nat) (w : World) (hn : n = cf.insts.length) (h6 : n ≤ 6) (hI : InsM w A cf.insts) : Calls Try.prog 44 #[cf.v (.slice A n c)] w fun e w' => ∃ v, e = .returned v ∧ Own64 w' w.heap.size v ((cf.insts.length : Int) :: numsC cf) ∧ Below w.heap.size w w' := by
  have HN := Lib.hid hn
  have HC0 : Hid (CfAt (w.alloc (.cells (cf.cells (.slice A n c)).toArray 28)) w.heap.size cf (.slice A n c)) := Lib.hid (Rec.new w _ (cf.cells (.slice A n c)) _ rfl)
  have hs0 : (w.alloc (.cells (cf.cells (.slice A n c)).toArray 28)).heap.size = w.heap.size + 1 := by simp
  have HC1 : Hid (CfAt ((w.alloc (.cells (cf.cells (.slice A n c)).toArray 28)).alloc (.cells #[.int .i64 (n : Int)] 2)) w.heap.size cf (.slice A n c)) := Lib.hid (CfAt.keep HC0.out ((Below.refl _ _).alloc (Nat.le_refl _) _))
  have HB1 : Hid (Below w.heap.size w ((w.alloc (.cells (cf.cells (.slice A n c)).toArray 28)).alloc (.cells #[.int .i64 (n : Int)] 2))) := Lib.hid (((Below.refl _ _).alloc (Nat.le_refl _) _).alloc (by rw [hs0]; omega) _)
  have HO1 : Hid (Own64 ((w.alloc (.cells (cf.cells (.slice A n c)).toArray 28)).alloc (.cells #[.int .i64 (n : Int)] 2)) (w.heap.size + 1) (.slice (some ⟨w.heap.size + 1, 0, none⟩) 1 1) (numsK cf 0)) := Lib.hid (ownL_lit lay_64 _ _ #[.int .i64 (n : Int)] [(n : Int)] (by rw [hs0]; exact Nat.le_refl _) (by simp) rfl _ hs0.symm _ rfl |> fun h => by
    have e : numsK cf 0 = [(n : Int)] := by unfold numsK; rw [hn]; rfl
    rw [e]; exact h)
  have HI := Lib.hid hI
  have HAL := Lib.hid (numsK_all cf)
  unfold Cfg.v
  simp only [Cfg.cells] at HC1 HB1 HO1
  clear hn hI HC0 hs0
  go_enter Try.func44, Try.ntmps44
  go_wp2
  go_loopw [3, 13] (fun out i wr => ∃ (k : Nat) (V : Value), V = out ∧ k ≤ n ∧ i = .int .i64 (k : Int) ∧ Hid (Own64 wr (w.heap.size + 1) V (numsK cf k)) ∧ Hid (CfAt wr w.heap.size cf (.slice A n c)) ∧ Hid (Below w.heap.size w wr ∧ w.heap.size + 1 ≤ wr.heap.size)) (fun _ i _ => n - (intOf i).toNat)
  case atStart => exact ⟨0, _, rfl, Nat.zero_le _, rfl, HO1, HC1, Lib.hid ⟨HB1.out, HC1.out.lt⟩⟩
  case round =>
    obtain ⟨k, V, rfl, hk, rfl, HO, HC, HB⟩ := hrel
    obtain ⟨d0, d1, d2, d3, d4, d5, d6⟩ := HC.out.reads
    by_cases hlt : k < n
    · have hkl : k < cf.insts.length := by rw [← HN.out]; exact hlt
      obtain ⟨b, off, rfl, hcells⟩ := (HI.out.below HB.out.1) (by omega)
      obtain ⟨e0, e1, e2, e3⟩ := hcells k hkl
      have HS := Lib.hid (numsK_succ cf k hkl)
      have HLN : Hid ((numsK cf k).length ≤ 25) := Lib.hid (by have := numsK_len cf k; omega)
      generalize cf.insts.getD k Ins.zero = x at *
      clear hkl hcells
      go_wp2_with (at_builtin; refine wpList_appLs lay_64 rfl (.tmp 17) (.tmp 26) rfl (w.heap.size + 1) _ (numsK cf k) rfl ((HO.out.alloc _).alloc _) _ _ _ (four x) rfl rfl ?c1 ?c2 ?c3 ?c4 ?_)
      case c1 => exact lit_one _ _ _ _ rfl _ (by simp)
      case c2 => have := HLN.out; show ((numsK cf k).length + 4) * 8 ≤ _; omega
      case c3 => have := HLN.out; show (numsK cf k).length + 4 ≤ _; omega
      case c4 => have := HB.out.2; simp; omega
      intro v2 w2 ho2 hg2 _
      have hb2 : Below (w.heap.size + 1) wr w2 := (((Below.refl _ _).alloc HB.out.2 _).alloc (by have := HB.out.2; simp; omega) _).trans (((HO.out.alloc _).alloc _).below hg2 (by have := HB.out.2; simp; omega))
      have HO2 := Lib.hid ho2
      rw [← HS.out] at HO2
      have HC2 : Hid (CfAt w2 w.heap.size cf (.slice (some ⟨b, off, none⟩) n c)) := Lib.hid ((hb2.block w.heap.size (by omega)).trans HC.out)
      have HB2 : Hid (Below w.heap.size w w2 ∧ w.heap.size + 1 ≤ w2.heap.size) := Lib.hid ⟨HB.out.1.trans (hb2.mono (by omega)), Nat.le_trans HB.out.2 hb2.size⟩
      clear ho2 hg2 hb2
      go_wp2
      go_roundw
      case rel => exact ⟨k + 1, _, rfl, by omega, by go_num, HO2, HC2, HB2⟩
      case measure => simp [intOf]; omega
    · obtain rfl : k = n := by omega
      have HLN : Hid ((numsK cf k).length ≤ 25) := Lib.hid (by have := numsK_len cf k; omega)
      go_wp2_with (at_builtin; refine wpList_appLs lay_64 rfl (.tmp 29) (.tmp 42) rfl (w.heap.size + 1) _ (numsK cf k) rfl (HO.out.alloc _) _ _ _ (restL cf) rfl rfl ?c1 ?c2 ?c3 ?c4 ?_)
      case c1 => exact lit_one _ _ _ _ rfl _ rfl
      case c2 => have := HLN.out; show ((numsK cf k).length + 6) * 8 ≤ _; omega
      case c3 => have := HLN.out; show (numsK cf k).length + 6 ≤ _; omega
      case c4 => have := HB.out.2; simp; omega
      intro v2 w2 ho2 hg2 _
      have hb2 : Below (w.heap.size + 1) wr w2 := ((Below.refl _ _).alloc HB.out.2 _).trans ((HO.out.alloc _).below hg2 (by have := HB.out.2; simp; omega))
      have HO2 := Lib.hid (OwnL.lower ho2 (Nat.le_succ w.heap.size))
      have HB2 := Lib.hid (HB.out.1.trans (hb2.mono (by omega)))
      clear ho2 hg2 hb2
      go_wp2
      go_ret
      exact ⟨_, rfl, by rw [← HAL.out, ← HN.out]; exact HO2.out, HB2.out⟩
/-- The bytes of the first j numbers. -/
def numsB (l : List Int) (j : Nat) : List Nat := (l.take j).flatMap numB
theorem numsB_succ (l : List Int) (j : Nat) (h : j < l.length) : numsB l (j + 1) = numsB l j ++ numB (l.getD j 0) := by
  unfold numsB
  rw [List.take_succ_eq_append_getElem h, List.flatMap_append, List.getD_eq_getElem?_getD, List.getElem?_eq_getElem h]
  simp
theorem numsB_len {l : List Int} (h : ∀ x ∈ l, I64 x) (j : Nat) : (numsB l j).length ≤ 10 * l.length := by
  unfold numsB
  have h1 := rest_len (l.take j) (fun x hx => h x (List.mem_of_mem_take hx))
  have h2 := List.length_take_le j l
  rw [List.length_take] at h1 h2
  omega
theorem numsB_all (cf : Cfg) : numsB ((cf.insts.length : Int) :: numsC cf) (cf.insts.length * 4 + 7) = planB cf 6 := by
  unfold numsB
  rw [List.take_of_length_le (by rw [List.length_cons, numsC_len]; omega), List.flatMap_cons, planB_nums]
theorem pnum_own {base : Nat} {v : Value} {l : List Nat} {n : Int} {w : World} (h : OwnB w base v l) (hl : l.length ≤ 1000000) (hn : I64 n) (hb : base ≤ w.heap.size) : Calls Try.prog 45 #[v, .int .i64 n] w fun e w' => ∃ v', e = .returned v' ∧ OwnB w' base v' (l ++ numB n) ∧ Below w.heap.size w w' := by
  obtain ⟨A, c, rfl, hB, _, _, hA, _⟩ := h.form
  refine (pnumber_any A l c n w hB hA (by omega) hn).mono ?_
  rintro e w' ⟨v', rfl, ho, hb'⟩
  exact ⟨v', rfl, ho.base hb, hb'⟩
theorem own64_at {w : World} {base g Z c : Nat} {L : List Int} (h : Own64 w base (.slice (some ⟨g, 0, none⟩) Z c) L) {j : Nat} (hj : j < L.length) : w.cell? ⟨g, j, none⟩ = some (.int .i64 (L.getD j 0)) := by
  obtain ⟨A3, c3, e3, _, _, _, hcs3⟩ := OwnL.form h lay_64
  obtain ⟨g3, rfl, _, _, hcell3⟩ := hcs3 (by omega)
  injection e3 with e3 _ _
  injection e3 with e3
  injection e3 with e3 _ _
  subst e3
  have := (hcell3 j hj 0 (by omega)).1
  rw [Nat.mul_one, Nat.add_zero] at this
  rw [this, getD_at hj]
  rfl
set_option maxRecDepth 8000 in
set_option maxHeartbeats 8000000 in
theorem pputplan_any (cf : Cfg) (ok : CfgI cf) (A : Option Addr) (n c : Nat) (w : World) (hn : n = cf.insts.length) (hI : InsM w A cf.insts) : Calls Try.prog 28 #[cf.v (.slice A n c)] w (BytesK7 w (putP cf).1 (putP cf).2) := by
  have HC0 : Hid (CfAt (w.alloc (.cells (cf.cells (.slice A n c)).toArray 28)) w.heap.size cf (.slice A n c)) := Lib.hid (Rec.new w _ (cf.cells (.slice A n c)) _ rfl)
  have HB0 : Hid (Below w.heap.size w (w.alloc (.cells (cf.cells (.slice A n c)).toArray 28))) := Lib.hid ((Below.refl _ _).alloc (Nat.le_refl _) _)
  have CR := Lib.hid (fun W (h : Below w.heap.size w W) => plright_any cf A n c W hn (hI.below h))
  have CR1 := Lib.hid (CR.out _ HB0.out)
  cases hp : planOk cf with
  | false =>
    rw [show putP cf = ([], 1) from by unfold putP; rw [hp]; rfl]
    rw [hp] at CR1
    have F : Hid (∀ W, Below w.heap.size w W → BytesK7 w [] 1 (.returned (.tuple #[.slice none 0 0, .int .i64 1])) W) := Lib.hid (fun W hW => ⟨_, rfl, ownB_nil W _, hW⟩)
    unfold Cfg.v at CR1 ⊢
    simp only [Cfg.cells] at CR1
    clear hn hI hp CR ok
    go_enter Try.func28, Try.ntmps28
    go_wp2_with (go_at_call 43; (with_reducible refine CR1.out.mono ?_); rintro r w1 ⟨rfl, hb1⟩; have HB1 := Lib.hid hb1; clear hb1)
    go_ret2
    exact F.out _ (HB0.out.trans (HB1.out.mono HB0.out.size))
  | true =>
    have hn6 : n ≤ 6 := by
      rw [hn]
      unfold planOk at hp
      rw [Bool.and_eq_true, Bool.and_eq_true] at hp
      exact of_decide_eq_true hp.1.2
    rw [show putP cf = (planB cf 6, 0) from by unfold putP; rw [hp]; rfl]
    rw [hp] at CR1
    have CN : Hid (∀ W, Below w.heap.size w W → Calls Try.prog 44 #[cf.v (.slice A n c)] W fun e w' => ∃ v, e = .returned v ∧ Own64 w' W.heap.size v ((cf.insts.length : Int) :: numsC cf) ∧ Below W.heap.size W w') := Lib.hid (fun W h => numbers_any cf A n c W hn hn6 (hI.below h))
    have HAL : Hid (numsB ((cf.insts.length : Int) :: numsC cf) (n * 4 + 7) = planB cf 6) := Lib.hid (by rw [hn]; exact numsB_all cf)
    have HII : Hid (∀ x ∈ (cf.insts.length : Int) :: numsC cf, I64 x) := Lib.hid (fun x hx => by
      rcases List.mem_cons.1 hx with rfl | hx
      · unfold I64; omega
      · exact nums_i64 ok x hx)
    have HLL : Hid (((cf.insts.length : Int) :: numsC cf).length = n * 4 + 7) := Lib.hid (by rw [List.length_cons, numsC_len, hn]; omega)
    show Calls _ _ _ _ (BytesK7 w (planB cf 6) 0)
    obtain ⟨L, hL⟩ : ∃ L, L = (cf.insts.length : Int) :: numsC cf := ⟨_, rfl⟩
    rw [← hL] at CN HAL HII HLL
    obtain ⟨Z, hZ⟩ : ∃ Z, Z = n * 4 + 7 := ⟨_, rfl⟩
    rw [← hZ] at HLL HAL
    rw [← HAL.out]
    have hZ31 : Z ≤ 31 := by omega
    have hZ0 : 0 < Z := by omega
    unfold Cfg.v at CR1 CN ⊢
    simp only [Cfg.cells] at CR1
    clear hn hI hp CR ok hL HAL hZ
    go_enter Try.func28, Try.ntmps28
    go_wp2_with (first
      | (go_at_call 43; (with_reducible refine CR1.out.mono ?_); rintro r w1 ⟨rfl, hb1⟩; have HB1 := Lib.hid (HB0.out.trans (hb1.mono HB0.out.size)); have HC1 := Lib.hid (HC0.out.keep hb1); obtain ⟨d0, d1, d2, d3, d4, d5, d6⟩ := HC1.out.reads; clear hb1)
      | (go_at_call 44; (with_reducible refine (CN.out _ HB1.out).mono ?_); rintro r w2 ⟨v2, rfl, ho2, hb2⟩; obtain ⟨A2, c2, rfl, hc2, hc3, hA2, hcs2⟩ := OwnL.form ho2 lay_64; have HO2 := Lib.hid (OwnL.lower ho2 HB1.out.size); have HB2 := Lib.hid (HB1.out.trans (hb2.mono HB1.out.size)); obtain ⟨g2, rfl, hg2, hg3, hcell2⟩ := hcs2 (by rw [HLL.out]; omega); clear ho2 hb2 hcs2 hcell2 hA2; rw [HLL.out] at HO2 hc2; rw [HLL.out]))
    clear CR1 CN HB0 HC0 HC1 HB1 d0 d1 d2 d3 d4 d5 d6
    go_loopw [4, 13] (fun out i wr => ∃ (j : Nat) (V : Value), V = out ∧ j ≤ Z ∧ i = .int .i64 (j : Int) ∧ Hid (OwnB wr w.heap.size V (numsB L j)) ∧ Hid (Own64 wr w.heap.size (.slice (some ⟨g2, 0, none⟩) Z c2) L) ∧ Hid (Below w.heap.size w wr)) (fun _ i _ => Z - (intOf i).toNat)
    case atStart => exact ⟨0, _, rfl, Nat.zero_le _, rfl, Lib.hid (ownB_nil _ _), HO2, HB2⟩
    case round =>
      obtain ⟨j, V, rfl, hj, rfl, HO, HL, HB⟩ := hrel
      by_cases hlt : j < Z
      · have hjl : j < L.length := by rw [HLL.out]; exact hlt
        have hcell := own64_at HL.out hjl
        have CNj := Lib.hid (pnum_own HO.out (by have := numsB_len HII.out j; rw [HLL.out] at this; omega) (HII.out (L.getD j 0) (by rw [List.getD_eq_getElem?_getD, List.getElem?_eq_getElem hjl]; exact List.getElem_mem hjl)) HB.out.size)
        rw [← numsB_succ L j hjl] at CNj
        generalize L.getD j 0 = y at *
        clear hjl
        go_wp2_with (go_at_call 45; (with_reducible refine CNj.out.mono ?_); rintro r w5 ⟨v5, rfl, ho5, hb5⟩; have HO5 := Lib.hid ho5; have HB5 := Lib.hid (HB.out.trans (hb5.mono HB.out.size)); have HL5 := Lib.hid (OwnL.keep HL.out hb5); clear ho5 hb5)
        go_roundw
        case rel => exact ⟨j + 1, _, rfl, by omega, by go_num, HO5, HL5, HB5⟩
        case measure => simp [intOf]; omega
      · obtain rfl : j = Z := by omega
        go_wp2
        go_ret2
        exact ⟨_, rfl, HO.out, HB.out⟩
end Go.Proofs.Ytmpipjangbedkaa
