import Derived.Test.YtmpipjangbedkaaGreatMPq1
import Derived.Test.YtmpipjangbedkaaGreatMPl7
import Derived.Test.YtmpipjangbedkaaGreatMEv4
import Derived.Deep.QuietTactic
import Derived.BigQuiet
/-
  The walks of the program's numbers, Put.
-/
namespace Go.Proofs.YtmpipjangbedkaaGreat
set_option maxRecDepth 8000
open Go Go.RowKit
set_option linter.unusedVariables false

/-- The numbers of the first k instruments, behind how many there are. -/
def numsK (cf : Cfg) (k : Nat) : List Int := (cf.insts.length : Int) :: (cf.insts.take k).flatMap four
theorem numsK_succ (cf : Cfg) (k : Nat) (h : k < cf.insts.length) : numsK cf (k + 1) = numsK cf k ++ four (cf.insts.getD k Ins.zero) := by
  unfold numsK
  rw [List.take_succ_eq_append_getElem h, List.flatMap_append, List.getD_eq_getElem?_getD, List.getElem?_eq_getElem h]
  simp
theorem numsK_all (cf : Cfg) : numsK cf cf.insts.length ++ restL cf = (cf.insts.length : Int) :: numsC cf := by
  unfold numsK numsC
  rw [List.take_length]
  rfl
theorem numsK_len (cf : Cfg) (k : Nat) : (numsK cf k).length ≤ 1 + 4 * k := by
  unfold numsK
  rw [List.length_cons, four_len, List.length_take]
  omega
set_option maxRecDepth 8000 in
set_option maxHeartbeats 8000000 in
theorem numbers_any (cf : Cfg) (A : Option Addr) (n c : Nat) (w : World) (hn : n = cf.insts.length) (h6 : n ≤ 6) (hI : InsM w A cf.insts) : Calls Tryz.prog 74 #[cf.v (.slice A n c)] w fun e w' => ∃ v, e = .returned v ∧ Own64 w' w.heap.size v ((cf.insts.length : Int) :: numsC cf) ∧ Below w.heap.size w w' := by
  have HN := Lib.hid hn
  have HC0 : Hid (CfAt (w.alloc (.cells (cf.cells (.slice A n c)).toArray 31)) w.heap.size cf (.slice A n c)) := Lib.hid (Rec.new w _ (cf.cells (.slice A n c)) _ rfl)
  have hs0 : (w.alloc (.cells (cf.cells (.slice A n c)).toArray 31)).heap.size = w.heap.size + 1 := by simp
  have HC1 : Hid (CfAt ((w.alloc (.cells (cf.cells (.slice A n c)).toArray 31)).alloc (.cells #[.int .i64 (n : Int)] 2)) w.heap.size cf (.slice A n c)) := Lib.hid (CfAt.keep HC0.out ((Below.refl _ _).alloc (Nat.le_refl _) _))
  have HB1 : Hid (Below w.heap.size w ((w.alloc (.cells (cf.cells (.slice A n c)).toArray 31)).alloc (.cells #[.int .i64 (n : Int)] 2))) := Lib.hid (((Below.refl _ _).alloc (Nat.le_refl _) _).alloc (by rw [hs0]; omega) _)
  have HO1 : Hid (Own64 ((w.alloc (.cells (cf.cells (.slice A n c)).toArray 31)).alloc (.cells #[.int .i64 (n : Int)] 2)) (w.heap.size + 1) (.slice (some ⟨w.heap.size + 1, 0, none⟩) 1 1) (numsK cf 0)) := Lib.hid (ownL_lit lay_64 _ _ #[.int .i64 (n : Int)] [(n : Int)] (by rw [hs0]; exact Nat.le_refl _) (by simp) rfl _ hs0.symm _ rfl |> fun h => by
    have e : numsK cf 0 = [(n : Int)] := by unfold numsK; rw [hn]; rfl
    rw [e]; exact h)
  have HI := Lib.hid hI
  have HAL := Lib.hid (numsK_all cf)
  unfold Cfg.v
  simp only [Cfg.cells] at HC1 HB1 HO1
  clear hn hI HC0 hs0
  go_enter Tryz.func74, Tryz.ntmps74
  go_wp2
  go_loopw [3, 13] (fun out i wr => ∃ (k : Nat) (V : Value), V = out ∧ k ≤ n ∧ i = .int .i64 (k : Int) ∧ Hid (Own64 wr (w.heap.size + 1) V (numsK cf k)) ∧ Hid (CfAt wr w.heap.size cf (.slice A n c)) ∧ Hid (Below w.heap.size w wr ∧ w.heap.size + 1 ≤ wr.heap.size)) (fun _ i _ => n - (intOf i).toNat)
  case atStart => exact ⟨0, _, rfl, Nat.zero_le _, rfl, HO1, HC1, Lib.hid ⟨HB1.out, HC1.out.lt⟩⟩
  case round =>
    obtain ⟨k, V, rfl, hk, rfl, HO, HC, HB⟩ := hrel
    obtain ⟨d0, d1, d2, d3, d4, d5, d6⟩ := HC.out.reads
    by_cases hlt : k < n
    · have hkl : k < cf.insts.length := by rw [← HN.out]; exact hlt
      obtain ⟨b, off, rfl, hcells⟩ := (HI.out.below HB.out.1) (by omega)
      obtain ⟨e0, e1, e2, e3⟩ := hcells k hkl
      have HS := Lib.hid (numsK_succ cf k hkl)
      have HLN : Hid ((numsK cf k).length ≤ 25) := Lib.hid (by have := numsK_len cf k; omega)
      generalize cf.insts.getD k Ins.zero = x at *
      clear hkl hcells
      go_wp2_with (at_builtin; refine wpList_appLs lay_64 rfl (.tmp 17) (.tmp 26) rfl (w.heap.size + 1) _ (numsK cf k) rfl ((HO.out.alloc _).alloc _) _ _ _ (four x) rfl rfl ?c1 ?c2 ?c3 ?c4 ?_)
      case c1 => exact lit_one _ _ _ _ rfl _ (by simp)
      case c2 => have := HLN.out; show ((numsK cf k).length + 4) * 8 ≤ _; omega
      case c3 => have := HLN.out; show (numsK cf k).length + 4 ≤ _; omega
      case c4 => have := HB.out.2; simp; omega
      intro v2 w2 ho2 hg2 _
      have hb2 : Below (w.heap.size + 1) wr w2 := (((Below.refl _ _).alloc HB.out.2 _).alloc (by have := HB.out.2; simp; omega) _).trans (((HO.out.alloc _).alloc _).below hg2 (by have := HB.out.2; simp; omega))
      have HO2 := Lib.hid ho2
      rw [← HS.out] at HO2
      have HC2 : Hid (CfAt w2 w.heap.size cf (.slice (some ⟨b, off, none⟩) n c)) := Lib.hid ((hb2.block w.heap.size (by omega)).trans HC.out)
      have HB2 : Hid (Below w.heap.size w w2 ∧ w.heap.size + 1 ≤ w2.heap.size) := Lib.hid ⟨HB.out.1.trans (hb2.mono (by omega)), Nat.le_trans HB.out.2 hb2.size⟩
      clear ho2 hg2 hb2
      go_wp2
      go_roundw
      case rel => exact ⟨k + 1, _, rfl, by omega, by go_num, HO2, HC2, HB2⟩
      case measure => simp [intOf]; omega
    · obtain rfl : k = n := by omega
      have HLN : Hid ((numsK cf k).length ≤ 25) := Lib.hid (by have := numsK_len cf k; omega)
      go_wp2_with (at_builtin; refine wpList_appLs lay_64 rfl (.tmp 29) (.tmp 42) rfl (w.heap.size + 1) _ (numsK cf k) rfl (HO.out.alloc _) _ _ _ (restL cf) rfl rfl ?c1 ?c2 ?c3 ?c4 ?_)
      case c1 => exact lit_one _ _ _ _ rfl _ rfl
      case c2 => have := HLN.out; show ((numsK cf k).length + 6) * 8 ≤ _; omega
      case c3 => have := HLN.out; show (numsK cf k).length + 6 ≤ _; omega
      case c4 => have := HB.out.2; simp; omega
      intro v2 w2 ho2 hg2 _
      have hb2 : Below (w.heap.size + 1) wr w2 := ((Below.refl _ _).alloc HB.out.2 _).trans ((HO.out.alloc _).below hg2 (by have := HB.out.2; simp; omega))
      have HO2 := Lib.hid (OwnL.lower ho2 (Nat.le_succ w.heap.size))
      have HB2 := Lib.hid (HB.out.1.trans (hb2.mono (by omega)))
      clear ho2 hg2 hb2
      go_wp2
      go_ret
      exact ⟨_, rfl, by rw [← HAL.out, ← HN.out]; exact HO2.out, HB2.out⟩
/-- The bytes of the first j numbers. -/
def numsB (l : List Int) (j : Nat) : List Nat := (l.take j).flatMap numB
theorem numsB_succ (l : List Int) (j : Nat) (h : j < l.length) : numsB l (j + 1) = numsB l j ++ numB (l.getD j 0) := by
  unfold numsB
  rw [List.take_succ_eq_append_getElem h, List.flatMap_append, List.getD_eq_getElem?_getD, List.getElem?_eq_getElem h]
  simp
theorem numsB_len {l : List Int} (h : ∀ x ∈ l, I64 x) (j : Nat) : (numsB l j).length ≤ 10 * l.length := by
  unfold numsB
  have h1 := rest_len (l.take j) (fun x hx => h x (List.mem_of_mem_take hx))
  have h2 := List.length_take_le j l
  rw [List.length_take] at h1 h2
  omega
theorem numsB_all (cf : Cfg) : numsB ((cf.insts.length : Int) :: numsC cf) (cf.insts.length * 4 + 7) = planB cf 6 := by
  unfold numsB
  rw [List.take_of_length_le (by rw [List.length_cons, numsC_len]; omega), List.flatMap_cons, planB_nums]
theorem pnum_own {base : Nat} {v : Value} {l : List Nat} {n : Int} {w : World} (h : OwnB w base v l) (hl : l.length ≤ 1000000) (hn : I64 n) (hb : base ≤ w.heap.size) : Calls Tryz.prog 75 #[v, .int .i64 n] w fun e w' => ∃ v', e = .returned v' ∧ OwnB w' base v' (l ++ numB n) ∧ Below w.heap.size w w' := by
  obtain ⟨A, c, rfl, hB, _, _, hA, _⟩ := h.form
  refine (pnumber_any A l c n w hB hA (by omega) hn).mono ?_
  rintro e w' ⟨v', rfl, ho, hb'⟩
  exact ⟨v', rfl, ho.base hb, hb'⟩
theorem own64_at {w : World} {base g Z c : Nat} {L : List Int} (h : Own64 w base (.slice (some ⟨g, 0, none⟩) Z c) L) {j : Nat} (hj : j < L.length) : w.cell? ⟨g, j, none⟩ = some (.int .i64 (L.getD j 0)) := by
  obtain ⟨A3, c3, e3, _, _, _, hcs3⟩ := OwnL.form h lay_64
  obtain ⟨g3, rfl, _, _, hcell3⟩ := hcs3 (by omega)
  injection e3 with e3 _ _
  injection e3 with e3
  injection e3 with e3 _ _
  subst e3
  have := (hcell3 j hj 0 (by omega)).1
  rw [Nat.mul_one, Nat.add_zero] at this
  rw [this, getD_at hj]
  rfl
set_option maxRecDepth 8000 in
set_option maxHeartbeats 8000000 in
theorem pputplan_any (cf : Cfg) (ok : CfgI cf) (A : Option Addr) (n c : Nat) (w : World) (hn : n = cf.insts.length) (hI : InsM w A cf.insts) : Calls Tryz.prog 56 #[cf.v (.slice A n c)] w (BytesK7 w (putP cf).1 (putP cf).2) := by
  have HC0 : Hid (CfAt (w.alloc (.cells (cf.cells (.slice A n c)).toArray 31)) w.heap.size cf (.slice A n c)) := Lib.hid (Rec.new w _ (cf.cells (.slice A n c)) _ rfl)
  have HB0 : Hid (Below w.heap.size w (w.alloc (.cells (cf.cells (.slice A n c)).toArray 31))) := Lib.hid ((Below.refl _ _).alloc (Nat.le_refl _) _)
  have CR := Lib.hid (fun W (h : Below w.heap.size w W) => plright_any cf A n c W hn (hI.below h))
  have CR1 := Lib.hid (CR.out _ HB0.out)
  cases hp : planOk cf with
  | false =>
    rw [show putP cf = ([], 1) from by unfold putP; rw [hp]; rfl]
    rw [hp] at CR1
    have F : Hid (∀ W, Below w.heap.size w W → BytesK7 w [] 1 (.returned (.tuple #[.slice none 0 0, .int .i64 1])) W) := Lib.hid (fun W hW => ⟨_, rfl, ownB_nil W _, hW⟩)
    unfold Cfg.v at CR1 ⊢
    simp only [Cfg.cells] at CR1
    clear hn hI hp CR ok
    go_enter Tryz.func56, Tryz.ntmps56
    go_wp2_with (go_at_call 73; (with_reducible refine CR1.out.mono ?_); rintro r w1 ⟨rfl, hb1⟩; have HB1 := Lib.hid hb1; clear hb1)
    go_ret2
    exact F.out _ (HB0.out.trans (HB1.out.mono HB0.out.size))
  | true =>
    have hn6 : n ≤ 6 := by
      rw [hn]
      unfold planOk at hp
      rw [Bool.and_eq_true, Bool.and_eq_true] at hp
      exact of_decide_eq_true hp.1.2
    rw [show putP cf = (planB cf 6, 0) from by unfold putP; rw [hp]; rfl]
    rw [hp] at CR1
    have CN : Hid (∀ W, Below w.heap.size w W → Calls Tryz.prog 74 #[cf.v (.slice A n c)] W fun e w' => ∃ v, e = .returned v ∧ Own64 w' W.heap.size v ((cf.insts.length : Int) :: numsC cf) ∧ Below W.heap.size W w') := Lib.hid (fun W h => numbers_any cf A n c W hn hn6 (hI.below h))
    have HAL : Hid (numsB ((cf.insts.length : Int) :: numsC cf) (n * 4 + 7) = planB cf 6) := Lib.hid (by rw [hn]; exact numsB_all cf)
    have HII : Hid (∀ x ∈ (cf.insts.length : Int) :: numsC cf, I64 x) := Lib.hid (fun x hx => by
      rcases List.mem_cons.1 hx with rfl | hx
      · unfold I64; omega
      · exact nums_i64 ok x hx)
    have HLL : Hid (((cf.insts.length : Int) :: numsC cf).length = n * 4 + 7) := Lib.hid (by rw [List.length_cons, numsC_len, hn]; omega)
    show Calls _ _ _ _ (BytesK7 w (planB cf 6) 0)
    obtain ⟨L, hL⟩ : ∃ L, L = (cf.insts.length : Int) :: numsC cf := ⟨_, rfl⟩
    rw [← hL] at CN HAL HII HLL
    obtain ⟨Z, hZ⟩ : ∃ Z, Z = n * 4 + 7 := ⟨_, rfl⟩
    rw [← hZ] at HLL HAL
    rw [← HAL.out]
    have hZ31 : Z ≤ 31 := by omega
    have hZ0 : 0 < Z := by omega
    unfold Cfg.v at CR1 CN ⊢
    simp only [Cfg.cells] at CR1
    clear hn hI hp CR ok hL HAL hZ
    go_enter Tryz.func56, Tryz.ntmps56
    go_wp2_with (first
      | (go_at_call 73; (with_reducible refine CR1.out.mono ?_); rintro r w1 ⟨rfl, hb1⟩; have HB1 := Lib.hid (HB0.out.trans (hb1.mono HB0.out.size)); have HC1 := Lib.hid (HC0.out.keep hb1); obtain ⟨d0, d1, d2, d3, d4, d5, d6⟩ := HC1.out.reads; clear hb1)
      | (go_at_call 74; (with_reducible refine (CN.out _ HB1.out).mono ?_); rintro r w2 ⟨v2, rfl, ho2, hb2⟩; obtain ⟨A2, c2, rfl, hc2, hc3, hA2, hcs2⟩ := OwnL.form ho2 lay_64; have HO2 := Lib.hid (OwnL.lower ho2 HB1.out.size); have HB2 := Lib.hid (HB1.out.trans (hb2.mono HB1.out.size)); obtain ⟨g2, rfl, hg2, hg3, hcell2⟩ := hcs2 (by rw [HLL.out]; omega); clear ho2 hb2 hcs2 hcell2 hA2; rw [HLL.out] at HO2 hc2; rw [HLL.out]))
    clear CR1 CN HB0 HC0 HC1 HB1 d0 d1 d2 d3 d4 d5 d6
    go_loopw [4, 13] (fun out i wr => ∃ (j : Nat) (V : Value), V = out ∧ j ≤ Z ∧ i = .int .i64 (j : Int) ∧ Hid (OwnB wr w.heap.size V (numsB L j)) ∧ Hid (Own64 wr w.heap.size (.slice (some ⟨g2, 0, none⟩) Z c2) L) ∧ Hid (Below w.heap.size w wr)) (fun _ i _ => Z - (intOf i).toNat)
    case atStart => exact ⟨0, _, rfl, Nat.zero_le _, rfl, Lib.hid (ownB_nil _ _), HO2, HB2⟩
    case round =>
      obtain ⟨j, V, rfl, hj, rfl, HO, HL, HB⟩ := hrel
      by_cases hlt : j < Z
      · have hjl : j < L.length := by rw [HLL.out]; exact hlt
        have hcell := own64_at HL.out hjl
        have CNj := Lib.hid (pnum_own HO.out (by have := numsB_len HII.out j; rw [HLL.out] at this; omega) (HII.out (L.getD j 0) (by rw [List.getD_eq_getElem?_getD, List.getElem?_eq_getElem hjl]; exact List.getElem_mem hjl)) HB.out.size)
        rw [← numsB_succ L j hjl] at CNj
        generalize L.getD j 0 = y at *
        clear hjl
        go_wp2_with (go_at_call 75; (with_reducible refine CNj.out.mono ?_); rintro r w5 ⟨v5, rfl, ho5, hb5⟩; have HO5 := Lib.hid ho5; have HB5 := Lib.hid (HB.out.trans (hb5.mono HB.out.size)); have HL5 := Lib.hid (OwnL.keep HL.out hb5); clear ho5 hb5)
        go_roundw
        case rel => exact ⟨j + 1, _, rfl, by omega, by go_num, HO5, HL5, HB5⟩
        case measure => simp [intOf]; omega
      · obtain rfl : j = Z := by omega
        go_wp2
        go_ret2
        exact ⟨_, rfl, HO.out, HB.out⟩
end Go.Proofs.YtmpipjangbedkaaGreat

/-
  The walks of the program's plan.unfolded, firstNumber, firstInst.
-/
namespace Go.Proofs.YtmpipjangbedkaaGreat
set_option maxRecDepth 8000
open Go Go.RowKit
set_option linter.unusedVariables false

set_option maxRecDepth 8000 in
set_option maxHeartbeats 2000000 in
theorem plunfolded_any (u : Nat) (hu : u < 18446744073709551616) (w : World) : Calls Tryz.prog 103 #[.int .u64 (u : Int)] w fun e w' => e = .returned (.int .i64 (unzig u)) ∧ w = w' := by
  obtain ⟨H, hH⟩ : ∃ H, H = u / 2 := ⟨_, rfl⟩
  have hhalf : (u : Int) / 2 = (H : Int) := by omega
  have hH63 : H < 9223372036854775808 := by omega
  have hw : IntKind.i64.wrap (H : Int) = (H : Int) := by simp [IntKind.wrap, IntKind.bits, IntKind.signed]; omega
  have hpar : bits .and .u64 (u : Int) 1 = ((u % 2 : Nat) : Int) := by
    rw [show (1 : Int) = ((1 : Nat) : Int) from rfl, u64_and_nat u 1 hu (by omega)]
    have : u &&& 1 = u % 2 := Nat.and_two_pow_sub_one_eq_mod u 1
    rw [this]
  have hnot := not_pos H hH63
  by_cases hodd : u % 2 = 1
  · rw [show unzig u = -(H : Int) - 1 from by unfold unzig; rw [if_pos hodd, hH]]
    rw [hodd] at hpar
    clear hH hodd
    go_enter Tryz.func103, Tryz.ntmps103
    go_wp2
    go_ret
    exact ⟨by first | rfl | (rw [hnot]; rfl), rfl⟩
  · rw [show unzig u = (H : Int) from by unfold unzig; rw [if_neg hodd, hH]]
    rw [show u % 2 = 0 by omega] at hpar
    clear hH hodd hnot
    go_enter Tryz.func103, Tryz.ntmps103
    go_wp2
    go_ret
    exact ⟨rfl, rfl⟩
theorem andnot_128 (C : Nat) (h : C < 256) : bits .andNot .u8 (C : Int) 128 = ((C % 128 : Nat) : Int) := by
  rw [show (128 : Int) = ((128 : Nat) : Int) from rfl, u8_andNot_nat C 128 h (by omega)]
  have : C &&& 127 = C % 128 := Nat.and_two_pow_sub_one_eq_mod C 7
  rw [this]
theorem rdn_at {b : List Nat} {k U : Nat} (hk : k < 10) (h : k < b.length) : rdn b 0 (10 - k) k U = (if (k = 9 ∧ 1 < b.getD k 0) ∨ (b.getD k 0 = 0 ∧ 0 < k) then none else if b.getD k 0 < 128 then some (U + b.getD k 0 % 128 * 128 ^ k, k + 1) else rdn b 0 (10 - (k + 1)) (k + 1) (U + b.getD k 0 % 128 * 128 ^ k)) := by
  rw [show 10 - k = (10 - (k + 1)) + 1 by omega]
  rw [rdn]
  simp only [Nat.zero_add]
  rw [if_pos h]
theorem rdn_out {b : List Nat} {k U : Nat} (h : ¬ k < b.length) : rdn b 0 (10 - k) k U = none := by
  cases hf : 10 - k with
  | zero => rfl
  | succ f => rw [rdn]; simp only [Nat.zero_add]; rw [if_neg h]
theorem getD_drop (b : List Nat) (a i : Nat) : (b.drop a).getD i 0 = b.getD (a + i) 0 := by
  rw [List.getD_eq_getElem?_getD, List.getD_eq_getElem?_getD, List.getElem?_drop]
theorem oct_drop {b : List Nat} (h : Oct b) (a : Nat) : Oct (b.drop a) := fun x hx => h x (List.mem_of_mem_drop hx)
theorem byts_drop {w : World} {bb off a : Nat} {b : List Nat} (h : Byts w (some ⟨bb, off, none⟩) b) : Byts w (some ⟨bb, off + a, none⟩) (b.drop a) := by
  intro hl
  rw [List.length_drop] at hl
  obtain ⟨b', o', e, hc⟩ := h (by omega)
  injection e with e; injection e with e1 e2; subst e1; subst e2
  refine ⟨_, _, rfl, fun i hi => ?_⟩
  rw [List.length_drop] at hi
  rw [getD_drop, Nat.add_assoc]
  exact hc (a + i) (by omega)
theorem byts_none (w : World) (A : Option Addr) {b : List Nat} (h : b.length = 0) : Byts w A b := fun hl => by omega

/-- A number at the beginning, if there is one, and what is behind it. -/
def FN (l : List Nat) (v : Int) (l' : List Nat) : Prop := I64 v ∧ ∀ x r, I64 x → l = numB x ++ r → v = x ∧ l' = r
/-- What firstNumber answers. -/
def FNK (w : World) (A : Option Addr) (l : List Nat) (e : Ending) (w' : World) : Prop :=
  ∃ v A' l' c' m, e = .returned (.tuple #[.int .i64 v, .slice A' l'.length c']) ∧ w' = w.drewN m ∧ (∀ W, Byts W A l → Byts W A' l') ∧ Oct l' ∧ l'.length ≤ l.length ∧ l'.length ≤ c' ∧ FN l v l'
theorem shl_nat (y k : Nat) (hy : y < 128) : ∃ Y : Nat, IntKind.u64.wrap ((y : Int) * 2 ^ min (7 * (k : Int)).toNat IntKind.u64.bits) = (Y : Int) ∧ Y < 18446744073709551616 ∧ (y * 128 ^ k < 18446744073709551616 → Y = y * 128 ^ k) := by
  obtain ⟨z, hz⟩ : ∃ z, z = y * 2 ^ min (7 * (k : Int)).toNat IntKind.u64.bits := ⟨_, rfl⟩
  have e1 : (y : Int) * 2 ^ min (7 * (k : Int)).toNat IntKind.u64.bits = (z : Int) := by rw [hz]; simp
  rw [e1]
  refine ⟨z % 18446744073709551616, by simp [IntKind.wrap, IntKind.bits, IntKind.signed], by omega, fun h => ?_⟩
  have h128 : 128 ^ k = 2 ^ (7 * k) := by rw [Nat.pow_mul]
  have hb : IntKind.u64.bits = 64 := rfl
  rw [hb, show (7 * (k : Int)).toNat = 7 * k by omega] at hz
  rcases Nat.lt_or_ge k 10 with h10 | h10
  · rw [Nat.min_eq_left (by omega)] at hz
    rw [h128] at h ⊢
    omega
  · have h2 : (128 : Nat) ^ 10 ≤ 128 ^ k := Nat.pow_le_pow_right (by omega) h10
    have h3 : (128 : Nat) ^ 10 = 1180591620717411303424 := by decide
    rcases Nat.eq_zero_or_pos y with h0 | h0
    · rw [h0, Nat.zero_mul] at hz; rw [h0, hz, Nat.zero_mul]
    · have h4 : 1 * 128 ^ k ≤ y * 128 ^ k := Nat.mul_le_mul_right _ h0
      omega
theorem or_nat (U Y y k : Nat) (hU : U < 18446744073709551616) (hY : Y < 18446744073709551616) : ∃ V : Nat, bits .or .u64 (U : Int) (Y : Int) = (V : Int) ∧ V < 18446744073709551616 ∧ (U < 128 ^ k → Y = y * 128 ^ k → U + y * 128 ^ k < 18446744073709551616 → V = U + y * 128 ^ k) := by
  refine ⟨U ||| Y, u64_or_nat U Y hU hY, Nat.or_lt_two_pow (n := 64) hU hY, fun h1 h2 h3 => ?_⟩
  have := or_high U y k h1 h3
  rw [← h2, u64_or_nat U Y hU hY] at this
  rw [← h2]
  omega
/-- Where the number is being read. -/
def InvN (l : List Nat) (k U : Nat) : Prop := ∀ x r, I64 x → l = numB x ++ r → ∃ u p, rdn l 0 (10 - k) k U = some (u, p) ∧ unzig u = x ∧ l.drop p = r ∧ U < 128 ^ k
theorem invN_start (l : List Nat) : InvN l 0 0 := by
  intro x r hx hl
  have h := readN_put (b := l) (a := 0) (r := r) hx (by rw [List.drop_zero]; exact hl)
  unfold readN at h
  cases hr : rdn l 0 10 0 0 with
  | none => rw [hr] at h; cases h
  | some y =>
    obtain ⟨u, p⟩ := y
    rw [hr] at h
    injection h with h
    injection h with h1 h2
    refine ⟨u, p, rfl, h1, ?_, by simp⟩
    simp only at h2
    rw [h2, hl, Nat.zero_add, List.drop_left]
theorem invN_out {l : List Nat} {k U : Nat} (h : InvN l k U) (hk : ¬ k < l.length) : ∀ x r, I64 x → ¬ l = numB x ++ r := by
  intro x r hx hl
  obtain ⟨u, p, hr, _⟩ := h x r hx hl
  rw [rdn_out hk] at hr
  cases hr
theorem invN_step {l : List Nat} {k U C y Y V : Nat} (h : InvN l k U) (hk : k < l.length) (hC : C = l.getD k 0) (hC8 : C < 256) (hy : y = C % 128) (hYe : y * 128 ^ k < 18446744073709551616 → Y = y * 128 ^ k) (hVe : U < 128 ^ k → Y = y * 128 ^ k → U + y * 128 ^ k < 18446744073709551616 → V = U + y * 128 ^ k) :
    (C < 128 → ∀ x r, I64 x → l = numB x ++ r → unzig V = x ∧ l.drop (k + 1) = r) ∧ (¬ C < 128 → InvN l (k + 1) V) := by
  have key : ∀ x r, I64 x → l = numB x ++ r → ∃ u p, (if C < 128 then some (V, k + 1) else rdn l 0 (10 - (k + 1)) (k + 1) V) = some (u, p) ∧ unzig u = x ∧ l.drop p = r ∧ V < 128 ^ (k + 1) := by
    intro x r hx hl
    obtain ⟨u, p, hr, h1, h2, h3⟩ := h x r hx hl
    have hk10 : k < 10 := by
      rcases Nat.lt_or_ge k 10 with h | h
      · exact h
      · rw [show 10 - k = 0 by omega] at hr; cases hr
    rw [rdn_at hk10 hk, ← hC] at hr
    by_cases hA : (k = 9 ∧ 1 < C) ∨ (C = 0 ∧ 0 < k)
    · rw [if_pos hA] at hr; cases hr
    · rw [if_neg hA] at hr
      have hy128 : y ≤ 127 := by omega
      have hV63 : U + y * 128 ^ k < 128 ^ (k + 1) := by
        rw [Nat.pow_succ]
        have : y * 128 ^ k ≤ 127 * 128 ^ k := Nat.mul_le_mul_right _ hy128
        omega
      have hV64 : U + y * 128 ^ k < 18446744073709551616 := by
        rcases Nat.lt_or_ge k 9 with h9 | h9
        · have : (128 : Nat) ^ (k + 1) ≤ 128 ^ 9 := Nat.pow_le_pow_right (by omega) (by omega)
          have h9' : (128 : Nat) ^ 9 = 9223372036854775808 := by decide
          omega
        · obtain rfl : k = 9 := by omega
          have h9' : (128 : Nat) ^ 9 = 9223372036854775808 := by decide
          rw [h9'] at h3 ⊢
          have : y ≤ 1 := by omega
          omega
      have hV := hVe h3 (hYe (by omega)) hV64
      rw [← hy, ← hV] at hr
      rw [← hV] at hV63
      exact ⟨u, p, hr, h1, h2, hV63⟩
  constructor
  · intro hgo x r hx hl
    obtain ⟨u, p, hr, h1, h2, h3⟩ := key x r hx hl
    rw [if_pos hgo] at hr
    injection hr with hr
    injection hr with e1 e2
    subst e1; subst e2
    exact ⟨h1, h2⟩
  · intro hgo x r hx hl
    obtain ⟨u, p, hr, h1, h2, h3⟩ := key x r hx hl
    rw [if_neg hgo] at hr
    exact ⟨u, p, hr, h1, h2, h3⟩
set_option maxRecDepth 8000 in
set_option maxHeartbeats 4000000 in
theorem pfirst_any (A : Option Addr) (l : List Nat) (n c : Nat) (w : World) (hn : n = l.length) (hB : Byts w A l) (hO : Oct l) (hl : n ≤ 1000000000000) (hcl : n ≤ c) : Calls Tryz.prog 96 #[.slice A n c] w (FNK w A l) := by
  have HN := Lib.hid hn
  have HB := Lib.hid hB
  have HO := Lib.hid hO
  have HI0 := Lib.hid (invN_start l)
  clear hn hB hO
  go_enter Tryz.func96, Tryz.ntmps96
  go_wp2
  go_loop [4, 9] (fun u i => ∃ (U k : Nat), k ≤ n ∧ u = .int .u64 (U : Int) ∧ i = .int .i64 (k : Int) ∧ U < 18446744073709551616 ∧ Hid (InvN l k U)) (fun _ i => n - (intOf i).toNat)
  case atStart => exact ⟨0, 0, Nat.zero_le _, rfl, rfl, by omega, HI0⟩
  case round =>
    obtain ⟨U, k, hk, rfl, rfl, hU2, HV0⟩ := hrel
    by_cases hlt : k < n
    · obtain ⟨bb, off, rfl, hc⟩ := HB.out (by rw [← HN.out]; omega)
      have hcell := hc k (by rw [← HN.out]; exact hlt)
      have hkl : k < l.length := by rw [← HN.out]; exact hlt
      obtain ⟨C, hC⟩ : ∃ C, C = l.getD k 0 := ⟨_, rfl⟩
      have hC8 : C < 256 := by
        rw [hC]
        have : l.getD k 0 ∈ l := by rw [List.getD_eq_getElem?_getD, List.getElem?_eq_getElem hkl]; exact List.getElem_mem _
        have := HO.out _ this; omega
      rw [← hC] at hcell
      obtain ⟨y, hy⟩ : ∃ y, y = C % 128 := ⟨_, rfl⟩
      obtain ⟨Y, hshl, hY64, hYe⟩ := shl_nat y k (by omega)
      obtain ⟨V, hor, hV64, hVe⟩ := or_nat U Y y k hU2 hY64
      have hk0 : (0 : Int) ≤ 7 * (k : Int) := by omega
      have hsh : ∀ W : World, (Op.shift .shl .u64 (y : Int) .i64 (7 * (k : Int))).run Tryz.prog W = .ok (.int .u64 (Y : Int)) W := fun W => by rw [shift_shl_any _ _ _ _ hk0, hshl]; rfl
      clear hk0 hshl
      have hand : bits .andNot .u8 (C : Int) 128 = (y : Int) := by rw [andnot_128 C hC8, hy]
      have hwy : IntKind.u64.wrap (y : Int) = (y : Int) := by simp [IntKind.wrap, IntKind.bits, IntKind.signed]; omega
      have hstep := invN_step HV0.out hkl hC hC8 hy hYe hVe
      have HST := Lib.hid hstep
      have CU1 := Lib.hid (fun j => (plunfolded_any V hV64 (w.drewN j)).mono (fun e w' (x : _ ∧ _) => (⟨x.1, j, x.2.symm⟩ : _ ∧ ∃ m, w' = w.drewN m)))
      clear hstep hC hy hYe hVe hc hkl
      by_cases hgo : C < 128
      · obtain ⟨AX, hAX⟩ : ∃ AX : Option Addr, (if c = k + 1 then (some ⟨bb, off, none⟩ : Option Addr) else some ⟨bb, off + (k + 1), none⟩) = AX := ⟨_, rfl⟩
        have HAX : Hid (∀ W, Byts W (some ⟨bb, off, none⟩) l → Byts W AX (l.drop (k + 1))) := Lib.hid (fun W hW => by
          by_cases hcap : c = k + 1
          · exact byts_none _ _ (by rw [List.length_drop, ← HN.out]; omega)
          · rw [if_neg hcap] at hAX; rw [← hAX]; exact byts_drop (a := k + 1) hW)
        have HFN : Hid (FN l (unzig V) (l.drop (k + 1))) := Lib.hid ⟨unzig_i64 hV64, fun x r hx h => HST.out.1 hgo x r hx h⟩
        generalize unzig V = z at *
        clear HST
        go_wp2
        go_quiet (first
          | (go_at_call 103; with_reducible exact CU1.out _))
        go_wp2
        go_ret2
        exact ⟨z, AX, l.drop (k + 1), c - (k + 1), nq, by rw [List.length_drop, ← HN.out]; rfl, rfl, HAX.out, oct_drop HO.out _, by rw [List.length_drop]; exact Nat.sub_le _ _, by rw [List.length_drop, ← HN.out]; omega, HFN.out⟩
      · have HI2 := Lib.hid (HST.out.2 hgo)
        go_wp2
        go_round
        case rel => exact ⟨V, k + 1, by omega, rfl, by go_num, hV64, HI2⟩
        case measure => simp [intOf]; omega
    · have HX := Lib.hid (invN_out HV0.out (by rw [← HN.out]; exact hlt))
      go_wp2
      go_ret2
      exact ⟨0, none, [], 0, 0, rfl, rfl, (fun _ _ => byts_none _ _ rfl), (fun x hx => (List.not_mem_nil hx).elim), Nat.zero_le _, Nat.zero_le _, by unfold I64; omega, fun x r hx h => (HX.out x r hx h).elim⟩
def InsI (x : Ins) : Prop := I64 x.bucket ∧ I64 x.price ∧ I64 x.rate ∧ I64 x.slip
theorem fn_four {l l1 l2 l3 l4 : List Nat} {a b c d : Int} (h1 : FN l a l1) (h2 : FN l1 b l2) (h3 : FN l2 c l3) (h4 : FN l3 d l4) : InsI ⟨a, b, c, d⟩ ∧ ∀ y r, InsI y → l = insB y ++ r → (⟨a, b, c, d⟩ : Ins) = y ∧ l4 = r := by
  refine ⟨⟨h1.1, h2.1, h3.1, h4.1⟩, fun y r hy hl => ?_⟩
  obtain ⟨y0, y1, y2, y3⟩ := y
  unfold insB at hl
  simp only [List.append_assoc] at hl
  obtain ⟨e1, r1⟩ := h1.2 _ _ hy.1 hl
  obtain ⟨e2, r2⟩ := h2.2 _ _ hy.2.1 r1
  obtain ⟨e3, r3⟩ := h3.2 _ _ hy.2.2.1 r2
  obtain ⟨e4, r4⟩ := h4.2 _ _ hy.2.2.2 r3
  exact ⟨by rw [e1, e2, e3, e4], r4⟩
/-- What firstInst answers. -/
def FIK (w : World) (A : Option Addr) (l : List Nat) (e : Ending) (w' : World) : Prop :=
  ∃ x A' l' c', e = .returned (.tuple #[Ins.v x, .slice A' l'.length c']) ∧ Below w.heap.size w w' ∧ (∀ W, Byts W A l → Byts W A' l') ∧ Oct l' ∧ l'.length ≤ l.length ∧ l'.length ≤ c' ∧ InsI x ∧ ∀ y r, InsI y → l = insB y ++ r → x = y ∧ l' = r
theorem below_set {B b : Nat} {w W : World} (h : Below B w W) (hb : B ≤ b) (i : Nat) (u : Value) : Below B w (W.setCell ⟨b, i, none⟩ u) := touch_below h hb (Touch.setCell W ⟨b, i, none⟩ u) (by simp [World.setCell])
set_option maxRecDepth 8000 in
set_option maxHeartbeats 4000000 in
theorem pinst_any (A : Option Addr) (l : List Nat) (n c : Nat) (w : World) (hn : n = l.length) (hB : Byts w A l) (hO : Oct l) (hl : n ≤ 1000000000000) (hcl : n ≤ c) : Calls Tryz.prog 97 #[.slice A n c] w (FIK w A l) := by
  subst hn
  have CF : Hid (∀ A l c W, Byts W A l → Oct l → l.length ≤ 1000000000000 → l.length ≤ c → Calls Tryz.prog 96 #[.slice A l.length c] W (FNK W A l)) := Lib.hid (fun A l c W h1 h2 h3 h4 => pfirst_any A l _ c W rfl h1 h2 h3 h4)
  have HBy := Lib.hid hB
  have HO0 := Lib.hid hO
  have HL0 := Lib.hid hl
  have HC0 := Lib.hid hcl
  have HB0 : Hid (Below w.heap.size w ((w.alloc (.cells #[.int .i64 0, .int .i64 0, .int .i64 0, .int .i64 0] 70)).alloc (.cells #[.int .i64 0, .int .i64 0, .int .i64 0, .int .i64 0] 70))) := Lib.hid (((Below.refl _ _).alloc (Nat.le_refl _) _).alloc (by simp) _)
  have hs : (w.alloc (.cells #[.int .i64 0, .int .i64 0, .int .i64 0, .int .i64 0] 70)).heap.size = w.heap.size + 1 := by simp
  clear hB hO hl hcl
  go_enter Tryz.func97, Tryz.ntmps97
  go_wp2_with (first
    | (go_at_call 96; (with_reducible refine (CF.out A3 l3 c3 _ (HY3.out.below HB3.out) HO3.out HL3.out HC3.out).mono ?_); rintro r _ ⟨v4, A4, l4, c4, m4, rfl, rfl, hy4, ho4, hl4, hc4, hf4⟩; have HY4 := Lib.hid (hy4 _ HY3.out); have HT4 := Lib.hid (fun W (h : Byts W A l) => hy4 W (HT3.out W h)); have HO4 := Lib.hid ho4; have HM4 : Hid (l4.length ≤ l.length) := Lib.hid (Nat.le_trans hl4 HM3.out); have HL4 : Hid (l4.length ≤ 1000000000000) := Lib.hid (Nat.le_trans HM4.out HL0.out); have HC4 := Lib.hid hc4; have HF4 := Lib.hid hf4; have HB4 := Lib.hid (below_set (below_drewN HB3.out m4) (Nat.le_succ w.heap.size) 3 (.int .i64 v4)); clear hy4 ho4 hl4 hc4 hf4)
    | (go_at_call 96; (with_reducible refine (CF.out A2 l2 c2 _ (HY2.out.below HB2.out) HO2.out HL2.out HC2.out).mono ?_); rintro r _ ⟨v3, A3, l3, c3, m3, rfl, rfl, hy3, ho3, hl3, hc3, hf3⟩; have HY3 := Lib.hid (hy3 _ HY2.out); have HT3 := Lib.hid (fun W (h : Byts W A l) => hy3 W (HT2.out W h)); have HO3 := Lib.hid ho3; have HM3 : Hid (l3.length ≤ l.length) := Lib.hid (Nat.le_trans hl3 HM2.out); have HL3 : Hid (l3.length ≤ 1000000000000) := Lib.hid (Nat.le_trans HM3.out HL0.out); have HC3 := Lib.hid hc3; have HF3 := Lib.hid hf3; have HB3 := Lib.hid (below_set (below_drewN HB2.out m3) (Nat.le_succ w.heap.size) 2 (.int .i64 v3)); clear hy3 ho3 hl3 hc3 hf3)
    | (go_at_call 96; (with_reducible refine (CF.out A1 l1 c1 _ (HY1.out.below HB1.out) HO1.out HL1.out HC1.out).mono ?_); rintro r _ ⟨v2, A2, l2, c2, m2, rfl, rfl, hy2, ho2, hl2, hc2, hf2⟩; have HY2 := Lib.hid (hy2 _ HY1.out); have HT2 := Lib.hid (fun W (h : Byts W A l) => hy2 W (HT1.out W h)); have HO2 := Lib.hid ho2; have HM2 : Hid (l2.length ≤ l.length) := Lib.hid (Nat.le_trans hl2 HM1.out); have HL2 : Hid (l2.length ≤ 1000000000000) := Lib.hid (Nat.le_trans HM2.out HL0.out); have HC2 := Lib.hid hc2; have HF2 := Lib.hid hf2; have HB2 := Lib.hid (below_set (below_drewN HB1.out m2) (Nat.le_succ w.heap.size) 1 (.int .i64 v2)); clear hy2 ho2 hl2 hc2 hf2)
    | (go_at_call 96; (with_reducible refine (CF.out A l c _ (HBy.out.below HB0.out) HO0.out HL0.out HC0.out).mono ?_); rintro r _ ⟨v1, A1, l1, c1, m1, rfl, rfl, hy1, ho1, hl1, hc1, hf1⟩; have HY1 := Lib.hid (hy1 _ HBy.out); have HT1 := Lib.hid (fun W (h : Byts W A l) => hy1 W (h)); have HO1 := Lib.hid ho1; have HM1 : Hid (l1.length ≤ l.length) := Lib.hid (hl1); have HL1 : Hid (l1.length ≤ 1000000000000) := Lib.hid (Nat.le_trans HM1.out HL0.out); have HC1 := Lib.hid hc1; have HF1 := Lib.hid hf1; have HB1 := Lib.hid (below_set (below_drewN HB0.out m1) (Nat.le_succ w.heap.size) 0 (.int .i64 v1)); clear hy1 ho1 hl1 hc1 hf1))
  have HX := Lib.hid (fn_four HF1.out HF2.out HF3.out HF4.out)
  have HB5 := Lib.hid (below_set (below_set (below_set (below_set HB4.out (Nat.le_refl _) 0 (.int .i64 v1)) (Nat.le_refl _) 1 (.int .i64 v2)) (Nat.le_refl _) 2 (.int .i64 v3)) (Nat.le_refl _) 3 (.int .i64 v4))
  refine bodyPost_ret (v := .tuple #[.agg #[.int .i64 v1, .int .i64 v2, .int .i64 v3, .int .i64 v4], .slice A4 l4.length c4]) (by simp [results, Tryz.results97, go_sem]) rfl ?_
  exact ⟨⟨v1, v2, v3, v4⟩, A4, l4, c4, rfl, HB5.out, HT4.out, HO4.out, HM4.out, HC4.out, HX.out⟩
end Go.Proofs.YtmpipjangbedkaaGreat
