/-
  The walks of package roll's Right, Status, Find, House, Owned.
-/
import Derived.Test.YtjlhmiajklddiaaRq1
import Derived.Test.YtjlhmiajklddiaaRq5
namespace Go.Proofs.Ytjlhmiajklddiaa
set_option maxRecDepth 8000
open Go Go.RowKit
set_option linter.unusedVariables false

theorem isAt_mem {m : List SMember} (h : membersOk m = true) (id : Int) : isAt SMember.id m id = !(memS m id == 0) := by
  cases hi : isAt SMember.id m id with
  | true =>
    obtain ⟨_, _, _, hne⟩ := memS_at h hi
    rw [beq_eq_false_iff_ne.2 hne]; rfl
  | false => rw [memS_no hi]; rfl
theorem rise_accs {l : List SAcc} (h : accsOk l = true) : Rise SAcc.id l := by
  refine rise_of (fun i hi => ?_)
  have := allTo_at h (i := i + 1) hi
  unfold accAt at this
  rw [Bool.and_eq_true] at this
  have := this.1
  rw [accB_eq] at this
  unfold lastA at this
  rw [if_neg (Nat.succ_ne_zero i), Nat.add_sub_cancel, SAcc.at (x := SAcc.zero) hi, SAcc.at (x := SAcc.zero) (show i < l.length by omega)] at this
  simp at this
  omega
theorem accF_at {l : List SAcc} {id : Int} (h : accsOk l = true) (hi : isAt SAcc.id l id = true) : ∃ hp : plc SAcc.id l id < l.length, (l.getD (plc SAcc.id l id) SAcc.zero).id = id ∧ accF l id = some (l.getD (plc SAcc.id l id) SAcc.zero) := by
  obtain ⟨hp, he, hf⟩ := isAt_true (rise_accs h) hi
  refine ⟨hp, by rw [SAcc.at (x := SAcc.zero) hp]; exact he, ?_⟩
  unfold accF
  rw [hf, SAcc.at (x := SAcc.zero) hp]
theorem accF_no {l : List SAcc} {id : Int} (hi : isAt SAcc.id l id = false) : accF l id = none := isAt_false hi
theorem accF_some {l : List SAcc} (id : Int) : (accF l id).isSome = isAt SAcc.id l id := rfl
set_option maxRecDepth 8000 in
set_option maxHeartbeats 4000000 in
theorem proll_any (A B : Option Addr) (m : List SMember) (l : List SAcc) (n' c' n c : Nat) (w : World) (hm : n' = m.length) (hn : n = l.length) (hM : MemL SMember.cells 2 w A m) (hI : MemL SAcc.cells 4 w B l) (hml : n' ≤ 1000000000000) (hl : n ≤ 1000000000000) : Calls Try.prog 16 #[.slice A n' c', .slice B n c] w fun r w' => r = .returned (.bool (rollOk m l)) ∧ Below w.heap.size w w' := by
  have CM := Lib.hid (pmembers_any A m n' c' w hm hM (by omega))
  have CA := Lib.hid (fun W (hW : Below w.heap.size w W) => paccs_any B l n c W hn (hI.below hW (fun _ => rfl)) (by omega))
  have CS := Lib.hid (fun (hr : Rise SMember.id m) id W (hW : Below w.heap.size w W) => memberplace_any A m n' c' id W hm (hM.below hW (fun _ => rfl)) hml hr)
  have HI := Lib.hid hI
  have HN := Lib.hid hn
  have HK : Hid (∀ b, membersOk m = b → rollOk m l = (b && (accsOk l && allTo l.length (fun i => !(memS m (l.getD i SAcc.zero).member == 0))))) := Lib.hid (fun b hb => by unfold rollOk; rw [hb])
  clear hm hn hM hI
  cases hmo : membersOk m with
  | false =>
    have HF : Hid (rollOk m l = false) := Lib.hid (by rw [HK.out _ hmo]; rfl)
    rw [hmo] at CM
    clear hmo
    go_enter Try.func16, Try.ntmps16
    go_wp2_with (go_at_call 17; (with_reducible refine CM.out.mono ?_); rintro r w1 ⟨rfl, hb1⟩; have HB1 := Lib.hid hb1; clear hb1)
    go_ret
    exact ⟨by rw [HF.out]; rfl, HB1.out⟩
  | true =>
    rw [hmo] at CM
    cases hao : accsOk l with
    | false =>
      have HF : Hid (rollOk m l = false) := Lib.hid (by rw [HK.out _ hmo, hao]; rfl)
      rw [hao] at CA
      clear hmo hao
      go_enter Try.func16, Try.ntmps16
      go_wp2_with (first
        | (go_at_call 17; (with_reducible refine CM.out.mono ?_); rintro r w1 ⟨rfl, hb1⟩; have HB1 := Lib.hid hb1; clear hb1)
        | (go_at_call 18; (with_reducible refine (CA.out _ HB1.out).mono ?_); rintro r w2 ⟨rfl, hb2⟩; have HB2 := Lib.hid (HB1.out.trans (hb2.mono HB1.out.size)); clear hb2))
      go_ret
      exact ⟨by rw [HF.out]; rfl, HB2.out⟩
    | true =>
      have HT : Hid (rollOk m l = allTo l.length (fun i => !(memS m (l.getD i SAcc.zero).member == 0))) := Lib.hid (by rw [HK.out _ hmo, hao]; rfl)
      have HIA := Lib.hid (isAt_mem hmo)
      have CP := Lib.hid (CS.out (rise_members hmo))
      rw [hao] at CA
      clear hmo hao CS
      go_enter Try.func16, Try.ntmps16
      go_wp2_with (first
        | (go_at_call 17; (with_reducible refine CM.out.mono ?_); rintro r w1 ⟨rfl, hb1⟩; have HB1 := Lib.hid hb1; clear hb1)
        | (go_at_call 18; (with_reducible refine (CA.out _ HB1.out).mono ?_); rintro r w2 ⟨rfl, hb2⟩; have HB2 := Lib.hid (HB1.out.trans (hb2.mono HB1.out.size)); clear hb2))
      go_loopw [19] (fun i wr => ∃ k : Nat, k ≤ n ∧ i = .int .i64 (k : Int) ∧ Hid (Below w.heap.size w wr) ∧ Hid (∀ j, j < k → (!(memS m (l.getD j SAcc.zero).member == 0)) = true)) (fun i _ => n - (intOf i).toNat)
      case atStart => exact ⟨0, Nat.zero_le _, rfl, HB2, Lib.hid (fun j hj => absurd hj (Nat.not_lt_zero j))⟩
      case round =>
        obtain ⟨k, hk, rfl, HB, HA⟩ := hrel
        by_cases hlt : k < n
        · have hkl : k < l.length := by rw [← HN.out]; exact hlt
          have HKL := Lib.hid hkl
          obtain ⟨b, off, rfl, _, hcells⟩ := SAcc.reads (HI.out.below HB.out (fun _ => rfl)) (by omega)
          obtain ⟨g0, g1, g2, g3⟩ := hcells k hkl
          obtain ⟨x, hx⟩ : ∃ x, x = l.getD k SAcc.zero := ⟨_, rfl⟩
          have HX := Lib.hid hx
          rw [← hx] at g0 g1 g2 g3
          have hal : Below w.heap.size w (wr.alloc (.cells x.cells.toArray 25)) := HB.out.alloc HB.out.size _
          have CS1 := CP.out x.member _ hal
          have HAL := Lib.hid hal
          obtain ⟨s, hs⟩ : ∃ s, s = isAt SMember.id m x.member := ⟨_, rfl⟩
          have HS : Hid (s = !(memS m x.member == 0)) := Lib.hid (hs.trans (HIA.out _))
          rw [← hs] at CS1
          dsimp only [SAcc.cells] at CS1 HAL
          have CC := Lib.hid CS1
          clear hx hkl hcells hs hal CS1
          cases s with
          | false =>
            have HF : Hid (rollOk m l = false) := Lib.hid (by rw [HT.out]; exact allTo_false HKL.out (by rw [← HX.out, ← HS.out]))
            go_wp2_with (go_at_call 34; (with_reducible refine CC.out.mono ?_); rintro r wq ⟨rfl, hwq⟩; have HBQ := Lib.hid (HAL.out.trans (hwq.mono HAL.out.size)); clear hwq)
            go_ret
            exact ⟨by rw [HF.out]; rfl, HBQ.out⟩
          | true =>
            go_wp2_with (go_at_call 34; (with_reducible refine CC.out.mono ?_); rintro r wq ⟨rfl, hwq⟩; have HBQ := Lib.hid (HAL.out.trans (hwq.mono HAL.out.size)); clear hwq)
            go_roundw
            case rel => exact ⟨k + 1, by omega, by go_num, HBQ, Lib.hid (fun j hj => by
              rcases Nat.lt_or_ge j k with h | h
              · exact HA.out j h
              · obtain rfl : j = k := by omega
                rw [← HX.out]; exact HS.out.symm)⟩
            case measure => simp [intOf]; omega
        · obtain rfl : k = n := by omega
          have HE : Hid (rollOk m l = true) := Lib.hid (by rw [HT.out]; exact allTo_true (fun i hi => HA.out i (by rw [HN.out]; exact hi)))
          go_wp2
          go_ret
          exact ⟨by rw [HE.out]; rfl, HB.out⟩
set_option maxRecDepth 8000 in
set_option maxHeartbeats 4000000 in
theorem pstatus_any (A : Option Addr) (l : List SMember) (n c : Nat) (id : Int) (w : World) (hn : n = l.length) (hI : MemL SMember.cells 2 w A l) (hl : n ≤ 1000000000000) : Calls Try.prog 15 #[.slice A n c, .int .i64 id] w fun r w' => r = .returned (.int .i64 (statV l id)) ∧ Below w.heap.size w w' := by
  have CM := Lib.hid (pmembers_any A l n c w hn hI (by omega))
  have CS := Lib.hid (fun (hr : Rise SMember.id l) W (hW : Below w.heap.size w W) => memberplace_any A l n c id W hn (hI.below hW (fun _ => rfl)) hl hr)
  have HI := Lib.hid hI
  have HN := Lib.hid hn
  unfold statV
  clear hn hI
  cases hmo : membersOk l with
  | false =>
    rw [hmo] at CM
    clear hmo
    go_enter Try.func15, Try.ntmps15
    go_wp2_with (go_at_call 17; (with_reducible refine CM.out.mono ?_); rintro r w1 ⟨rfl, hb1⟩; have HB1 := Lib.hid hb1; clear hb1)
    go_ret
    exact ⟨rfl, HB1.out⟩
  | true =>
    rw [hmo] at CM
    have CP := Lib.hid (CS.out (rise_members hmo))
    rw [if_pos rfl]
    cases hia : isAt SMember.id l id with
    | false =>
      rw [memS_no hia]
      rw [hia] at CP
      clear hmo hia CS
      go_enter Try.func15, Try.ntmps15
      go_wp2_with (first
        | (go_at_call 17; (with_reducible refine CM.out.mono ?_); rintro r w1 ⟨rfl, hb1⟩; have HB1 := Lib.hid hb1; clear hb1)
        | (go_at_call 34; (with_reducible refine (CP.out _ HB1.out).mono ?_); rintro r w2 ⟨rfl, hb2⟩; have HB2 := Lib.hid (HB1.out.trans (hb2.mono HB1.out.size)); clear hb2))
      go_ret
      exact ⟨rfl, HB2.out⟩
    | true =>
      obtain ⟨hp, _, he, _⟩ := memS_at hmo hia
      have HRD := Lib.hid (fun W (hW : Below w.heap.size w W) => SMember.reads (HI.out.below hW (fun _ => rfl)) (Nat.lt_of_le_of_lt (Nat.zero_le _) hp))
      obtain ⟨b, off, rfl, _, _⟩ := HRD.out w (Below.refl _ _)
      have HCL : Hid (∀ W, Below w.heap.size w W → W.cell? ⟨b, off + plc SMember.id l id * 2 + 1, none⟩ = some (.int .i64 (l.getD (plc SMember.id l id) SMember.zero).status)) := Lib.hid (fun W hW => by
        obtain ⟨b', off', e, _, hc⟩ := HRD.out W hW
        injection e with e; injection e with e1 e2
        rw [e1, e2]
        exact (hc _ hp).2)
      rw [← he] at HCL
      have hpn : plc SMember.id l id < n := by rw [HN.out]; exact hp
      rw [hia] at CP
      generalize plc SMember.id l id = p at *
      generalize memS l id = s at *
      clear hmo hia CS HRD hp he
      go_enter Try.func15, Try.ntmps15
      go_wp2_with (first
        | (go_at_call 17; (with_reducible refine CM.out.mono ?_); rintro r w1 ⟨rfl, hb1⟩; have HB1 := Lib.hid hb1; clear hb1)
        | (go_at_call 34; (with_reducible refine (CP.out _ HB1.out).mono ?_); rintro r w2 ⟨rfl, hb2⟩; have HB2 := Lib.hid (HB1.out.trans (hb2.mono HB1.out.size)); have hcell := HCL.out _ HB2.out; clear hb2))
      go_ret
      exact ⟨rfl, HB2.out⟩
set_option maxRecDepth 8000 in
set_option maxHeartbeats 4000000 in
theorem pfind_any (A : Option Addr) (l : List SAcc) (n c : Nat) (id : Int) (w : World) (hn : n = l.length) (hI : MemL SAcc.cells 4 w A l) (hl : n ≤ 1000000000000) : Calls Try.prog 11 #[.slice A n c, .int .i64 id] w fun r w' => r = .returned (.tuple #[((accV l id).getD SAcc.zero).v, .bool (accV l id).isSome]) ∧ Below w.heap.size w w' := by
  have hb0 : Below w.heap.size w (w.alloc (.cells SAcc.zero.cells.toArray 25)) := (Below.refl _ _).alloc (Nat.le_refl _) _
  have CA := Lib.hid (paccs_any A l n c _ hn (hI.below hb0 (fun _ => rfl)) (by omega))
  have CS := Lib.hid (fun (hr : Rise SAcc.id l) W (hW : Below w.heap.size w W) => accplace_any A l n c id W hn (hI.below hW (fun _ => rfl)) hl hr)
  have HR : Hid (Rec (w.alloc (.cells SAcc.zero.cells.toArray 25)) w.heap.size 25 SAcc.zero.cells) := Lib.hid (Rec.new _ _ _ _ rfl)
  have HB0 := Lib.hid hb0
  have HI := Lib.hid hI
  have HN := Lib.hid hn
  unfold accV
  dsimp only [SAcc.cells, SAcc.zero] at CA
  clear hn hI hb0
  cases hmo : accsOk l with
  | false =>
    rw [hmo] at CA
    clear hmo
    go_enter Try.func11, Try.ntmps11
    go_wp2_with (go_at_call 18; (with_reducible refine CA.out.mono ?_); rintro r w1 ⟨rfl, hb1⟩; have HR1 := Lib.hid (HR.out.keep hb1); have HB1 := Lib.hid (HB0.out.trans (hb1.mono (by simp))); obtain ⟨⟨d0, d1, d2, d3⟩, ⟨f0, f1, f2, f3⟩⟩ := SAcc.recs HR1.out; clear hb1)
    obtain ⟨⟨k0, k1, k2, k3⟩, _⟩ := SAcc.recs (SAcc.put HR1.out SAcc.zero)
    dsimp only [SAcc.store, SAcc.zero] at k0 k1 k2 k3
    refine bodyPost_ret (v := .tuple #[SAcc.zero.v, .bool false]) (by simp [results, Try.results11, go_sem, SAcc.v, SAcc.zero, k0, k1, k2, k3]) rfl ⟨rfl, SAcc.putB HB1.out (Nat.le_refl _) SAcc.zero⟩
  | true =>
    rw [hmo] at CA
    have CP := Lib.hid (CS.out (rise_accs hmo))
    rw [if_pos rfl]
    cases hia : isAt SAcc.id l id with
    | false =>
      rw [accF_no hia]
      rw [hia] at CP
      clear hmo hia CS
      go_enter Try.func11, Try.ntmps11
      go_wp2_with (first
        | (go_at_call 18; (with_reducible refine CA.out.mono ?_); rintro r w1 ⟨rfl, hb1⟩; have HR1 := Lib.hid (HR.out.keep hb1); have HB1 := Lib.hid (HB0.out.trans (hb1.mono (by simp))); clear hb1)
        | (go_at_call 38; (with_reducible refine (CP.out _ HB1.out).mono ?_); rintro r w2 ⟨rfl, hb2⟩; have HR2 := Lib.hid (HR1.out.keep hb2); have HB2 := Lib.hid (HB1.out.trans (hb2.mono HB1.out.size)); obtain ⟨⟨d0, d1, d2, d3⟩, ⟨f0, f1, f2, f3⟩⟩ := SAcc.recs HR2.out; clear hb2))
      obtain ⟨⟨k0, k1, k2, k3⟩, _⟩ := SAcc.recs (SAcc.put HR2.out SAcc.zero)
      dsimp only [SAcc.store, SAcc.zero] at k0 k1 k2 k3
      refine bodyPost_ret (v := .tuple #[SAcc.zero.v, .bool false]) (by simp [results, Try.results11, go_sem, SAcc.v, SAcc.zero, k0, k1, k2, k3]) rfl ⟨rfl, SAcc.putB HB2.out (Nat.le_refl _) SAcc.zero⟩
    | true =>
      obtain ⟨hp, hxid, he⟩ := accF_at hmo hia
      have HRD := Lib.hid (fun W (hW : Below w.heap.size w W) => SAcc.reads (HI.out.below hW (fun _ => rfl)) (Nat.lt_of_le_of_lt (Nat.zero_le _) hp))
      obtain ⟨b, off, rfl, _, _⟩ := HRD.out w (Below.refl _ _)
      have HCL : Hid (∀ W, Below w.heap.size w W → _) := Lib.hid (fun W hW => by
        obtain ⟨b', off', e, _, hc⟩ := HRD.out W hW
        have h4 := hc _ hp
        have e' : b = b' ∧ off = off' := by injection e with e; injection e with e1 e2; exact ⟨e1, e2⟩
        rw [← e'.1, ← e'.2] at h4
        exact h4)
      have hpn : plc SAcc.id l id < n := by rw [HN.out]; exact hp
      rw [hia] at CP
      rw [he]
      generalize plc SAcc.id l id = p at *
      generalize l.getD p SAcc.zero = x at *
      clear hmo hia CS HRD hp he hxid
      dsimp only [Option.getD, Option.isSome]
      go_enter Try.func11, Try.ntmps11
      go_wp2_with (first
        | (go_at_call 18; (with_reducible refine CA.out.mono ?_); rintro r w1 ⟨rfl, hb1⟩; have HR1 := Lib.hid (HR.out.keep hb1); have HB1 := Lib.hid (HB0.out.trans (hb1.mono (by simp))); clear hb1)
        | (go_at_call 38; (with_reducible refine (CP.out _ HB1.out).mono ?_); rintro r w2 ⟨rfl, hb2⟩; have HR2 := Lib.hid (HR1.out.keep hb2); have HB2 := Lib.hid (HB1.out.trans (hb2.mono HB1.out.size)); obtain ⟨⟨d0, d1, d2, d3⟩, ⟨f0, f1, f2, f3⟩⟩ := SAcc.recs HR2.out; obtain ⟨c0, c1, c2, c3⟩ := HCL.out _ HB2.out; clear hb2))
      obtain ⟨⟨k0, k1, k2, k3⟩, _⟩ := SAcc.recs (SAcc.put HR2.out x)
      dsimp only [SAcc.store] at k0 k1 k2 k3
      refine bodyPost_ret (v := .tuple #[x.v, .bool true]) (by simp [results, Try.results11, go_sem, SAcc.v, k0, k1, k2, k3]) rfl ⟨rfl, SAcc.putB HB2.out (Nat.le_refl _) x⟩
end Go.Proofs.Ytjlhmiajklddiaa
