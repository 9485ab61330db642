/-
  The walks of the reference's RightRoll, Status, Find, House, Owned.
-/
import Derived.Test.YtjlhmiajklddiaaRo3
import Derived.Test.YtjlhmiajklddiaaOwnA
namespace Go.Proofs.Ytjlhmiajklddiaa
set_option maxRecDepth 8000
open Go Go.RowKit
set_option linter.unusedVariables false

/-- Members and accounts that are right together. -/
def rollOk (m : List SMember) (a : List SAcc) : Bool := membersOk m && (accsOk a && allTo a.length (fun i => !(memS m (a.getD i SAcc.zero).member == 0)))
set_option maxRecDepth 8000 in
set_option maxHeartbeats 4000000 in
theorem rroll_any (A B : Option Addr) (m : List SMember) (l : List SAcc) (n' c' n c : Nat) (w : World) (hm : n' = m.length) (hn : n = l.length) (hM : MemL SMember.cells 2 w A m) (hI : MemL SAcc.cells 4 w B l) (hml : n' ≤ 9223372036854775807) (hl : n ≤ 9223372036854775807) : Calls Try.prog 29 #[.slice A n' c', .slice B n c] w fun r w' => r = .returned (.bool (rollOk m l)) ∧ Below w.heap.size w w' := by
  have CM := Lib.hid (rmembers_any A m n' c' w hm hM hml)
  have CA := Lib.hid (fun W (hW : Below w.heap.size w W) => raccs_any B l n c W hn (hI.below hW (fun _ => rfl)) hl)
  have CS := Lib.hid (fun id W (hW : Below w.heap.size w W) => rstat_any A m n' c' id W hm (hM.below hW (fun _ => rfl)) hml)
  have HI := Lib.hid hI
  have HN := Lib.hid hn
  have HK : Hid (∀ b, membersOk m = b → rollOk m l = (b && (accsOk l && allTo l.length (fun i => !(memS m (l.getD i SAcc.zero).member == 0))))) := Lib.hid (fun b hb => by unfold rollOk; rw [hb])
  clear hm hn hM hI
  cases hmo : membersOk m with
  | false =>
    have HF : Hid (rollOk m l = false) := Lib.hid (by rw [HK.out _ hmo]; rfl)
    rw [hmo] at CM
    clear hmo
    go_enter Try.func29, Try.ntmps29
    go_wp2_with (go_at_call 27; (with_reducible refine CM.out.mono ?_); rintro r w1 ⟨rfl, hb1⟩; have HB1 := Lib.hid hb1; clear hb1)
    go_ret
    exact ⟨by rw [HF.out]; rfl, HB1.out⟩
  | true =>
    rw [hmo] at CM
    cases hao : accsOk l with
    | false =>
      have HF : Hid (rollOk m l = false) := Lib.hid (by rw [HK.out _ hmo, hao]; rfl)
      rw [hao] at CA
      clear hmo hao
      go_enter Try.func29, Try.ntmps29
      go_wp2_with (first
        | (go_at_call 27; (with_reducible refine CM.out.mono ?_); rintro r w1 ⟨rfl, hb1⟩; have HB1 := Lib.hid hb1; clear hb1)
        | (go_at_call 28; (with_reducible refine (CA.out _ HB1.out).mono ?_); rintro r w2 ⟨rfl, hb2⟩; have HB2 := Lib.hid (HB1.out.trans (hb2.mono HB1.out.size)); clear hb2))
      go_ret
      exact ⟨by rw [HF.out]; rfl, HB2.out⟩
    | true =>
      have HT : Hid (rollOk m l = allTo l.length (fun i => !(memS m (l.getD i SAcc.zero).member == 0))) := Lib.hid (by rw [HK.out _ hmo, hao]; rfl)
      rw [hao] at CA
      clear hmo hao
      go_enter Try.func29, Try.ntmps29
      go_wp2_with (first
        | (go_at_call 27; (with_reducible refine CM.out.mono ?_); rintro r w1 ⟨rfl, hb1⟩; have HB1 := Lib.hid hb1; clear hb1)
        | (go_at_call 28; (with_reducible refine (CA.out _ HB1.out).mono ?_); rintro r w2 ⟨rfl, hb2⟩; have HB2 := Lib.hid (HB1.out.trans (hb2.mono HB1.out.size)); clear hb2))
      go_loopw [5] (fun i wr => ∃ k : Nat, k ≤ n ∧ i = .int .i64 (k : Int) ∧ Hid (Below w.heap.size w wr) ∧ Hid (∀ j, j < k → (!(memS m (l.getD j SAcc.zero).member == 0)) = true)) (fun i _ => n - (intOf i).toNat)
      case atStart => exact ⟨0, Nat.zero_le _, rfl, HB2, Lib.hid (fun j hj => absurd hj (Nat.not_lt_zero j))⟩
      case round =>
        obtain ⟨k, hk, rfl, HB, HA⟩ := hrel
        by_cases hlt : k < n
        · have hkl : k < l.length := by rw [← HN.out]; exact hlt
          have HKL := Lib.hid hkl
          obtain ⟨b, off, rfl, _, hcells⟩ := SAcc.reads (HI.out.below HB.out (fun _ => rfl)) (by omega)
          obtain ⟨g0, g1, g2, g3⟩ := hcells k hkl
          obtain ⟨x, hx⟩ : ∃ x, x = l.getD k SAcc.zero := ⟨_, rfl⟩
          have HX := Lib.hid hx
          rw [← hx] at g0 g1 g2 g3
          have CS1 := Lib.hid (CS.out x.member wr HB.out)
          obtain ⟨s, hs⟩ : ∃ s, s = memS m x.member := ⟨_, rfl⟩
          have HS := Lib.hid hs
          rw [← hs] at CS1
          clear hx hkl hcells hs
          by_cases h0 : s = 0
          · have HF : Hid (rollOk m l = false) := Lib.hid (by rw [HT.out]; exact allTo_false HKL.out (by rw [← HX.out, ← HS.out, h0]; rfl))
            subst h0
            go_wp2_with (go_at_call 44; (with_reducible refine CS1.out.mono ?_); rintro r wq ⟨rfl, hwq⟩; obtain rfl : wr = wq := hwq)
            go_ret
            exact ⟨by rw [HF.out]; rfl, HB.out⟩
          · have hb : (s == 0) = false := beq_eq_false_iff_ne.2 h0
            have HBF := Lib.hid hb
            clear h0
            go_wp2_with (go_at_call 44; (with_reducible refine CS1.out.mono ?_); rintro r wq ⟨rfl, hwq⟩; obtain rfl : wr = wq := hwq)
            go_roundw
            case rel => exact ⟨k + 1, by omega, by go_num, HB, Lib.hid (fun j hj => by
              rcases Nat.lt_or_ge j k with h | h
              · exact HA.out j h
              · obtain rfl : j = k := by omega
                rw [← HX.out, ← HS.out, HBF.out]; rfl)⟩
            case measure => simp [intOf]; omega
        · obtain rfl : k = n := by omega
          have HE : Hid (rollOk m l = true) := Lib.hid (by rw [HT.out]; exact allTo_true (fun i hi => HA.out i (by rw [HN.out]; exact hi)))
          go_wp2
          go_ret
          exact ⟨by rw [HE.out]; rfl, HB.out⟩
/-- Status: of members that are right. -/
def statV (m : List SMember) (id : Int) : Int := if membersOk m then memS m id else 0
theorem rstatus_any (A : Option Addr) (l : List SMember) (n c : Nat) (id : Int) (w : World) (hn : n = l.length) (hI : MemL SMember.cells 2 w A l) (hl : n ≤ 9223372036854775807) : Calls Try.prog 30 #[.slice A n c, .int .i64 id] w fun r w' => r = .returned (.int .i64 (statV l id)) ∧ Below w.heap.size w w' := by
  have CM := Lib.hid (rmembers_any A l n c w hn hI hl)
  have CS := Lib.hid (fun W (hW : Below w.heap.size w W) => rstat_any A l n c id W hn (hI.below hW (fun _ => rfl)) hl)
  unfold statV
  clear hn hI
  cases hmo : membersOk l with
  | false =>
    rw [hmo] at CM
    clear hmo
    go_enter Try.func30, Try.ntmps30
    go_wp2_with (go_at_call 27; (with_reducible refine CM.out.mono ?_); rintro r w1 ⟨rfl, hb1⟩; have HB1 := Lib.hid hb1; clear hb1)
    go_ret
    exact ⟨rfl, HB1.out⟩
  | true =>
    rw [hmo] at CM
    clear hmo
    go_enter Try.func30, Try.ntmps30
    go_wp2_with (first
      | (go_at_call 27; (with_reducible refine CM.out.mono ?_); rintro r w1 ⟨rfl, hb1⟩; have HB1 := Lib.hid hb1; clear hb1)
      | (go_at_call 44; (with_reducible refine (CS.out _ HB1.out).mono ?_); rintro r wq ⟨rfl, hwq⟩; obtain rfl : w1 = wq := hwq))
    go_ret
    exact ⟨rfl, HB1.out⟩
/-- Find: of accounts that are right. -/
def accV (l : List SAcc) (id : Int) : Option SAcc := if accsOk l then accF l id else none
theorem alloc_b {B : Nat} {w W : World} (h : Below B w W) (hb : B ≤ w.heap.size) (o : Obj) : Below B w (W.alloc o) := h.alloc (Nat.le_trans hb h.size) _
set_option maxRecDepth 8000 in
set_option maxHeartbeats 4000000 in
theorem rfindV_any (A : Option Addr) (l : List SAcc) (n c : Nat) (id : Int) (w : World) (hn : n = l.length) (hI : MemL SAcc.cells 4 w A l) (hl : n ≤ 9223372036854775807) : Calls Try.prog 24 #[.slice A n c, .int .i64 id] w fun r w' => r = .returned (.tuple #[((accV l id).getD SAcc.zero).v, .bool (accV l id).isSome]) ∧ Below w.heap.size w w' := by
  have hb0 : Below w.heap.size w (w.alloc (.cells SAcc.zero.cells.toArray 25)) := (Below.refl _ _).alloc (Nat.le_refl _) _
  have CA := Lib.hid (raccs_any A l n c _ hn (hI.below hb0 (fun _ => rfl)) hl)
  have CF := Lib.hid (fun W (hW : Below w.heap.size w W) => rfindA_any A l n c id W hn (hI.below hW (fun _ => rfl)) hl)
  have HR : Hid (Rec (w.alloc (.cells SAcc.zero.cells.toArray 25)) w.heap.size 25 SAcc.zero.cells) := Lib.hid (Rec.new _ _ _ _ rfl)
  have HB0 := Lib.hid hb0
  unfold accV
  dsimp only [SAcc.cells, SAcc.zero] at CA
  clear hn hI hb0
  cases hmo : accsOk l with
  | false =>
    rw [hmo] at CA
    clear hmo
    go_enter Try.func24, Try.ntmps24
    go_wp2_with (go_at_call 28; (with_reducible refine CA.out.mono ?_); rintro r w1 ⟨rfl, hb1⟩; have HR1 := Lib.hid (HR.out.keep hb1); have HB1 := Lib.hid (HB0.out.trans (hb1.mono (by simp))); obtain ⟨⟨d0, d1, d2, d3⟩, ⟨f0, f1, f2, f3⟩⟩ := SAcc.recs HR1.out; clear hb1)
    obtain ⟨⟨k0, k1, k2, k3⟩, _⟩ := SAcc.recs (SAcc.put HR1.out SAcc.zero)
    dsimp only [SAcc.store, SAcc.zero] at k0 k1 k2 k3
    refine bodyPost_ret (v := .tuple #[SAcc.zero.v, .bool false]) (by simp [results, Try.results24, go_sem, SAcc.v, SAcc.zero, k0, k1, k2, k3]) rfl ⟨rfl, SAcc.putB HB1.out (Nat.le_refl _) SAcc.zero⟩
  | true =>
    rw [hmo] at CA
    clear hmo
    obtain ⟨x, hx⟩ : ∃ x, x = (accF l id).getD SAcc.zero := ⟨_, rfl⟩
    rw [← hx] at CF
    unfold SAcc.v at CF
    rw [if_pos rfl, ← hx]
    clear hx
    go_enter Try.func24, Try.ntmps24
    go_wp2_with (first
      | (go_at_call 28; (with_reducible refine CA.out.mono ?_); rintro r w1 ⟨rfl, hb1⟩; have HR1 := Lib.hid (HR.out.keep hb1); have HB1 := Lib.hid (HB0.out.trans (hb1.mono (by simp))); clear hb1)
      | (go_at_call 46; (with_reducible refine (CF.out _ HB1.out).mono ?_); rintro r w2 ⟨rfl, hb2⟩; have HR2 := Lib.hid (HR1.out.keep hb2); have HB2 := Lib.hid (HB1.out.trans (hb2.mono HB1.out.size)); obtain ⟨⟨d0, d1, d2, d3⟩, ⟨f0, f1, f2, f3⟩⟩ := SAcc.recs HR2.out; clear hb2))
    obtain ⟨⟨k0, k1, k2, k3⟩, _⟩ := SAcc.recs (SAcc.put HR2.out x)
    dsimp only [SAcc.store] at k0 k1 k2 k3
    refine bodyPost_ret (v := .tuple #[x.v, .bool (accF l id).isSome]) (by simp [results, Try.results24, go_sem, SAcc.v, k0, k1, k2, k3]) rfl ⟨rfl, SAcc.putB HB2.out (Nat.le_refl _) x⟩
end Go.Proofs.Ytjlhmiajklddiaa
