/-
  The walks of package roll's isLimit, rightAcc, Accs.
-/
import Derived.Test.YtjlhmiajklddiaaRq4
namespace Go.Proofs.Ytjlhmiajklddiaa
set_option maxRecDepth 8000
open Go Go.RowKit
set_option linter.unusedVariables false

def inL (q : Int) : Bool := decide (0 ≤ q) && decide (q ≤ 1000000000000)
set_option maxRecDepth 8000 in
set_option maxHeartbeats 400000 in
theorem isLimit_any (q : Int) (w : World) : Calls Try.prog 40 #[.int .i64 q] w fun r w' => r = .returned (.bool (inL q)) ∧ w = w' := by
  unfold inL
  rcases Bool.eq_false_or_eq_true (decide (0 ≤ q)) with h | h
  · rw [h]
    go_enter Try.func40, Try.ntmps40
    go_wp2
    go_ret
    exact ⟨rfl, rfl⟩
  · rw [h]
    go_enter Try.func40, Try.ntmps40
    go_wp2
    go_ret
    exact ⟨rfl, rfl⟩
def accR (x : SAcc) : Bool := decide (1 ≤ x.id) && decide (x.id ≤ 24) && inM x.member && (x.kind == 1 || x.kind == 2) && inL x.limit
set_option maxRecDepth 8000 in
set_option maxHeartbeats 4000000 in
theorem rightAcc_any (x : SAcc) (w : World) : Calls Try.prog 37 #[x.v] w fun r w' => r = .returned (.bool (accR x)) ∧ Below w.heap.size w w' := by
  have HC := Lib.hid (isMember_any x.member)
  have HD := Lib.hid (isLimit_any x.limit)
  have HB := Lib.hid ((Below.refl w.heap.size w).alloc (Nat.le_refl _) (.cells x.cells.toArray 25))
  unfold accR
  obtain ⟨a, ha⟩ : ∃ a, a = inM x.member := ⟨_, rfl⟩
  obtain ⟨b, hb⟩ : ∃ b, b = inL x.limit := ⟨_, rfl⟩
  rw [← ha] at HC ⊢
  rw [← hb] at HD ⊢
  clear ha hb
  unfold SAcc.v
  dsimp only [SAcc.cells] at HB
  rcases Bool.eq_false_or_eq_true (decide (1 ≤ x.id)) with h1 | h1 <;> rw [h1] <;> rcases Bool.eq_false_or_eq_true (decide (x.id ≤ 24)) with h2 | h2 <;> rw [h2] <;> rcases Bool.eq_false_or_eq_true (x.kind == 1) with h3 | h3 <;> rw [h3] <;> rcases Bool.eq_false_or_eq_true (x.kind == 2) with h4 | h4 <;> rw [h4] <;> cases a <;> cases b
  all_goals
    go_enter Try.func37, Try.ntmps37
    go_wp2_with (first
      | (go_at_call 33; (with_reducible refine (HC.out _).mono ?_); rintro r wq ⟨rfl, hwq⟩; subst hwq)
      | (go_at_call 40; (with_reducible refine (HD.out _).mono ?_); rintro r wq ⟨rfl, hwq⟩; subst hwq))
    go_ret
    exact ⟨rfl, HB.out⟩
def lastA (l : List SAcc) (k : Nat) : Int := if k = 0 then 0 else (l.getD (k - 1) SAcc.zero).id
theorem accB_eq (l : List SAcc) (k : Nat) : accB l k = !(decide ((l.getD k SAcc.zero).id ≤ lastA l k) || !accR (l.getD k SAcc.zero)) := by
  unfold accB lastA accR inM inL
  generalize l.getD k SAcc.zero = x
  generalize l.getD (k - 1) SAcc.zero = y
  by_cases h0 : k = 0
  · subst h0
    rw [if_pos rfl]
    simp only [Nat.lt_irrefl, decide_false, Bool.false_and, Bool.or_false]
    rw [Bool.eq_iff_iff]
    simp
    omega
  · rw [if_neg h0, show decide (0 < k) = true from decide_eq_true (by omega)]
    rw [Bool.eq_iff_iff]
    simp
    omega
/-- Has a member a house account below a place? -/
def hous (l : List SAcc) (k m : Nat) : Bool := (List.range k).any fun j => (l.getD j SAcc.zero).kind == 1 && (l.getD j SAcc.zero).member == (m : Int)
theorem hous_succ (l : List SAcc) (k m : Nat) : hous l (k + 1) m = (hous l k m || ((l.getD k SAcc.zero).kind == 1 && (l.getD k SAcc.zero).member == (m : Int))) := by
  unfold hous
  rw [List.range_succ, List.any_append]
  simp
def housC (l : List SAcc) (k : Nat) : List Value := (List.range 13).map fun m => .bool (hous l k m)
theorem housC_at (l : List SAcc) (k m : Nat) (hm : m ≤ 12) : (housC l k)[m]? = some (.bool (hous l k m)) := by
  unfold housC
  rw [List.getElem?_map, List.getElem?_range (by omega)]
  rfl
theorem housC_set (l : List SAcc) (k m : Nat) (hm : m ≤ 12) (hk : (l.getD k SAcc.zero).kind = 1) (he : (l.getD k SAcc.zero).member = (m : Int)) : (housC l k).set m (.bool true) = housC l (k + 1) := by
  unfold housC
  refine List.ext_getElem (by simp) (fun i h1 h2 => ?_)
  simp only [List.getElem_set, List.getElem_map, List.getElem_range]
  rw [hous_succ, hk, he]
  by_cases h : m = i
  · subst h
    rw [if_pos rfl]
    simp
  · rw [if_neg h, show ((m : Int) == (i : Int)) = false from beq_eq_false_iff_ne.2 (by omega)]
    simp
theorem housC_same (l : List SAcc) (k : Nat) (hk : ((l.getD k SAcc.zero).kind == 1) = false) : housC l (k + 1) = housC l k := by
  unfold housC
  refine List.map_congr_left (fun m _ => ?_)
  rw [hous_succ, hk]
  simp
theorem accAt_eq (l : List SAcc) (k m : Nat) (hm : (l.getD k SAcc.zero).member = (m : Int)) : accAt l k = (accB l k && !((l.getD k SAcc.zero).kind == 1 && hous l k m)) := by
  unfold accAt
  congr 1
  unfold allTo hous accH
  rw [hm]
  generalize ((l.getD k SAcc.zero).kind == 1) = b
  cases b with
  | false => simp
  | true =>
    simp only [Bool.true_and]
    rw [← List.not_any_eq_all_not]
set_option maxRecDepth 8000 in
set_option maxHeartbeats 8000000 in
theorem paccs_any (A : Option Addr) (l : List SAcc) (n c : Nat) (w : World) (hn : n = l.length) (hI : MemL SAcc.cells 4 w A l) (hl : n ≤ 9223372036854775807) : Calls Try.prog 18 #[.slice A n c] w fun r w' => r = .returned (.bool (accsOk l)) ∧ Below w.heap.size w w' := by
  have HN := Lib.hid hn
  have HI := Lib.hid hI
  have HC := Lib.hid rightAcc_any
  have HR0 : Hid (Rec (w.alloc (.cells (housC l 0).toArray 62)) w.heap.size 62 (housC l 0)) := Lib.hid (Rec.new _ _ _ _ rfl)
  have HB0 : Hid (Below w.heap.size w (w.alloc (.cells (housC l 0).toArray 62))) := Lib.hid ((Below.refl _ _).alloc (Nat.le_refl _) _)
  clear hn hI
  go_enter Try.func18, Try.ntmps18
  go_wp2
  go_loopw [4, 9] (fun La i wr => ∃ k : Nat, k ≤ n ∧ La = .int .i64 (lastA l k) ∧ i = .int .i64 (k : Int) ∧ Hid (Below w.heap.size w wr) ∧ Hid (Rec wr w.heap.size 62 (housC l k)) ∧ Hid (∀ j, j < k → accAt l j = true)) (fun _ i _ => n - (intOf i).toNat)
  case atStart => exact ⟨0, Nat.zero_le _, rfl, rfl, HB0, HR0, Lib.hid (fun j hj => absurd hj (Nat.not_lt_zero j))⟩
  case round =>
    obtain ⟨k, hk, rfl, rfl, HB, HR, HA⟩ := hrel
    clear HB0 HR0
    by_cases hlt : k < n
    · have hkl : k < l.length := by rw [← HN.out]; exact hlt
      have HKL := Lib.hid hkl
      obtain ⟨b, off, rfl, _, hcells⟩ := SAcc.reads (HI.out.below HB.out (fun _ => rfl)) (by omega)
      obtain ⟨g0, g1, g2, g3⟩ := hcells k hkl
      have HM := Lib.hid (accB_eq l k)
      have HAQ := Lib.hid (accAt_eq l k)
      have HCS := Lib.hid (housC_same l k)
      have HCT := Lib.hid (housC_set l k)
      have HLX : Hid (lastA l (k + 1) = (l.getD k SAcc.zero).id) := Lib.hid (by unfold lastA; rw [if_neg (Nat.succ_ne_zero k), Nat.add_sub_cancel])
      obtain ⟨x, hx⟩ : ∃ x, x = l.getD k SAcc.zero := ⟨_, rfl⟩
      rw [← hx] at g0 g1 g2 g3 HM HLX HAQ HCS HCT
      have CX := HC.out x
      unfold SAcc.v at CX
      have hal : Below wr.heap.size wr (wr.alloc (.cells x.cells.toArray 25)) := (Below.refl _ _).alloc (Nat.le_refl _) _
      have HP := Lib.hid (Rec.new wr 25 x.cells wr.heap.size rfl)
      have HB1 := Lib.hid (HB.out.alloc HB.out.size (.cells x.cells.toArray 25))
      have HRk := Lib.hid (HR.out.keep hal)
      dsimp only [SAcc.cells] at HP HB1 HRk
      have HSZ := Lib.hid HB.out.size
      clear hx hkl hcells hal
      generalize lastA l k = la at *
      rcases Bool.eq_false_or_eq_true (decide (x.id ≤ la)) with e0 | e0
      · have HF : Hid (accsOk l = false) := Lib.hid (accsOk_b HKL.out (by rw [HM.out, e0]; rfl))
        clear HM CX
        go_wp2
        go_ret
        exact ⟨by rw [HF.out]; rfl, HB1.out⟩
      · obtain ⟨q, hq⟩ : ∃ q, q = accR x := ⟨_, rfl⟩
        cases q with
        | false =>
          rw [← hq] at CX HM
          have CC := Lib.hid CX
          have HF : Hid (accsOk l = false) := Lib.hid (accsOk_b HKL.out (by rw [HM.out]; simp))
          clear HM CX hq
          go_wp2_with (go_at_call 37; (with_reducible refine (CC.out _).mono ?_); rintro r w1 ⟨rfl, hb1⟩; have HB2 := Lib.hid (HB1.out.trans (hb1.mono (by have := HSZ.out; simp; omega))); clear hb1)
          go_ret
          exact ⟨by rw [HF.out]; rfl, HB2.out⟩
        | true =>
          obtain ⟨m0, hm0, hm12⟩ : ∃ m0 : Nat, x.member = (m0 : Int) ∧ m0 ≤ 12 := by
            have hq := hq.symm
            unfold accR inM at hq
            simp at hq
            exact ⟨x.member.toNat, by omega, by omega⟩
          rw [← hq] at CX HM
          have HBT : Hid (accB l k = true) := Lib.hid (by rw [HM.out, e0]; rfl)
          have HAT := Lib.hid (HAQ.out m0 hm0)
          have HCU := Lib.hid (fun hk => HCT.out m0 hm12 hk hm0)
          have HM0 := Lib.hid hm12
          rw [hm0] at g1 CX HP HB1 HRk
          have CC := Lib.hid CX
          clear CX hq HM HAQ HCT hm0
          rcases Bool.eq_false_or_eq_true (x.kind == 1) with e1 | e1
          · obtain ⟨z, hz0⟩ : ∃ z, z = hous l k m0 := ⟨_, rfl⟩
            have HZ0 := Lib.hid hz0
            cases z with
            | true =>
              have HF : Hid (accsOk l = false) := Lib.hid (allTo_false HKL.out (by rw [HAT.out, HBT.out, e1, ← HZ0.out]; rfl))
              clear hz0
              go_wp2_with (go_at_call 37; (with_reducible refine (CC.out _).mono ?_); rintro r w1 ⟨rfl, hb1⟩; have HP1 := Lib.hid (HP.out.keep hb1); obtain ⟨⟨q0, q1, q2, q3⟩, _⟩ := SAcc.recs (x := ⟨x.id, (m0 : Int), x.kind, x.limit⟩) HP1.out; have HR1 := Lib.hid (HRk.out.keep hb1); have hz := HR1.out.cell m0 (housC_at l k m0 HM0.out); have fz := HR1.out.frozen m0; have HB2 := Lib.hid (HB1.out.trans (hb1.mono (by have := HSZ.out; simp; omega))); rw [← HZ0.out] at hz; clear hb1)
              go_ret
              exact ⟨by rw [HF.out]; rfl, HB2.out⟩
            | false =>
              have HT : Hid (accAt l k = true) := Lib.hid (by rw [HAT.out, HBT.out, e1, ← HZ0.out]; rfl)
              have HCV := Lib.hid (HCU.out (beq_iff_eq.1 e1))
              clear hz0
              go_wp2_with (go_at_call 37; (with_reducible refine (CC.out _).mono ?_); rintro r w1 ⟨rfl, hb1⟩; have HP1 := Lib.hid (HP.out.keep hb1); obtain ⟨⟨q0, q1, q2, q3⟩, _⟩ := SAcc.recs (x := ⟨x.id, (m0 : Int), x.kind, x.limit⟩) HP1.out; have HR1 := Lib.hid (HRk.out.keep hb1); have hz := HR1.out.cell m0 (housC_at l k m0 HM0.out); have fz := HR1.out.frozen m0; have HB2 := Lib.hid (HB1.out.trans (hb1.mono (by have := HSZ.out; simp; omega))); rw [← HZ0.out] at hz; have HRR := Lib.hid (HR1.out.set m0 (.bool true)); rw [HCV.out] at HRR; have HBB := Lib.hid (HB2.out.setCell (p := ⟨w.heap.size, m0, none⟩) (Nat.le_refl _) (.bool true)); clear hb1)
              go_roundw
              case rel => exact ⟨k + 1, by omega, by rw [HLX.out], by go_num, HBB, HRR, Lib.hid (fun j hj => by
                rcases Nat.lt_or_ge j k with h | h
                · exact HA.out j h
                · obtain rfl : j = k := by omega
                  exact HT.out)⟩
              case measure => simp [intOf]; omega
          · have HT : Hid (accAt l k = true) := Lib.hid (by rw [HAT.out, HBT.out, e1]; rfl)
            have HCV := Lib.hid (HCS.out e1)
            go_wp2_with (go_at_call 37; (with_reducible refine (CC.out _).mono ?_); rintro r w1 ⟨rfl, hb1⟩; have HP1 := Lib.hid (HP.out.keep hb1); obtain ⟨⟨q0, q1, q2, q3⟩, _⟩ := SAcc.recs (x := ⟨x.id, (m0 : Int), x.kind, x.limit⟩) HP1.out; have HR1 := Lib.hid (HRk.out.keep hb1); have hz := HR1.out.cell m0 (housC_at l k m0 HM0.out); have fz := HR1.out.frozen m0; have HB2 := Lib.hid (HB1.out.trans (hb1.mono (by have := HSZ.out; simp; omega))); have HRR := HR1; rw [← HCV.out] at HRR; have HBB := HB2; clear hb1)
            go_roundw
            case rel => exact ⟨k + 1, by omega, by rw [HLX.out], by go_num, HBB, HRR, Lib.hid (fun j hj => by
              rcases Nat.lt_or_ge j k with h | h
              · exact HA.out j h
              · obtain rfl : j = k := by omega
                exact HT.out)⟩
            case measure => simp [intOf]; omega
    · obtain rfl : k = n := by omega
      have HE : Hid (accsOk l = true) := Lib.hid (allTo_true (fun i hi => HA.out i (by rw [HN.out]; exact hi)))
      go_wp2
      go_ret
      exact ⟨by rw [HE.out]; rfl, HB.out⟩
end Go.Proofs.Ytjlhmiajklddiaa
