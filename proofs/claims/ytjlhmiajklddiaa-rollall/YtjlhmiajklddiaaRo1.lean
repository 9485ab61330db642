/-
  The walk of the reference's Members.
-/
import Derived.Test.YtjlhmiajklddiaaStMember
namespace Go.Proofs.Ytjlhmiajklddiaa
set_option maxRecDepth 8000
open Go Go.RowKit
set_option linter.unusedVariables false

/-- All places below n. -/
def allTo (n : Nat) (p : Nat → Bool) : Bool := (List.range n).all p
theorem allTo_true {n : Nat} {p : Nat → Bool} (h : ∀ i, i < n → p i = true) : allTo n p = true := List.all_eq_true.2 fun i hi => h i (List.mem_range.1 hi)
theorem allTo_false {n : Nat} {p : Nat → Bool} {i : Nat} (hi : i < n) (h : p i = false) : allTo n p = false := by
  unfold allTo
  rw [List.all_eq_false]
  exact ⟨i, List.mem_range.2 hi, by rw [h]; simp⟩
theorem allTo_at {n : Nat} {p : Nat → Bool} (h : allTo n p = true) {i : Nat} (hi : i < n) : p i = true := List.all_eq_true.1 h i (List.mem_range.2 hi)
/-- A member's place in a list that may be. -/
def memAt (l : List SMember) (i : Nat) : Bool :=
  !(decide ((l.getD i SMember.zero).id < 1) || (decide (12 < (l.getD i SMember.zero).id) || (decide ((l.getD i SMember.zero).status < 1) || (decide (4 < (l.getD i SMember.zero).status) || (decide (0 < i) && (decide ((l.getD i SMember.zero).id ≤ (l.getD (i - 1) SMember.zero).id)))))))
def membersOk (l : List SMember) : Bool := allTo l.length (memAt l)
set_option maxRecDepth 8000 in
set_option maxHeartbeats 8000000 in
theorem rmembers_any (A : Option Addr) (l : List SMember) (n c : Nat) (w : World) (hn : n = l.length) (hI : MemL SMember.cells 2 w A l) (hl : n ≤ 9223372036854775807) : Calls Try.prog 27 #[.slice A n c] w fun r w' => r = .returned (.bool (membersOk l)) ∧ Below w.heap.size w w' := by
  have HN := Lib.hid hn
  have HI := Lib.hid hI
  clear hn hI
  go_enter Try.func27, Try.ntmps27
  go_wp2
  go_loopw [3] (fun i wr => ∃ k : Nat, k ≤ n ∧ i = .int .i64 (k : Int) ∧ Hid (Below w.heap.size w wr) ∧ Hid (∀ j, j < k → memAt l j = true)) (fun i _ => n - (intOf i).toNat)
  case atStart => exact ⟨0, Nat.zero_le _, rfl, Lib.hid (Below.refl _ _), Lib.hid (fun j hj => absurd hj (Nat.not_lt_zero j))⟩
  case round =>
    obtain ⟨k, hk, rfl, HB, HA⟩ := hrel
    by_cases hlt : k < n
    · have hkl : k < l.length := by rw [← HN.out]; exact hlt
      obtain ⟨b, off, rfl, _, hcells⟩ := SMember.reads (HI.out.below HB.out (fun _ => rfl)) (by omega)
      rcases Nat.eq_zero_or_pos k with h0 | h0
      · obtain ⟨g0, g1⟩ := hcells k hkl
        obtain ⟨M, hM⟩ : ∃ M, M = memAt l k := ⟨_, rfl⟩
        have HM := Lib.hid hM
        have HMM := Lib.hid hM
        have hz : decide (0 < k) = false := decide_eq_false (by omega)
        have HKL := Lib.hid hkl
        unfold memAt at HM
        rw [hz] at HM
        generalize l.getD k SMember.zero = x at *
        clear hkl hcells h0 hM
        rcases Bool.eq_false_or_eq_true (decide (x.id < 1)) with e0 | e0
        · skip
          have HF : Hid (membersOk l = false) := Lib.hid (allTo_false HKL.out (by rw [← HMM.out, HM.out]; simp [e0]))
          clear HM
          go_wp2
          go_quiet (fail)
          go_wp2
          go_ret
          exact ⟨by rw [HF.out]; rfl, below_drewN HB.out _⟩
        · skip
          rcases Bool.eq_false_or_eq_true (decide (12 < x.id)) with e1 | e1
          · skip
            have HF : Hid (membersOk l = false) := Lib.hid (allTo_false HKL.out (by rw [← HMM.out, HM.out]; simp [e0, e1]))
            clear HM
            go_wp2
            go_quiet (fail)
            go_wp2
            go_ret
            exact ⟨by rw [HF.out]; rfl, below_drewN HB.out _⟩
          · skip
            rcases Bool.eq_false_or_eq_true (decide (x.status < 1)) with e2 | e2
            · skip
              have HF : Hid (membersOk l = false) := Lib.hid (allTo_false HKL.out (by rw [← HMM.out, HM.out]; simp [e0, e1, e2]))
              clear HM
              go_wp2
              go_quiet (fail)
              go_wp2
              go_ret
              exact ⟨by rw [HF.out]; rfl, below_drewN HB.out _⟩
            · skip
              rcases Bool.eq_false_or_eq_true (decide (4 < x.status)) with e3 | e3
              · skip
                have HF : Hid (membersOk l = false) := Lib.hid (allTo_false HKL.out (by rw [← HMM.out, HM.out]; simp [e0, e1, e2, e3]))
                clear HM
                go_wp2
                go_quiet (fail)
                go_wp2
                go_ret
                exact ⟨by rw [HF.out]; rfl, below_drewN HB.out _⟩
              · skip
                have HT : Hid (memAt l k = true) := Lib.hid (by rw [← HMM.out, HM.out]; simp [e0, e1, e2, e3])
                clear HM
                go_wp2
                go_quiet (fail)
                go_wp2
                go_roundw
                case rel => exact ⟨k + 1, by omega, by go_num, Lib.hid (below_drewN HB.out _), Lib.hid (fun j hj => by
                  rcases Nat.lt_or_ge j k with h | h
                  · exact HA.out j h
                  · obtain rfl : j = k := by omega
                    exact HT.out)⟩
                case measure => simp [intOf]; omega
      · obtain ⟨m, rfl⟩ : ∃ m, k = m + 1 := ⟨k - 1, by omega⟩
        obtain ⟨g0, g1⟩ := hcells (m + 1) hkl
        obtain ⟨p0, p1⟩ := hcells m (by omega)
        obtain ⟨M, hM⟩ : ∃ M, M = memAt l (m + 1) := ⟨_, rfl⟩
        have HM := Lib.hid hM
        have HMM := Lib.hid hM
        have HKL := Lib.hid hkl
        unfold memAt at HM
        rw [show decide (0 < m + 1) = true from decide_eq_true (Nat.succ_pos m), Nat.add_sub_cancel] at HM
        generalize l.getD (m + 1) SMember.zero = x at *
        generalize l.getD m SMember.zero = y at *
        clear hkl hcells h0 hM
        rcases Bool.eq_false_or_eq_true (decide (x.id < 1)) with e0 | e0
        · skip
          have HF : Hid (membersOk l = false) := Lib.hid (allTo_false HKL.out (by rw [← HMM.out, HM.out]; simp [e0]))
          clear HM
          go_wp2
          go_quiet (fail)
          go_wp2
          go_ret
          exact ⟨by rw [HF.out]; rfl, below_drewN HB.out _⟩
        · skip
          rcases Bool.eq_false_or_eq_true (decide (12 < x.id)) with e1 | e1
          · skip
            have HF : Hid (membersOk l = false) := Lib.hid (allTo_false HKL.out (by rw [← HMM.out, HM.out]; simp [e0, e1]))
            clear HM
            go_wp2
            go_quiet (fail)
            go_wp2
            go_ret
            exact ⟨by rw [HF.out]; rfl, below_drewN HB.out _⟩
          · skip
            rcases Bool.eq_false_or_eq_true (decide (x.status < 1)) with e2 | e2
            · skip
              have HF : Hid (membersOk l = false) := Lib.hid (allTo_false HKL.out (by rw [← HMM.out, HM.out]; simp [e0, e1, e2]))
              clear HM
              go_wp2
              go_quiet (fail)
              go_wp2
              go_ret
              exact ⟨by rw [HF.out]; rfl, below_drewN HB.out _⟩
            · skip
              rcases Bool.eq_false_or_eq_true (decide (4 < x.status)) with e3 | e3
              · skip
                have HF : Hid (membersOk l = false) := Lib.hid (allTo_false HKL.out (by rw [← HMM.out, HM.out]; simp [e0, e1, e2, e3]))
                clear HM
                go_wp2
                go_quiet (fail)
                go_wp2
                go_ret
                exact ⟨by rw [HF.out]; rfl, below_drewN HB.out _⟩
              · skip
                rcases Bool.eq_false_or_eq_true (decide (x.id ≤ y.id)) with e4 | e4
                · skip
                  have HF : Hid (membersOk l = false) := Lib.hid (allTo_false HKL.out (by rw [← HMM.out, HM.out]; simp [e0, e1, e2, e3, e4]))
                  clear HM
                  go_wp2
                  go_quiet (fail)
                  go_wp2
                  go_ret
                  exact ⟨by rw [HF.out]; rfl, below_drewN HB.out _⟩
                · skip
                  have HT : Hid (memAt l (m + 1) = true) := Lib.hid (by rw [← HMM.out, HM.out]; simp [e0, e1, e2, e3, e4])
                  clear HM
                  go_wp2
                  go_quiet (fail)
                  go_wp2
                  go_roundw
                  case rel => exact ⟨(m + 1) + 1, by omega, by go_num, Lib.hid (below_drewN HB.out _), Lib.hid (fun j hj => by
                    rcases Nat.lt_or_ge j (m + 1) with h | h
                    · exact HA.out j h
                    · obtain rfl : j = (m + 1) := by omega
                      exact HT.out)⟩
                  case measure => simp [intOf]; omega
    · obtain rfl : k = n := by omega
      have HE : Hid (membersOk l = true) := Lib.hid (allTo_true (fun i hi => HA.out i (by rw [HN.out]; exact hi)))
      go_wp2
      go_ret
      exact ⟨by rw [HE.out]; rfl, HB.out⟩
end Go.Proofs.Ytjlhmiajklddiaa
