/-
  The walks of package roll's Members.
-/
import Derived.Test.YtjlhmiajklddiaaRq0
namespace Go.Proofs.Ytjlhmiajklddiaa
set_option maxRecDepth 8000
open Go Go.RowKit
set_option linter.unusedVariables false

def inM (id : Int) : Bool := decide (1 ≤ id) && decide (id ≤ 12)
set_option maxRecDepth 8000 in
set_option maxHeartbeats 400000 in
theorem isMember_any (id : Int) (w : World) : Calls Try.prog 33 #[.int .i64 id] w fun r w' => r = .returned (.bool (inM id)) ∧ w = w' := by
  unfold inM
  rcases Bool.eq_false_or_eq_true (decide (1 ≤ id)) with h | h
  · rw [h]
    go_enter Try.func33, Try.ntmps33
    go_wp2
    go_ret
    exact ⟨rfl, rfl⟩
  · rw [h]
    go_enter Try.func33, Try.ntmps33
    go_wp2
    go_ret
    exact ⟨rfl, rfl⟩
def memR (x : SMember) : Bool := inM x.id && decide (1 ≤ x.status) && decide (x.status ≤ 4)
set_option maxRecDepth 8000 in
set_option maxHeartbeats 1000000 in
theorem rightMember_any (x : SMember) (w : World) : Calls Try.prog 43 #[x.v] w fun r w' => r = .returned (.bool (memR x)) ∧ Below w.heap.size w w' := by
  have HC := Lib.hid (isMember_any x.id)
  have HB := Lib.hid ((Below.refl w.heap.size w).alloc (Nat.le_refl _) (.cells x.cells.toArray 39))
  unfold memR
  obtain ⟨a, ha⟩ : ∃ a, a = inM x.id := ⟨_, rfl⟩
  rw [← ha] at HC ⊢
  unfold SMember.v
  dsimp only [SMember.cells] at HB
  cases a with
  | false =>
    clear ha
    go_enter Try.func43, Try.ntmps43
    go_wp2_with (go_at_call 33; (with_reducible refine (HC.out _).mono ?_); rintro r wq ⟨rfl, hwq⟩; subst hwq)
    go_ret
    exact ⟨rfl, HB.out⟩
  | true =>
    rcases Bool.eq_false_or_eq_true (decide (1 ≤ x.status)) with h | h
    · rw [h]
      clear ha
      go_enter Try.func43, Try.ntmps43
      go_wp2_with (go_at_call 33; (with_reducible refine (HC.out _).mono ?_); rintro r wq ⟨rfl, hwq⟩; subst hwq)
      go_ret
      exact ⟨rfl, HB.out⟩
    · rw [h]
      clear ha
      go_enter Try.func43, Try.ntmps43
      go_wp2_with (go_at_call 33; (with_reducible refine (HC.out _).mono ?_); rintro r wq ⟨rfl, hwq⟩; subst hwq)
      go_ret
      exact ⟨rfl, HB.out⟩
/-- The number ahead of a place; nought ahead of all. -/
def lastM (l : List SMember) (k : Nat) : Int := if k = 0 then 0 else (l.getD (k - 1) SMember.zero).id
theorem memAt_eq (l : List SMember) (k : Nat) : memAt l k = !(decide ((l.getD k SMember.zero).id ≤ lastM l k) || !memR (l.getD k SMember.zero)) := by
  unfold memAt lastM memR inM
  generalize l.getD k SMember.zero = x
  generalize l.getD (k - 1) SMember.zero = y
  by_cases h0 : k = 0
  · subst h0
    rw [if_pos rfl]
    simp only [Nat.lt_irrefl, decide_false, Bool.false_and, Bool.or_false]
    rw [Bool.eq_iff_iff]
    simp
    omega
  · rw [if_neg h0, show decide (0 < k) = true from decide_eq_true (by omega)]
    rw [Bool.eq_iff_iff]
    simp
    omega
set_option maxRecDepth 8000 in
set_option maxHeartbeats 8000000 in
theorem pmembers_any (A : Option Addr) (l : List SMember) (n c : Nat) (w : World) (hn : n = l.length) (hI : MemL SMember.cells 2 w A l) (hl : n ≤ 9223372036854775807) : Calls Try.prog 17 #[.slice A n c] w fun r w' => r = .returned (.bool (membersOk l)) ∧ Below w.heap.size w w' := by
  have HN := Lib.hid hn
  have HI := Lib.hid hI
  have HC := Lib.hid rightMember_any
  clear hn hI
  go_enter Try.func17, Try.ntmps17
  go_wp2
  go_loopw [3, 8] (fun La i wr => ∃ k : Nat, k ≤ n ∧ La = .int .i64 (lastM l k) ∧ i = .int .i64 (k : Int) ∧ Hid (Below w.heap.size w wr) ∧ Hid (∀ j, j < k → memAt l j = true)) (fun _ i _ => n - (intOf i).toNat)
  case atStart => exact ⟨0, Nat.zero_le _, rfl, rfl, Lib.hid (Below.refl _ _), Lib.hid (fun j hj => absurd hj (Nat.not_lt_zero j))⟩
  case round =>
    obtain ⟨k, hk, rfl, rfl, HB, HA⟩ := hrel
    by_cases hlt : k < n
    · have hkl : k < l.length := by rw [← HN.out]; exact hlt
      have HKL := Lib.hid hkl
      obtain ⟨b, off, rfl, _, hcells⟩ := SMember.reads (HI.out.below HB.out (fun _ => rfl)) (by omega)
      obtain ⟨g0, g1⟩ := hcells k hkl
      have HM := Lib.hid (memAt_eq l k)
      have HLX : Hid (lastM l (k + 1) = (l.getD k SMember.zero).id) := Lib.hid (by unfold lastM; rw [if_neg (Nat.succ_ne_zero k), Nat.add_sub_cancel])
      obtain ⟨x, hx⟩ : ∃ x, x = l.getD k SMember.zero := ⟨_, rfl⟩
      rw [← hx] at g0 g1 HM HLX
      have CX := HC.out x
      unfold SMember.v at CX
      have HR := Lib.hid (Rec.new wr 39 x.cells wr.heap.size rfl)
      have HB1 := Lib.hid (HB.out.alloc HB.out.size (.cells x.cells.toArray 39))
      dsimp only [SMember.cells] at HR HB1
      have HSZ := Lib.hid HB.out.size
      clear hx hkl hcells
      generalize lastM l k = la at *
      rcases Bool.eq_false_or_eq_true (decide (x.id ≤ la)) with e0 | e0
      · have HF : Hid (membersOk l = false) := Lib.hid (allTo_false HKL.out (by rw [HM.out, e0]; rfl))
        clear HM CX
        go_wp2
        go_ret
        exact ⟨by rw [HF.out]; rfl, HB1.out⟩
      · obtain ⟨q, hq⟩ : ∃ q, q = memR x := ⟨_, rfl⟩
        rw [← hq] at CX HM
        have CC := Lib.hid CX
        clear CX hq
        cases q with
        | false =>
          have HF : Hid (membersOk l = false) := Lib.hid (allTo_false HKL.out (by rw [HM.out]; simp))
          clear HM
          go_wp2_with (go_at_call 43; (with_reducible refine (CC.out _).mono ?_); rintro r w1 ⟨rfl, hb1⟩; have HB2 := Lib.hid (HB1.out.trans (hb1.mono (by have := HSZ.out; simp; omega))); clear hb1)
          go_ret
          exact ⟨by rw [HF.out]; rfl, HB2.out⟩
        | true =>
          have HT : Hid (memAt l k = true) := Lib.hid (by rw [HM.out, e0]; rfl)
          clear HM
          go_wp2_with (go_at_call 43; (with_reducible refine (CC.out _).mono ?_); rintro r w1 ⟨rfl, hb1⟩; have HR2 := Lib.hid (HR.out.keep hb1); obtain ⟨⟨q0, q1⟩, _⟩ := SMember.recs HR2.out; have HB2 := Lib.hid (HB1.out.trans (hb1.mono (by have := HSZ.out; simp; omega))); clear hb1)
          go_roundw
          case rel => exact ⟨k + 1, by omega, by rw [HLX.out], by go_num, HB2, Lib.hid (fun j hj => by
            rcases Nat.lt_or_ge j k with h | h
            · exact HA.out j h
            · obtain rfl : j = k := by omega
              exact HT.out)⟩
          case measure => simp [intOf]; omega
    · obtain rfl : k = n := by omega
      have HE : Hid (membersOk l = true) := Lib.hid (allTo_true (fun i hi => HA.out i (by rw [HN.out]; exact hi)))
      go_wp2
      go_ret
      exact ⟨by rw [HE.out]; rfl, HB.out⟩
end Go.Proofs.Ytjlhmiajklddiaa
