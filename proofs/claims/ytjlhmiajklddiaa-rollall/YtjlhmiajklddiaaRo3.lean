/-
  The walk of the reference's Accs.
-/
import Derived.Test.YtjlhmiajklddiaaRo2
namespace Go.Proofs.Ytjlhmiajklddiaa
set_option maxRecDepth 8000
open Go Go.RowKit
set_option linter.unusedVariables false

/-- Of an account: has it bounds, and is it above the one ahead? -/
def accB (l : List SAcc) (i : Nat) : Bool := !(decide ((l.getD i SAcc.zero).id < 1) || (decide (24 < (l.getD i SAcc.zero).id) || (decide ((l.getD i SAcc.zero).member < 1) || (decide (12 < (l.getD i SAcc.zero).member) || ((((l.getD i SAcc.zero).kind != 1) && (((l.getD i SAcc.zero).kind != 2))) || (decide ((l.getD i SAcc.zero).limit < 0) || (decide (1000000000000 < (l.getD i SAcc.zero).limit) || (decide (0 < i) && (decide ((l.getD i SAcc.zero).id ≤ (l.getD (i - 1) SAcc.zero).id))))))))))
/-- Is another one ahead of it the same member's house account? -/
def accH (x y : SAcc) : Bool := x.kind == 1 && (y.kind == 1 && y.member == x.member)
def accAt (l : List SAcc) (i : Nat) : Bool := accB l i && allTo i (fun k => !(accH (l.getD i SAcc.zero) (l.getD k SAcc.zero)))
def accsOk (l : List SAcc) : Bool := allTo l.length (accAt l)
theorem accsOk_b {l : List SAcc} {i : Nat} (hi : i < l.length) (h : accB l i = false) : accsOk l = false := allTo_false hi (by unfold accAt; rw [h]; rfl)
theorem accsOk_h {l : List SAcc} {i k : Nat} (hi : i < l.length) (hk : k < i) (h : accH (l.getD i SAcc.zero) (l.getD k SAcc.zero) = true) : accsOk l = false := allTo_false hi (by unfold accAt; rw [allTo_false hk (by rw [h]; rfl), Bool.and_false])
set_option maxRecDepth 8000 in
set_option maxHeartbeats 32000000 in
theorem raccs_any (A : Option Addr) (l : List SAcc) (n c : Nat) (w : World) (hn : n = l.length) (hI : MemL SAcc.cells 4 w A l) (hl : n ≤ 9223372036854775807) : Calls Try.prog 28 #[.slice A n c] w fun r w' => r = .returned (.bool (accsOk l)) ∧ Below w.heap.size w w' := by
  have HN := Lib.hid hn
  have HI := Lib.hid hI
  clear hn hI
  go_enter Try.func28, Try.ntmps28
  go_wp2
  go_loopw [3] (fun i wr => ∃ k : Nat, k ≤ n ∧ i = .int .i64 (k : Int) ∧ Hid (Below w.heap.size w wr) ∧ Hid (∀ j, j < k → accAt l j = true)) (fun i _ => n - (intOf i).toNat)
  case atStart => exact ⟨0, Nat.zero_le _, rfl, Lib.hid (Below.refl _ _), Lib.hid (fun j hj => absurd hj (Nat.not_lt_zero j))⟩
  case round =>
    obtain ⟨k, hk, rfl, HB, HA⟩ := hrel
    by_cases hlt : k < n
    · have hkl : k < l.length := by rw [← HN.out]; exact hlt
      have HKL := Lib.hid hkl
      obtain ⟨x, hx⟩ : ∃ x, x = l.getD k SAcc.zero := ⟨_, rfl⟩
      have HX := Lib.hid hx
      have HP := Lib.hid (Rec.new wr 25 x.cells wr.heap.size rfl)
      have HB1 := Lib.hid (HB.out.alloc HB.out.size (.cells x.cells.toArray 25))
      obtain ⟨W1, hW1⟩ : ∃ W1, W1 = wr.alloc (.cells #[.int .i64 x.id, .int .i64 x.member, .int .i64 x.kind, .int .i64 x.limit] 25) := ⟨_, rfl⟩
      rw [show wr.alloc (.cells x.cells.toArray 25) = W1 from hW1.symm] at HP HB1
      obtain ⟨⟨q0, q1, q2, q3⟩, _⟩ := SAcc.recs HP.out
      obtain ⟨bI, offI, hAI, _, hcells0⟩ := SAcc.reads (HI.out.below HB.out (fun _ => rfl)) (by omega)
      obtain ⟨bJ, offJ, hAJ, _, hcells⟩ := SAcc.reads (HI.out.below HB1.out (fun _ => rfl)) (by omega)
      obtain ⟨rfl, rfl⟩ : bJ = bI ∧ offJ = offI := by rw [hAI] at hAJ; injection hAJ with hAJ; injection hAJ with h1 h2; exact ⟨h1.symm, h2.symm⟩
      subst hAI
      clear hAJ
      obtain ⟨g0, g1, g2, g3⟩ := hcells0 k hkl
      rw [← hx] at g0 g1 g2 g3
      clear hcells0
      rcases Nat.eq_zero_or_pos k with h0 | h0
      · obtain ⟨M, hM⟩ : ∃ M, M = accB l k := ⟨_, rfl⟩
        have HM := Lib.hid hM
        have HMM := Lib.hid hM
        have hz : decide (0 < k) = false := decide_eq_false (by omega)
        unfold accB at HM
        rw [hz, ← hx] at HM
        clear hkl hcells h0 hM hx
        rcases Bool.eq_false_or_eq_true (decide (x.id < 1)) with e0 | e0
        · skip
          have HF : Hid (accsOk l = false) := Lib.hid (accsOk_b HKL.out (by rw [← HMM.out, HM.out]; simp [e0]))
          clear HM
          go_wp2
          rw [← hW1]
          clear hW1
          go_quiet (fail)
          go_wp2
          go_ret
          exact ⟨by rw [HF.out]; rfl, below_drewN HB1.out _⟩
        · skip
          rcases Bool.eq_false_or_eq_true (decide (24 < x.id)) with e1 | e1
          · skip
            have HF : Hid (accsOk l = false) := Lib.hid (accsOk_b HKL.out (by rw [← HMM.out, HM.out]; simp [e0, e1]))
            clear HM
            go_wp2
            rw [← hW1]
            clear hW1
            go_quiet (fail)
            go_wp2
            go_ret
            exact ⟨by rw [HF.out]; rfl, below_drewN HB1.out _⟩
          · skip
            rcases Bool.eq_false_or_eq_true (decide (x.member < 1)) with e2 | e2
            · skip
              have HF : Hid (accsOk l = false) := Lib.hid (accsOk_b HKL.out (by rw [← HMM.out, HM.out]; simp [e0, e1, e2]))
              clear HM
              go_wp2
              rw [← hW1]
              clear hW1
              go_quiet (fail)
              go_wp2
              go_ret
              exact ⟨by rw [HF.out]; rfl, below_drewN HB1.out _⟩
            · skip
              rcases Bool.eq_false_or_eq_true (decide (12 < x.member)) with e3 | e3
              · skip
                have HF : Hid (accsOk l = false) := Lib.hid (accsOk_b HKL.out (by rw [← HMM.out, HM.out]; simp [e0, e1, e2, e3]))
                clear HM
                go_wp2
                rw [← hW1]
                clear hW1
                go_quiet (fail)
                go_wp2
                go_ret
                exact ⟨by rw [HF.out]; rfl, below_drewN HB1.out _⟩
              · skip
                rcases Bool.eq_false_or_eq_true ((x.kind != 1)) with e4 | e4
                · skip
                  rcases Bool.eq_false_or_eq_true ((x.kind != 2)) with e5 | e5
                  · skip
                    have HF : Hid (accsOk l = false) := Lib.hid (accsOk_b HKL.out (by rw [← HMM.out, HM.out]; simp [e0, e1, e2, e3, e4, e5]))
                    clear HM
                    go_wp2
                    rw [← hW1]
                    clear hW1
                    go_quiet (fail)
                    go_wp2
                    go_ret
                    exact ⟨by rw [HF.out]; rfl, below_drewN HB1.out _⟩
                  · skip
                    rcases Bool.eq_false_or_eq_true (decide (x.limit < 0)) with e6 | e6
                    · skip
                      have HF : Hid (accsOk l = false) := Lib.hid (accsOk_b HKL.out (by rw [← HMM.out, HM.out]; simp [e0, e1, e2, e3, e4, e5, e6]))
                      clear HM
                      go_wp2
                      rw [← hW1]
                      clear hW1
                      go_quiet (fail)
                      go_wp2
                      go_ret
                      exact ⟨by rw [HF.out]; rfl, below_drewN HB1.out _⟩
                    · skip
                      rcases Bool.eq_false_or_eq_true (decide (1000000000000 < x.limit)) with e7 | e7
                      · skip
                        have HF : Hid (accsOk l = false) := Lib.hid (accsOk_b HKL.out (by rw [← HMM.out, HM.out]; simp [e0, e1, e2, e3, e4, e5, e6, e7]))
                        clear HM
                        go_wp2
                        rw [← hW1]
                        clear hW1
                        go_quiet (fail)
                        go_wp2
                        go_ret
                        exact ⟨by rw [HF.out]; rfl, below_drewN HB1.out _⟩
                      · skip
                        have HT : Hid (accB l k = true) := Lib.hid (by rw [← HMM.out, HM.out]; simp [e0, e1, e2, e3, e4, e5, e6, e7])
                        clear HM
                        go_wp2
                        rw [← hW1]
                        clear hW1
                        go_quiet (fail)
                        go_wp2
                        go_loopw [5] (fun t wq => ∃ s : Nat, s ≤ k ∧ t = .int .i64 (s : Int) ∧ Hid (Rec wq wr.heap.size 25 x.cells) ∧ Hid (Below w.heap.size w wq) ∧ Hid (∀ j, j < s → accH x (l.getD j SAcc.zero) = false)) (fun t _ => k - (intOf t).toNat)
                        case atStart => exact ⟨0, Nat.zero_le _, rfl, Lib.hid (HP.out.keep (below_drewN (Below.refl _ _) _)), Lib.hid (below_drewN HB1.out _), Lib.hid (fun j hj => absurd hj (Nat.not_lt_zero j))⟩
                        case round =>
                          obtain ⟨s, hs, rfl, HQ, HBQ, HS⟩ := hrel
                          clear q0 q1 q2 q3 HP HB1
                          obtain ⟨⟨q0, q1, q2, q3⟩, _⟩ := SAcc.recs HQ.out
                          by_cases hsl : s < k
                          · obtain ⟨bZ, offZ, hAZ, _, hcz⟩ := SAcc.reads (HI.out.below HBQ.out (fun _ => rfl)) (by have := HKL.out; omega)
                            injection hAZ with hAZ
                            injection hAZ with hz1 hz2
                            subst hz1; subst hz2
                            obtain ⟨z0, z1, z2, z3⟩ := hcz s (by have := HKL.out; omega)
                            obtain ⟨z, hz⟩ : ∃ z, z = l.getD s SAcc.zero := ⟨_, rfl⟩
                            have HZ := Lib.hid hz
                            rw [← hz] at z0 z1 z2 z3
                            clear hz hcz
                            rcases Bool.eq_false_or_eq_true (x.kind == 1) with c0 | c0
                            · rcases Bool.eq_false_or_eq_true (z.kind == 1) with c1 | c1
                              · rcases Bool.eq_false_or_eq_true (z.member == x.member) with c2 | c2
                                · have HF : Hid (accsOk l = false) := Lib.hid (accsOk_h HKL.out hsl (by rw [← HX.out, ← HZ.out]; unfold accH; rw [c0, c1, c2]; rfl))
                                  go_wp2
                                  go_quiet (fail)
                                  go_wp2
                                  go_ret
                                  exact ⟨by rw [HF.out]; rfl, below_drewN HBQ.out _⟩
                                · have HF : Hid (accH x z = false) := Lib.hid (by unfold accH; rw [c0, c1, c2]; rfl)
                                  go_wp2
                                  go_quiet (fail)
                                  go_wp2
                                  go_roundw
                                  case rel => exact ⟨s + 1, by omega, by go_num, Lib.hid (HQ.out.keep (below_drewN (Below.refl _ _) _)), Lib.hid (below_drewN HBQ.out _), Lib.hid (fun j hj => by
                                    rcases Nat.lt_or_ge j s with h | h
                                    · exact HS.out j h
                                    · obtain rfl : j = s := by omega
                                      rw [← HZ.out]; exact HF.out)⟩
                                  case measure => simp [intOf]; omega
                              · have HF : Hid (accH x z = false) := Lib.hid (by unfold accH; rw [c0, c1]; rfl)
                                go_wp2
                                go_quiet (fail)
                                go_wp2
                                go_roundw
                                case rel => exact ⟨s + 1, by omega, by go_num, Lib.hid (HQ.out.keep (below_drewN (Below.refl _ _) _)), Lib.hid (below_drewN HBQ.out _), Lib.hid (fun j hj => by
                                  rcases Nat.lt_or_ge j s with h | h
                                  · exact HS.out j h
                                  · obtain rfl : j = s := by omega
                                    rw [← HZ.out]; exact HF.out)⟩
                                case measure => simp [intOf]; omega
                            · have HF : Hid (accH x z = false) := Lib.hid (by unfold accH; rw [c0]; rfl)
                              go_wp2
                              go_quiet (fail)
                              go_wp2
                              go_roundw
                              case rel => exact ⟨s + 1, by omega, by go_num, Lib.hid (HQ.out.keep (below_drewN (Below.refl _ _) _)), Lib.hid (below_drewN HBQ.out _), Lib.hid (fun j hj => by
                                rcases Nat.lt_or_ge j s with h | h
                                · exact HS.out j h
                                · obtain rfl : j = s := by omega
                                  rw [← HZ.out]; exact HF.out)⟩
                              case measure => simp [intOf]; omega
                          · obtain rfl : k = s := by omega
                            have HOK : Hid (accAt l (k) = true) := Lib.hid (by unfold accAt; rw [HT.out, Bool.true_and]; exact allTo_true (fun i hi => by rw [← HX.out, HS.out i hi]; rfl))
                            go_wp2
                            go_roundw
                            case rel => exact ⟨k + 1, by omega, by go_num, HBQ, Lib.hid (fun j hj => by
                              rcases Nat.lt_or_ge j (k) with h | h
                              · exact HA.out j h
                              · obtain rfl : k = j := by omega
                                exact HOK.out)⟩
                            case measure => simp [intOf]; omega
                · skip
                  rcases Bool.eq_false_or_eq_true (decide (x.limit < 0)) with e5 | e5
                  · skip
                    have HF : Hid (accsOk l = false) := Lib.hid (accsOk_b HKL.out (by rw [← HMM.out, HM.out]; simp [e0, e1, e2, e3, e4, e5]))
                    clear HM
                    go_wp2
                    rw [← hW1]
                    clear hW1
                    go_quiet (fail)
                    go_wp2
                    go_ret
                    exact ⟨by rw [HF.out]; rfl, below_drewN HB1.out _⟩
                  · skip
                    rcases Bool.eq_false_or_eq_true (decide (1000000000000 < x.limit)) with e6 | e6
                    · skip
                      have HF : Hid (accsOk l = false) := Lib.hid (accsOk_b HKL.out (by rw [← HMM.out, HM.out]; simp [e0, e1, e2, e3, e4, e5, e6]))
                      clear HM
                      go_wp2
                      rw [← hW1]
                      clear hW1
                      go_quiet (fail)
                      go_wp2
                      go_ret
                      exact ⟨by rw [HF.out]; rfl, below_drewN HB1.out _⟩
                    · skip
                      have HT : Hid (accB l k = true) := Lib.hid (by rw [← HMM.out, HM.out]; simp [e0, e1, e2, e3, e4, e5, e6])
                      clear HM
                      go_wp2
                      rw [← hW1]
                      clear hW1
                      go_quiet (fail)
                      go_wp2
                      go_loopw [5] (fun t wq => ∃ s : Nat, s ≤ k ∧ t = .int .i64 (s : Int) ∧ Hid (Rec wq wr.heap.size 25 x.cells) ∧ Hid (Below w.heap.size w wq) ∧ Hid (∀ j, j < s → accH x (l.getD j SAcc.zero) = false)) (fun t _ => k - (intOf t).toNat)
                      case atStart => exact ⟨0, Nat.zero_le _, rfl, Lib.hid (HP.out.keep (below_drewN (Below.refl _ _) _)), Lib.hid (below_drewN HB1.out _), Lib.hid (fun j hj => absurd hj (Nat.not_lt_zero j))⟩
                      case round =>
                        obtain ⟨s, hs, rfl, HQ, HBQ, HS⟩ := hrel
                        clear q0 q1 q2 q3 HP HB1
                        obtain ⟨⟨q0, q1, q2, q3⟩, _⟩ := SAcc.recs HQ.out
                        by_cases hsl : s < k
                        · obtain ⟨bZ, offZ, hAZ, _, hcz⟩ := SAcc.reads (HI.out.below HBQ.out (fun _ => rfl)) (by have := HKL.out; omega)
                          injection hAZ with hAZ
                          injection hAZ with hz1 hz2
                          subst hz1; subst hz2
                          obtain ⟨z0, z1, z2, z3⟩ := hcz s (by have := HKL.out; omega)
                          obtain ⟨z, hz⟩ : ∃ z, z = l.getD s SAcc.zero := ⟨_, rfl⟩
                          have HZ := Lib.hid hz
                          rw [← hz] at z0 z1 z2 z3
                          clear hz hcz
                          rcases Bool.eq_false_or_eq_true (x.kind == 1) with c0 | c0
                          · rcases Bool.eq_false_or_eq_true (z.kind == 1) with c1 | c1
                            · rcases Bool.eq_false_or_eq_true (z.member == x.member) with c2 | c2
                              · have HF : Hid (accsOk l = false) := Lib.hid (accsOk_h HKL.out hsl (by rw [← HX.out, ← HZ.out]; unfold accH; rw [c0, c1, c2]; rfl))
                                go_wp2
                                go_quiet (fail)
                                go_wp2
                                go_ret
                                exact ⟨by rw [HF.out]; rfl, below_drewN HBQ.out _⟩
                              · have HF : Hid (accH x z = false) := Lib.hid (by unfold accH; rw [c0, c1, c2]; rfl)
                                go_wp2
                                go_quiet (fail)
                                go_wp2
                                go_roundw
                                case rel => exact ⟨s + 1, by omega, by go_num, Lib.hid (HQ.out.keep (below_drewN (Below.refl _ _) _)), Lib.hid (below_drewN HBQ.out _), Lib.hid (fun j hj => by
                                  rcases Nat.lt_or_ge j s with h | h
                                  · exact HS.out j h
                                  · obtain rfl : j = s := by omega
                                    rw [← HZ.out]; exact HF.out)⟩
                                case measure => simp [intOf]; omega
                            · have HF : Hid (accH x z = false) := Lib.hid (by unfold accH; rw [c0, c1]; rfl)
                              go_wp2
                              go_quiet (fail)
                              go_wp2
                              go_roundw
                              case rel => exact ⟨s + 1, by omega, by go_num, Lib.hid (HQ.out.keep (below_drewN (Below.refl _ _) _)), Lib.hid (below_drewN HBQ.out _), Lib.hid (fun j hj => by
                                rcases Nat.lt_or_ge j s with h | h
                                · exact HS.out j h
                                · obtain rfl : j = s := by omega
                                  rw [← HZ.out]; exact HF.out)⟩
                              case measure => simp [intOf]; omega
                          · have HF : Hid (accH x z = false) := Lib.hid (by unfold accH; rw [c0]; rfl)
                            go_wp2
                            go_quiet (fail)
                            go_wp2
                            go_roundw
                            case rel => exact ⟨s + 1, by omega, by go_num, Lib.hid (HQ.out.keep (below_drewN (Below.refl _ _) _)), Lib.hid (below_drewN HBQ.out _), Lib.hid (fun j hj => by
                              rcases Nat.lt_or_ge j s with h | h
                              · exact HS.out j h
                              · obtain rfl : j = s := by omega
                                rw [← HZ.out]; exact HF.out)⟩
                            case measure => simp [intOf]; omega
                        · obtain rfl : k = s := by omega
                          have HOK : Hid (accAt l (k) = true) := Lib.hid (by unfold accAt; rw [HT.out, Bool.true_and]; exact allTo_true (fun i hi => by rw [← HX.out, HS.out i hi]; rfl))
                          go_wp2
                          go_roundw
                          case rel => exact ⟨k + 1, by omega, by go_num, HBQ, Lib.hid (fun j hj => by
                            rcases Nat.lt_or_ge j (k) with h | h
                            · exact HA.out j h
                            · obtain rfl : k = j := by omega
                              exact HOK.out)⟩
                          case measure => simp [intOf]; omega
      · obtain ⟨m, hm⟩ : ∃ m, k = m + 1 := ⟨k - 1, by omega⟩
        obtain ⟨p0, p1, p2, p3⟩ := hcells m (by omega)
        have hkm : (k : Int) - 1 = (m : Int) := by omega
        have hmn : m < n := by omega
        obtain ⟨M, hM⟩ : ∃ M, M = accB l k := ⟨_, rfl⟩
        have HM := Lib.hid hM
        have HMM := Lib.hid hM
        have hz : decide (0 < k) = true := decide_eq_true (by omega)
        unfold accB at HM
        rw [hz, show k - 1 = m by omega, ← hx] at HM
        generalize l.getD m SAcc.zero = y at *
        clear hkl hcells h0 hM hx hm
        rcases Bool.eq_false_or_eq_true (decide (x.id < 1)) with e0 | e0
        · skip
          have HF : Hid (accsOk l = false) := Lib.hid (accsOk_b HKL.out (by rw [← HMM.out, HM.out]; simp [e0]))
          clear HM
          go_wp2
          rw [← hW1]
          clear hW1
          go_quiet (fail)
          go_wp2
          go_ret
          exact ⟨by rw [HF.out]; rfl, below_drewN HB1.out _⟩
        · skip
          rcases Bool.eq_false_or_eq_true (decide (24 < x.id)) with e1 | e1
          · skip
            have HF : Hid (accsOk l = false) := Lib.hid (accsOk_b HKL.out (by rw [← HMM.out, HM.out]; simp [e0, e1]))
            clear HM
            go_wp2
            rw [← hW1]
            clear hW1
            go_quiet (fail)
            go_wp2
            go_ret
            exact ⟨by rw [HF.out]; rfl, below_drewN HB1.out _⟩
          · skip
            rcases Bool.eq_false_or_eq_true (decide (x.member < 1)) with e2 | e2
            · skip
              have HF : Hid (accsOk l = false) := Lib.hid (accsOk_b HKL.out (by rw [← HMM.out, HM.out]; simp [e0, e1, e2]))
              clear HM
              go_wp2
              rw [← hW1]
              clear hW1
              go_quiet (fail)
              go_wp2
              go_ret
              exact ⟨by rw [HF.out]; rfl, below_drewN HB1.out _⟩
            · skip
              rcases Bool.eq_false_or_eq_true (decide (12 < x.member)) with e3 | e3
              · skip
                have HF : Hid (accsOk l = false) := Lib.hid (accsOk_b HKL.out (by rw [← HMM.out, HM.out]; simp [e0, e1, e2, e3]))
                clear HM
                go_wp2
                rw [← hW1]
                clear hW1
                go_quiet (fail)
                go_wp2
                go_ret
                exact ⟨by rw [HF.out]; rfl, below_drewN HB1.out _⟩
              · skip
                rcases Bool.eq_false_or_eq_true ((x.kind != 1)) with e4 | e4
                · skip
                  rcases Bool.eq_false_or_eq_true ((x.kind != 2)) with e5 | e5
                  · skip
                    have HF : Hid (accsOk l = false) := Lib.hid (accsOk_b HKL.out (by rw [← HMM.out, HM.out]; simp [e0, e1, e2, e3, e4, e5]))
                    clear HM
                    go_wp2
                    rw [← hW1]
                    clear hW1
                    go_quiet (fail)
                    go_wp2
                    go_ret
                    exact ⟨by rw [HF.out]; rfl, below_drewN HB1.out _⟩
                  · skip
                    rcases Bool.eq_false_or_eq_true (decide (x.limit < 0)) with e6 | e6
                    · skip
                      have HF : Hid (accsOk l = false) := Lib.hid (accsOk_b HKL.out (by rw [← HMM.out, HM.out]; simp [e0, e1, e2, e3, e4, e5, e6]))
                      clear HM
                      go_wp2
                      rw [← hW1]
                      clear hW1
                      go_quiet (fail)
                      go_wp2
                      go_ret
                      exact ⟨by rw [HF.out]; rfl, below_drewN HB1.out _⟩
                    · skip
                      rcases Bool.eq_false_or_eq_true (decide (1000000000000 < x.limit)) with e7 | e7
                      · skip
                        have HF : Hid (accsOk l = false) := Lib.hid (accsOk_b HKL.out (by rw [← HMM.out, HM.out]; simp [e0, e1, e2, e3, e4, e5, e6, e7]))
                        clear HM
                        go_wp2
                        rw [← hW1]
                        clear hW1
                        go_quiet (fail)
                        go_wp2
                        go_ret
                        exact ⟨by rw [HF.out]; rfl, below_drewN HB1.out _⟩
                      · skip
                        rcases Bool.eq_false_or_eq_true (decide (x.id ≤ y.id)) with e8 | e8
                        · skip
                          have HF : Hid (accsOk l = false) := Lib.hid (accsOk_b HKL.out (by rw [← HMM.out, HM.out]; simp [e0, e1, e2, e3, e4, e5, e6, e7, e8]))
                          clear HM
                          go_wp2
                          rw [← hW1]
                          clear hW1
                          go_quiet (fail)
                          go_wp2
                          go_ret
                          exact ⟨by rw [HF.out]; rfl, below_drewN HB1.out _⟩
                        · skip
                          have HT : Hid (accB l k = true) := Lib.hid (by rw [← HMM.out, HM.out]; simp [e0, e1, e2, e3, e4, e5, e6, e7, e8])
                          clear HM
                          go_wp2
                          rw [← hW1]
                          clear hW1
                          go_quiet (fail)
                          go_wp2
                          go_loopw [5] (fun t wq => ∃ s : Nat, s ≤ k ∧ t = .int .i64 (s : Int) ∧ Hid (Rec wq wr.heap.size 25 x.cells) ∧ Hid (Below w.heap.size w wq) ∧ Hid (∀ j, j < s → accH x (l.getD j SAcc.zero) = false)) (fun t _ => k - (intOf t).toNat)
                          case atStart => exact ⟨0, Nat.zero_le _, rfl, Lib.hid (HP.out.keep (below_drewN (Below.refl _ _) _)), Lib.hid (below_drewN HB1.out _), Lib.hid (fun j hj => absurd hj (Nat.not_lt_zero j))⟩
                          case round =>
                            obtain ⟨s, hs, rfl, HQ, HBQ, HS⟩ := hrel
                            clear q0 q1 q2 q3 HP HB1
                            obtain ⟨⟨q0, q1, q2, q3⟩, _⟩ := SAcc.recs HQ.out
                            by_cases hsl : s < k
                            · obtain ⟨bZ, offZ, hAZ, _, hcz⟩ := SAcc.reads (HI.out.below HBQ.out (fun _ => rfl)) (by have := HKL.out; omega)
                              injection hAZ with hAZ
                              injection hAZ with hz1 hz2
                              subst hz1; subst hz2
                              obtain ⟨z0, z1, z2, z3⟩ := hcz s (by have := HKL.out; omega)
                              obtain ⟨z, hz⟩ : ∃ z, z = l.getD s SAcc.zero := ⟨_, rfl⟩
                              have HZ := Lib.hid hz
                              rw [← hz] at z0 z1 z2 z3
                              clear hz hcz
                              rcases Bool.eq_false_or_eq_true (x.kind == 1) with c0 | c0
                              · rcases Bool.eq_false_or_eq_true (z.kind == 1) with c1 | c1
                                · rcases Bool.eq_false_or_eq_true (z.member == x.member) with c2 | c2
                                  · have HF : Hid (accsOk l = false) := Lib.hid (accsOk_h HKL.out hsl (by rw [← HX.out, ← HZ.out]; unfold accH; rw [c0, c1, c2]; rfl))
                                    go_wp2
                                    go_quiet (fail)
                                    go_wp2
                                    go_ret
                                    exact ⟨by rw [HF.out]; rfl, below_drewN HBQ.out _⟩
                                  · have HF : Hid (accH x z = false) := Lib.hid (by unfold accH; rw [c0, c1, c2]; rfl)
                                    go_wp2
                                    go_quiet (fail)
                                    go_wp2
                                    go_roundw
                                    case rel => exact ⟨s + 1, by omega, by go_num, Lib.hid (HQ.out.keep (below_drewN (Below.refl _ _) _)), Lib.hid (below_drewN HBQ.out _), Lib.hid (fun j hj => by
                                      rcases Nat.lt_or_ge j s with h | h
                                      · exact HS.out j h
                                      · obtain rfl : j = s := by omega
                                        rw [← HZ.out]; exact HF.out)⟩
                                    case measure => simp [intOf]; omega
                                · have HF : Hid (accH x z = false) := Lib.hid (by unfold accH; rw [c0, c1]; rfl)
                                  go_wp2
                                  go_quiet (fail)
                                  go_wp2
                                  go_roundw
                                  case rel => exact ⟨s + 1, by omega, by go_num, Lib.hid (HQ.out.keep (below_drewN (Below.refl _ _) _)), Lib.hid (below_drewN HBQ.out _), Lib.hid (fun j hj => by
                                    rcases Nat.lt_or_ge j s with h | h
                                    · exact HS.out j h
                                    · obtain rfl : j = s := by omega
                                      rw [← HZ.out]; exact HF.out)⟩
                                  case measure => simp [intOf]; omega
                              · have HF : Hid (accH x z = false) := Lib.hid (by unfold accH; rw [c0]; rfl)
                                go_wp2
                                go_quiet (fail)
                                go_wp2
                                go_roundw
                                case rel => exact ⟨s + 1, by omega, by go_num, Lib.hid (HQ.out.keep (below_drewN (Below.refl _ _) _)), Lib.hid (below_drewN HBQ.out _), Lib.hid (fun j hj => by
                                  rcases Nat.lt_or_ge j s with h | h
                                  · exact HS.out j h
                                  · obtain rfl : j = s := by omega
                                    rw [← HZ.out]; exact HF.out)⟩
                                case measure => simp [intOf]; omega
                            · obtain rfl : k = s := by omega
                              have HOK : Hid (accAt l (k) = true) := Lib.hid (by unfold accAt; rw [HT.out, Bool.true_and]; exact allTo_true (fun i hi => by rw [← HX.out, HS.out i hi]; rfl))
                              go_wp2
                              go_roundw
                              case rel => exact ⟨k + 1, by omega, by go_num, HBQ, Lib.hid (fun j hj => by
                                rcases Nat.lt_or_ge j (k) with h | h
                                · exact HA.out j h
                                · obtain rfl : k = j := by omega
                                  exact HOK.out)⟩
                              case measure => simp [intOf]; omega
                · skip
                  rcases Bool.eq_false_or_eq_true (decide (x.limit < 0)) with e5 | e5
                  · skip
                    have HF : Hid (accsOk l = false) := Lib.hid (accsOk_b HKL.out (by rw [← HMM.out, HM.out]; simp [e0, e1, e2, e3, e4, e5]))
                    clear HM
                    go_wp2
                    rw [← hW1]
                    clear hW1
                    go_quiet (fail)
                    go_wp2
                    go_ret
                    exact ⟨by rw [HF.out]; rfl, below_drewN HB1.out _⟩
                  · skip
                    rcases Bool.eq_false_or_eq_true (decide (1000000000000 < x.limit)) with e6 | e6
                    · skip
                      have HF : Hid (accsOk l = false) := Lib.hid (accsOk_b HKL.out (by rw [← HMM.out, HM.out]; simp [e0, e1, e2, e3, e4, e5, e6]))
                      clear HM
                      go_wp2
                      rw [← hW1]
                      clear hW1
                      go_quiet (fail)
                      go_wp2
                      go_ret
                      exact ⟨by rw [HF.out]; rfl, below_drewN HB1.out _⟩
                    · skip
                      rcases Bool.eq_false_or_eq_true (decide (x.id ≤ y.id)) with e7 | e7
                      · skip
                        have HF : Hid (accsOk l = false) := Lib.hid (accsOk_b HKL.out (by rw [← HMM.out, HM.out]; simp [e0, e1, e2, e3, e4, e5, e6, e7]))
                        clear HM
                        go_wp2
                        rw [← hW1]
                        clear hW1
                        go_quiet (fail)
                        go_wp2
                        go_ret
                        exact ⟨by rw [HF.out]; rfl, below_drewN HB1.out _⟩
                      · skip
                        have HT : Hid (accB l k = true) := Lib.hid (by rw [← HMM.out, HM.out]; simp [e0, e1, e2, e3, e4, e5, e6, e7])
                        clear HM
                        go_wp2
                        rw [← hW1]
                        clear hW1
                        go_quiet (fail)
                        go_wp2
                        go_loopw [5] (fun t wq => ∃ s : Nat, s ≤ k ∧ t = .int .i64 (s : Int) ∧ Hid (Rec wq wr.heap.size 25 x.cells) ∧ Hid (Below w.heap.size w wq) ∧ Hid (∀ j, j < s → accH x (l.getD j SAcc.zero) = false)) (fun t _ => k - (intOf t).toNat)
                        case atStart => exact ⟨0, Nat.zero_le _, rfl, Lib.hid (HP.out.keep (below_drewN (Below.refl _ _) _)), Lib.hid (below_drewN HB1.out _), Lib.hid (fun j hj => absurd hj (Nat.not_lt_zero j))⟩
                        case round =>
                          obtain ⟨s, hs, rfl, HQ, HBQ, HS⟩ := hrel
                          clear q0 q1 q2 q3 HP HB1
                          obtain ⟨⟨q0, q1, q2, q3⟩, _⟩ := SAcc.recs HQ.out
                          by_cases hsl : s < k
                          · obtain ⟨bZ, offZ, hAZ, _, hcz⟩ := SAcc.reads (HI.out.below HBQ.out (fun _ => rfl)) (by have := HKL.out; omega)
                            injection hAZ with hAZ
                            injection hAZ with hz1 hz2
                            subst hz1; subst hz2
                            obtain ⟨z0, z1, z2, z3⟩ := hcz s (by have := HKL.out; omega)
                            obtain ⟨z, hz⟩ : ∃ z, z = l.getD s SAcc.zero := ⟨_, rfl⟩
                            have HZ := Lib.hid hz
                            rw [← hz] at z0 z1 z2 z3
                            clear hz hcz
                            rcases Bool.eq_false_or_eq_true (x.kind == 1) with c0 | c0
                            · rcases Bool.eq_false_or_eq_true (z.kind == 1) with c1 | c1
                              · rcases Bool.eq_false_or_eq_true (z.member == x.member) with c2 | c2
                                · have HF : Hid (accsOk l = false) := Lib.hid (accsOk_h HKL.out hsl (by rw [← HX.out, ← HZ.out]; unfold accH; rw [c0, c1, c2]; rfl))
                                  go_wp2
                                  go_quiet (fail)
                                  go_wp2
                                  go_ret
                                  exact ⟨by rw [HF.out]; rfl, below_drewN HBQ.out _⟩
                                · have HF : Hid (accH x z = false) := Lib.hid (by unfold accH; rw [c0, c1, c2]; rfl)
                                  go_wp2
                                  go_quiet (fail)
                                  go_wp2
                                  go_roundw
                                  case rel => exact ⟨s + 1, by omega, by go_num, Lib.hid (HQ.out.keep (below_drewN (Below.refl _ _) _)), Lib.hid (below_drewN HBQ.out _), Lib.hid (fun j hj => by
                                    rcases Nat.lt_or_ge j s with h | h
                                    · exact HS.out j h
                                    · obtain rfl : j = s := by omega
                                      rw [← HZ.out]; exact HF.out)⟩
                                  case measure => simp [intOf]; omega
                              · have HF : Hid (accH x z = false) := Lib.hid (by unfold accH; rw [c0, c1]; rfl)
                                go_wp2
                                go_quiet (fail)
                                go_wp2
                                go_roundw
                                case rel => exact ⟨s + 1, by omega, by go_num, Lib.hid (HQ.out.keep (below_drewN (Below.refl _ _) _)), Lib.hid (below_drewN HBQ.out _), Lib.hid (fun j hj => by
                                  rcases Nat.lt_or_ge j s with h | h
                                  · exact HS.out j h
                                  · obtain rfl : j = s := by omega
                                    rw [← HZ.out]; exact HF.out)⟩
                                case measure => simp [intOf]; omega
                            · have HF : Hid (accH x z = false) := Lib.hid (by unfold accH; rw [c0]; rfl)
                              go_wp2
                              go_quiet (fail)
                              go_wp2
                              go_roundw
                              case rel => exact ⟨s + 1, by omega, by go_num, Lib.hid (HQ.out.keep (below_drewN (Below.refl _ _) _)), Lib.hid (below_drewN HBQ.out _), Lib.hid (fun j hj => by
                                rcases Nat.lt_or_ge j s with h | h
                                · exact HS.out j h
                                · obtain rfl : j = s := by omega
                                  rw [← HZ.out]; exact HF.out)⟩
                              case measure => simp [intOf]; omega
                          · obtain rfl : k = s := by omega
                            have HOK : Hid (accAt l (k) = true) := Lib.hid (by unfold accAt; rw [HT.out, Bool.true_and]; exact allTo_true (fun i hi => by rw [← HX.out, HS.out i hi]; rfl))
                            go_wp2
                            go_roundw
                            case rel => exact ⟨k + 1, by omega, by go_num, HBQ, Lib.hid (fun j hj => by
                              rcases Nat.lt_or_ge j (k) with h | h
                              · exact HA.out j h
                              · obtain rfl : k = j := by omega
                                exact HOK.out)⟩
                            case measure => simp [intOf]; omega
    · obtain rfl : k = n := by omega
      have HE : Hid (accsOk l = true) := Lib.hid (allTo_true (fun i hi => HA.out i (by rw [HN.out]; exact hi)))
      go_wp2
      go_ret
      exact ⟨by rw [HE.out]; rfl, HB.out⟩
end Go.Proofs.Ytjlhmiajklddiaa
