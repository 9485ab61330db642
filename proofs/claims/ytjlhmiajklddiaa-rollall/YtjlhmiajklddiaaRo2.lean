/-
  The walks of the reference's status, Status, find, Find, House, Owned.
-/
import Derived.Test.YtjlhmiajklddiaaRo1
import Derived.Test.YtjlhmiajklddiaaStAcc
import Derived.Test.YtjlhmiajklddiaaOwnT
namespace Go.Proofs.Ytjlhmiajklddiaa
set_option maxRecDepth 8000
open Go Go.RowKit
set_option linter.unusedVariables false

/-- The first thing of which p holds. -/
theorem find_some {α : Type} {l : List α} {p : α → Bool} {k : Nat} (hk : k < l.length) (h : p l[k] = true) (hb : ∀ j (hj : j < k), p (l[j]'(by omega)) = false) : l.find? p = some l[k] := by
  rw [List.find?_eq_some_iff_getElem]
  exact ⟨h, k, hk, rfl, fun j hj => by rw [hb j hj]; rfl⟩
theorem find_none {α : Type} {l : List α} {p : α → Bool} (hb : ∀ j (hj : j < l.length), p l[j] = false) : l.find? p = none := by
  rw [List.find?_eq_none]
  intro x hx
  obtain ⟨j, hj, rfl⟩ := List.getElem_of_mem hx
  rw [hb j hj]
  simp
/-- A member's status. -/
def memS (l : List SMember) (id : Int) : Int := ((l.find? fun x => x.id == id).map SMember.status).getD 0
theorem rstat_any (A : Option Addr) (l : List SMember) (n c : Nat) (id : Int) (w : World) (hn : n = l.length) (hI : MemL SMember.cells 2 w A l) (hl : n ≤ 9223372036854775807) : Calls Try.prog 44 #[.slice A n c, .int .i64 id] w fun r w' => r = .returned (.int .i64 (memS l id)) ∧ w = w' := by
  have HN := Lib.hid hn
  have HI := Lib.hid hI
  clear hn hI
  go_enter Try.func44, Try.ntmps44
  go_wp2
  go_loop [5] (fun i => ∃ k : Nat, k ≤ n ∧ i = .int .i64 (k : Int) ∧ Hid (∀ j, j < k → ((l.getD j SMember.zero).id == id) = false)) (fun i => n - (intOf i).toNat)
  case atStart => exact ⟨0, Nat.zero_le _, rfl, Lib.hid (fun j hj => absurd hj (Nat.not_lt_zero j))⟩
  case round =>
    obtain ⟨k, hk, rfl, HA⟩ := hrel
    by_cases hlt : k < n
    · have hkl : k < l.length := by rw [← HN.out]; exact hlt
      obtain ⟨b, off, rfl, _, hcells⟩ := SMember.reads HI.out (by omega)
      obtain ⟨g0, g1⟩ := hcells k hkl
      obtain ⟨x, hx⟩ : ∃ x, x = l.getD k SMember.zero := ⟨_, rfl⟩
      have HX := Lib.hid hx
      have HKL := Lib.hid hkl
      rw [← hx] at g0 g1
      clear hx hkl hcells
      by_cases hid : x.id = id
      · have HS : Hid (memS l id = x.status) := Lib.hid (by
          unfold memS
          rw [find_some HKL.out (by rw [← SMember.at (x := SMember.zero) HKL.out, ← HX.out]; exact beq_iff_eq.2 hid) (fun j hj => by rw [← SMember.at (x := SMember.zero)]; exact HA.out j hj), ← SMember.at (x := SMember.zero) HKL.out, ← HX.out]
          rfl)
        subst hid
        go_wp2
        go_ret
        exact ⟨by rw [HS.out]; rfl, rfl⟩
      · have hb : (x.id == id) = false := beq_eq_false_iff_ne.2 hid
        have HB := Lib.hid hb
        clear hid
        go_wp2
        go_round
        case rel => exact ⟨k + 1, by omega, by go_num, Lib.hid (fun j hj => by
          rcases Nat.lt_or_ge j k with h | h
          · exact HA.out j h
          · obtain rfl : j = k := by omega
            rw [← HX.out]; exact HB.out)⟩
        case measure => simp [intOf]; omega
    · obtain rfl : k = n := by omega
      have HS : Hid (memS l id = 0) := Lib.hid (by
        unfold memS
        rw [find_none (fun j hj => by rw [← SMember.at (x := SMember.zero)]; exact HA.out j (by rw [HN.out]; exact hj))]
        rfl)
      go_wp2
      go_ret
      exact ⟨by rw [HS.out]; rfl, rfl⟩
/-- An account. -/
def accF (l : List SAcc) (id : Int) : Option SAcc := l.find? fun x => x.id == id
set_option maxRecDepth 8000 in
set_option maxHeartbeats 4000000 in
theorem rfindA_any (A : Option Addr) (l : List SAcc) (n c : Nat) (id : Int) (w : World) (hn : n = l.length) (hI : MemL SAcc.cells 4 w A l) (hl : n ≤ 9223372036854775807) : Calls Try.prog 46 #[.slice A n c, .int .i64 id] w fun r w' => r = .returned (.tuple #[((accF l id).getD SAcc.zero).v, .bool (accF l id).isSome]) ∧ Below w.heap.size w w' := by
  have HN := Lib.hid hn
  have HI : Hid (MemL SAcc.cells 4 (w.alloc (.cells SAcc.zero.cells.toArray 25)) A l) := Lib.hid (hI.below ((Below.refl _ _).alloc (Nat.le_refl _) _) (fun _ => rfl))
  have HR : Hid (Rec (w.alloc (.cells SAcc.zero.cells.toArray 25)) w.heap.size 25 SAcc.zero.cells) := Lib.hid (Rec.new _ _ _ _ rfl)
  have HB : Hid (Below w.heap.size w (w.alloc (.cells SAcc.zero.cells.toArray 25))) := Lib.hid ((Below.refl _ _).alloc (Nat.le_refl _) _)
  clear hn hI
  go_enter Try.func46, Try.ntmps46
  go_wp2
  go_loopw [6] (fun i wr => ∃ k : Nat, k ≤ n ∧ i = .int .i64 (k : Int) ∧ Hid (MemL SAcc.cells 4 wr A l) ∧ Hid (Rec wr w.heap.size 25 SAcc.zero.cells) ∧ Hid (Below w.heap.size w wr) ∧ Hid (∀ j, j < k → ((l.getD j SAcc.zero).id == id) = false)) (fun i _ => n - (intOf i).toNat)
  case atStart => exact ⟨0, Nat.zero_le _, rfl, HI, HR, HB, Lib.hid (fun j hj => absurd hj (Nat.not_lt_zero j))⟩
  case round =>
    clear HI HR HB
    obtain ⟨k, hk, rfl, HI, HR, HB, HA⟩ := hrel
    obtain ⟨⟨d0, d1, d2, d3⟩, ⟨f0, f1, f2, f3⟩⟩ := SAcc.recs HR.out
    by_cases hlt : k < n
    · have hkl : k < l.length := by rw [← HN.out]; exact hlt
      obtain ⟨b, off, rfl, _, hcells⟩ := SAcc.reads HI.out (by omega)
      obtain ⟨g0, g1, g2, g3⟩ := hcells k hkl
      obtain ⟨x, hx⟩ : ∃ x, x = l.getD k SAcc.zero := ⟨_, rfl⟩
      have HX := Lib.hid hx
      have HKL := Lib.hid hkl
      rw [← hx] at g0 g1 g2 g3
      clear hx hkl hcells
      by_cases hid : x.id = id
      · have HS : Hid (accF l id = some x) := Lib.hid (by
          unfold accF
          rw [find_some HKL.out (by rw [← SAcc.at (x := SAcc.zero) HKL.out, ← HX.out]; exact beq_iff_eq.2 hid) (fun j hj => by rw [← SAcc.at (x := SAcc.zero)]; exact HA.out j hj), ← SAcc.at (x := SAcc.zero) HKL.out, ← HX.out])
        have HP := Lib.hid (SAcc.put HR.out x)
        have HPB := Lib.hid (SAcc.putB HB.out (Nat.le_refl _) x)
        subst hid
        go_wp2
        obtain ⟨⟨k0, k1, k2, k3⟩, _⟩ := SAcc.recs HP.out
        unfold SAcc.store at k0 k1 k2 k3
        refine bodyPost_ret (v := .tuple #[x.v, .bool true]) (by simp [results, Try.results46, go_sem, SAcc.v, k0, k1, k2, k3]) rfl ⟨by rw [HS.out]; rfl, HPB.out⟩
      · have hb : (x.id == id) = false := beq_eq_false_iff_ne.2 hid
        have HBB := Lib.hid hb
        clear hid
        go_wp2
        go_roundw
        case rel => exact ⟨k + 1, by omega, by go_num, HI, HR, HB, Lib.hid (fun j hj => by
          rcases Nat.lt_or_ge j k with h | h
          · exact HA.out j h
          · obtain rfl : j = k := by omega
            rw [← HX.out]; exact HBB.out)⟩
        case measure => simp [intOf]; omega
    · obtain rfl : k = n := by omega
      have HS : Hid (accF l id = none) := Lib.hid (by
        unfold accF
        rw [find_none (fun j hj => by rw [← SAcc.at (x := SAcc.zero)]; exact HA.out j (by rw [HN.out]; exact hj))])
      have HP := Lib.hid (SAcc.put HR.out SAcc.zero)
      have HPB := Lib.hid (SAcc.putB HB.out (Nat.le_refl _) SAcc.zero)
      go_wp2
      obtain ⟨⟨k0, k1, k2, k3⟩, _⟩ := SAcc.recs HP.out
      dsimp only [SAcc.store, SAcc.zero] at k0 k1 k2 k3
      refine bodyPost_ret (v := .tuple #[SAcc.zero.v, .bool false]) (by simp [results, Try.results46, go_sem, SAcc.v, SAcc.zero, k0, k1, k2, k3]) rfl ⟨by rw [HS.out]; rfl, HPB.out⟩
end Go.Proofs.Ytjlhmiajklddiaa
