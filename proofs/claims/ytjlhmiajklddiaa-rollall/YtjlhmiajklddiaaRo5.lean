/-
  The walks of the reference's House, Owned.
-/
import Derived.Test.YtjlhmiajklddiaaRo4
namespace Go.Proofs.Ytjlhmiajklddiaa
set_option maxRecDepth 8000
open Go Go.RowKit
set_option linter.unusedVariables false

/-- A member's house account: its number, or 0. -/
def houF (l : List SAcc) (m : Int) : Int := ((l.find? fun x => x.member == m && x.kind == 1).map SAcc.id).getD 0
def houV (l : List SAcc) (m : Int) : Int := if accsOk l then houF l m else 0
set_option maxRecDepth 8000 in
set_option maxHeartbeats 8000000 in
theorem rhouse_any (A : Option Addr) (l : List SAcc) (n c : Nat) (id : Int) (w : World) (hn : n = l.length) (hI : MemL SAcc.cells 4 w A l) (hl : n ≤ 9223372036854775807) : Calls Try.prog 31 #[.slice A n c, .int .i64 id] w fun r w' => r = .returned (.int .i64 (houV l id)) ∧ Below w.heap.size w w' := by
  have CA := Lib.hid (raccs_any A l n c _ hn hI hl)
  have HN := Lib.hid hn
  have HI := Lib.hid hI
  have HV : Hid (∀ b, accsOk l = b → houV l id = if b then houF l id else 0) := Lib.hid (fun b hb => by unfold houV; rw [hb])
  clear hn hI
  cases hmo : accsOk l with
  | false =>
    have HF := Lib.hid (HV.out _ hmo)
    rw [hmo] at CA
    clear hmo
    go_enter Try.func31, Try.ntmps31
    go_wp2_with (go_at_call 28; (with_reducible refine CA.out.mono ?_); rintro r w1 ⟨rfl, hb1⟩; have HB1 := Lib.hid hb1; clear hb1)
    go_ret
    exact ⟨by rw [HF.out]; rfl, HB1.out⟩
  | true =>
    have HF := Lib.hid (HV.out _ hmo)
    rw [hmo] at CA
    rw [if_pos rfl] at HF
    clear hmo
    go_enter Try.func31, Try.ntmps31
    go_wp2_with (go_at_call 28; (with_reducible refine CA.out.mono ?_); rintro r w1 ⟨rfl, hb1⟩; have HB1 := Lib.hid hb1; clear hb1)
    go_loopw [5] (fun i wr => ∃ k : Nat, k ≤ n ∧ i = .int .i64 (k : Int) ∧ Hid (Below w.heap.size w wr) ∧ Hid (∀ j, j < k → ((l.getD j SAcc.zero).member == id && (l.getD j SAcc.zero).kind == 1) = false)) (fun i _ => n - (intOf i).toNat)
    case atStart => exact ⟨0, Nat.zero_le _, rfl, HB1, Lib.hid (fun j hj => absurd hj (Nat.not_lt_zero j))⟩
    case round =>
      obtain ⟨k, hk, rfl, HB, HA⟩ := hrel
      by_cases hlt : k < n
      · have hkl : k < l.length := by rw [← HN.out]; exact hlt
        obtain ⟨b, off, rfl, _, hcells⟩ := SAcc.reads (HI.out.below HB.out (fun _ => rfl)) (by omega)
        obtain ⟨g0, g1, g2, g3⟩ := hcells k hkl
        obtain ⟨x, hx⟩ : ∃ x, x = l.getD k SAcc.zero := ⟨_, rfl⟩
        have HX := Lib.hid hx
        have HKL := Lib.hid hkl
        rw [← hx] at g0 g1 g2 g3
        have HNX : Hid ((x.member == id && x.kind == 1) = false → ∀ j, j < k + 1 → ((l.getD j SAcc.zero).member == id && (l.getD j SAcc.zero).kind == 1) = false) := Lib.hid (fun h0 j hj => by
          rcases Nat.lt_or_ge j k with h | h
          · exact HA.out j h
          · obtain rfl : j = k := by omega
            rw [← HX.out]; exact h0)
        clear hx hkl hcells
        by_cases h1 : x.member = id
        · by_cases h2 : x.kind = 1
          · have HS : Hid (houF l id = x.id) := Lib.hid (by
              unfold houF
              rw [find_some HKL.out (by rw [← SAcc.at (x := SAcc.zero) HKL.out, ← HX.out, h1, h2]; simp) (fun j hj => by rw [← SAcc.at (x := SAcc.zero)]; exact HA.out j hj), ← SAcc.at (x := SAcc.zero) HKL.out, ← HX.out]
              rfl)
            have e1 : (x.member == id) = true := beq_iff_eq.2 h1
            have e2 : (x.kind == 1) = true := beq_iff_eq.2 h2
            clear h1 h2
            go_wp2
            go_ret
            exact ⟨by rw [HF.out, HS.out]; rfl, HB.out⟩
          · have e1 : (x.member == id) = true := beq_iff_eq.2 h1
            have e2 : (x.kind == 1) = false := beq_eq_false_iff_ne.2 h2
            have HS : Hid ((x.member == id && x.kind == 1) = false) := Lib.hid (by rw [e2, Bool.and_false])
            clear h1 h2
            go_wp2
            go_roundw
            case rel => exact ⟨k + 1, by omega, by go_num, HB, Lib.hid (HNX.out HS.out)⟩
            case measure => simp [intOf]; omega
        · have e1 : (x.member == id) = false := beq_eq_false_iff_ne.2 h1
          have HS : Hid ((x.member == id && x.kind == 1) = false) := Lib.hid (by rw [e1, Bool.false_and])
          clear h1
          go_wp2
          go_roundw
          case rel => exact ⟨k + 1, by omega, by go_num, HB, Lib.hid (HNX.out HS.out)⟩
          case measure => simp [intOf]; omega
      · obtain rfl : k = n := by omega
        have HS : Hid (houF l id = 0) := Lib.hid (by
          unfold houF
          rw [find_none (fun j hj => by rw [← SAcc.at (x := SAcc.zero)]; exact HA.out j (by rw [HN.out]; exact hj))]
          rfl)
        go_wp2
        go_ret
        exact ⟨by rw [HF.out, HS.out]; rfl, HB.out⟩
/-- The numbers of a member's accounts. -/
def ownF (l : List SAcc) (m : Int) : List Int := (l.filter fun x => x.member == m).map SAcc.id
def ownV (l : List SAcc) (m : Int) : List Int := if accsOk l then ownF l m else []
theorem ownF_succ (l : List SAcc) (m : Int) {k : Nat} (hk : k < l.length) : ownF (l.take (k + 1)) m = ownF (l.take k) m ++ (if (l.getD k SAcc.zero).member == m then [(l.getD k SAcc.zero).id] else []) := by
  unfold ownF
  rw [List.take_succ_eq_append_getElem hk, List.filter_append, List.map_append, SAcc.at (x := SAcc.zero) hk]
  congr 1
  by_cases h : (l[k].member == m) = true
  · rw [if_pos h, List.filter_cons]; simp [h]
  · rw [if_neg h, List.filter_cons]; simp [h]
theorem ownF_len (l : List SAcc) (m : Int) (k : Nat) : (ownF (l.take k) m).length ≤ k := by
  unfold ownF
  rw [List.length_map]
  exact Nat.le_trans (List.length_filter_le _ _) (by rw [List.length_take]; omega)
set_option maxRecDepth 8000 in
set_option maxHeartbeats 8000000 in
theorem rowned_any (A : Option Addr) (l : List SAcc) (n c : Nat) (id : Int) (w : World) (hn : n = l.length) (hI : MemL SAcc.cells 4 w A l) (hl : n ≤ 1000000000000) : Calls Try.prog 32 #[.slice A n c, .int .i64 id] w fun r w' => ∃ v, r = .returned v ∧ OwnI64 w' w.heap.size v (ownV l id) ∧ Below w.heap.size w w' := by
  have CA := Lib.hid (raccs_any A l n c _ hn hI (by omega))
  have HN := Lib.hid hn
  have HI := Lib.hid hI
  have HV : Hid (∀ b, accsOk l = b → ownV l id = if b then ownF l id else []) := Lib.hid (fun b hb => by unfold ownV; rw [hb])
  clear hn hI
  cases hmo : accsOk l with
  | false =>
    have HF := Lib.hid (HV.out _ hmo)
    rw [hmo] at CA
    clear hmo
    go_enter Try.func32, Try.ntmps32
    go_wp2_with (go_at_call 28; (with_reducible refine CA.out.mono ?_); rintro r w1 ⟨rfl, hb1⟩; have HB1 := Lib.hid hb1; clear hb1)
    go_ret
    exact ⟨_, rfl, by rw [HF.out]; exact ownL_nil _ _, HB1.out⟩
  | true =>
    have HF := Lib.hid (HV.out _ hmo)
    rw [hmo] at CA
    rw [if_pos rfl] at HF
    clear hmo
    go_enter Try.func32, Try.ntmps32
    go_wp2_with (go_at_call 28; (with_reducible refine CA.out.mono ?_); rintro r w1 ⟨rfl, hb1⟩; have HB1 := Lib.hid hb1; clear hb1)
    go_loopw [5, 6] (fun V i wr => ∃ (k : Nat) (U : Value), U = V ∧ k ≤ n ∧ i = .int .i64 (k : Int) ∧ Hid (Below w.heap.size w wr) ∧ Hid (OwnI64 wr w.heap.size U (ownF (l.take k) id))) (fun _ i _ => n - (intOf i).toNat)
    case atStart => exact ⟨0, _, rfl, Nat.zero_le _, rfl, HB1, Lib.hid (ownL_nil _ _)⟩
    case round =>
      obtain ⟨k, V, rfl, hk, rfl, HB, HO⟩ := hrel
      by_cases hlt : k < n
      · have hkl : k < l.length := by rw [← HN.out]; exact hlt
        obtain ⟨b, off, rfl, hbl, hcells⟩ := SAcc.reads (HI.out.below HB.out (fun _ => rfl)) (by omega)
        obtain ⟨g0, g1, g2, g3⟩ := hcells k hkl
        have HS := Lib.hid (ownF_succ l id hkl)
        have HLN := Lib.hid (ownF_len l id k)
        have hsz := HB.out.size
        generalize l.getD k SAcc.zero = x at *
        generalize ownF (l.take k) id = L at *
        clear hkl hcells
        by_cases h1 : x.member = id
        · have e1 : (x.member == id) = true := beq_iff_eq.2 h1
          rw [if_pos e1] at HS
          clear h1
          go_wp2_with (at_builtin; refine wpList_appL lay_int rfl (.tmp 24) (.tmp 30) rfl w.heap.size _ L rfl (HO.out.alloc _) _ 1 x.id rfl (lit_one _ _ _ (encI x.id) rfl _ (by simp)) (by have := HLN.out; omega) (by have := HLN.out; omega) (by simp; omega) ?_; rintro v' w' ho hg _; have HO5 := Lib.hid ho; have HB5 := Lib.hid (OwnL.below (HO.out.alloc _) hg (by simp; omega)); clear ho hg)
          go_roundw
          case rel => exact ⟨k + 1, _, rfl, by omega, by go_num, Lib.hid ((alloc_b HB.out (Nat.le_refl _) _).trans HB5.out), Lib.hid (by rw [HS.out]; exact HO5.out)⟩
          case measure => simp [intOf]; omega
        · have e1 : (x.member == id) = false := beq_eq_false_iff_ne.2 h1
          rw [if_neg (by rw [e1]; simp), List.append_nil] at HS
          clear h1
          go_wp2
          go_roundw
          case rel => exact ⟨k + 1, _, rfl, by omega, by go_num, HB, Lib.hid (by rw [HS.out]; exact HO.out)⟩
          case measure => simp [intOf]; omega
      · obtain rfl : k = n := by omega
        rw [show l.take k = l from by rw [HN.out]; exact List.take_length] at HO
        go_wp2
        go_ret
        exact ⟨_, rfl, by rw [HF.out]; exact HO.out, HB.out⟩
end Go.Proofs.Ytjlhmiajklddiaa
