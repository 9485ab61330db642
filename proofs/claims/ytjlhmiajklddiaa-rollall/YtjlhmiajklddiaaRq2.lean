/-
  Package slices at members and accounts: Clone, Grow of a nil slice, Concat.
-/
import Derived.Test.YtjlhmiajklddiaaRq1
import Derived.Test.YtjlhmiajklddiaaGrw
namespace Go.Proofs.Ytjlhmiajklddiaa
set_option maxRecDepth 8000
open Go Go.RowKit
set_option linter.unusedVariables false

theorem join_succ {α : Type} (ss : List (Value × List α)) {k : Nat} (hk : k < ss.length) : (ss.take (k + 1)).flatMap Prod.snd = (ss.take k).flatMap Prod.snd ++ ss[k].2 := by
  rw [List.take_succ_eq_append_getElem hk, List.flatMap_append]
  simp
theorem join_le {α : Type} (ss : List (Value × List α)) (k : Nat) : ((ss.take k).flatMap Prod.snd).length ≤ (ss.flatMap Prod.snd).length := by
  conv => rhs; rw [← List.take_append_drop k ss, List.flatMap_append, List.length_append]
  omega
set_option maxRecDepth 8000 in
set_option maxHeartbeats 2000000 in
theorem cloneMember_any (A : Option Addr) (l : List SMember) (n c : Nat) (w : World) (hn : n = l.length) (hI : MemL SMember.cells 2 w A l) (hA : A = none → c = 0) (hl : n ≤ 1000000000000) : Calls Try.prog 42 #[.slice A n c] w fun r w' => ∃ v, r = .returned v ∧ OwnL SMember.cells 39 2 w' w.heap.size v l ∧ Below w.heap.size w w' := by
  cases A with
  | none =>
    obtain rfl := hA rfl
    obtain rfl : l = [] := by
      cases l with
      | nil => rfl
      | cons x l => obtain ⟨b, off, e, _⟩ := hI (by simp); cases e
    obtain rfl : n = 0 := hn
    have he : ∀ w : World, (binOp .eql 22 (.slice none 0 0) (.slice none 0 0)).run Try.prog w = .ok (.bool true) w := fun _ => rfl
    clear hA hI
    go_enter Try.func42, Try.ntmps42
    go_wp2
    go_ret
    exact ⟨_, rfl, ownL_nil _ _, Below.refl _ _⟩
  | some a =>
    have HN := Lib.hid hn
    have HI := Lib.hid hI
    have HL1 : Hid ((([] : List SMember).length + l.length) * 16 ≤ 140737488355328) := Lib.hid (by rw [← hn, List.length_nil]; omega)
    have HL2 : Hid (([] : List SMember).length + l.length ≤ 140737488355328) := Lib.hid (by rw [← hn, List.length_nil]; omega)
    have he : ∀ w : World, (binOp .eql 22 (.slice (some a) n c) (.slice none 0 0)).run Try.prog w = .ok (.bool false) w := fun _ => rfl
    clear hn hI hA
    go_enter Try.func42, Try.ntmps42
    go_wp2_with (at_builtin; refine wpList_appV lay_Member rfl (.tmp 5) (.tmp 6) rfl w.heap.size _ [] rfl (ownL_lit lay_Member w w.heap.size #[] [] (Nat.le_refl _) (by simp) rfl _ (by first | rfl | simp) _ rfl) (some a) n c l HN.out rfl (fun h => by cases h) (HI.out.below (alloc_b (Below.refl _ _) (Nat.le_refl _) _) (fun _ => rfl)) HL1.out HL2.out (by simp) ?_; intro v3 w3 ho3 hb3 _; rw [List.nil_append] at ho3; have HO3 := Lib.hid ho3; have HB3 := Lib.hid ((alloc_b (Below.refl _ _) (Nat.le_refl _) _).trans hb3); clear ho3 hb3)
    go_ret
    exact ⟨_, rfl, HO3.out, HB3.out⟩
set_option maxRecDepth 8000 in
set_option maxHeartbeats 2000000 in
theorem growMember_any (m : Nat) (w : World) (hm : m ≤ 2000000000000) : Calls Try.prog 55 #[.slice none 0 0, .int .i64 (m : Int)] w fun r w' => ∃ v, r = .returned v ∧ OwnL SMember.cells 39 2 w' w.heap.size v [] ∧ Below w.heap.size w w' := by
  rcases Nat.eq_zero_or_pos m with h0 | h0
  · subst h0
    go_enter Try.func55, Try.ntmps55
    go_wp2
    go_ret
    exact ⟨_, rfl, ownL_nil _ _, Below.refl _ _⟩
  · go_enter Try.func55, Try.ntmps55
    go_wp2_with (at_builtin; refine wpList_growNil lay_Member rfl (.tmp 20) (.tmp 21) 3 Try.underlying3 rfl w.heap.size m rfl rfl (by omega) (by omega) h0 (Nat.le_refl _) ?_; intro g c w3 hg hc hc2 ho hb; subst hg; have HO := Lib.hid ho; have HB := Lib.hid hb; clear ho hb)
    go_ret
    exact ⟨_, rfl, HO.out, HB.out⟩
set_option maxRecDepth 8000 in
set_option maxHeartbeats 4000000 in
theorem concatMember_any (b m : Nat) (ss : List (Value × List SMember)) (w : World) (hm : m = ss.length) (hc : ∀ k (h : k < ss.length), w.cell? ⟨b, k, none⟩ = some ss[k].1 ∧ LstV SMember.cells 2 w ss[k].1 ss[k].2) (hl : (ss.flatMap Prod.snd).length ≤ 2000000000000) (hm2 : m ≤ 1000) : Calls Try.prog 50 #[.slice (some ⟨b, 0, none⟩) m m] w fun r w' => ∃ v, r = .returned v ∧ OwnL SMember.cells 39 2 w' w.heap.size v (ss.flatMap Prod.snd) ∧ Below w.heap.size w w' := by
  have HN := Lib.hid hm
  have HC := Lib.hid hc
  have HG := Lib.hid (growMember_any (ss.flatMap Prod.snd).length w hl)
  have HL := Lib.hid hl
  have HJ := Lib.hid (join_le ss)
  clear hm hc hl
  go_enter Try.func50, Try.ntmps50
  go_wp2
  go_loop [3, 11] (fun Z i => ∃ k z : Nat, k ≤ m ∧ Z = .int .i64 (z : Int) ∧ i = .int .i64 (k : Int) ∧ z ≤ 2000000000000 ∧ Hid (z = ((ss.take k).flatMap Prod.snd).length)) (fun _ i => m - (intOf i).toNat)
  case atStart => exact ⟨0, 0, Nat.zero_le _, rfl, rfl, by omega, Lib.hid rfl⟩
  case round =>
    obtain ⟨k, z, hk, rfl, rfl, hz, HZ⟩ := hrel
    by_cases hlt : k < m
    · have hkl : k < ss.length := by rw [← HN.out]; exact hlt
      obtain ⟨h1, A2, c2, h2, h3⟩ := HC.out k hkl
      rw [h2] at h1
      obtain ⟨y, hy⟩ : ∃ y, y = ss[k].2.length := ⟨_, rfl⟩
      rw [← hy] at h1
      have hz2 : z + y = ((ss.take (k + 1)).flatMap Prod.snd).length := by rw [join_succ ss hkl, List.length_append, ← hy, ← HZ.out]
      have hz3 : z + y ≤ 2000000000000 := by rw [hz2]; exact Nat.le_trans (HJ.out _) HL.out
      have HZ2 := Lib.hid hz2
      clear h2 h3 hy hz2 hkl
      go_wp2
      go_round
      case rel => exact ⟨k + 1, z + y, by omega, by go_num, by go_num, hz3, HZ2⟩
      case measure => simp [intOf]; omega
    · obtain rfl : k = m := by omega
      have hz1 : z = (ss.flatMap Prod.snd).length := by rw [HZ.out, HN.out, List.take_length]
      rw [← hz1] at HG
      clear hz1
      go_wp2_with (go_at_call 55; (with_reducible refine HG.out.mono ?_); rintro r w1 ⟨v1, rfl, ho1, hb1⟩; have HO1 := Lib.hid ho1; have HB1 := Lib.hid hb1; clear ho1 hb1)
      go_loopw [6, 27] (fun V i wr => ∃ (q : Nat) (U : Value), U = V ∧ q ≤ k ∧ i = .int .i64 (q : Int) ∧ Hid (Below w.heap.size w wr) ∧ Hid (OwnL SMember.cells 39 2 wr w.heap.size U ((ss.take q).flatMap Prod.snd))) (fun _ i _ => k - (intOf i).toNat)
      case atStart => exact ⟨0, _, rfl, Nat.zero_le _, rfl, HB1, HO1⟩
      case round =>
        obtain ⟨q, U, rfl, hq, rfl, HB, HO⟩ := hrel
        by_cases hlt : q < k
        · have hql : q < ss.length := by rw [← HN.out]; exact hlt
          obtain ⟨h1, A2, c2, h2, h3, h4, h5⟩ := HC.out q hql
          have h1' := HB.out.cell (block_lt h1)
          rw [h1, h2] at h1'
          have HM := Lib.hid (h3.below HB.out (fun _ => rfl))
          have H4 := Lib.hid h4
          have HJS := Lib.hid (join_succ ss hql)
          have hlen := HJ.out (q + 1)
          rw [join_succ ss hql, List.length_append] at hlen
          have HLEN := Lib.hid (Nat.le_trans hlen HL.out)
          obtain ⟨Y, hY⟩ : ∃ Y, Y = ss[q].2 := ⟨_, rfl⟩
          rw [← hY] at HM HJS HLEN h1'
          obtain ⟨X, hX⟩ : ∃ X, X = (ss.take q).flatMap Prod.snd := ⟨_, rfl⟩
          rw [← hX] at HO HJS HLEN
          obtain ⟨y, hy⟩ : ∃ y, y = Y.length := ⟨_, rfl⟩
          rw [← hy] at h1'
          have HY := Lib.hid hy
          clear hY hX h1 h2 h3 h4 h5 hql hlen hy
          go_wp2_with (at_builtin; refine wpList_appV lay_Member rfl (.tmp 31) (.tmp 32) rfl w.heap.size _ X rfl HO.out A2 y c2 Y HY.out rfl H4.out HM.out (by have := HLEN.out; omega) (by have := HLEN.out; omega) HB.out.size ?_; intro v3 w3 ho3 hb3 _; have HO3 := Lib.hid ho3; have HB3 := Lib.hid (HB.out.trans hb3); clear ho3 hb3)
          go_roundw
          case rel => exact ⟨q + 1, _, rfl, by omega, by go_num, HB3, Lib.hid (by rw [HJS.out]; exact HO3.out)⟩
          case measure => simp [intOf]; omega
        · obtain rfl : q = k := by omega
          rw [show ss.take q = ss from by rw [HN.out]; exact List.take_length] at HO
          go_wp2
          go_ret
          exact ⟨_, rfl, HO.out, HB.out⟩
set_option maxRecDepth 8000 in
set_option maxHeartbeats 2000000 in
theorem cloneAcc_any (A : Option Addr) (l : List SAcc) (n c : Nat) (w : World) (hn : n = l.length) (hI : MemL SAcc.cells 4 w A l) (hA : A = none → c = 0) (hl : n ≤ 1000000000000) : Calls Try.prog 41 #[.slice A n c] w fun r w' => ∃ v, r = .returned v ∧ OwnL SAcc.cells 25 4 w' w.heap.size v l ∧ Below w.heap.size w w' := by
  cases A with
  | none =>
    obtain rfl := hA rfl
    obtain rfl : l = [] := by
      cases l with
      | nil => rfl
      | cons x l => obtain ⟨b, off, e, _⟩ := hI (by simp); cases e
    obtain rfl : n = 0 := hn
    have he : ∀ w : World, (binOp .eql 23 (.slice none 0 0) (.slice none 0 0)).run Try.prog w = .ok (.bool true) w := fun _ => rfl
    clear hA hI
    go_enter Try.func41, Try.ntmps41
    go_wp2
    go_ret
    exact ⟨_, rfl, ownL_nil _ _, Below.refl _ _⟩
  | some a =>
    have HN := Lib.hid hn
    have HI := Lib.hid hI
    have HL1 : Hid ((([] : List SAcc).length + l.length) * 32 ≤ 140737488355328) := Lib.hid (by rw [← hn, List.length_nil]; omega)
    have HL2 : Hid (([] : List SAcc).length + l.length ≤ 140737488355328) := Lib.hid (by rw [← hn, List.length_nil]; omega)
    have he : ∀ w : World, (binOp .eql 23 (.slice (some a) n c) (.slice none 0 0)).run Try.prog w = .ok (.bool false) w := fun _ => rfl
    clear hn hI hA
    go_enter Try.func41, Try.ntmps41
    go_wp2_with (at_builtin; refine wpList_appV lay_Acc rfl (.tmp 5) (.tmp 6) rfl w.heap.size _ [] rfl (ownL_lit lay_Acc w w.heap.size #[] [] (Nat.le_refl _) (by simp) rfl _ (by first | rfl | simp) _ rfl) (some a) n c l HN.out rfl (fun h => by cases h) (HI.out.below (alloc_b (Below.refl _ _) (Nat.le_refl _) _) (fun _ => rfl)) HL1.out HL2.out (by simp) ?_; intro v3 w3 ho3 hb3 _; rw [List.nil_append] at ho3; have HO3 := Lib.hid ho3; have HB3 := Lib.hid ((alloc_b (Below.refl _ _) (Nat.le_refl _) _).trans hb3); clear ho3 hb3)
    go_ret
    exact ⟨_, rfl, HO3.out, HB3.out⟩
set_option maxRecDepth 8000 in
set_option maxHeartbeats 2000000 in
theorem growAcc_any (m : Nat) (w : World) (hm : m ≤ 2000000000000) : Calls Try.prog 56 #[.slice none 0 0, .int .i64 (m : Int)] w fun r w' => ∃ v, r = .returned v ∧ OwnL SAcc.cells 25 4 w' w.heap.size v [] ∧ Below w.heap.size w w' := by
  rcases Nat.eq_zero_or_pos m with h0 | h0
  · subst h0
    go_enter Try.func56, Try.ntmps56
    go_wp2
    go_ret
    exact ⟨_, rfl, ownL_nil _ _, Below.refl _ _⟩
  · go_enter Try.func56, Try.ntmps56
    go_wp2_with (at_builtin; refine wpList_growNil lay_Acc rfl (.tmp 20) (.tmp 21) 3 Try.underlying3 rfl w.heap.size m rfl rfl (by omega) (by omega) h0 (Nat.le_refl _) ?_; intro g c w3 hg hc hc2 ho hb; subst hg; have HO := Lib.hid ho; have HB := Lib.hid hb; clear ho hb)
    go_ret
    exact ⟨_, rfl, HO.out, HB.out⟩
set_option maxRecDepth 8000 in
set_option maxHeartbeats 4000000 in
theorem concatAcc_any (b m : Nat) (ss : List (Value × List SAcc)) (w : World) (hm : m = ss.length) (hc : ∀ k (h : k < ss.length), w.cell? ⟨b, k, none⟩ = some ss[k].1 ∧ LstV SAcc.cells 4 w ss[k].1 ss[k].2) (hl : (ss.flatMap Prod.snd).length ≤ 2000000000000) (hm2 : m ≤ 1000) : Calls Try.prog 53 #[.slice (some ⟨b, 0, none⟩) m m] w fun r w' => ∃ v, r = .returned v ∧ OwnL SAcc.cells 25 4 w' w.heap.size v (ss.flatMap Prod.snd) ∧ Below w.heap.size w w' := by
  have HN := Lib.hid hm
  have HC := Lib.hid hc
  have HG := Lib.hid (growAcc_any (ss.flatMap Prod.snd).length w hl)
  have HL := Lib.hid hl
  have HJ := Lib.hid (join_le ss)
  clear hm hc hl
  go_enter Try.func53, Try.ntmps53
  go_wp2
  go_loop [3, 11] (fun Z i => ∃ k z : Nat, k ≤ m ∧ Z = .int .i64 (z : Int) ∧ i = .int .i64 (k : Int) ∧ z ≤ 2000000000000 ∧ Hid (z = ((ss.take k).flatMap Prod.snd).length)) (fun _ i => m - (intOf i).toNat)
  case atStart => exact ⟨0, 0, Nat.zero_le _, rfl, rfl, by omega, Lib.hid rfl⟩
  case round =>
    obtain ⟨k, z, hk, rfl, rfl, hz, HZ⟩ := hrel
    by_cases hlt : k < m
    · have hkl : k < ss.length := by rw [← HN.out]; exact hlt
      obtain ⟨h1, A2, c2, h2, h3⟩ := HC.out k hkl
      rw [h2] at h1
      obtain ⟨y, hy⟩ : ∃ y, y = ss[k].2.length := ⟨_, rfl⟩
      rw [← hy] at h1
      have hz2 : z + y = ((ss.take (k + 1)).flatMap Prod.snd).length := by rw [join_succ ss hkl, List.length_append, ← hy, ← HZ.out]
      have hz3 : z + y ≤ 2000000000000 := by rw [hz2]; exact Nat.le_trans (HJ.out _) HL.out
      have HZ2 := Lib.hid hz2
      clear h2 h3 hy hz2 hkl
      go_wp2
      go_round
      case rel => exact ⟨k + 1, z + y, by omega, by go_num, by go_num, hz3, HZ2⟩
      case measure => simp [intOf]; omega
    · obtain rfl : k = m := by omega
      have hz1 : z = (ss.flatMap Prod.snd).length := by rw [HZ.out, HN.out, List.take_length]
      rw [← hz1] at HG
      clear hz1
      go_wp2_with (go_at_call 56; (with_reducible refine HG.out.mono ?_); rintro r w1 ⟨v1, rfl, ho1, hb1⟩; have HO1 := Lib.hid ho1; have HB1 := Lib.hid hb1; clear ho1 hb1)
      go_loopw [6, 27] (fun V i wr => ∃ (q : Nat) (U : Value), U = V ∧ q ≤ k ∧ i = .int .i64 (q : Int) ∧ Hid (Below w.heap.size w wr) ∧ Hid (OwnL SAcc.cells 25 4 wr w.heap.size U ((ss.take q).flatMap Prod.snd))) (fun _ i _ => k - (intOf i).toNat)
      case atStart => exact ⟨0, _, rfl, Nat.zero_le _, rfl, HB1, HO1⟩
      case round =>
        obtain ⟨q, U, rfl, hq, rfl, HB, HO⟩ := hrel
        by_cases hlt : q < k
        · have hql : q < ss.length := by rw [← HN.out]; exact hlt
          obtain ⟨h1, A2, c2, h2, h3, h4, h5⟩ := HC.out q hql
          have h1' := HB.out.cell (block_lt h1)
          rw [h1, h2] at h1'
          have HM := Lib.hid (h3.below HB.out (fun _ => rfl))
          have H4 := Lib.hid h4
          have HJS := Lib.hid (join_succ ss hql)
          have hlen := HJ.out (q + 1)
          rw [join_succ ss hql, List.length_append] at hlen
          have HLEN := Lib.hid (Nat.le_trans hlen HL.out)
          obtain ⟨Y, hY⟩ : ∃ Y, Y = ss[q].2 := ⟨_, rfl⟩
          rw [← hY] at HM HJS HLEN h1'
          obtain ⟨X, hX⟩ : ∃ X, X = (ss.take q).flatMap Prod.snd := ⟨_, rfl⟩
          rw [← hX] at HO HJS HLEN
          obtain ⟨y, hy⟩ : ∃ y, y = Y.length := ⟨_, rfl⟩
          rw [← hy] at h1'
          have HY := Lib.hid hy
          clear hY hX h1 h2 h3 h4 h5 hql hlen hy
          go_wp2_with (at_builtin; refine wpList_appV lay_Acc rfl (.tmp 31) (.tmp 32) rfl w.heap.size _ X rfl HO.out A2 y c2 Y HY.out rfl H4.out HM.out (by have := HLEN.out; omega) (by have := HLEN.out; omega) HB.out.size ?_; intro v3 w3 ho3 hb3 _; have HO3 := Lib.hid ho3; have HB3 := Lib.hid (HB.out.trans hb3); clear ho3 hb3)
          go_roundw
          case rel => exact ⟨q + 1, _, rfl, by omega, by go_num, HB3, Lib.hid (by rw [HJS.out]; exact HO3.out)⟩
          case measure => simp [intOf]; omega
        · obtain rfl : q = k := by omega
          rw [show ss.take q = ss from by rw [HN.out]; exact List.take_length] at HO
          go_wp2
          go_ret
          exact ⟨_, rfl, HO.out, HB.out⟩
end Go.Proofs.Ytjlhmiajklddiaa
