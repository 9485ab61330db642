/-
  The walk of the reference's whole.
-/
import Derived.Test.YtjkbnljjmbfmiaaDoorWt1
import Derived.Lib.Hide
namespace Go.Proofs.YtjkbnljjmbfmiaaDoor
open Go Go.RowKit
set_option linter.unusedVariables false

/-- What digits spell. -/
def valD (l : List Nat) : Nat := l.foldl (fun a c => 10 * a + (c - 48)) 0
theorem valD_digs (u : Nat) : valD (digs u) = u := by
  induction u using Nat.strongRecOn with
  | ind u ih =>
    by_cases h : u < 10
    · rw [digs_small h]; simp [valD]
    · rw [digs_great h]
      unfold valD
      rw [List.foldl_append]
      have := ih (u / 10) (by omega)
      unfold valD at this
      rw [this]
      simp
      omega
theorem valD_take (l : List Nat) (k : Nat) (h : k < l.length) : valD (l.take (k + 1)) = 10 * valD (l.take k) + (l.getD k 0 - 48) := by
  unfold valD
  rw [List.take_succ_eq_append_getElem h, List.foldl_append, List.getD_eq_getElem?_getD, List.getElem?_eq_getElem h]
  rfl
/-- What whole says of a string. -/
def WholeIs (l : List Nat) (x : Int) (ok : Bool) : Prop := I64 x ∧ ∀ n : Int, -9223372036854775808 < n → n ≤ 9223372036854775807 → l = dec n → ok = true ∧ x = n
def WholeK (l : List Nat) (w : World) (r : Ending) (w' : World) : Prop := ∃ x ok, r = .returned (.tuple #[.int .i64 x, .bool ok]) ∧ WholeIs l x ok ∧ w' = w
theorem dec_is {n : Int} : dec n = if n < 0 then 45 :: digs n.natAbs else digs n.natAbs := rfl
theorem dec_minus {l' : List Nat} {n : Int} (h : 45 :: l' = dec n) : n < 0 ∧ l' = digs n.natAbs := by
  rw [dec_is] at h
  by_cases hn : n < 0
  · rw [if_pos hn] at h
    injection h with _ h
    exact ⟨hn, h⟩
  · rw [if_neg hn] at h
    obtain ⟨c, r, h1, h2, _, _⟩ := digs_cons n.natAbs
    rw [h1] at h
    injection h with h3 _
    omega
theorem dec_plain {l : List Nat} {n : Int} (h0 : l.getD 0 0 ≠ 45) (h : l = dec n) : ¬ n < 0 ∧ l = digs n.natAbs := by
  rw [dec_is] at h
  by_cases hn : n < 0
  · rw [if_pos hn] at h
    subst h
    exact absurd rfl h0
  · rw [if_neg hn] at h
    exact ⟨hn, h⟩
theorem digs_count {u : Nat} (h : u < 10000000000000000000) : 1 ≤ (digs u).length ∧ (digs u).length ≤ 19 := by
  obtain ⟨c, r, h1, _⟩ := digs_cons u
  exact ⟨by rw [h1]; simp, digs_len 18 u (by omega)⟩
theorem digs_at {u k : Nat} (h : k < (digs u).length) : 48 ≤ (digs u).getD k 0 ∧ (digs u).getD k 0 < 58 := by
  refine digs_oct u _ ?_
  rw [List.getD_eq_getElem?_getD, List.getElem?_eq_getElem h]
  exact List.getElem_mem _
theorem whole_not_neg {l' : List Nat} (h : ∀ u : Nat, u < 9223372036854775808 → l' = digs u → False) : WholeIs (45 :: l') 0 false := by
  refine ⟨by unfold I64; omega, fun n h1 h2 e => ?_⟩
  obtain ⟨h3, h4⟩ := dec_minus e
  exact (h n.natAbs (by omega) h4).elim
theorem whole_yes_neg {l' : List Nat} (h : valD l' ≤ 9223372036854775807) : WholeIs (45 :: l') (-(valD l' : Int)) true := by
  refine ⟨by unfold I64; omega, fun n h1 h2 e => ?_⟩
  obtain ⟨h3, h4⟩ := dec_minus e
  rw [h4, valD_digs]
  exact ⟨rfl, by omega⟩
set_option maxRecDepth 8000 in
set_option maxHeartbeats 4000000 in
theorem rwhole_neg (l' : List Nat) (hO : Oct (45 :: l')) (hl : l'.length ≤ 1000000) (w : World) : Calls Tryd.prog 46 #[.string (bstr (45 :: l'))] w (WholeK (45 :: l') w) := by
  have hO' : Oct l' := fun x hx => hO x (List.mem_cons_of_mem _ hx)
  have hsz : (bstr l').size = l'.length := bstr_size l'
  have HNOT : Hid ((∀ u : Nat, u < 9223372036854775808 → l' = digs u → False) → WholeIs (45 :: l') 0 false) := Lib.hid (whole_not_neg )
  have HYES : Hid (valD l' ≤ 9223372036854775807 → WholeIs (45 :: l') (-(valD l' : Int)) true) := Lib.hid (whole_yes_neg )
  have HGT := Lib.hid (fun k h => bstr_at l' hO' k h)
  obtain ⟨n, hn⟩ : ∃ n, n = l'.length := ⟨_, rfl⟩
  rw [← hn] at hsz hl 
  have HN := Lib.hid hn
  have hzz : (bstr (45 :: l')).size = n + 1 := by rw [bstr_size, List.length_cons, hn]
  have hz : 0 < (bstr (45 :: l')).size := by omega
  have hg0 : (((bstr (45 :: l'))[0]'hz).toNat : Int) = 45 := by rw [bstr_at _ hO 0 hz]; rfl
  have hex : (bstr (45 :: l')).extract 1 (n + 1) = bstr l' := by
    rw [bstr_extract, List.take_of_length_le (by rw [List.length_cons]; omega)]
    rfl
  obtain ⟨S, hS⟩ : ∃ S, S = bstr (45 :: l') := ⟨_, rfl⟩
  have hS2 : S.size = n + 1 := by rw [hS]; exact hzz
  have hz2 : 0 < S.size := by omega
  have hg2 : ((S[0]'hz2).toNat : Int) = 45 := by subst hS; exact hg0
  rw [← hS] at hex ⊢
  clear hg0 hz hzz hS
  obtain ⟨T, hT⟩ : ∃ T, T = bstr l' := ⟨_, rfl⟩
  have hszT : T.size = n := by rw [hT]; exact hsz
  have HGTT : Hid (∀ k (h : k < T.size), (T[k]'h).toNat = l'.getD k 0) := Lib.hid (by subst hT; exact HGT.out)
  rw [← hT] at hex
  clear hn hO hO' HGT hsz hT 
  by_cases h19 : 1 ≤ n ∧ n ≤ 19
  · obtain ⟨hn1, hn19⟩ := h19
    go_enter Tryd.func46, Tryd.ntmps46
    go_wp2
    go_loopw [5, 6] (fun u i wr => ∃ (k U : Nat), u = .int .u64 (U : Int) ∧ i = .int .i64 (k : Int) ∧ k ≤ n ∧ U < 10 ^ k ∧ U < 10000000000000000000 ∧ Hid (U = valD (l'.take k)) ∧ wr = w) (fun _ i _ => n - (intOf i).toNat)
    case atStart => exact ⟨0, 0, rfl, rfl, Nat.zero_le _, by omega, by omega, Lib.hid (by rw [List.take_zero]; rfl), rfl⟩
    case round =>
      obtain ⟨k, U, rfl, rfl, hk, hU, hU19, HU, rfl⟩ := hrel
      by_cases hlt : k < n
      · have hszk : k < T.size := by rw [hszT]; exact hlt
        have hgt := HGTT.out k hszk
        have HV := Lib.hid (valD_take l' k (by rw [← HN.out]; exact hlt))
        obtain ⟨c, hc⟩ : ∃ c, c = l'.getD k 0 := ⟨_, rfl⟩
        rw [← hc] at hgt HV
        have HCC := Lib.hid hc
        have hgi : ((T[k]'hszk).toNat : Int) = (c : Int) := by rw [hgt]
        clear hgt hc
        by_cases hd : 48 ≤ c ∧ c ≤ 57
        · have d1 : decide ((c : Int) < 48) = false := decide_eq_false (by omega)
          have d2 : decide (57 < (c : Int)) = false := decide_eq_false (by omega)
          have hU18 : U < 1000000000000000000 := by
            have : 10 ^ k ≤ 10 ^ 18 := Nat.pow_le_pow_right (by omega) (by omega)
            omega
          have hw1 : IntKind.u8.wrap ((c : Int) - 48) = ((c - 48 : Nat) : Int) := by simp [IntKind.wrap, IntKind.bits, IntKind.signed]; omega
          obtain ⟨d, hdd⟩ : ∃ d, d = c - 48 := ⟨_, rfl⟩
          rw [← hdd] at hw1
          have hd10 : d < 10 := by omega
          have hw2 : IntKind.u64.wrap (d : Int) = (d : Int) := by simp [IntKind.wrap, IntKind.bits, IntKind.signed]; omega
          have hw3 : IntKind.u64.wrap (10 * (U : Int)) = 10 * (U : Int) := by simp [IntKind.wrap, IntKind.bits, IntKind.signed]; omega
          have hw4 : IntKind.u64.wrap (10 * (U : Int) + (d : Int)) = 10 * (U : Int) + (d : Int) := by simp [IntKind.wrap, IntKind.bits, IntKind.signed]; omega
          have HV2 : Hid (10 * U + d = valD (l'.take (k + 1))) := Lib.hid (by rw [HV.out, ← HU.out, hdd])
          have HP : Hid (10 * U + d < 10 ^ (k + 1) ∧ 10 * U + d < 10000000000000000000) := Lib.hid ⟨by rw [Nat.pow_succ]; omega, by omega⟩
          clear hdd hU
          go_wp2
          go_roundw
          case rel => exact ⟨k + 1, 10 * U + d, by go_num, by go_num, by omega, HP.out.1, HP.out.2, HV2, trivial⟩
          case measure => simp [intOf]; omega
        · have HF : Hid (∀ u : Nat, u < 9223372036854775808 → l' = digs u → False) := Lib.hid (fun u _ e => by
            have := digs_at (u := u) (k := k) (by rw [← e, ← HN.out]; exact hlt)
            rw [← e, ← HCC.out] at this
            omega)
          rcases (by omega : c < 48 ∨ (¬ c < 48 ∧ 57 < c)) with h1 | ⟨h1, h2⟩
          · have d1 : decide ((c : Int) < 48) = true := decide_eq_true (by omega)
            clear hd
            go_wp2
            go_ret2
            exact ⟨_, _, rfl, HNOT.out HF.out, rfl⟩
          · have d1 : decide ((c : Int) < 48) = false := decide_eq_false (by omega)
            have d2 : decide (57 < (c : Int)) = true := decide_eq_true (by omega)
            clear hd
            go_wp2
            go_ret2
            exact ⟨_, _, rfl, HNOT.out HF.out, rfl⟩
      · obtain rfl : k = n := by omega
        have HUU : Hid (U = valD l') := Lib.hid (by rw [HU.out, HN.out, List.take_length])
        by_cases hbig : U ≤ 9223372036854775807
        · have d1 : decide ((9223372036854775807 : Int) < (U : Int)) = false := decide_eq_false (by omega)
          have hw1 : IntKind.i64.wrap (U : Int) = (U : Int) := by simp [IntKind.wrap, IntKind.bits, IntKind.signed]; omega
          have hw2 : IntKind.i64.wrap (-(U : Int)) = -(U : Int) := by simp [IntKind.wrap, IntKind.bits, IntKind.signed]; omega
          have HW := Lib.hid (HYES.out (by rw [← HUU.out]; exact hbig))
          rw [← HUU.out] at HW
          go_wp2
          go_ret2
          exact ⟨_, _, rfl, HW.out, rfl⟩
        · have d1 : decide ((9223372036854775807 : Int) < (U : Int)) = true := decide_eq_true (by omega)
          have HF : Hid (∀ u : Nat, u < 9223372036854775808 → l' = digs u → False) := Lib.hid (fun u hu e => by
            have := HUU.out
            rw [e, valD_digs] at this
            omega)
          go_wp2
          go_ret2
          exact ⟨_, _, rfl, HNOT.out HF.out, rfl⟩
  · have HF : Hid (∀ u : Nat, u < 9223372036854775808 → l' = digs u → False) := Lib.hid (fun u hu e => by
      have := digs_count (u := u) (by omega)
      rw [← e, ← HN.out] at this
      omega)
    rcases (by omega : n < 1 ∨ (¬ n < 1 ∧ 19 < n)) with h1 | ⟨h1, h2⟩
    · have d1 : decide ((n : Int) < 1) = true := decide_eq_true (by omega)
      clear h19
      go_enter Tryd.func46, Tryd.ntmps46
      go_wp2
      go_ret2
      exact ⟨_, _, rfl, HNOT.out HF.out, rfl⟩
    · have d1 : decide ((n : Int) < 1) = false := decide_eq_false (by omega)
      have d2 : decide (19 < (n : Int)) = true := decide_eq_true (by omega)
      clear h19
      go_enter Tryd.func46, Tryd.ntmps46
      go_wp2
      go_ret2
      exact ⟨_, _, rfl, HNOT.out HF.out, rfl⟩
theorem whole_not_pos {l' : List Nat} (h0 : l'.getD 0 0 ≠ 45) (h : ∀ u : Nat, u < 9223372036854775808 → l' = digs u → False) : WholeIs l' 0 false := by
  refine ⟨by unfold I64; omega, fun n h1 h2 e => ?_⟩
  obtain ⟨h3, h4⟩ := dec_plain h0 e
  exact (h n.natAbs (by omega) h4).elim
theorem whole_yes_pos {l' : List Nat} (h0 : l'.getD 0 0 ≠ 45) (h : valD l' ≤ 9223372036854775807) : WholeIs l' (valD l' : Int) true := by
  refine ⟨by unfold I64; omega, fun n h1 h2 e => ?_⟩
  obtain ⟨h3, h4⟩ := dec_plain h0 e
  rw [h4, valD_digs]
  exact ⟨rfl, by omega⟩
set_option maxRecDepth 8000 in
set_option maxHeartbeats 4000000 in
theorem rwhole_pos (l' : List Nat) (hO : Oct l') (hl : l'.length ≤ 1000000) (h0 : l'.getD 0 0 ≠ 45) (hp : 0 < l'.length) (w : World) : Calls Tryd.prog 46 #[.string (bstr l')] w (WholeK l' w) := by
  have hO' : Oct l' := hO
  have hsz : (bstr l').size = l'.length := bstr_size l'
  have HNOT : Hid ((∀ u : Nat, u < 9223372036854775808 → l' = digs u → False) → WholeIs l' 0 false) := Lib.hid (whole_not_pos h0)
  have HYES : Hid (valD l' ≤ 9223372036854775807 → WholeIs l' (valD l' : Int) true) := Lib.hid (whole_yes_pos h0)
  have HGT := Lib.hid (fun k h => bstr_at l' hO' k h)
  obtain ⟨n, hn⟩ : ∃ n, n = l'.length := ⟨_, rfl⟩
  rw [← hn] at hsz hl hp
  have HN := Lib.hid hn
  have hz : 0 < (bstr l').size := by omega
  have hg0 : (((bstr l')[0]'hz).toNat : Int) = (l'.getD 0 0 : Nat) := by rw [bstr_at _ hO' 0 hz]
  have hne0 : (((l'.getD 0 0 : Nat) : Int) == 45) = false := beq_eq_false_iff_ne.2 (by omega)
  generalize l'.getD 0 0 = c00 at *
  obtain ⟨T, hT⟩ : ∃ T, T = bstr l' := ⟨_, rfl⟩
  have hszT : T.size = n := by rw [hT]; exact hsz
  have HGTT : Hid (∀ k (h : k < T.size), (T[k]'h).toNat = l'.getD k 0) := Lib.hid (by subst hT; exact HGT.out)
  have hz2 : 0 < T.size := by omega
  have hg2 : ((T[0]'hz2).toNat : Int) = (c00 : Int) := by subst hT; exact hg0
  rw [← hT]
  clear hn hO hO' HGT hsz hT h0 hz hg0
  by_cases h19 : 1 ≤ n ∧ n ≤ 19
  · obtain ⟨hn1, hn19⟩ := h19
    go_enter Tryd.func46, Tryd.ntmps46
    go_wp2
    go_loopw [5, 6] (fun u i wr => ∃ (k U : Nat), u = .int .u64 (U : Int) ∧ i = .int .i64 (k : Int) ∧ k ≤ n ∧ U < 10 ^ k ∧ U < 10000000000000000000 ∧ Hid (U = valD (l'.take k)) ∧ wr = w) (fun _ i _ => n - (intOf i).toNat)
    case atStart => exact ⟨0, 0, rfl, rfl, Nat.zero_le _, by omega, by omega, Lib.hid (by rw [List.take_zero]; rfl), rfl⟩
    case round =>
      obtain ⟨k, U, rfl, rfl, hk, hU, hU19, HU, rfl⟩ := hrel
      by_cases hlt : k < n
      · have hszk : k < T.size := by rw [hszT]; exact hlt
        have hgt := HGTT.out k hszk
        have HV := Lib.hid (valD_take l' k (by rw [← HN.out]; exact hlt))
        obtain ⟨c, hc⟩ : ∃ c, c = l'.getD k 0 := ⟨_, rfl⟩
        rw [← hc] at hgt HV
        have HCC := Lib.hid hc
        have hgi : ((T[k]'hszk).toNat : Int) = (c : Int) := by rw [hgt]
        clear hgt hc
        by_cases hd : 48 ≤ c ∧ c ≤ 57
        · have d1 : decide ((c : Int) < 48) = false := decide_eq_false (by omega)
          have d2 : decide (57 < (c : Int)) = false := decide_eq_false (by omega)
          have hU18 : U < 1000000000000000000 := by
            have : 10 ^ k ≤ 10 ^ 18 := Nat.pow_le_pow_right (by omega) (by omega)
            omega
          have hw1 : IntKind.u8.wrap ((c : Int) - 48) = ((c - 48 : Nat) : Int) := by simp [IntKind.wrap, IntKind.bits, IntKind.signed]; omega
          obtain ⟨d, hdd⟩ : ∃ d, d = c - 48 := ⟨_, rfl⟩
          rw [← hdd] at hw1
          have hd10 : d < 10 := by omega
          have hw2 : IntKind.u64.wrap (d : Int) = (d : Int) := by simp [IntKind.wrap, IntKind.bits, IntKind.signed]; omega
          have hw3 : IntKind.u64.wrap (10 * (U : Int)) = 10 * (U : Int) := by simp [IntKind.wrap, IntKind.bits, IntKind.signed]; omega
          have hw4 : IntKind.u64.wrap (10 * (U : Int) + (d : Int)) = 10 * (U : Int) + (d : Int) := by simp [IntKind.wrap, IntKind.bits, IntKind.signed]; omega
          have HV2 : Hid (10 * U + d = valD (l'.take (k + 1))) := Lib.hid (by rw [HV.out, ← HU.out, hdd])
          have HP : Hid (10 * U + d < 10 ^ (k + 1) ∧ 10 * U + d < 10000000000000000000) := Lib.hid ⟨by rw [Nat.pow_succ]; omega, by omega⟩
          clear hdd hU
          go_wp2
          go_roundw
          case rel => exact ⟨k + 1, 10 * U + d, by go_num, by go_num, by omega, HP.out.1, HP.out.2, HV2, trivial⟩
          case measure => simp [intOf]; omega
        · have HF : Hid (∀ u : Nat, u < 9223372036854775808 → l' = digs u → False) := Lib.hid (fun u _ e => by
            have := digs_at (u := u) (k := k) (by rw [← e, ← HN.out]; exact hlt)
            rw [← e, ← HCC.out] at this
            omega)
          rcases (by omega : c < 48 ∨ (¬ c < 48 ∧ 57 < c)) with h1 | ⟨h1, h2⟩
          · have d1 : decide ((c : Int) < 48) = true := decide_eq_true (by omega)
            clear hd
            go_wp2
            go_ret2
            exact ⟨_, _, rfl, HNOT.out HF.out, rfl⟩
          · have d1 : decide ((c : Int) < 48) = false := decide_eq_false (by omega)
            have d2 : decide (57 < (c : Int)) = true := decide_eq_true (by omega)
            clear hd
            go_wp2
            go_ret2
            exact ⟨_, _, rfl, HNOT.out HF.out, rfl⟩
      · obtain rfl : k = n := by omega
        have HUU : Hid (U = valD l') := Lib.hid (by rw [HU.out, HN.out, List.take_length])
        by_cases hbig : U ≤ 9223372036854775807
        · have d1 : decide ((9223372036854775807 : Int) < (U : Int)) = false := decide_eq_false (by omega)
          have hw1 : IntKind.i64.wrap (U : Int) = (U : Int) := by simp [IntKind.wrap, IntKind.bits, IntKind.signed]; omega
          have hw2 : IntKind.i64.wrap (-(U : Int)) = -(U : Int) := by simp [IntKind.wrap, IntKind.bits, IntKind.signed]; omega
          have HW := Lib.hid (HYES.out (by rw [← HUU.out]; exact hbig))
          rw [← HUU.out] at HW
          go_wp2
          go_ret2
          exact ⟨_, _, rfl, HW.out, rfl⟩
        · have d1 : decide ((9223372036854775807 : Int) < (U : Int)) = true := decide_eq_true (by omega)
          have HF : Hid (∀ u : Nat, u < 9223372036854775808 → l' = digs u → False) := Lib.hid (fun u hu e => by
            have := HUU.out
            rw [e, valD_digs] at this
            omega)
          go_wp2
          go_ret2
          exact ⟨_, _, rfl, HNOT.out HF.out, rfl⟩
  · have HF : Hid (∀ u : Nat, u < 9223372036854775808 → l' = digs u → False) := Lib.hid (fun u hu e => by
      have := digs_count (u := u) (by omega)
      rw [← e, ← HN.out] at this
      omega)
    rcases (by omega : n < 1 ∨ (¬ n < 1 ∧ 19 < n)) with h1 | ⟨h1, h2⟩
    · have d1 : decide ((n : Int) < 1) = true := decide_eq_true (by omega)
      clear h19
      go_enter Tryd.func46, Tryd.ntmps46
      go_wp2
      go_ret2
      exact ⟨_, _, rfl, HNOT.out HF.out, rfl⟩
    · have d1 : decide ((n : Int) < 1) = false := decide_eq_false (by omega)
      have d2 : decide (19 < (n : Int)) = true := decide_eq_true (by omega)
      clear h19
      go_enter Tryd.func46, Tryd.ntmps46
      go_wp2
      go_ret2
      exact ⟨_, _, rfl, HNOT.out HF.out, rfl⟩
set_option maxRecDepth 8000 in
set_option maxHeartbeats 1000000 in
theorem rwhole_nil (w : World) : Calls Tryd.prog 46 #[.string (bstr [])] w (WholeK [] w) := by
  have HF : Hid (WholeIs [] 0 false) := Lib.hid (whole_not_pos (by simp) (fun u hu e => by
    have := digs_count (u := u) (by omega)
    rw [← e] at this
    simp at this))
  rw [show bstr [] = { data := #[] } from rfl]
  go_enter Tryd.func46, Tryd.ntmps46
  go_wp2
  go_ret2
  exact ⟨_, _, rfl, HF.out, rfl⟩
theorem rwhole_any (l : List Nat) (hO : Oct l) (hl : l.length ≤ 1000000) (w : World) : Calls Tryd.prog 46 #[.string (bstr l)] w (WholeK l w) := by
  cases l with
  | nil => exact rwhole_nil w
  | cons c r =>
    by_cases h : c = 45
    · subst h
      exact rwhole_neg r hO (by rw [List.length_cons] at hl; omega) w
    · exact rwhole_pos (c :: r) hO hl (by simpa using h) (by simp) w
end Go.Proofs.YtjkbnljjmbfmiaaDoor
