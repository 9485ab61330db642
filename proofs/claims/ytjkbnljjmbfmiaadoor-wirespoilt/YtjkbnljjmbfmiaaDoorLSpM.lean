import Derived.Test.YtjkbnljjmbfmiaaDoorWt1
import Derived.Lib.Hide
import Derived.Test.YtjkbnljjmbfmiaaDoorRt1
import Derived.Test.YtjkbnljjmbfmiaaDoorRt2
import Derived.Laws.Strings
import Derived.Test.YtjkbnljjmbfmiaaDoorKnown8
import Derived.Test.YtjkbnljjmbfmiaaDoorWr4
import Derived.Lib.ConvBytes
import Derived.Lib.AtoiErrMem
import Derived.Test.YtjkbnljjmbfmiaaDoorDk10
/-
  The walk of the reference's whole.
-/
namespace Go.Proofs.YtjkbnljjmbfmiaaDoor
open Go Go.RowKit
set_option linter.unusedVariables false

/-- What digits spell. -/
def valD (l : List Nat) : Nat := l.foldl (fun a c => 10 * a + (c - 48)) 0
theorem valD_digs (u : Nat) : valD (digs u) = u := by
  induction u using Nat.strongRecOn with
  | ind u ih =>
    by_cases h : u < 10
    · rw [digs_small h]; simp [valD]
    · rw [digs_great h]
      unfold valD
      rw [List.foldl_append]
      have := ih (u / 10) (by omega)
      unfold valD at this
      rw [this]
      simp
      omega
theorem valD_take (l : List Nat) (k : Nat) (h : k < l.length) : valD (l.take (k + 1)) = 10 * valD (l.take k) + (l.getD k 0 - 48) := by
  unfold valD
  rw [List.take_succ_eq_append_getElem h, List.foldl_append, List.getD_eq_getElem?_getD, List.getElem?_eq_getElem h]
  rfl
/-- What whole says of a string. -/
def WholeIs (l : List Nat) (x : Int) (ok : Bool) : Prop := I64 x ∧ ∀ n : Int, -9223372036854775808 < n → n ≤ 9223372036854775807 → l = dec n → ok = true ∧ x = n
def WholeK (l : List Nat) (w : World) (r : Ending) (w' : World) : Prop := ∃ x ok, r = .returned (.tuple #[.int .i64 x, .bool ok]) ∧ WholeIs l x ok ∧ w' = w
theorem dec_is {n : Int} : dec n = if n < 0 then 45 :: digs n.natAbs else digs n.natAbs := rfl
theorem dec_minus {l' : List Nat} {n : Int} (h : 45 :: l' = dec n) : n < 0 ∧ l' = digs n.natAbs := by
  rw [dec_is] at h
  by_cases hn : n < 0
  · rw [if_pos hn] at h
    injection h with _ h
    exact ⟨hn, h⟩
  · rw [if_neg hn] at h
    obtain ⟨c, r, h1, h2, _, _⟩ := digs_cons n.natAbs
    rw [h1] at h
    injection h with h3 _
    omega
theorem dec_plain {l : List Nat} {n : Int} (h0 : l.getD 0 0 ≠ 45) (h : l = dec n) : ¬ n < 0 ∧ l = digs n.natAbs := by
  rw [dec_is] at h
  by_cases hn : n < 0
  · rw [if_pos hn] at h
    subst h
    exact absurd rfl h0
  · rw [if_neg hn] at h
    exact ⟨hn, h⟩
theorem digs_count {u : Nat} (h : u < 10000000000000000000) : 1 ≤ (digs u).length ∧ (digs u).length ≤ 19 := by
  obtain ⟨c, r, h1, _⟩ := digs_cons u
  exact ⟨by rw [h1]; simp, digs_len 18 u (by omega)⟩
theorem digs_at {u k : Nat} (h : k < (digs u).length) : 48 ≤ (digs u).getD k 0 ∧ (digs u).getD k 0 < 58 := by
  refine digs_oct u _ ?_
  rw [List.getD_eq_getElem?_getD, List.getElem?_eq_getElem h]
  exact List.getElem_mem _
theorem whole_not_neg {l' : List Nat} (h : ∀ u : Nat, u < 9223372036854775808 → l' = digs u → False) : WholeIs (45 :: l') 0 false := by
  refine ⟨by unfold I64; omega, fun n h1 h2 e => ?_⟩
  obtain ⟨h3, h4⟩ := dec_minus e
  exact (h n.natAbs (by omega) h4).elim
theorem whole_yes_neg {l' : List Nat} (h : valD l' ≤ 9223372036854775807) : WholeIs (45 :: l') (-(valD l' : Int)) true := by
  refine ⟨by unfold I64; omega, fun n h1 h2 e => ?_⟩
  obtain ⟨h3, h4⟩ := dec_minus e
  rw [h4, valD_digs]
  exact ⟨rfl, by omega⟩
set_option maxRecDepth 8000 in
set_option maxHeartbeats 4000000 in
theorem rwhole_neg (l' : List Nat) (hO : Oct (45 :: l')) (hl : l'.length ≤ 1000000) (w : World) : Calls Tryd.prog 46 #[.string (bstr (45 :: l'))] w (WholeK (45 :: l') w) := by
  have hO' : Oct l' := fun x hx => hO x (List.mem_cons_of_mem _ hx)
  have hsz : (bstr l').size = l'.length := bstr_size l'
  have HNOT : Hid ((∀ u : Nat, u < 9223372036854775808 → l' = digs u → False) → WholeIs (45 :: l') 0 false) := Lib.hid (whole_not_neg )
  have HYES : Hid (valD l' ≤ 9223372036854775807 → WholeIs (45 :: l') (-(valD l' : Int)) true) := Lib.hid (whole_yes_neg )
  have HGT := Lib.hid (fun k h => bstr_at l' hO' k h)
  obtain ⟨n, hn⟩ : ∃ n, n = l'.length := ⟨_, rfl⟩
  rw [← hn] at hsz hl 
  have HN := Lib.hid hn
  have hzz : (bstr (45 :: l')).size = n + 1 := by rw [bstr_size, List.length_cons, hn]
  have hz : 0 < (bstr (45 :: l')).size := by omega
  have hg0 : (((bstr (45 :: l'))[0]'hz).toNat : Int) = 45 := by rw [bstr_at _ hO 0 hz]; rfl
  have hex : (bstr (45 :: l')).extract 1 (n + 1) = bstr l' := by
    rw [bstr_extract, List.take_of_length_le (by rw [List.length_cons]; omega)]
    rfl
  obtain ⟨S, hS⟩ : ∃ S, S = bstr (45 :: l') := ⟨_, rfl⟩
  have hS2 : S.size = n + 1 := by rw [hS]; exact hzz
  have hz2 : 0 < S.size := by omega
  have hg2 : ((S[0]'hz2).toNat : Int) = 45 := by subst hS; exact hg0
  rw [← hS] at hex ⊢
  clear hg0 hz hzz hS
  obtain ⟨T, hT⟩ : ∃ T, T = bstr l' := ⟨_, rfl⟩
  have hszT : T.size = n := by rw [hT]; exact hsz
  have HGTT : Hid (∀ k (h : k < T.size), (T[k]'h).toNat = l'.getD k 0) := Lib.hid (by subst hT; exact HGT.out)
  rw [← hT] at hex
  clear hn hO hO' HGT hsz hT 
  by_cases h19 : 1 ≤ n ∧ n ≤ 19
  · obtain ⟨hn1, hn19⟩ := h19
    go_enter Tryd.func46, Tryd.ntmps46
    go_wp2
    go_loopw [5, 6] (fun u i wr => ∃ (k U : Nat), u = .int .u64 (U : Int) ∧ i = .int .i64 (k : Int) ∧ k ≤ n ∧ U < 10 ^ k ∧ U < 10000000000000000000 ∧ Hid (U = valD (l'.take k)) ∧ wr = w) (fun _ i _ => n - (intOf i).toNat)
    case atStart => exact ⟨0, 0, rfl, rfl, Nat.zero_le _, by omega, by omega, Lib.hid (by rw [List.take_zero]; rfl), rfl⟩
    case round =>
      obtain ⟨k, U, rfl, rfl, hk, hU, hU19, HU, rfl⟩ := hrel
      by_cases hlt : k < n
      · have hszk : k < T.size := by rw [hszT]; exact hlt
        have hgt := HGTT.out k hszk
        have HV := Lib.hid (valD_take l' k (by rw [← HN.out]; exact hlt))
        obtain ⟨c, hc⟩ : ∃ c, c = l'.getD k 0 := ⟨_, rfl⟩
        rw [← hc] at hgt HV
        have HCC := Lib.hid hc
        have hgi : ((T[k]'hszk).toNat : Int) = (c : Int) := by rw [hgt]
        clear hgt hc
        by_cases hd : 48 ≤ c ∧ c ≤ 57
        · have d1 : decide ((c : Int) < 48) = false := decide_eq_false (by omega)
          have d2 : decide (57 < (c : Int)) = false := decide_eq_false (by omega)
          have hU18 : U < 1000000000000000000 := by
            have : 10 ^ k ≤ 10 ^ 18 := Nat.pow_le_pow_right (by omega) (by omega)
            omega
          have hw1 : IntKind.u8.wrap ((c : Int) - 48) = ((c - 48 : Nat) : Int) := by simp [IntKind.wrap, IntKind.bits, IntKind.signed]; omega
          obtain ⟨d, hdd⟩ : ∃ d, d = c - 48 := ⟨_, rfl⟩
          rw [← hdd] at hw1
          have hd10 : d < 10 := by omega
          have hw2 : IntKind.u64.wrap (d : Int) = (d : Int) := by simp [IntKind.wrap, IntKind.bits, IntKind.signed]; omega
          have hw3 : IntKind.u64.wrap (10 * (U : Int)) = 10 * (U : Int) := by simp [IntKind.wrap, IntKind.bits, IntKind.signed]; omega
          have hw4 : IntKind.u64.wrap (10 * (U : Int) + (d : Int)) = 10 * (U : Int) + (d : Int) := by simp [IntKind.wrap, IntKind.bits, IntKind.signed]; omega
          have HV2 : Hid (10 * U + d = valD (l'.take (k + 1))) := Lib.hid (by rw [HV.out, ← HU.out, hdd])
          have HP : Hid (10 * U + d < 10 ^ (k + 1) ∧ 10 * U + d < 10000000000000000000) := Lib.hid ⟨by rw [Nat.pow_succ]; omega, by omega⟩
          clear hdd hU
          go_wp2
          go_roundw
          case rel => exact ⟨k + 1, 10 * U + d, by go_num, by go_num, by omega, HP.out.1, HP.out.2, HV2, trivial⟩
          case measure => simp [intOf]; omega
        · have HF : Hid (∀ u : Nat, u < 9223372036854775808 → l' = digs u → False) := Lib.hid (fun u _ e => by
            have := digs_at (u := u) (k := k) (by rw [← e, ← HN.out]; exact hlt)
            rw [← e, ← HCC.out] at this
            omega)
          rcases (by omega : c < 48 ∨ (¬ c < 48 ∧ 57 < c)) with h1 | ⟨h1, h2⟩
          · have d1 : decide ((c : Int) < 48) = true := decide_eq_true (by omega)
            clear hd
            go_wp2
            go_ret2
            exact ⟨_, _, rfl, HNOT.out HF.out, rfl⟩
          · have d1 : decide ((c : Int) < 48) = false := decide_eq_false (by omega)
            have d2 : decide (57 < (c : Int)) = true := decide_eq_true (by omega)
            clear hd
            go_wp2
            go_ret2
            exact ⟨_, _, rfl, HNOT.out HF.out, rfl⟩
      · obtain rfl : k = n := by omega
        have HUU : Hid (U = valD l') := Lib.hid (by rw [HU.out, HN.out, List.take_length])
        by_cases hbig : U ≤ 9223372036854775807
        · have d1 : decide ((9223372036854775807 : Int) < (U : Int)) = false := decide_eq_false (by omega)
          have hw1 : IntKind.i64.wrap (U : Int) = (U : Int) := by simp [IntKind.wrap, IntKind.bits, IntKind.signed]; omega
          have hw2 : IntKind.i64.wrap (-(U : Int)) = -(U : Int) := by simp [IntKind.wrap, IntKind.bits, IntKind.signed]; omega
          have HW := Lib.hid (HYES.out (by rw [← HUU.out]; exact hbig))
          rw [← HUU.out] at HW
          go_wp2
          go_ret2
          exact ⟨_, _, rfl, HW.out, rfl⟩
        · have d1 : decide ((9223372036854775807 : Int) < (U : Int)) = true := decide_eq_true (by omega)
          have HF : Hid (∀ u : Nat, u < 9223372036854775808 → l' = digs u → False) := Lib.hid (fun u hu e => by
            have := HUU.out
            rw [e, valD_digs] at this
            omega)
          go_wp2
          go_ret2
          exact ⟨_, _, rfl, HNOT.out HF.out, rfl⟩
  · have HF : Hid (∀ u : Nat, u < 9223372036854775808 → l' = digs u → False) := Lib.hid (fun u hu e => by
      have := digs_count (u := u) (by omega)
      rw [← e, ← HN.out] at this
      omega)
    rcases (by omega : n < 1 ∨ (¬ n < 1 ∧ 19 < n)) with h1 | ⟨h1, h2⟩
    · have d1 : decide ((n : Int) < 1) = true := decide_eq_true (by omega)
      clear h19
      go_enter Tryd.func46, Tryd.ntmps46
      go_wp2
      go_ret2
      exact ⟨_, _, rfl, HNOT.out HF.out, rfl⟩
    · have d1 : decide ((n : Int) < 1) = false := decide_eq_false (by omega)
      have d2 : decide (19 < (n : Int)) = true := decide_eq_true (by omega)
      clear h19
      go_enter Tryd.func46, Tryd.ntmps46
      go_wp2
      go_ret2
      exact ⟨_, _, rfl, HNOT.out HF.out, rfl⟩
theorem whole_not_pos {l' : List Nat} (h0 : l'.getD 0 0 ≠ 45) (h : ∀ u : Nat, u < 9223372036854775808 → l' = digs u → False) : WholeIs l' 0 false := by
  refine ⟨by unfold I64; omega, fun n h1 h2 e => ?_⟩
  obtain ⟨h3, h4⟩ := dec_plain h0 e
  exact (h n.natAbs (by omega) h4).elim
theorem whole_yes_pos {l' : List Nat} (h0 : l'.getD 0 0 ≠ 45) (h : valD l' ≤ 9223372036854775807) : WholeIs l' (valD l' : Int) true := by
  refine ⟨by unfold I64; omega, fun n h1 h2 e => ?_⟩
  obtain ⟨h3, h4⟩ := dec_plain h0 e
  rw [h4, valD_digs]
  exact ⟨rfl, by omega⟩
set_option maxRecDepth 8000 in
set_option maxHeartbeats 4000000 in
theorem rwhole_pos (l' : List Nat) (hO : Oct l') (hl : l'.length ≤ 1000000) (h0 : l'.getD 0 0 ≠ 45) (hp : 0 < l'.length) (w : World) : Calls Tryd.prog 46 #[.string (bstr l')] w (WholeK l' w) := by
  have hO' : Oct l' := hO
  have hsz : (bstr l').size = l'.length := bstr_size l'
  have HNOT : Hid ((∀ u : Nat, u < 9223372036854775808 → l' = digs u → False) → WholeIs l' 0 false) := Lib.hid (whole_not_pos h0)
  have HYES : Hid (valD l' ≤ 9223372036854775807 → WholeIs l' (valD l' : Int) true) := Lib.hid (whole_yes_pos h0)
  have HGT := Lib.hid (fun k h => bstr_at l' hO' k h)
  obtain ⟨n, hn⟩ : ∃ n, n = l'.length := ⟨_, rfl⟩
  rw [← hn] at hsz hl hp
  have HN := Lib.hid hn
  have hz : 0 < (bstr l').size := by omega
  have hg0 : (((bstr l')[0]'hz).toNat : Int) = (l'.getD 0 0 : Nat) := by rw [bstr_at _ hO' 0 hz]
  have hne0 : (((l'.getD 0 0 : Nat) : Int) == 45) = false := beq_eq_false_iff_ne.2 (by omega)
  generalize l'.getD 0 0 = c00 at *
  obtain ⟨T, hT⟩ : ∃ T, T = bstr l' := ⟨_, rfl⟩
  have hszT : T.size = n := by rw [hT]; exact hsz
  have HGTT : Hid (∀ k (h : k < T.size), (T[k]'h).toNat = l'.getD k 0) := Lib.hid (by subst hT; exact HGT.out)
  have hz2 : 0 < T.size := by omega
  have hg2 : ((T[0]'hz2).toNat : Int) = (c00 : Int) := by subst hT; exact hg0
  rw [← hT]
  clear hn hO hO' HGT hsz hT h0 hz hg0
  by_cases h19 : 1 ≤ n ∧ n ≤ 19
  · obtain ⟨hn1, hn19⟩ := h19
    go_enter Tryd.func46, Tryd.ntmps46
    go_wp2
    go_loopw [5, 6] (fun u i wr => ∃ (k U : Nat), u = .int .u64 (U : Int) ∧ i = .int .i64 (k : Int) ∧ k ≤ n ∧ U < 10 ^ k ∧ U < 10000000000000000000 ∧ Hid (U = valD (l'.take k)) ∧ wr = w) (fun _ i _ => n - (intOf i).toNat)
    case atStart => exact ⟨0, 0, rfl, rfl, Nat.zero_le _, by omega, by omega, Lib.hid (by rw [List.take_zero]; rfl), rfl⟩
    case round =>
      obtain ⟨k, U, rfl, rfl, hk, hU, hU19, HU, rfl⟩ := hrel
      by_cases hlt : k < n
      · have hszk : k < T.size := by rw [hszT]; exact hlt
        have hgt := HGTT.out k hszk
        have HV := Lib.hid (valD_take l' k (by rw [← HN.out]; exact hlt))
        obtain ⟨c, hc⟩ : ∃ c, c = l'.getD k 0 := ⟨_, rfl⟩
        rw [← hc] at hgt HV
        have HCC := Lib.hid hc
        have hgi : ((T[k]'hszk).toNat : Int) = (c : Int) := by rw [hgt]
        clear hgt hc
        by_cases hd : 48 ≤ c ∧ c ≤ 57
        · have d1 : decide ((c : Int) < 48) = false := decide_eq_false (by omega)
          have d2 : decide (57 < (c : Int)) = false := decide_eq_false (by omega)
          have hU18 : U < 1000000000000000000 := by
            have : 10 ^ k ≤ 10 ^ 18 := Nat.pow_le_pow_right (by omega) (by omega)
            omega
          have hw1 : IntKind.u8.wrap ((c : Int) - 48) = ((c - 48 : Nat) : Int) := by simp [IntKind.wrap, IntKind.bits, IntKind.signed]; omega
          obtain ⟨d, hdd⟩ : ∃ d, d = c - 48 := ⟨_, rfl⟩
          rw [← hdd] at hw1
          have hd10 : d < 10 := by omega
          have hw2 : IntKind.u64.wrap (d : Int) = (d : Int) := by simp [IntKind.wrap, IntKind.bits, IntKind.signed]; omega
          have hw3 : IntKind.u64.wrap (10 * (U : Int)) = 10 * (U : Int) := by simp [IntKind.wrap, IntKind.bits, IntKind.signed]; omega
          have hw4 : IntKind.u64.wrap (10 * (U : Int) + (d : Int)) = 10 * (U : Int) + (d : Int) := by simp [IntKind.wrap, IntKind.bits, IntKind.signed]; omega
          have HV2 : Hid (10 * U + d = valD (l'.take (k + 1))) := Lib.hid (by rw [HV.out, ← HU.out, hdd])
          have HP : Hid (10 * U + d < 10 ^ (k + 1) ∧ 10 * U + d < 10000000000000000000) := Lib.hid ⟨by rw [Nat.pow_succ]; omega, by omega⟩
          clear hdd hU
          go_wp2
          go_roundw
          case rel => exact ⟨k + 1, 10 * U + d, by go_num, by go_num, by omega, HP.out.1, HP.out.2, HV2, trivial⟩
          case measure => simp [intOf]; omega
        · have HF : Hid (∀ u : Nat, u < 9223372036854775808 → l' = digs u → False) := Lib.hid (fun u _ e => by
            have := digs_at (u := u) (k := k) (by rw [← e, ← HN.out]; exact hlt)
            rw [← e, ← HCC.out] at this
            omega)
          rcases (by omega : c < 48 ∨ (¬ c < 48 ∧ 57 < c)) with h1 | ⟨h1, h2⟩
          · have d1 : decide ((c : Int) < 48) = true := decide_eq_true (by omega)
            clear hd
            go_wp2
            go_ret2
            exact ⟨_, _, rfl, HNOT.out HF.out, rfl⟩
          · have d1 : decide ((c : Int) < 48) = false := decide_eq_false (by omega)
            have d2 : decide (57 < (c : Int)) = true := decide_eq_true (by omega)
            clear hd
            go_wp2
            go_ret2
            exact ⟨_, _, rfl, HNOT.out HF.out, rfl⟩
      · obtain rfl : k = n := by omega
        have HUU : Hid (U = valD l') := Lib.hid (by rw [HU.out, HN.out, List.take_length])
        by_cases hbig : U ≤ 9223372036854775807
        · have d1 : decide ((9223372036854775807 : Int) < (U : Int)) = false := decide_eq_false (by omega)
          have hw1 : IntKind.i64.wrap (U : Int) = (U : Int) := by simp [IntKind.wrap, IntKind.bits, IntKind.signed]; omega
          have hw2 : IntKind.i64.wrap (-(U : Int)) = -(U : Int) := by simp [IntKind.wrap, IntKind.bits, IntKind.signed]; omega
          have HW := Lib.hid (HYES.out (by rw [← HUU.out]; exact hbig))
          rw [← HUU.out] at HW
          go_wp2
          go_ret2
          exact ⟨_, _, rfl, HW.out, rfl⟩
        · have d1 : decide ((9223372036854775807 : Int) < (U : Int)) = true := decide_eq_true (by omega)
          have HF : Hid (∀ u : Nat, u < 9223372036854775808 → l' = digs u → False) := Lib.hid (fun u hu e => by
            have := HUU.out
            rw [e, valD_digs] at this
            omega)
          go_wp2
          go_ret2
          exact ⟨_, _, rfl, HNOT.out HF.out, rfl⟩
  · have HF : Hid (∀ u : Nat, u < 9223372036854775808 → l' = digs u → False) := Lib.hid (fun u hu e => by
      have := digs_count (u := u) (by omega)
      rw [← e, ← HN.out] at this
      omega)
    rcases (by omega : n < 1 ∨ (¬ n < 1 ∧ 19 < n)) with h1 | ⟨h1, h2⟩
    · have d1 : decide ((n : Int) < 1) = true := decide_eq_true (by omega)
      clear h19
      go_enter Tryd.func46, Tryd.ntmps46
      go_wp2
      go_ret2
      exact ⟨_, _, rfl, HNOT.out HF.out, rfl⟩
    · have d1 : decide ((n : Int) < 1) = false := decide_eq_false (by omega)
      have d2 : decide (19 < (n : Int)) = true := decide_eq_true (by omega)
      clear h19
      go_enter Tryd.func46, Tryd.ntmps46
      go_wp2
      go_ret2
      exact ⟨_, _, rfl, HNOT.out HF.out, rfl⟩
set_option maxRecDepth 8000 in
set_option maxHeartbeats 1000000 in
theorem rwhole_nil (w : World) : Calls Tryd.prog 46 #[.string (bstr [])] w (WholeK [] w) := by
  have HF : Hid (WholeIs [] 0 false) := Lib.hid (whole_not_pos (by simp) (fun u hu e => by
    have := digs_count (u := u) (by omega)
    rw [← e] at this
    simp at this))
  rw [show bstr [] = { data := #[] } from rfl]
  go_enter Tryd.func46, Tryd.ntmps46
  go_wp2
  go_ret2
  exact ⟨_, _, rfl, HF.out, rfl⟩
theorem rwhole_any (l : List Nat) (hO : Oct l) (hl : l.length ≤ 1000000) (w : World) : Calls Tryd.prog 46 #[.string (bstr l)] w (WholeK l w) := by
  cases l with
  | nil => exact rwhole_nil w
  | cons c r =>
    by_cases h : c = 45
    · subst h
      exact rwhole_neg r hO (by rw [List.length_cons] at hl; omega) w
    · exact rwhole_pos (c :: r) hO hl (by simpa using h) (by simp) w
end Go.Proofs.YtjkbnljjmbfmiaaDoor

/-
  The walk of the reference's Parse.
-/
namespace Go.Proofs.YtjkbnljjmbfmiaaDoor
open Go Go.RowKit
set_option linter.unusedVariables false

theorem bstr_equal {a b : List Nat} (ha : Oct a) (hb : Oct b) (h : bstr a = bstr b) : a = b := by
  have h1 := congrArg (fun x : ByteArray => x.data.toList) h
  simp only [bstr_list] at h1
  have inj : ∀ (a b : List Nat), Oct a → Oct b → a.map UInt8.ofNat = b.map UInt8.ofNat → a = b := by
    intro a
    induction a with
    | nil => intro b _ _ h; cases b with
      | nil => rfl
      | cons y b => simp at h
    | cons x a ih =>
      intro b ha hb h
      cases b with
      | nil => simp at h
      | cons y b =>
        simp only [List.map_cons, List.cons.injEq] at h
        have hx := ha x (List.mem_cons_self ..)
        have hy := hb y (List.mem_cons_self ..)
        have h2 := congrArg UInt8.toNat h.1
        simp at h2
        rw [ih b (fun z hz => ha z (List.mem_cons_of_mem _ hz)) (fun z hz => hb z (List.mem_cons_of_mem _ hz)) h.2, show x = y by omega]
  exact inj a b ha hb h1
theorem beq_bytes {a b : List Nat} (ha : Oct a) (hb : Oct b) : ((bstr a).toList == (bstr b).toList) = decide (a = b) := by
  by_cases h : a = b
  · subst h; simp
  · rw [decide_eq_false h]
    exact beq_eq_false_iff_ne.2 (fun h1 => h (bstr_equal ha hb (by rw [ByteArray.toList_eq, ByteArray.toList_eq] at h1; exact Go.WideShapes.bytes_inj h1)))
/-- Strings in memory, from a block's start on. -/
def PartsAt (w : World) (g : Nat) (ws : List (List Nat)) : Prop := g < w.heap.size ∧ ∀ i, i < ws.length → w.cell? ⟨g, i, none⟩ = some (.string (bstr (ws.getD i [])))
theorem PartsAt.cell {w W : World} {g : Nat} {ws : List (List Nat)} (h : PartsAt w g ws) (hb : Below w.heap.size w W) {i : Nat} (hi : i < ws.length) : W.cell? ⟨g, i, none⟩ = some (.string (bstr (ws.getD i []))) := (hb.cell h.1).trans (h.2 i hi)
theorem own_parts {w : World} {base : Nat} {v : Value} {ws : List (List Nat)} (h : OwnS w base v ws) (h0 : 0 < ws.length) : ∃ g c, v = .slice (some ⟨g, 0, none⟩) ws.length c ∧ ws.length ≤ c ∧ base ≤ g ∧ PartsAt w g ws := by
  obtain ⟨A, c, rfl, hc, _, _, hp⟩ := OwnL.form h lay_str
  obtain ⟨g, rfl, hg, hlt, hcell⟩ := hp h0
  refine ⟨g, c, rfl, hc, hg, hlt, fun i hi => ?_⟩
  have := (hcell i hi 0 (by omega)).1
  rw [Nat.mul_one, Nat.add_zero] at this
  rw [this, List.getD_eq_getElem?_getD, List.getElem?_eq_getElem hi]
  rfl
/-- Which kind has this word, of those below k. -/
def KindTo (l : List Nat) (k : Nat) (K : Int) : Prop := (0 ≤ K ∧ K ≤ 22) ∧ ∀ j : Int, 1 ≤ j → j < k → wordOf j = l → K = j
theorem KindTo.hit {l : List Nat} {k : Nat} {K : Int} (h : KindTo l k K) (h1 : 1 ≤ k) (h2 : k ≤ 22) (he : wordOf (k : Int) = l) : KindTo l (k + 1) (k : Int) :=
  ⟨by omega, fun j g1 g2 g3 => word_inj ⟨by omega, by omega⟩ ⟨g1, by omega⟩ (he.trans g3.symm)⟩
theorem KindTo.miss {l : List Nat} {k : Nat} {K : Int} (h : KindTo l k K) (he : wordOf (k : Int) ≠ l) : KindTo l (k + 1) K :=
  ⟨h.1, fun j g1 g2 g3 => by
    by_cases hj : j = (k : Int)
    · exact absurd (by rw [← hj]; exact g3) he
    · exact h.2 j g1 (by omega) g3⟩
theorem zero_is_ok : Ev.zero.Ok := by
  unfold Ev.zero
  constructor <;> (unfold I64; simp)
theorem loF_big (k : Int) (f : Nat) : -1152921504606846976 ≤ loF k f := by
  unfold loF loQ loP
  repeat' split
  all_goals omega
/-- What Parse answers. -/
def RParseK (b : List Nat) (w : World) (r : Ending) (w' : World) : Prop := ∃ x c, r = .returned (.tuple #[x.v, .int .i64 c]) ∧ Parsed b x c ∧ Below w.heap.size w w'
theorem rparsed_none {b : List Nat} (h : ∀ y : Ev, y.Ok → rightE y = true → textL y ≠ b) : Parsed b Ev.zero 1 := Or.inr ⟨rfl, rfl, h⟩
/-- What is told of a field's word. -/
theorem Half.side {ws : List (List Nat)} {K : Int} {k : Nat} {x : Ev} (h : Half ws K k x) (hk : k < (fieldsOf K).length) (hf : (fieldsOf K).getD k 0 = 83) (n : Int) (hn : n = if sideOf K 2 = ws.getD (k + 1) [] then 2 else 1) : ∀ y, IsLine ws y → n = y.val ((fieldsOf K).getD k 0) := by
  intro y hy
  obtain ⟨h4, _⟩ := h.2.2 y hy
  have h83 : 83 ∈ fieldsOf y.kind := by
    rw [h4, ← hf, List.getD_eq_getElem?_getD, List.getElem?_eq_getElem hk]
    exact List.getElem_mem _
  have hs := right_side hy.right h83
  have hw := hy.field (k := k) (by rw [h4]; exact hk)
  rw [h4, hf] at hw
  rw [hf]
  have hv : y.val 83 = y.side := rfl
  have hfl : fieldL y 83 = sideOf K y.side := by unfold fieldL; rw [if_pos rfl, h4]
  rw [hfl] at hw
  rw [hv, hn]
  rcases hs with e | e
  · rw [if_neg ?_, e]
    intro h2
    rw [hw, e] at h2
    have := sideOf_inj (.inr rfl) (.inl rfl) h2
    omega
  · rw [if_pos (by rw [hw, e]), e]
theorem Half.num {ws : List (List Nat)} {K : Int} {k : Nat} {x : Ev} (h : Half ws K k x) (hk : k < (fieldsOf K).length) (hf : (fieldsOf K).getD k 0 ≠ 83) {n : Int} {ok : Bool} (hw : WholeIs (ws.getD (k + 1) []) n ok) : ∀ y, IsLine ws y → ok = true ∧ n = y.val ((fieldsOf K).getD k 0) := by
  intro y hy
  obtain ⟨h4, _⟩ := h.2.2 y hy
  have hm : (fieldsOf K).getD k 0 ∈ fieldsOf y.kind := by
    rw [h4, List.getD_eq_getElem?_getD, List.getElem?_eq_getElem hk]
    exact List.getElem_mem _
  have hb := right_inF hy.right hm
  have hlo := loF_big y.kind ((fieldsOf K).getD k 0)
  have ho := hy.ok.val ((fieldsOf K).getD k 0)
  unfold I64 at ho
  have hwd := hy.field (k := k) (by rw [h4]; exact hk)
  rw [h4] at hwd
  refine hw.2 _ (by omega) (by omega) ?_
  rw [hwd]
  unfold fieldL
  rw [if_neg hf]
set_option maxRecDepth 8000 in
set_option maxHeartbeats 8000000 in
theorem rparse_any (A : Option Addr) (b : List Nat) (n c : Nat) (w : World) (hn : n = b.length) (hB : Byts w A b) (hO : Oct b) (hl : n ≤ 1000000000000) : Calls Tryd.prog 33 #[.slice A n c] w (RParseK b w) := by
  have HB00 := Lib.hid ((Below.refl w.heap.size w).alloc (Nat.le_refl _) (.cells Ev.zero.cells.toArray 23))
  have HR0 : Hid (EvAt (w.alloc (.cells Ev.zero.cells.toArray 23)) w.heap.size Ev.zero) := Lib.hid (Rec.new w _ Ev.zero.cells _ rfl)
  by_cases h120 : n ≤ 120
  · have hd : decide (120 < (n : Int)) = false := decide_eq_false (by omega)
    have hst := run_bstr (w.alloc (.cells Ev.zero.cells.toArray 23)) A b n c hn (hB.below HB00.out)
    have HSTR : Hid (∀ W, Below w.heap.size w W → (convert 38 9 (.slice A n c)).run Tryd.prog W = .ok (.string (bstr b)) W) := Lib.hid (fun W hW => run_bstr W A b n c hn (hB.below hW))
    have CW := Lib.hid (rparts_any b hO (by omega) (w.alloc (.cells Ev.zero.cells.toArray 23)))
    have HBS := Lib.hid (fun x : Ev => beq_bytes (text_oct x) hO)
    obtain ⟨ws, hws⟩ : ∃ ws, ws = cutB b := ⟨_, rfl⟩
    have HG : Hid (∀ y : Ev, y.Ok → rightE y = true → textL y = b → IsLine ws y) := Lib.hid (fun y o r t => by rw [hws]; exact line_of o r t)
    have HWO : Hid (∀ i, i < ws.length → Oct (ws.getD i [])) := Lib.hid (fun i hi => by rw [List.getD_eq_getElem?_getD, List.getElem?_eq_getElem hi]; exact cut_oct hO _ (by rw [← hws]; exact List.getElem_mem hi))
    have HWL : Hid (∀ i, i < ws.length → (ws.getD i []).length ≤ 1000000) := Lib.hid (fun i hi => by
      have := (cut_bound b).1 (ws.getD i []) (by rw [← hws, List.getD_eq_getElem?_getD, List.getElem?_eq_getElem hi]; exact List.getElem_mem hi)
      omega)
    have HWC : Hid (0 < ws.length ∧ ws.length ≤ 121) := Lib.hid ⟨by rw [hws]; exact List.length_pos_iff.2 (cut_ne b), by rw [hws]; have := (cut_bound b).2; omega⟩
    rw [← hws] at CW
    obtain ⟨S, hS⟩ : ∃ S, S = bstr b := ⟨_, rfl⟩
    rw [← hS] at CW hst HBS HSTR
    clear hws hB hO hS hn
    simp only [Ev.cells, Ev.zero] at hst CW
    go_enter Tryd.func33, Tryd.ntmps33
    go_wp2_with (go_at_call 45; (with_reducible refine CW.out.mono ?_); rintro r w1 ⟨v, rfl, hv, hb1⟩; (obtain ⟨g, cg, rfl, hcg, _, hsg⟩ := own_parts hv HWC.out.1); have HB1 := Lib.hid (HB00.out.trans (hb1.mono HB00.out.size)); have HR1 := Lib.hid (HR0.out.keep hb1); (obtain ⟨L, hL⟩ : ∃ L, L = ws.length := ⟨_, rfl⟩); rw [← hL] at hcg HWO HWL HWC; have HST := Lib.hid (show ∀ W, Below w1.heap.size w1 W → ∀ i, i < L → W.cell? ⟨g, i, none⟩ = some (.string (bstr (ws.getD i []))) from fun W hW i hi => hsg.cell hW (by omega)); rw [← hL]; have HLL := Lib.hid hL; clear hv hb1 hsg CW hL)
    have hLp : 0 < L := HWC.out.1
    have hLm : L ≤ 121 := HWC.out.2
    have hblt : w.heap.size < w1.heap.size := HR1.out.lt
    have HQ0 := Lib.hid (fun k : Int => beq_bytes (word_octs k) (HWO.out 0 hLp))
    have HK0 : Hid (∀ y, IsLine ws y → wordOf y.kind = ws.getD 0 []) := Lib.hid (fun y hy => hy.first.symm)
    have HST0 : Hid (∀ W, Below w1.heap.size w1 W → W.cell? ⟨g, 0, none⟩ = some (.string (bstr (ws.getD 0 [])))) := Lib.hid (fun W hW => HST.out W hW 0 hLp)
    have HBE : Hid (Below w1.heap.size w1 (w1.alloc (.cells (⟨0, 0, 0, 0, 0, 0, 0, 0⟩ : Ev).cells.toArray 23))) := Lib.hid ((Below.refl _ _).alloc (Nat.le_refl _) _)
    have HEE : Hid (EvAt (w1.alloc (.cells (⟨0, 0, 0, 0, 0, 0, 0, 0⟩ : Ev).cells.toArray 23)) w1.heap.size ⟨0, 0, 0, 0, 0, 0, 0, 0⟩) := Lib.hid (Rec.new w1 _ _ _ rfl)
    have CWD := Lib.hid (fun k W => word_any k W)
    obtain ⟨q0, hq0⟩ : ∃ q, q = ws.getD 0 [] := ⟨_, rfl⟩
    rw [← hq0] at HQ0 HK0 HST0
    obtain ⟨S0, hS0⟩ : ∃ q, q = bstr q0 := ⟨_, rfl⟩
    rw [← hS0] at HQ0 HST0
    clear HB00 HR0 hst hS0 hq0
    go_loopw [6] (fun i wr => ∃ (k : Nat) (kd : Int), i = .int .i64 (k : Int) ∧ 1 ≤ k ∧ k ≤ 23 ∧ Hid (KindTo q0 k kd) ∧ Hid (EvAt wr w1.heap.size ⟨kd, 0, 0, 0, 0, 0, 0, 0⟩) ∧ Hid (Below w1.heap.size w1 wr)) (fun i _ => 23 - (intOf i).toNat)
    case atStart => exact ⟨1, 0, rfl, by omega, by omega, Lib.hid ⟨by omega, fun j h1 h2 => by omega⟩, HEE, HBE⟩
    case round =>
      obtain ⟨k, kd, rfl, hk1, hk2, HK, HE, HB⟩ := hrel
      by_cases hk : k ≤ 22
      · have hkk : (k : Int) ≤ 22 := by omega
        have hq := HQ0.out (k : Int)
        have CW1 := Lib.hid (fun W => CWD.out (k : Int) W)
        have hc0 := HST0.out wr HB.out
        generalize bstr (wordOf (k : Int)) = Sk at *
        by_cases he' : wordOf (k : Int) = q0
        · rw [decide_eq_true he'] at hq
          have HK2 := Lib.hid (HK.out.hit hk1 hk he')
          clear he'
          go_wp2
          go_region_with (go_at_call 16; (with_reducible refine (CW1.out _).mono ?_); rintro r w2 ⟨rfl, hb2⟩; have HB2 := Lib.hid (below_dr hb2); have HE2 := Lib.hid (HE.out.keep (below_dr hb2)); have HBB := Lib.hid (HB.out.trans ((below_dr hb2).mono HB.out.size)); have hc2 := HST0.out w2 HBB.out; have d0 := HE2.out.reads.1; have z0 := Rec.frozen HE2.out 0; clear hb2)
          all_goals go_wp2
          all_goals go_roundw
          all_goals first
            | exact ⟨k + 1, (k : Int), by go_num, by omega, by omega, HK2, Lib.hid (Rec.set HE2.out 0 _), Lib.hid (HBB.out.setCell (p := ⟨w1.heap.size, 0, none⟩) (Nat.le_refl _) _)⟩
            | (simp [intOf]; omega)
        · rw [decide_eq_false he'] at hq
          have HK2 := Lib.hid (HK.out.miss he')
          clear he'
          go_wp2
          go_region_with (go_at_call 16; (with_reducible refine (CW1.out _).mono ?_); rintro r w2 ⟨rfl, hb2⟩; have HE2 := Lib.hid (HE.out.keep (below_dr hb2)); have HBB := Lib.hid (HB.out.trans ((below_dr hb2).mono HB.out.size)); have hc2 := HST0.out w2 HBB.out; clear hb2)
          all_goals go_wp2
          all_goals go_roundw
          all_goals first
            | exact ⟨k + 1, kd, by go_num, by omega, by omega, HK2, HE2, HBB⟩
            | (simp [intOf]; omega)
      · obtain rfl : k = 23 := by omega
        have hkk : decide ((23 : Int) ≤ 22) = false := by decide
        have HKY : Hid (∀ y, IsLine ws y → kd = y.kind) := Lib.hid (fun y hy => HK.out.2 y.kind (right_kinds hy.right).1 (by have := (right_kinds hy.right).2; omega) (HK0.out y hy))
        have hKr := HK.out.1
        have CF := Lib.hid (fun W => fields_any kd W)
        have CK := Lib.hid (fun W => kind_any kd W)
        obtain ⟨l, hle⟩ : ∃ l, l = fieldsOf kd := ⟨_, rfl⟩
        rw [← hle] at CF
        have HLE := Lib.hid hle
        obtain ⟨Sf, hSf⟩ : ∃ S, S = bstr l := ⟨_, rfl⟩
        rw [← hSf] at CF
        have HSS := Lib.hid hSf
        have hszf : Sf.size = l.length := by rw [hSf]; exact bstr_size l
        obtain ⟨m, hm⟩ : ∃ m, m = l.length := ⟨_, rfl⟩
        rw [← hm] at hszf
        have HMM := Lib.hid hm
        have hm5 : m ≤ 5 := by have := fields_len kd; rw [hm, hle]; exact this
        clear hm hSf hle
        have HRW := Lib.hid (HR1.out.keep HB.out)
        have HBW := Lib.hid (HB1.out.trans (HB.out.mono HB1.out.size))
        have e0 := HE.out.reads.1
        simp only at e0
        by_cases hKK : 1 ≤ kd ∧ kd ≤ 22
        · have HKK := Lib.hid hKK
          rw [decide_eq_true hKK] at CK
          clear hKK
          cases hq : ((L : Int) != (m : Int) + 1)
          · have HLM : Hid (L = m + 1) := Lib.hid (by have := bne_eq_false_iff_eq.1 hq; omega)
            go_wp2_with (first
              | (go_at_call 29; (with_reducible refine (CF.out _).mono ?_); rintro r _ ⟨rfl, rfl⟩)
              | (go_at_call 32; (with_reducible refine (CK.out _).mono ?_); rintro r _ ⟨rfl, rfl⟩))
            have HE0 := HE
            have HBQ0 := HB
            have HH0 : Hid (Half ws kd 0 ⟨kd, 0, 0, 0, 0, 0, 0, 0⟩) := Lib.hid ⟨by constructor <;> (unfold I64; simp) <;> omega, rfl, fun y hy => ⟨(HKY.out y hy).symm, by rw [List.take_zero]; unfold bareOf; rw [List.foldl_nil, HKY.out y hy]⟩⟩
            have HGF : Hid (∀ k (h : k < Sf.size), (Sf[k]'h).toNat = l.getD k 0) := Lib.hid (by
              have hS := HSS.out
              subst hS
              intro k h
              exact bstr_get l (by rw [HLE.out]; exact fields_oct _) k h)
            clear HE HB HRW HBW hKr HK hq e0 CF CK HQ0 HST0 CWD HBE HEE HK0
            go_loopw [8] (fun i wq => ∃ (k : Nat) (x : Ev), i = .int .i64 (k : Int) ∧ k ≤ m ∧ Hid (Half ws kd k x) ∧ Hid (EvAt wq w1.heap.size x) ∧ Hid (Below w1.heap.size w1 wq)) (fun i _ => m - (intOf i).toNat)
            case atStart => exact ⟨0, ⟨kd, 0, 0, 0, 0, 0, 0, 0⟩, rfl, Nat.zero_le _, HH0, HE0, HBQ0⟩
            case round =>
              obtain ⟨k, x, rfl, hk, HF, HE, HB⟩ := hrel
              by_cases hlt : k < m
              · have hszk : k < Sf.size := by rw [hszf]; exact hlt
                have hgt := HGF.out k hszk
                obtain ⟨f, hf⟩ : ∃ f, f = l.getD k 0 := ⟨_, rfl⟩
                rw [← hf] at hgt
                have HFF : Hid (f = (fieldsOf kd).getD k 0) := Lib.hid (by rw [hf, HLE.out])
                have HKL : Hid (k < (fieldsOf kd).length) := Lib.hid (by rw [← HLE.out, ← HMM.out]; exact hlt)
                have hk1L : k + 1 < L := by have := HLM.out; omega
                have HCK : Hid (∀ W, Below w1.heap.size w1 W → W.cell? ⟨g, k + 1, none⟩ = some (.string (bstr (ws.getD (k + 1) [])))) := Lib.hid (fun W hW => HST.out W hW (k + 1) hk1L)
                have CWH := Lib.hid (fun W => rwhole_any (ws.getD (k + 1) []) (HWO.out _ hk1L) (HWL.out _ hk1L) W)
                have HXK : Hid (x.kind = kd) := Lib.hid HF.out.2.1
                have HQS := Lib.hid (beq_bytes (a := sideOf kd 2) (b := ws.getD (k + 1) []) (fun z hz => by have := side_oct _ _ z hz; omega) (HWO.out _ hk1L))
                obtain ⟨wk, hwk⟩ : ∃ z, z = ws.getD (k + 1) [] := ⟨_, rfl⟩
                rw [← hwk] at HCK CWH HQS
                have HWK := Lib.hid hwk
                obtain ⟨Sk, hSk⟩ : ∃ z, z = bstr wk := ⟨_, rfl⟩
                rw [← hSk] at HCK CWH HQS
                have hc0 := HCK.out _ HB.out
                have hkb : Hid ((k : Int) + 1 < (L : Int)) := Lib.hid (by omega)
                have hkw : Hid (wrap64 ((k : Int) + 1) = (k : Int) + 1 ∧ IntKind.i64.wrap ((k : Int) + 1) = (k : Int) + 1) := Lib.hid ⟨IntWalk.wrap64_in _ (by omega), by simp [IntKind.wrap, IntKind.bits, IntKind.signed]; omega⟩
                have HRQ := Lib.hid (HR1.out.keep HB.out)
                have HBQ := Lib.hid (HB1.out.trans (HB.out.mono HB1.out.size))
                obtain ⟨d0, d1, d2, d3, d4, d5, d6, d7⟩ := HE.out.reads
                clear hf hwk hSk
                by_cases h83 : f = 83
                · subst h83
                  have hgi : ((Sf[k]'hszk).toNat : Int) = 83 := by rw [hgt]; rfl
                  have CS := Lib.hid (fun W => side_any kd 2 (.inr rfl) W)
                  obtain ⟨T2, hT2⟩ : ∃ z, z = bstr (sideOf kd 2) := ⟨_, rfl⟩
                  rw [← hT2] at CS HQS
                  clear hgt hT2
                  go_wp2_with (go_at_call 46; (with_reducible refine (CWH.out _).mono ?_); rintro r wq ⟨n9, ok9, rfl, _, hwq⟩; obtain rfl : wr = wq := hwq.symm)
                  obtain ⟨B2, hB2⟩ : ∃ z, z = decide (sideOf kd 2 = wk) := ⟨_, rfl⟩
                  have HB2 := Lib.hid hB2
                  have hq2 := HQS.out
                  rw [← hB2] at hq2
                  clear hB2
                  refine wp_region_dag [67, 68, 69, 70, 71, 72, 73, 74, 75] (fun W W' => Below W.heap.size W W') (fun W => Below wr.heap.size wr W) (spAt [.val (.pointer (some ⟨w1.heap.size, 0, none⟩)), .val (.int .i64 kd), .val (.string T2), .val (.slice (some ⟨g, 0, none⟩) L cg), .val (.int .i64 (k : Int)), .val (.int .i64 ((k : Int) + 1)), .val (.pointer (some ⟨g, k + 1, none⟩)), .val (.string Sk), .val (.bool B2)]) rfl rfl rfl rfl (spAt_st _) ((Below.refl _ _).drew) ⟨?_, ?_, ?_, ?_, ?_, ?_, ?_, ?_, ?_, trivial⟩ ?_
                  · intro a W K ho hW hpre hK
                    rw [if_pos (wanted_none rfl)]
                    have e0 : a.tmps.getD 5 undef = .pointer (some ⟨w1.heap.size, 0, none⟩) := ho.slot 5 (by decide)
                    go_simp
                    exact hK _ _ (Below.refl _ _) hW rfl
                  · intro a W K ho hW hpre hK
                    rw [if_pos (wanted_none rfl)]
                    have e0 : a.tmps.getD 67 undef = .pointer (some ⟨w1.heap.size, 0, none⟩) := hpre ⟨0, .data⟩ (by simp) rfl _ rfl
                    have c0 := (HE.out.keep hW).reads.1
                    rw [HXK.out] at c0
                    go_simp
                    exact hK _ _ (Below.refl _ _) hW rfl
                  · intro a W K ho hW hpre hK
                    rw [if_pos (wanted_none rfl)]
                    have e0 : a.tmps.getD 68 undef = .int .i64 kd := hpre ⟨1, .data⟩ (by simp) rfl _ rfl
                    go_simp
                    (with_reducible refine (CS.out _).mono ?_)
                    rintro r w5 ⟨rfl, hb5⟩
                    exact hK _ _ hb5 (hW.trans (hb5.mono hW.size)) rfl
                  · intro a W K ho hW hpre hK
                    rw [if_pos (wanted_none rfl)]
                    have e0 : a.tmps.getD 4 undef = .slice (some ⟨g, 0, none⟩) L cg := ho.slot 4 (by decide)
                    go_simp
                    exact hK _ _ (Below.refl _ _) hW rfl
                  · intro a W K ho hW hpre hK
                    rw [if_pos (wanted_none rfl)]
                    have e0 : a.tmps.getD 8 undef = .int .i64 (k : Int) := ho.slot 8 (by decide)
                    go_simp
                    exact hK _ _ (Below.refl _ _) hW rfl
                  · intro a W K ho hW hpre hK
                    rw [if_pos (wanted_none rfl)]
                    have e0 : a.tmps.getD 71 undef = .int .i64 (k : Int) := hpre ⟨4, .data⟩ (by simp) rfl _ rfl
                    obtain ⟨hw, hw2⟩ := hkw.out
                    go_simp
                    exact hK _ _ (Below.refl _ _) hW rfl
                  · intro a W K ho hW hpre hK
                    rw [if_pos (wanted_none rfl)]
                    have e0 : a.tmps.getD 70 undef = .slice (some ⟨g, 0, none⟩) L cg := hpre ⟨3, .data⟩ (by simp) rfl _ rfl
                    have e1 : a.tmps.getD 72 undef = .int .i64 ((k : Int) + 1) := hpre ⟨5, .data⟩ (by simp) rfl _ rfl
                    have hi1 := hkb.out
                    go_simp
                    exact hK _ _ (Below.refl _ _) hW rfl
                  · intro a W K ho hW hpre hK
                    rw [if_pos (wanted_none rfl)]
                    have e0 : a.tmps.getD 73 undef = .pointer (some ⟨g, k + 1, none⟩) := hpre ⟨6, .data⟩ (by simp) rfl _ rfl
                    have hc := HCK.out W (HB.out.trans (hW.mono HB.out.size))
                    go_simp
                    exact hK _ _ (Below.refl _ _) hW rfl
                  · intro a W K ho hW hpre hK
                    rw [if_pos (wanted_none rfl)]
                    have e0 : a.tmps.getD 69 undef = .string T2 := hpre ⟨2, .data⟩ (by simp) rfl _ rfl
                    have e1 : a.tmps.getD 74 undef = .string Sk := hpre ⟨7, .data⟩ (by simp) rfl _ rfl
                    go_simp
                    exact hK _ _ (Below.refl _ _) hW rfl
                  · intro a W ho hW hall
                    have e75 : a.tmps.getD 75 undef = .bool B2 := hall 8 _ rfl
                    have heq := ho.eq
                    have HE3 := Lib.hid (HE.out.keep hW)
                    have HB3 := Lib.hid (HB.out.trans (hW.mono HB.out.size))
                    clear ho hW hall
                    simp only [putL, e75] at heq
                    clear e75
                    generalize a.tmps.getD 67 undef = u67 at heq
                    generalize a.tmps.getD 68 undef = u68 at heq
                    generalize a.tmps.getD 69 undef = u69 at heq
                    generalize a.tmps.getD 70 undef = u70 at heq
                    generalize a.tmps.getD 71 undef = u71 at heq
                    generalize a.tmps.getD 72 undef = u72 at heq
                    generalize a.tmps.getD 73 undef = u73 at heq
                    generalize a.tmps.getD 74 undef = u74 at heq
                    subst heq
                    rename_i hKK
                    refine hKK _ _ ?_
                    go_simp
                    have HNS : Hid (∀ n : Int, n = (if B2 = true then 2 else 1) → ∀ y, IsLine ws y → n = y.val ((fieldsOf kd).getD k 0)) := Lib.hid (fun n hn => HF.out.side HKL.out HFF.out.symm n (by
                      rw [hn, HB2.out, HWK.out]
                      by_cases h : sideOf kd 2 = ws.getD (k + 1) []
                      · rw [decide_eq_true h, if_pos rfl, if_pos h]
                      · rw [decide_eq_false h, if_neg Bool.false_ne_true, if_neg h]))
                    clear CS HQS hq2 HB2
                    cases B2
                    · have CWI0 := Lib.hid (fun W => with_any x 83 1 W)
                      obtain ⟨y, hy⟩ : ∃ y, y = x.with 83 1 := ⟨_, rfl⟩
                      have HY : Hid (y = x.with ((fieldsOf kd).getD k 0) 1) := Lib.hid (by rw [hy, ← HFF.out])
                      have CWI : Hid (∀ W, Calls Tryd.prog 44 #[x.v, .int .u8 83, .int .i64 1] W fun r w' => r = .returned y.v ∧ Below W.heap.size W w') := Lib.hid (by rw [hy]; exact CWI0.out)
                      clear CWI0 hy
                      unfold Ev.v at CWI
                      obtain ⟨m0, m1, m2, m3, m4, m5, m6, m7⟩ := HE3.out.reads
                      go_wp2
                      go_region_with (go_at_call 44; (with_reducible refine (CWI.out _).mono ?_); rintro r w5 ⟨rfl, hb5⟩; have H4 := Lib.hid (HE3.out.keep (below_dr hb5)); have HB5 := Lib.hid (HB3.out.trans ((below_dr hb5).mono HB3.out.size)); obtain ⟨g0, g1, g2, g3, g4, g5, g6, g7⟩ := H4.out.reads; have fz0 := Rec.frozen H4.out 0; have fz1 := Rec.frozen H4.out 1; have fz2 := Rec.frozen H4.out 2; have fz3 := Rec.frozen H4.out 3; have fz4 := Rec.frozen H4.out 4; have fz5 := Rec.frozen H4.out 5; have fz6 := Rec.frozen H4.out 6; have fz7 := Rec.frozen H4.out 7; clear hb5)
                      all_goals go_wp2
                      all_goals go_roundw
                      all_goals first
                        | exact ⟨k + 1, y, by go_num, by omega, Lib.hid (by rw [HY.out]; exact HF.out.more HKL.out (by unfold I64; omega) (HNS.out 1 (by simp))), Lib.hid (put_at H4.out y), Lib.hid (put_below HB5.out (Nat.le_refl _) y)⟩
                        | (simp [intOf]; omega)
                    · have CWI0 := Lib.hid (fun W => with_any x 83 2 W)
                      obtain ⟨y, hy⟩ : ∃ y, y = x.with 83 2 := ⟨_, rfl⟩
                      have HY : Hid (y = x.with ((fieldsOf kd).getD k 0) 2) := Lib.hid (by rw [hy, ← HFF.out])
                      have CWI : Hid (∀ W, Calls Tryd.prog 44 #[x.v, .int .u8 83, .int .i64 2] W fun r w' => r = .returned y.v ∧ Below W.heap.size W w') := Lib.hid (by rw [hy]; exact CWI0.out)
                      clear CWI0 hy
                      unfold Ev.v at CWI
                      obtain ⟨m0, m1, m2, m3, m4, m5, m6, m7⟩ := HE3.out.reads
                      go_wp2
                      go_region_with (go_at_call 44; (with_reducible refine (CWI.out _).mono ?_); rintro r w5 ⟨rfl, hb5⟩; have H4 := Lib.hid (HE3.out.keep (below_dr hb5)); have HB5 := Lib.hid (HB3.out.trans ((below_dr hb5).mono HB3.out.size)); obtain ⟨g0, g1, g2, g3, g4, g5, g6, g7⟩ := H4.out.reads; have fz0 := Rec.frozen H4.out 0; have fz1 := Rec.frozen H4.out 1; have fz2 := Rec.frozen H4.out 2; have fz3 := Rec.frozen H4.out 3; have fz4 := Rec.frozen H4.out 4; have fz5 := Rec.frozen H4.out 5; have fz6 := Rec.frozen H4.out 6; have fz7 := Rec.frozen H4.out 7; clear hb5)
                      all_goals go_wp2
                      all_goals go_roundw
                      all_goals first
                        | exact ⟨k + 1, y, by go_num, by omega, Lib.hid (by rw [HY.out]; exact HF.out.more HKL.out (by unfold I64; omega) (HNS.out 2 (by simp))), Lib.hid (put_at H4.out y), Lib.hid (put_below HB5.out (Nat.le_refl _) y)⟩
                        | (simp [intOf]; omega)
                · have hgi : ((Sf[k]'hszk).toNat : Int) = (f : Int) := by rw [hgt]
                  have hne : ((f : Int) == 83) = false := beq_eq_false_iff_ne.2 (by omega)
                  have HNU : Hid (∀ n ok, WholeIs wk n ok → ∀ y, IsLine ws y → ok = true ∧ n = y.val ((fieldsOf kd).getD k 0)) := Lib.hid (fun n ok hw => HF.out.num HKL.out (by rw [← HFF.out]; exact h83) (by rw [← HWK.out]; exact hw))
                  clear hgt h83 HQS
                  obtain ⟨c0, c1, c2, c3, c4, c5, c6, c7⟩ := HRQ.out.reads
                  have fz0 := Rec.frozen HRQ.out 0; have fz1 := Rec.frozen HRQ.out 1; have fz2 := Rec.frozen HRQ.out 2; have fz3 := Rec.frozen HRQ.out 3; have fz4 := Rec.frozen HRQ.out 4; have fz5 := Rec.frozen HRQ.out 5; have fz6 := Rec.frozen HRQ.out 6; have fz7 := Rec.frozen HRQ.out 7
                  have HPZ := Lib.hid (put_at HRQ.out Ev.zero)
                  go_wp2_with (go_at_call 46; (with_reducible refine (CWH.out _).mono ?_); rintro r wq ⟨n9, ok9, rfl, hw9, hwq⟩; obtain rfl : wr = wq := hwq.symm; have H64 := Lib.hid hw9.1; have HNV := Lib.hid (HNU.out n9 ok9 hw9); clear hw9; cases ok9)
                  · have HNO : Hid (∀ y : Ev, y.Ok → rightE y = true → textL y ≠ b) := Lib.hid (fun y o r t => absurd (HNV.out y (HG.out y o r t)).1 (by simp))
                    obtain ⟨g0, g1, g2, g3, g4, g5, g6, g7⟩ := HPZ.out.reads
                    simp only [putE, Ev.zero] at g0 g1 g2 g3 g4 g5 g6 g7
                    refine bodyPost_ret (v := .tuple #[Ev.zero.v, .int .i64 1]) (by simp [results, Tryd.results33, go_sem, Ev.v, Ev.zero, g0, g1, g2, g3, g4, g5, g6, g7]) rfl ⟨Ev.zero, 1, rfl, rparsed_none HNO.out, ?_⟩
                    exact put_below HBQ.out (Nat.le_refl _) Ev.zero
                  · clear c0 c1 c2 c3 c4 c5 c6 c7 fz0 fz1 fz2 fz3 fz4 fz5 fz6 fz7
                    have CWI := Lib.hid (fun W => with_any x f n9 W)
                    obtain ⟨y, hy⟩ : ∃ y, y = x.with f n9 := ⟨_, rfl⟩
                    have HY : Hid (y = x.with ((fieldsOf kd).getD k 0) n9) := Lib.hid (by rw [hy, ← HFF.out])
                    rw [← hy] at CWI
                    clear hy
                    unfold Ev.v at CWI
                    obtain ⟨m0, m1, m2, m3, m4, m5, m6, m7⟩ := HE.out.reads
                    skip
                    go_region_with (go_at_call 44; (with_reducible refine (CWI.out _).mono ?_); rintro r w5 ⟨rfl, hb5⟩; have H4 := Lib.hid (HE.out.keep (below_dr hb5)); have HB5 := Lib.hid (HB.out.trans ((below_dr hb5).mono HB.out.size)); obtain ⟨g0, g1, g2, g3, g4, g5, g6, g7⟩ := H4.out.reads; have fz0 := Rec.frozen H4.out 0; have fz1 := Rec.frozen H4.out 1; have fz2 := Rec.frozen H4.out 2; have fz3 := Rec.frozen H4.out 3; have fz4 := Rec.frozen H4.out 4; have fz5 := Rec.frozen H4.out 5; have fz6 := Rec.frozen H4.out 6; have fz7 := Rec.frozen H4.out 7; clear hb5)
                    all_goals go_wp2
                    all_goals go_roundw
                    all_goals first
                      | exact ⟨k + 1, y, by go_num, by omega, Lib.hid (by rw [HY.out]; exact HF.out.more HKL.out H64.out (fun z hz => (HNV.out z hz).2)), Lib.hid (put_at H4.out y), Lib.hid (put_below HB5.out (Nat.le_refl _) y)⟩
                      | (simp [intOf]; omega)
              · obtain rfl : k = m := by omega
                have HXY : Hid (∀ y, IsLine ws y → x = y) := Lib.hid (fun y hy => Half.all (by rw [← HLE.out, ← HMM.out]; exact HF.out) y hy)
                have HXO := Lib.hid HF.out.1
                have HRQ := Lib.hid (HR1.out.keep HB.out)
                have HBQ := Lib.hid (HB1.out.trans (HB.out.mono HB1.out.size))
                have hkm : decide ((k : Int) < (k : Int)) = false := decide_eq_false (by omega)
                obtain ⟨d0, d1, d2, d3, d4, d5, d6, d7⟩ := HE.out.reads
                cases hr : rightE x with
                | false =>
                  have CT := Lib.hid (fun W => rtext_no x hr W)
                  have HNO : Hid (∀ y : Ev, y.Ok → rightE y = true → textL y ≠ b) := Lib.hid (fun y o r t => by
                    have := HXY.out y (HG.out y o r t)
                    rw [this, r] at hr
                    cases hr)
                  unfold RTextK at CT
                  unfold Ev.v at CT
                  clear hr
                  go_wp2_with (go_at_call 14; (with_reducible refine (CT.out _).mono ?_); rintro r w4 ⟨rfl, hb4⟩; have HB4 := Lib.hid (HBQ.out.trans (hb4.mono HBQ.out.size)); have HR4 := Lib.hid (HRQ.out.keep hb4); (obtain ⟨c0, c1, c2, c3, c4, c5, c6, c7⟩ := HR4.out.reads); have fz0 := Rec.frozen HR4.out 0; have fz1 := Rec.frozen HR4.out 1; have fz2 := Rec.frozen HR4.out 2; have fz3 := Rec.frozen HR4.out 3; have fz4 := Rec.frozen HR4.out 4; have fz5 := Rec.frozen HR4.out 5; have fz6 := Rec.frozen HR4.out 6; have fz7 := Rec.frozen HR4.out 7; clear hb4)
                  have HPZ := Lib.hid (put_at HR4.out Ev.zero)
                  obtain ⟨g0, g1, g2, g3, g4, g5, g6, g7⟩ := HPZ.out.reads
                  simp only [putE, Ev.zero] at g0 g1 g2 g3 g4 g5 g6 g7
                  refine bodyPost_ret (v := .tuple #[Ev.zero.v, .int .i64 1]) (by simp [results, Tryd.results33, go_sem, Ev.v, Ev.zero, g0, g1, g2, g3, g4, g5, g6, g7]) rfl ⟨Ev.zero, 1, rfl, rparsed_none HNO.out, ?_⟩
                  exact put_below HB4.out (Nat.le_refl _) Ev.zero
                | true =>
                  have CT := Lib.hid (fun W => rtext_yes x HXO.out hr W)
                  have HR := Lib.hid hr
                  have hq := HBS.out x
                  unfold RTextK at CT
                  unfold Ev.v at CT
                  clear hr
                  by_cases ht : textL x = b
                  · rw [decide_eq_true ht] at hq
                    have HT := Lib.hid ht
                    generalize bstr (textL x) = T at *
                    clear ht
                    go_wp2_with (go_at_call 14; (with_reducible refine (CT.out _).mono ?_); rintro r w4 ⟨rfl, hb4⟩; have HB4 := Lib.hid (HBQ.out.trans (hb4.mono HBQ.out.size)); have HR4 := Lib.hid (HRQ.out.keep hb4); have HE4 := Lib.hid (HE.out.keep hb4); (obtain ⟨c0, c1, c2, c3, c4, c5, c6, c7⟩ := HR4.out.reads); (obtain ⟨e0, e1, e2, e3, e4, e5, e6, e7⟩ := HE4.out.reads); have hst4 := HSTR.out w4 HB4.out; have fz0 := Rec.frozen HR4.out 0; have fz1 := Rec.frozen HR4.out 1; have fz2 := Rec.frozen HR4.out 2; have fz3 := Rec.frozen HR4.out 3; have fz4 := Rec.frozen HR4.out 4; have fz5 := Rec.frozen HR4.out 5; have fz6 := Rec.frozen HR4.out 6; have fz7 := Rec.frozen HR4.out 7; clear hb4)
                    have HPX := Lib.hid (put_at HR4.out x)
                    obtain ⟨g0, g1, g2, g3, g4, g5, g6, g7⟩ := HPX.out.reads
                    simp only [putE] at g0 g1 g2 g3 g4 g5 g6 g7
                    refine bodyPost_ret (v := .tuple #[x.v, .int .i64 0]) (by simp [results, Tryd.results33, go_sem, Ev.v, g0, g1, g2, g3, g4, g5, g6, g7]) rfl ⟨x, 0, rfl, Or.inl ⟨HXO.out, HR.out, HT.out, rfl⟩, ?_⟩
                    exact put_below HB4.out (Nat.le_refl _) x
                  · rw [decide_eq_false ht] at hq
                    have HNO : Hid (∀ y : Ev, y.Ok → rightE y = true → textL y ≠ b) := Lib.hid (fun y o r t => by
                      have := HXY.out y (HG.out y o r t)
                      rw [this] at ht
                      exact ht t)
                    generalize bstr (textL x) = T at *
                    clear ht
                    go_wp2_with (go_at_call 14; (with_reducible refine (CT.out _).mono ?_); rintro r w4 ⟨rfl, hb4⟩; have HB4 := Lib.hid (HBQ.out.trans (hb4.mono HBQ.out.size)); have HR4 := Lib.hid (HRQ.out.keep hb4); (obtain ⟨c0, c1, c2, c3, c4, c5, c6, c7⟩ := HR4.out.reads); have hst4 := HSTR.out w4 HB4.out; have fz0 := Rec.frozen HR4.out 0; have fz1 := Rec.frozen HR4.out 1; have fz2 := Rec.frozen HR4.out 2; have fz3 := Rec.frozen HR4.out 3; have fz4 := Rec.frozen HR4.out 4; have fz5 := Rec.frozen HR4.out 5; have fz6 := Rec.frozen HR4.out 6; have fz7 := Rec.frozen HR4.out 7; clear hb4)
                    have HPZ := Lib.hid (put_at HR4.out Ev.zero)
                    obtain ⟨g0, g1, g2, g3, g4, g5, g6, g7⟩ := HPZ.out.reads
                    simp only [putE, Ev.zero] at g0 g1 g2 g3 g4 g5 g6 g7
                    refine bodyPost_ret (v := .tuple #[Ev.zero.v, .int .i64 1]) (by simp [results, Tryd.results33, go_sem, Ev.v, Ev.zero, g0, g1, g2, g3, g4, g5, g6, g7]) rfl ⟨Ev.zero, 1, rfl, rparsed_none HNO.out, ?_⟩
                    exact put_below HB4.out (Nat.le_refl _) Ev.zero
          · have HNO : Hid (∀ y : Ev, y.Ok → rightE y = true → textL y ≠ b) := Lib.hid (fun y o r t => by
              have hy := HG.out y o r t
              have h1 := hy.count
              rw [← HLL.out, ← HKY.out y hy, ← HLE.out, ← HMM.out] at h1
              have h2 := bne_iff_ne.1 hq
              omega)
            obtain ⟨c0, c1, c2, c3, c4, c5, c6, c7⟩ := HRW.out.reads
            have fz0 := Rec.frozen HRW.out 0; have fz1 := Rec.frozen HRW.out 1; have fz2 := Rec.frozen HRW.out 2; have fz3 := Rec.frozen HRW.out 3; have fz4 := Rec.frozen HRW.out 4; have fz5 := Rec.frozen HRW.out 5; have fz6 := Rec.frozen HRW.out 6; have fz7 := Rec.frozen HRW.out 7
            have HPZ := Lib.hid (put_at HRW.out Ev.zero)
            go_wp2_with (first
              | (go_at_call 29; (with_reducible refine (CF.out _).mono ?_); rintro r _ ⟨rfl, rfl⟩)
              | (go_at_call 32; (with_reducible refine (CK.out _).mono ?_); rintro r _ ⟨rfl, rfl⟩))
            obtain ⟨g0, g1, g2, g3, g4, g5, g6, g7⟩ := HPZ.out.reads
            simp only [putE, Ev.zero] at g0 g1 g2 g3 g4 g5 g6 g7
            refine bodyPost_ret (v := .tuple #[Ev.zero.v, .int .i64 1]) (by simp [results, Tryd.results33, go_sem, Ev.v, Ev.zero, g0, g1, g2, g3, g4, g5, g6, g7]) rfl ⟨Ev.zero, 1, rfl, rparsed_none HNO.out, ?_⟩
            exact put_below HBW.out (Nat.le_refl _) Ev.zero
        · have HNO : Hid (∀ y : Ev, y.Ok → rightE y = true → textL y ≠ b) := Lib.hid (fun y o r t => by
            have hy := HG.out y o r t
            have h1 := right_kinds hy.right
            rw [← HKY.out y hy] at h1
            exact hKK h1)
          rw [decide_eq_false hKK] at CK
          clear hKK
          obtain ⟨c0, c1, c2, c3, c4, c5, c6, c7⟩ := HRW.out.reads
          have fz0 := Rec.frozen HRW.out 0; have fz1 := Rec.frozen HRW.out 1; have fz2 := Rec.frozen HRW.out 2; have fz3 := Rec.frozen HRW.out 3; have fz4 := Rec.frozen HRW.out 4; have fz5 := Rec.frozen HRW.out 5; have fz6 := Rec.frozen HRW.out 6; have fz7 := Rec.frozen HRW.out 7
          have HPZ := Lib.hid (put_at HRW.out Ev.zero)
          go_wp2_with (first
            | (go_at_call 29; (with_reducible refine (CF.out _).mono ?_); rintro r _ ⟨rfl, rfl⟩)
            | (go_at_call 32; (with_reducible refine (CK.out _).mono ?_); rintro r _ ⟨rfl, rfl⟩))
          obtain ⟨g0, g1, g2, g3, g4, g5, g6, g7⟩ := HPZ.out.reads
          simp only [putE, Ev.zero] at g0 g1 g2 g3 g4 g5 g6 g7
          refine bodyPost_ret (v := .tuple #[Ev.zero.v, .int .i64 1]) (by simp [results, Tryd.results33, go_sem, Ev.v, Ev.zero, g0, g1, g2, g3, g4, g5, g6, g7]) rfl ⟨Ev.zero, 1, rfl, rparsed_none HNO.out, ?_⟩
          exact put_below HBW.out (Nat.le_refl _) Ev.zero
  · have hd : decide (120 < (n : Int)) = true := decide_eq_true (by omega)
    have HNO : Hid (∀ y : Ev, y.Ok → rightE y = true → textL y ≠ b) := Lib.hid (fun y o r t => by
      have := text_len o
      rw [t] at this
      omega)
    clear hn hB hO
    go_enter Tryd.func33, Tryd.ntmps33
    go_wp2
    refine bodyPost_ret (v := .tuple #[Ev.zero.v, .int .i64 1]) (by simp [results, Tryd.results33, go_sem, Ev.v, Ev.zero]) rfl ⟨Ev.zero, 1, rfl, rparsed_none HNO.out, HB00.out⟩
end Go.Proofs.YtjkbnljjmbfmiaaDoor

/-
  The walks of novationlaw8's reads and WireParses.
-/
namespace Go.Proofs.YtjkbnljjmbfmiaaDoor
open Go Go.RowKit
set_option linter.unusedVariables false

set_option maxRecDepth 8000 in
set_option maxHeartbeats 4000000 in
theorem reads_any (A : Option Addr) (b : List Nat) (n c : Nat) (w : World) (hn : n = b.length) (hB : Byts w A b) (hO : Oct b) (hl : n ≤ 1000000000000) (hw : Laid w) : Calls Tryd.prog 17 #[.slice A n c] w fun r w' => r = .returned (.bool true) ∧ Below w.heap.size w w' := by
  have C1 := Lib.hid (wparse_any A b n c w hn hB hO hl hw)
  have C2 : Hid (∀ W, Below w.heap.size w W → Calls Tryd.prog 33 #[.slice A n c] W (RParseK b W)) := Lib.hid (fun W hW => rparse_any A b n c W hn (hB.below hW) hO hl)
  clear hn hB hO hw
  go_enter Tryd.func17, Tryd.ntmps17
  go_wp2_with (first
    | (go_at_call 33; (with_reducible refine (C2.out _ HB1.out).mono ?_); rintro r w2 ⟨y, d, rfl, hq, hb2⟩; (obtain ⟨rfl, rfl⟩ := parsed_one HP.out hq); simp only [Ev.v]; have HB2 := Lib.hid (HB1.out.trans (hb2.mono HB1.out.size)); have HB3 := Lib.hid (HB2.out.alloc HB2.out.size (.cells x.cells.toArray 23)); have HE3 := Lib.hid ((HE1.out.keep hb2).keep ((Below.refl _ w2).alloc (Nat.le_refl _) (.cells x.cells.toArray 23))); (obtain ⟨d0, d1, d2, d3, d4, d5, d6, d7⟩ := HE3.out.reads); simp only [Ev.cells] at d0 d1 d2 d3 d4 d5 d6 d7 HB3; have heq := run_ev_eq x x; simp only [Ev.v, decide_true] at heq; clear hb2 hq)
    | (go_at_call 18; (with_reducible refine C1.out.mono ?_); rintro r w1 ⟨x, c1, rfl, hp, hb1⟩; simp only [Ev.v]; have HP := Lib.hid hp; have HB1 := Lib.hid (hb1.alloc hb1.size (.cells x.cells.toArray 23)); have HE1 : Hid (EvAt (w1.alloc (.cells x.cells.toArray 23)) w1.heap.size x) := Lib.hid (Rec.new w1 _ x.cells _ rfl); simp only [Ev.cells] at HB1 HE1; clear hp hb1 C1))
  go_ret
  exact ⟨rfl, HB3.out⟩
set_option maxRecDepth 8000 in
set_option maxHeartbeats 1000000 in
theorem wparses_walk (A : Option Addr) (b : List Nat) (n c : Nat) (w : World) (hn : n = b.length) (hB : Byts w A b) (hO : Oct b) (hw : Laid w) : Calls Tryd.prog 4 #[.slice A n c] w fun r w' => r = .returned (.bool true) ∧ Below w.heap.size w w' := by
  have C1 := Lib.hid (known8 w hw)
  by_cases h : n ≤ 300
  · have hd : decide (300 < (n : Int)) = false := decide_eq_false (by omega)
    have C2 : Hid (∀ W, Below w.heap.size w W → Calls Tryd.prog 17 #[.slice A n c] W fun r w' => r = .returned (.bool true) ∧ Below W.heap.size W w') := Lib.hid (fun W hW => reads_any A b n c W hn (hB.below hW) hO (by omega) (hw.keep hW))
    clear hn hB hO hw h
    go_enter Tryd.func4, Tryd.ntmps4
    go_wp2_with (first
      | (go_at_call 9; (with_reducible refine C1.out.mono ?_); rintro r w1 ⟨rfl, hb1⟩; have HB1 := Lib.hid hb1; clear hb1)
      | (go_at_call 17; (with_reducible refine (C2.out _ HB1.out).mono ?_); rintro r w2 ⟨rfl, hb2⟩; have HB2 := Lib.hid (HB1.out.trans (hb2.mono HB1.out.size)); clear hb2))
    go_ret
    exact ⟨rfl, HB2.out⟩
  · have hd : decide (300 < (n : Int)) = true := decide_eq_true (by omega)
    clear hn hB hO hw h
    go_enter Tryd.func4, Tryd.ntmps4
    go_wp2_with (go_at_call 9; (with_reducible refine C1.out.mono ?_); rintro r w1 ⟨rfl, hb1⟩; have HB1 := Lib.hid hb1; clear hb1)
    go_ret
    exact ⟨rfl, HB1.out⟩
end Go.Proofs.YtjkbnljjmbfmiaaDoor

/-
  Strings as slices of bytes, for every world.
-/
namespace Go.Proofs.YtjkbnljjmbfmiaaDoor
open Go Go.RowKit
set_option linter.unusedVariables false

theorem sbytes_run (W : World) (l : List Nat) (n : Nat) (hn : n = l.length) : (convert 9 38 (.string (bstr l))).run Tryd.prog W = .ok (.slice (some ⟨W.heap.size, 0, none⟩) n (grownCap W n 0 5)) (Lib.bytesWorld W 5 (bstr l)) := by
  have h := Lib.run_convert_string_bytes (P := Tryd.prog) W 9 38 5 (bstr l) Tryd.underlying9 Tryd.underlying38 Tryd.underlying5
  rw [bstr_size, ← hn] at h
  exact h
theorem sbytes_byts (W : World) (l : List Nat) (hO : Oct l) : Byts (Lib.bytesWorld W 5 (bstr l)) (some ⟨W.heap.size, 0, none⟩) l := by
  intro _
  refine ⟨_, _, rfl, fun i hi => ?_⟩
  rw [Nat.zero_add, Lib.bytesWorld_cell _ _ _ i (by rw [bstr_size]; exact hi), bstr_list, List.getD_eq_getElem?_getD, List.getElem?_map, List.getD_eq_getElem?_getD, List.getElem?_eq_getElem hi]
  have := hO l[i] (List.getElem_mem hi)
  simp
  omega
end Go.Proofs.YtjkbnljjmbfmiaaDoor

/-
  The walk of novationlaw8.WireSpoilt.
-/
namespace Go.Proofs.YtjkbnljjmbfmiaaDoor
open Go Go.RowKit
set_option linter.unusedVariables false

def bytes17 : List Nat := [48, 49, 50, 51, 52, 53, 54, 55, 56, 57, 32, 45, 43, 97, 98, 117, 121]
theorem bytes17_oct : Oct bytes17 := by unfold Oct bytes17; decide
/-- What comes behind a string of these bytes. -/
def TailK (w : World) (Y : List Nat) (S : ByteArray) (n : Nat) : Prop :=
  (∀ W, (convert 9 38 (.string S)).run Tryd.prog W = .ok (.slice (some ⟨W.heap.size, 0, none⟩) n (grownCap W n 0 5)) (Lib.bytesWorld W 5 S)) ∧
  (∀ W N, N = W.heap.size → Below w.heap.size w W → Calls Tryd.prog 18 #[.slice (some ⟨N, 0, none⟩) n (grownCap W n 0 5)] (Lib.bytesWorld W 5 S) fun r w' => ∃ x c, r = .returned (.tuple #[x.v, .int .i64 c]) ∧ Parsed Y x c ∧ Below W.heap.size W w') ∧
  (∀ (x : Ev), x.Ok → rightE x = true → textL x = Y → ∀ W, Below w.heap.size w W → Calls Tryd.prog 13 #[x.v] W fun r w' => r = .returned (.tuple #[.string S, .int .i64 0]) ∧ Below W.heap.size W w') ∧
  (∀ W N, N = W.heap.size → Below w.heap.size w W → Calls Tryd.prog 17 #[.slice (some ⟨N, 0, none⟩) n (grownCap W n 0 5)] (Lib.bytesWorld W 5 S) fun r w' => r = .returned (.bool true) ∧ Below W.heap.size W w')
theorem tail_all (w : World) (hw : Laid w) (Y : List Nat) (hO : Oct Y) (hl : Y.length ≤ 1000) : TailK w Y (bstr Y) Y.length := by
  refine ⟨fun W => sbytes_run W Y _ rfl, ?_, ?_, ?_⟩
  · intro W N hN hb
    subst hN
    have hb2 := Lib.bytesWorld_below W 5 (bstr Y)
    refine (wparse_any _ Y _ _ _ rfl (sbytes_byts W Y hO) hO (by omega) (hw.keep (hb.trans (hb2.mono hb.size)))).mono ?_
    rintro r w' ⟨x, c, h1, h2, h3⟩
    exact ⟨x, c, h1, h2, hb2.trans (h3.mono hb2.size)⟩
  · intro x hx hr ht W hb
    have := wtext_yes x hx hr W (hw.keep hb)
    rw [ht] at this
    exact this
  · intro W N hN hb
    subst hN
    have hb2 := Lib.bytesWorld_below W 5 (bstr Y)
    exact (reads_any _ Y _ _ _ rfl (sbytes_byts W Y hO) hO (by omega) (hw.keep (hb.trans (hb2.mono hb.size)))).mono (fun r w' ⟨h1, h2⟩ => ⟨h1, hb2.trans (h2.mono hb2.size)⟩)
set_option maxRecDepth 100000 in
set_option maxHeartbeats 16000000 in
theorem wspoilt_walk (A : Option Addr) (l : List Int) (c n : Nat) (hk : n = l.length) (at' by' how : Nat) (ha : at' < 256) (hby : by' < 256) (hh : how < 256) (w : World) (hn : Nums w A l) (hw : Laid w) : Calls Tryd.prog 6 #[.slice A n c, .int .u8 (at' : Int), .int .u8 (by' : Int), .int .u8 (how : Int)] w fun r w' => r = .returned (.bool true) ∧ Below w.heap.size w w' := by
  have CK := Lib.hid (known8 w hw)
  have CO := Lib.hid (fun W (h : Below w.heap.size w W) => deck_of w W A l c n hk hn h)
  have HLW := Lib.hid hw
  have HTAIL := Lib.hid (tail_all w hw)
  obtain ⟨q3, hq3⟩ : ∃ q, q = how % 3 := ⟨_, rfl⟩
  have hm3 : (how : Int) % 3 = (q3 : Int) := by omega
  have hb3 : q3 < 3 := by omega
  obtain ⟨q17, hq17⟩ : ∃ q, q = by' % 17 := ⟨_, rfl⟩
  have hm17 : (by' : Int) % 17 = (q17 : Int) := by omega
  have hb17 : q17 < 17 := by omega
  have hwat : IntKind.i64.wrap (at' : Int) = (at' : Int) := by simp [IntKind.wrap, IntKind.bits, IntKind.signed]; omega
  obtain ⟨ch, hch⟩ : ∃ ch, ch = bytes17.getD q17 0 := ⟨_, rfl⟩
  have hz17 : q17 < ({ data := #[48, 49, 50, 51, 52, 53, 54, 55, 56, 57, 32, 45, 43, 97, 98, 117, 121] } : ByteArray).size := hb17
  have hg17 : ((({ data := #[48, 49, 50, 51, 52, 53, 54, 55, 56, 57, 32, 45, 43, 97, 98, 117, 121] } : ByteArray)[q17]'hz17).toNat : Int) = (ch : Int) := by
    rw [hch]
    exact congrArg Int.ofNat (bstr_at bytes17 bytes17_oct q17 hz17)
  have hcho : ch < 256 := by
    rw [hch]
    refine bytes17_oct _ ?_
    rw [List.getD_eq_getElem?_getD, List.getElem?_eq_getElem (show q17 < bytes17.length from hb17)]
    exact List.getElem_mem _
  have HST : Hid (∀ W : World, (convert 38 9 (.slice (some ⟨W.heap.size, 0, none⟩) 1 1)).run Tryd.prog (W.alloc (.cells #[.int .u8 (ch : Int)] 5)) = .ok (.string (bstr [ch])) (W.alloc (.cells #[.int .u8 (ch : Int)] 5))) := Lib.hid (fun W => run_bstr _ _ [ch] 1 1 rfl (byts_new W _ _ [ch] rfl _ rfl))
  clear hn hk hw hq3 hq17 hch ha hby hh
  go_enter Tryd.func6, Tryd.ntmps6
  go_wp2_with (first
    | (go_at_call 9; (with_reducible refine CK.out.mono ?_); rintro r w1 ⟨rfl, hb1⟩; have HB1 := Lib.hid hb1; clear hb1)
    | (go_at_call 10; (with_reducible refine (CO.out _ HB1.out).mono ?_); rintro r w2 ⟨rfl, hd2⟩; have HD2 := Lib.hid hd2; clear hd2)
    | (go_at_call 12; (with_reducible refine (deck_config w _ A l c _ 0 HD2.out (by omega)).mono ?_); rintro r w3 ⟨cf, v, rfl, hcf, ho3, hd3, ht3⟩; have HC3 := Lib.hid (CfgIn.of hcf ho3 hd3); have HD3 := Lib.hid hd3; clear ho3 hd3 ht3)
    | (go_at_call 11; (with_reducible refine (deck_event w _ A l c _ (0 + 60) HD3.out (by omega) cf v HC3.out).mono ?_); rintro r w4 ⟨e, rfl, hok, hrt, hd4, ht4⟩; have HB4 := Lib.hid hd4.below; have CT0 := Lib.hid (wtext_yes e hok hrt w4 (HLW.out.keep HB4.out)); have HEO := Lib.hid (text_oct e); have HEL := Lib.hid (text_len hok); have HE3 : Hid (3 ≤ (textL e).length) := (Lib.hid (by unfold textL; rw [List.length_append]; have h22 := right_kinds hrt; have hwl : wordsL.length = 22 := (by decide); have := words_len (wordsL.getD (e.kind.toNat - 1) []) (by rw [List.getD_eq_getElem?_getD, List.getElem?_eq_getElem (by omega)]; exact List.getElem_mem _); have hwk : wordOf e.kind = wordsL.getD (e.kind.toNat - 1) [] := (by unfold wordOf; rw [if_pos h22]); rw [hwk]; omega)); unfold TextK at CT0; clear hd4 ht4 HD3 HC3 hok hrt)
    | (go_at_call 13; (with_reducible refine CT0.out.mono ?_); rintro r w5 ⟨rfl, hb5⟩; have HB5 := Lib.hid (HB4.out.trans (hb5.mono HB4.out.size)); (obtain ⟨D, hD⟩ : ∃ D, D = textL e := ⟨_, rfl⟩); rw [← hD] at HEO HEL HE3; (obtain ⟨m, hm⟩ : ∃ m, m = D.length := ⟨_, rfl⟩); rw [← hm] at HEL HE3; have HM := Lib.hid hm; rw [← hD]; have hsz : (bstr D).size = m := (by rw [hm]; exact bstr_size D); have hm3' : 3 ≤ m := HE3.out; have hm114 : m ≤ 114 := HEL.out; (obtain ⟨k, hk⟩ : ∃ k, k = at' % m := ⟨_, rfl⟩); have hmk : (at' : Int) % (m : Int) = (k : Int) := (by rw [hk]; omega); have hkm : k < m := (by rw [hk]; exact Nat.mod_lt _ (by omega)); have hst5 := HST.out w5; have hm0 : ((m : Int) == 0) = false := beq_eq_false_iff_ne.2 (by omega); clear hb5 hm hD hk CT0))
  · rw [hmk]
    have HO9 : Hid (Oct (D.take k ++ [ch] ++ D.drop (k + 1))) := Lib.hid (fun z hz => by
      simp only [List.mem_append, List.mem_singleton] at hz
      rcases hz with (h | h) | h
      · exact HEO.out z (List.mem_of_mem_take h)
      · omega
      · exact HEO.out z (List.mem_of_mem_drop h))
    have HL9 : Hid ((D.take k ++ [ch] ++ D.drop (k + 1)).length ≤ 1000) := Lib.hid (by
      have := HM.out
      simp only [List.length_append, List.length_take, List.length_drop, List.length_singleton]
      omega)
    have HTL := Lib.hid (HTAIL.out (D.take k ++ [ch] ++ D.drop (k + 1)) HO9.out HL9.out)
    have hexA : (bstr D).extract 0 k = bstr (D.take k) := by rw [bstr_extract, List.drop_zero]
    have hexB : (bstr D).extract (k + 1) m = bstr (D.drop (k + 1)) := by rw [bstr_extract, HM.out, List.take_length]
    have hsA : (bstr (D.take k)).size = k := by rw [bstr_size, List.length_take, ← HM.out]; omega
    have hsB : (bstr (D.drop (k + 1))).size = m - (k + 1) := by rw [bstr_size, List.length_drop, ← HM.out]
    have hsC : (bstr [ch]).size = 1 := by rw [bstr_size]; rfl
    have hcat1 : bstr (D.take k) ++ bstr [ch] = bstr (D.take k ++ [ch]) := bstr_cat _ _
    have hs12 : (bstr (D.take k ++ [ch])).size = k + 1 := by rw [bstr_size, List.length_append, List.length_take, ← HM.out, List.length_singleton]; omega
    have hcat2 : bstr (D.take k ++ [ch]) ++ bstr (D.drop (k + 1)) = bstr (D.take k ++ [ch] ++ D.drop (k + 1)) := bstr_cat _ _
    generalize bstr (D.take k ++ [ch]) = TAC at *
    generalize bstr (D.take k) = TA at *
    generalize bstr (D.drop (k + 1)) = TB at *
    generalize bstr [ch] = TC at *
    generalize bstr (D.take k ++ [ch] ++ D.drop (k + 1)) = SY at *
    obtain ⟨nY, hnY⟩ : ∃ z, z = (D.take k ++ [ch] ++ D.drop (k + 1)).length := ⟨_, rfl⟩
    rw [← hnY] at HTL
    generalize bstr D = SD at *
    obtain ⟨hcv, CP0, CT0, CRD0⟩ := HTL.out
    have CP := Lib.hid CP0
    have CT := Lib.hid CT0
    have CRD := Lib.hid CRD0
    have HB9 := Lib.hid ((HB5.out.alloc HB5.out.size (.cells #[.int .u8 (ch : Int)] 5)))
    clear CP0 CT0 CRD0 HTL HTAIL HO9 HL9 hnY hst5 HEO
    go_quiet (fail)
    have HB9' := Lib.hid (HB9.out.trans (Go.Joins.below_draws _ _ nq))
    generalize (w5.alloc (.cells #[.int .u8 (ch : Int)] 5)).drewN nq = w9 at *
    go_wp2_with (first
      | (go_at_call 18; (with_reducible refine (CP.out _ _ (by simp) HB9'.out).mono ?_); rintro r w6 ⟨x, cc, rfl, hp, hb6⟩; simp only [Ev.v]; have HB6 := Lib.hid (HB9'.out.trans (hb6.mono HB9'.out.size)); have HB7 := Lib.hid (HB6.out.alloc HB6.out.size (.cells x.cells.toArray 23)); simp only [Ev.cells] at HB7; clear hb6; have CTx := Lib.hid (CT.out x); unfold Ev.v at CTx; rcases hp with ⟨hox, hrx, htx, rfl⟩ | ⟨-, rfl, -⟩)
      | (go_at_call 13; (with_reducible refine (CTx.out hox hrx htx _ HB7.out).mono ?_); rintro r w8 ⟨rfl, hb8⟩; have HB8 := Lib.hid (HB7.out.trans (hb8.mono HB7.out.size)); clear hb8)
      | (go_at_call 17; (first | (with_reducible refine (CRD.out _ _ (by simp) HB8.out).mono ?_) | (with_reducible refine (CRD.out _ _ (by simp) HB7.out).mono ?_)); rintro r wz ⟨rfl, hbz⟩; first | (have HBz := Lib.hid (HB8.out.trans (hbz.mono HB8.out.size))) | (have HBz := Lib.hid (HB7.out.trans (hbz.mono HB7.out.size)))))
    all_goals (
      go_ret
      exact ⟨rfl, HBz.out⟩)
  · rw [hmk]
    have HO9 : Hid (Oct (D.take k ++ D.drop (k + 1))) := Lib.hid (fun z hz => by
      simp only [List.mem_append] at hz
      rcases hz with h | h
      · exact HEO.out z (List.mem_of_mem_take h)
      · exact HEO.out z (List.mem_of_mem_drop h))
    have HL9 : Hid ((D.take k ++ D.drop (k + 1)).length ≤ 1000) := Lib.hid (by
      have := HM.out
      simp only [List.length_append, List.length_take, List.length_drop]
      omega)
    have HTL := Lib.hid (HTAIL.out (D.take k ++ D.drop (k + 1)) HO9.out HL9.out)
    have hexA : (bstr D).extract 0 k = bstr (D.take k) := by rw [bstr_extract, List.drop_zero]
    have hexB : (bstr D).extract (k + 1) m = bstr (D.drop (k + 1)) := by rw [bstr_extract, HM.out, List.take_length]
    have hsA : (bstr (D.take k)).size = k := by rw [bstr_size, List.length_take, ← HM.out]; omega
    have hsB : (bstr (D.drop (k + 1))).size = m - (k + 1) := by rw [bstr_size, List.length_drop, ← HM.out]
    have hsC : (bstr [ch]).size = 1 := by rw [bstr_size]; rfl
    have hcat1 : bstr (D.take k) ++ bstr (D.drop (k + 1)) = bstr (D.take k ++ D.drop (k + 1)) := bstr_cat _ _
    generalize bstr (D.take k) = TA at *
    generalize bstr (D.drop (k + 1)) = TB at *
    generalize bstr [ch] = TC at *
    generalize bstr (D.take k ++ D.drop (k + 1)) = SY at *
    obtain ⟨nY, hnY⟩ : ∃ z, z = (D.take k ++ D.drop (k + 1)).length := ⟨_, rfl⟩
    rw [← hnY] at HTL
    generalize bstr D = SD at *
    obtain ⟨hcv, CP0, CT0, CRD0⟩ := HTL.out
    have CP := Lib.hid CP0
    have CT := Lib.hid CT0
    have CRD := Lib.hid CRD0
    have HB9 := Lib.hid ((HB5.out.alloc HB5.out.size (.cells #[.int .u8 (ch : Int)] 5)))
    clear CP0 CT0 CRD0 HTL HTAIL HO9 HL9 hnY hst5 HEO
    go_quiet (fail)
    have HB9' := Lib.hid (HB9.out.trans (Go.Joins.below_draws _ _ nq))
    generalize (w5.alloc (.cells #[.int .u8 (ch : Int)] 5)).drewN nq = w9 at *
    go_wp2_with (first
      | (go_at_call 18; (with_reducible refine (CP.out _ _ (by simp) HB9'.out).mono ?_); rintro r w6 ⟨x, cc, rfl, hp, hb6⟩; simp only [Ev.v]; have HB6 := Lib.hid (HB9'.out.trans (hb6.mono HB9'.out.size)); have HB7 := Lib.hid (HB6.out.alloc HB6.out.size (.cells x.cells.toArray 23)); simp only [Ev.cells] at HB7; clear hb6; have CTx := Lib.hid (CT.out x); unfold Ev.v at CTx; rcases hp with ⟨hox, hrx, htx, rfl⟩ | ⟨-, rfl, -⟩)
      | (go_at_call 13; (with_reducible refine (CTx.out hox hrx htx _ HB7.out).mono ?_); rintro r w8 ⟨rfl, hb8⟩; have HB8 := Lib.hid (HB7.out.trans (hb8.mono HB7.out.size)); clear hb8)
      | (go_at_call 17; (first | (with_reducible refine (CRD.out _ _ (by simp) HB8.out).mono ?_) | (with_reducible refine (CRD.out _ _ (by simp) HB7.out).mono ?_)); rintro r wz ⟨rfl, hbz⟩; first | (have HBz := Lib.hid (HB8.out.trans (hbz.mono HB8.out.size))) | (have HBz := Lib.hid (HB7.out.trans (hbz.mono HB7.out.size)))))
    all_goals (
      go_ret
      exact ⟨rfl, HBz.out⟩)
  · rw [hmk]
    have HO9 : Hid (Oct (D.take k ++ [ch] ++ D.drop k)) := Lib.hid (fun z hz => by
      simp only [List.mem_append, List.mem_singleton] at hz
      rcases hz with (h | h) | h
      · exact HEO.out z (List.mem_of_mem_take h)
      · omega
      · exact HEO.out z (List.mem_of_mem_drop h))
    have HL9 : Hid ((D.take k ++ [ch] ++ D.drop k).length ≤ 1000) := Lib.hid (by
      have := HM.out
      simp only [List.length_append, List.length_take, List.length_drop, List.length_singleton]
      omega)
    have HTL := Lib.hid (HTAIL.out (D.take k ++ [ch] ++ D.drop k) HO9.out HL9.out)
    have hexA : (bstr D).extract 0 k = bstr (D.take k) := by rw [bstr_extract, List.drop_zero]
    have hexB : (bstr D).extract (k) m = bstr (D.drop (k)) := by rw [bstr_extract, HM.out, List.take_length]
    have hsA : (bstr (D.take k)).size = k := by rw [bstr_size, List.length_take, ← HM.out]; omega
    have hsB : (bstr (D.drop (k))).size = m - (k) := by rw [bstr_size, List.length_drop, ← HM.out]
    have hsC : (bstr [ch]).size = 1 := by rw [bstr_size]; rfl
    have hcat1 : bstr (D.take k) ++ bstr [ch] = bstr (D.take k ++ [ch]) := bstr_cat _ _
    have hs12 : (bstr (D.take k ++ [ch])).size = k + 1 := by rw [bstr_size, List.length_append, List.length_take, ← HM.out, List.length_singleton]; omega
    have hcat2 : bstr (D.take k ++ [ch]) ++ bstr (D.drop (k)) = bstr (D.take k ++ [ch] ++ D.drop k) := bstr_cat _ _
    generalize bstr (D.take k ++ [ch]) = TAC at *
    generalize bstr (D.take k) = TA at *
    generalize bstr (D.drop (k)) = TB at *
    generalize bstr [ch] = TC at *
    generalize bstr (D.take k ++ [ch] ++ D.drop k) = SY at *
    obtain ⟨nY, hnY⟩ : ∃ z, z = (D.take k ++ [ch] ++ D.drop k).length := ⟨_, rfl⟩
    rw [← hnY] at HTL
    generalize bstr D = SD at *
    obtain ⟨hcv, CP0, CT0, CRD0⟩ := HTL.out
    have CP := Lib.hid CP0
    have CT := Lib.hid CT0
    have CRD := Lib.hid CRD0
    have HB9 := Lib.hid ((HB5.out.alloc HB5.out.size (.cells #[.int .u8 (ch : Int)] 5)))
    clear CP0 CT0 CRD0 HTL HTAIL HO9 HL9 hnY hst5 HEO
    go_quiet (fail)
    have HB9' := Lib.hid (HB9.out.trans (Go.Joins.below_draws _ _ nq))
    generalize (w5.alloc (.cells #[.int .u8 (ch : Int)] 5)).drewN nq = w9 at *
    go_wp2_with (first
      | (go_at_call 18; (with_reducible refine (CP.out _ _ (by simp) HB9'.out).mono ?_); rintro r w6 ⟨x, cc, rfl, hp, hb6⟩; simp only [Ev.v]; have HB6 := Lib.hid (HB9'.out.trans (hb6.mono HB9'.out.size)); have HB7 := Lib.hid (HB6.out.alloc HB6.out.size (.cells x.cells.toArray 23)); simp only [Ev.cells] at HB7; clear hb6; have CTx := Lib.hid (CT.out x); unfold Ev.v at CTx; rcases hp with ⟨hox, hrx, htx, rfl⟩ | ⟨-, rfl, -⟩)
      | (go_at_call 13; (with_reducible refine (CTx.out hox hrx htx _ HB7.out).mono ?_); rintro r w8 ⟨rfl, hb8⟩; have HB8 := Lib.hid (HB7.out.trans (hb8.mono HB7.out.size)); clear hb8)
      | (go_at_call 17; (first | (with_reducible refine (CRD.out _ _ (by simp) HB8.out).mono ?_) | (with_reducible refine (CRD.out _ _ (by simp) HB7.out).mono ?_)); rintro r wz ⟨rfl, hbz⟩; first | (have HBz := Lib.hid (HB8.out.trans (hbz.mono HB8.out.size))) | (have HBz := Lib.hid (HB7.out.trans (hbz.mono HB7.out.size)))))
    all_goals (
      go_ret
      exact ⟨rfl, HBz.out⟩)
theorem wspoilt_top (A : Option Addr) (l : List Int) (c n : Nat) (hk : n = l.length) (a1 a2 a3 : Int) (h1 : (Lit.int .u8 a1).wf = true) (h2 : (Lit.int .u8 a2).wf = true) (h3 : (Lit.int .u8 a3).wf = true) (w : World) (hn : Nums w A l) (hw : Laid w) : Calls Tryd.prog 6 #[.slice A n c, .int .u8 a1, .int .u8 a2, .int .u8 a3] w fun r w' => r = .returned (.bool true) ∧ Below w.heap.size w w' := by
  obtain ⟨g0, g1⟩ := wf_u8 h1
  obtain ⟨g2, g3⟩ := wf_u8 h2
  obtain ⟨g4, g5⟩ := wf_u8 h3
  obtain ⟨k1, rfl⟩ : ∃ k : Nat, a1 = (k : Int) := ⟨a1.toNat, by omega⟩
  obtain ⟨k2, rfl⟩ : ∃ k : Nat, a2 = (k : Int) := ⟨a2.toNat, by omega⟩
  obtain ⟨k3, rfl⟩ : ∃ k : Nat, a3 = (k : Int) := ⟨a3.toNat, by omega⟩
  exact wspoilt_walk A l c n hk k1 k2 k3 (by omega) (by omega) (by omega) w hn hw
end Go.Proofs.YtjkbnljjmbfmiaaDoor
