/-
  Package roll: where a member's or an account's number stands among rising ones.
-/
import Derived.Test.YtjlhmiajklddiaaRq0
import Derived.Deep.LoopGhost
namespace Go.Proofs.Ytjlhmiajklddiaa
set_option maxRecDepth 8000
open Go Go.RowKit
set_option linter.unusedVariables false

def cmpI (x y : Int) : Int := if x < y then -1 else if y < x then 1 else 0
theorem cmpI_lt (x y : Int) : cmpI x y < 0 ↔ x < y := by unfold cmpI; repeat' split <;> omega
theorem cmpI_eq (x y : Int) : cmpI x y = 0 ↔ x = y := by unfold cmpI; repeat' split <;> omega
set_option maxRecDepth 8000 in
set_option maxHeartbeats 400000 in
theorem nan_r (x : Int) (w : World) : Calls Try.prog 54 #[.int .i64 x] w fun e w' => e = .returned (.bool false) ∧ w = w' := by
  go_enter Try.func54, Try.ntmps54
  go_wp2
  go_ret
  exact ⟨by simp, rfl⟩
set_option maxRecDepth 8000 in
set_option maxHeartbeats 400000 in
theorem compare_r (x y : Int) (w : World) : Calls Try.prog 49 #[.int .i64 x, .int .i64 y] w fun e w' => e = .returned (.int .i64 (cmpI x y)) ∧ w = w' := by
  have c1 := Lib.hid (nan_r x)
  have c2 := Lib.hid (nan_r y)
  unfold cmpI
  rcases Int.lt_trichotomy x y with h | h | h
  · rw [if_pos h]
    go_enter Try.func49, Try.ntmps49
    go_wp2_with (go_at_call 54; first | ((with_reducible refine (c1.out _).mono ?_); rintro e w' ⟨rfl, rfl⟩) | ((with_reducible refine (c2.out _).mono ?_); rintro e w' ⟨rfl, rfl⟩))
    go_ret
    exact ⟨rfl, rfl⟩
  · subst h
    rw [if_neg (by omega), if_neg (by omega)]
    go_enter Try.func49, Try.ntmps49
    go_wp2_with (go_at_call 54; first | ((with_reducible refine (c1.out _).mono ?_); rintro e w' ⟨rfl, rfl⟩) | ((with_reducible refine (c2.out _).mono ?_); rintro e w' ⟨rfl, rfl⟩))
    go_ret
    exact ⟨rfl, rfl⟩
  · rw [if_neg (by omega), if_pos h]
    go_enter Try.func49, Try.ntmps49
    go_wp2_with (go_at_call 54; first | ((with_reducible refine (c1.out _).mono ?_); rintro e w' ⟨rfl, rfl⟩) | ((with_reducible refine (c2.out _).mono ?_); rintro e w' ⟨rfl, rfl⟩))
    go_ret
    exact ⟨rfl, rfl⟩
set_option maxRecDepth 8000 in
set_option maxHeartbeats 1000000 in
theorem onemember_any (x : SMember) (id : Int) (w : World) : Calls Try.prog 48 #[x.v, .int .i64 id] w fun r w' => r = .returned (.int .i64 (cmpI x.id id)) ∧ Below w.heap.size w w' := by
  have HC := Lib.hid (compare_r x.id id)
  unfold SMember.v
  go_enter Try.func48, Try.ntmps48
  go_wp2_with (go_at_call 49; (with_reducible refine (HC.out _).mono ?_); rintro r wq ⟨rfl, hwq⟩; subst hwq)
  go_ret
  exact ⟨rfl, (Below.refl _ _).alloc (Nat.le_refl _) _⟩
set_option maxRecDepth 8000 in
set_option maxHeartbeats 8000000 in
theorem bsmember_any (A : Option Addr) (l : List SMember) (n c : Nat) (id : Int) (w : World) (hn : n = l.length) (hI : MemL SMember.cells 2 w A l) (hl : n ≤ 1000000000000) (hr : Rise SMember.id l) : Calls Try.prog 47 #[.slice A n c, .int .i64 id, .func (.func 48) #[] #[]] w fun r w' => r = .returned (.tuple #[.int .i64 (plc SMember.id l id : Nat), .bool (isAt SMember.id l id)]) ∧ Below w.heap.size w w' := by
  have HN := Lib.hid hn
  have HI := Lib.hid hI
  have HR := Lib.hid hr
  have HC := Lib.hid (fun x => onemember_any x id)
  obtain ⟨P, hP⟩ : ∃ P : Nat, P = plc SMember.id l id := ⟨_, rfl⟩
  obtain ⟨B, hB⟩ : ∃ B : Bool, B = isAt SMember.id l id := ⟨_, rfl⟩
  rw [← hP, ← hB]
  have HP := Lib.hid hP
  have HBB := Lib.hid hB
  clear hI hr hn hP hB
  go_enter Try.func47, Try.ntmps47
  go_wp2
  go_loopg [9, 10] n (fun kx s9 s10 wr => ∃ lo hi : Nat, s9 = .int .i64 lo ∧ s10 = .int .i64 hi ∧ lo ≤ hi ∧ hi ≤ n ∧ hi - lo ≤ kx ∧ Hid (Below w.heap.size w wr) ∧ Hid ((∀ t, t < lo → (l.getD t SMember.zero).id < id) ∧ (∀ t, hi ≤ t → t < n → id ≤ (l.getD t SMember.zero).id)))
  case atStart => exact ⟨0, n, rfl, rfl, Nat.zero_le _, Nat.le_refl _, by omega, Lib.hid (Below.refl _ _), Lib.hid ⟨fun t ht => absurd ht (Nat.not_lt_zero _), fun t h1 h2 => by omega⟩⟩
  case round =>
    obtain ⟨lo, hi, rfl, rfl, hlh, hin, hg, HB, HV⟩ := hrel
    by_cases hlt : lo < hi
    · obtain ⟨b, off, rfl, _, hcells⟩ := SMember.reads (HI.out.below HB.out (fun _ => rfl)) (by have := HN.out; omega)
      obtain ⟨g0, g1⟩ := hcells ((lo + hi) / 2) (by have := HN.out; omega)
      obtain ⟨x, hx⟩ : ∃ x, x = l.getD ((lo + hi) / 2) SMember.zero := ⟨_, rfl⟩
      have HX := Lib.hid hx
      rw [← hx] at g0 g1
      clear hx hcells
      have hc := HC.out x wr
      obtain ⟨q, hq⟩ : ∃ q, q = cmpI x.id id := ⟨_, rfl⟩
      have HQ := Lib.hid hq
      rw [← hq] at hc
      unfold SMember.v at hc
      have CC := Lib.hid hc
      clear hq hc
      by_cases hq0 : q < 0
      · have I2 : Hid ((∀ t, t < (lo + hi) / 2 + 1 → (l.getD t SMember.zero).id < id) ∧ (∀ t, hi ≤ t → t < n → id ≤ (l.getD t SMember.zero).id)) := Lib.hid ⟨fun t ht => by
            have h1 : (l.getD ((lo + hi) / 2) SMember.zero).id < id := by rw [← HX.out]; rw [HQ.out] at hq0; exact (cmpI_lt _ _).1 hq0
            rcases Nat.lt_or_ge t ((lo + hi) / 2) with h | h
            · have h2 := HR.out t ((lo + hi) / 2) (by have := HN.out; omega) h
              rw [SMember.at (x := SMember.zero) (show (lo + hi) / 2 < l.length by have := HN.out; omega)] at h1
              rw [SMember.at (x := SMember.zero) (show t < l.length by have := HN.out; omega)]
              omega
            · rw [show t = (lo + hi) / 2 by omega]; exact h1, HV.out.2⟩
        go_wp2_with (go_at_call 48; (with_reducible refine CC.out.mono ?_); rintro r wq ⟨rfl, hb⟩; have HBQ := Lib.hid (HB.out.trans (hb.mono HB.out.size)); clear hb)
        go_roundg (hi - ((lo + hi) / 2 + 1))
        case measure => omega
        case rel => exact ⟨(lo + hi) / 2 + 1, hi, by rw [show ((lo : Int) + (hi : Int)) / 2 + 1 = (((lo + hi) / 2 + 1 : Nat) : Int) by omega], rfl, by omega, hin, Nat.le_refl _, HBQ, I2⟩
      · have I2 : Hid ((∀ t, t < lo → (l.getD t SMember.zero).id < id) ∧ (∀ t, (lo + hi) / 2 ≤ t → t < n → id ≤ (l.getD t SMember.zero).id)) := Lib.hid ⟨HV.out.1, fun t ht htn => by
            have h1 : id ≤ (l.getD ((lo + hi) / 2) SMember.zero).id := by rw [← HX.out]; rw [HQ.out, cmpI_lt] at hq0; omega
            rcases Nat.lt_or_ge ((lo + hi) / 2) t with h | h
            · have h2 := HR.out ((lo + hi) / 2) t (by have := HN.out; omega) h
              rw [SMember.at (x := SMember.zero) (show (lo + hi) / 2 < l.length by have := HN.out; omega)] at h1
              rw [SMember.at (x := SMember.zero) (show t < l.length by have := HN.out; omega)]
              omega
            · rw [show t = (lo + hi) / 2 by omega]; exact h1⟩
        go_wp2_with (go_at_call 48; (with_reducible refine CC.out.mono ?_); rintro r wq ⟨rfl, hb⟩; have HBQ := Lib.hid (HB.out.trans (hb.mono HB.out.size)); clear hb)
        go_roundg ((lo + hi) / 2 - lo)
        case measure => omega
        case rel => exact ⟨lo, (lo + hi) / 2, rfl, by rw [show ((lo : Int) + (hi : Int)) / 2 = (((lo + hi) / 2 : Nat) : Int) by omega], by omega, by omega, Nat.le_refl _, HBQ, I2⟩
    · obtain rfl : hi = lo := by omega
      obtain ⟨e1, e2⟩ := place_is (key := SMember.id) (id := id) HR.out (k := hi) (by have := HN.out; omega) (fun j hj => by rw [← SMember.at (x := SMember.zero) (show j < l.length by have := HN.out; omega)]; exact HV.out.1 j hj) (fun j hj hk => by rw [← SMember.at (x := SMember.zero) hj]; exact HV.out.2 j hk (by have := HN.out; omega))
      obtain rfl : P = hi := HP.out.trans e1
      by_cases hlt : P < n
      · have hkl : P < l.length := by have := HN.out; omega
        rw [dif_pos hkl, ← SMember.at (x := SMember.zero) hkl] at e2
        obtain ⟨b, off, rfl, _, hcells⟩ := SMember.reads (HI.out.below HB.out (fun _ => rfl)) (by have := HN.out; omega)
        obtain ⟨g0, g1⟩ := hcells P hkl
        obtain ⟨x, hx⟩ : ∃ x, x = l.getD P SMember.zero := ⟨_, rfl⟩
        rw [← hx] at g0 g1 e2
        clear hx hcells hkl
        have hc := HC.out x wr
        obtain ⟨q, hq⟩ : ∃ q, q = cmpI x.id id := ⟨_, rfl⟩
        have HQ := Lib.hid hq
        rw [← hq] at hc
        unfold SMember.v at hc
        have CC := Lib.hid hc
        have hqe : (q == 0) = decide (x.id = id) := by
          rw [HQ.out]
          by_cases h : x.id = id
          · rw [decide_eq_true h, beq_iff_eq]; exact (cmpI_eq _ _).2 h
          · rw [decide_eq_false h, beq_eq_false_iff_ne]; exact fun h' => h ((cmpI_eq _ _).1 h')
        rw [← hqe, ← HBB.out] at e2
        subst e2
        clear hq hc hqe e1
        go_wp2_with (go_at_call 48; (with_reducible refine CC.out.mono ?_); rintro r wq ⟨rfl, hb⟩; have HBQ := Lib.hid (HB.out.trans (hb.mono HB.out.size)); clear hb)
        go_ret2
        exact ⟨rfl, HBQ.out⟩
      · rw [dif_neg (by have := HN.out; omega), ← HBB.out] at e2
        subst e2
        clear e1
        go_wp2
        go_ret2
        exact ⟨rfl, HB.out⟩
set_option maxRecDepth 8000 in
set_option maxHeartbeats 1000000 in
theorem memberplace_any (A : Option Addr) (l : List SMember) (n c : Nat) (id : Int) (w : World) (hn : n = l.length) (hI : MemL SMember.cells 2 w A l) (hl : n ≤ 1000000000000) (hr : Rise SMember.id l) : Calls Try.prog 34 #[.slice A n c, .int .i64 id] w fun r w' => r = .returned (.tuple #[.int .i64 (plc SMember.id l id : Nat), .bool (isAt SMember.id l id)]) ∧ Below w.heap.size w w' := by
  have HC := Lib.hid (bsmember_any A l n c id w hn hI hl hr)
  clear hn hI hl hr
  go_enter Try.func34, Try.ntmps34
  go_wp2_with (go_at_call 47; (with_reducible refine HC.out.mono ?_); rintro r wq ⟨rfl, hb⟩; have HB := Lib.hid hb; clear hb)
  go_ret2
  exact ⟨rfl, HB.out⟩
set_option maxRecDepth 8000 in
set_option maxHeartbeats 1000000 in
theorem oneacc_any (x : SAcc) (id : Int) (w : World) : Calls Try.prog 52 #[x.v, .int .i64 id] w fun r w' => r = .returned (.int .i64 (cmpI x.id id)) ∧ Below w.heap.size w w' := by
  have HC := Lib.hid (compare_r x.id id)
  unfold SAcc.v
  go_enter Try.func52, Try.ntmps52
  go_wp2_with (go_at_call 49; (with_reducible refine (HC.out _).mono ?_); rintro r wq ⟨rfl, hwq⟩; subst hwq)
  go_ret
  exact ⟨rfl, (Below.refl _ _).alloc (Nat.le_refl _) _⟩
set_option maxRecDepth 8000 in
set_option maxHeartbeats 8000000 in
theorem bsacc_any (A : Option Addr) (l : List SAcc) (n c : Nat) (id : Int) (w : World) (hn : n = l.length) (hI : MemL SAcc.cells 4 w A l) (hl : n ≤ 1000000000000) (hr : Rise SAcc.id l) : Calls Try.prog 51 #[.slice A n c, .int .i64 id, .func (.func 52) #[] #[]] w fun r w' => r = .returned (.tuple #[.int .i64 (plc SAcc.id l id : Nat), .bool (isAt SAcc.id l id)]) ∧ Below w.heap.size w w' := by
  have HN := Lib.hid hn
  have HI := Lib.hid hI
  have HR := Lib.hid hr
  have HC := Lib.hid (fun x => oneacc_any x id)
  obtain ⟨P, hP⟩ : ∃ P : Nat, P = plc SAcc.id l id := ⟨_, rfl⟩
  obtain ⟨B, hB⟩ : ∃ B : Bool, B = isAt SAcc.id l id := ⟨_, rfl⟩
  rw [← hP, ← hB]
  have HP := Lib.hid hP
  have HBB := Lib.hid hB
  clear hI hr hn hP hB
  go_enter Try.func51, Try.ntmps51
  go_wp2
  go_loopg [9, 10] n (fun kx s9 s10 wr => ∃ lo hi : Nat, s9 = .int .i64 lo ∧ s10 = .int .i64 hi ∧ lo ≤ hi ∧ hi ≤ n ∧ hi - lo ≤ kx ∧ Hid (Below w.heap.size w wr) ∧ Hid ((∀ t, t < lo → (l.getD t SAcc.zero).id < id) ∧ (∀ t, hi ≤ t → t < n → id ≤ (l.getD t SAcc.zero).id)))
  case atStart => exact ⟨0, n, rfl, rfl, Nat.zero_le _, Nat.le_refl _, by omega, Lib.hid (Below.refl _ _), Lib.hid ⟨fun t ht => absurd ht (Nat.not_lt_zero _), fun t h1 h2 => by omega⟩⟩
  case round =>
    obtain ⟨lo, hi, rfl, rfl, hlh, hin, hg, HB, HV⟩ := hrel
    by_cases hlt : lo < hi
    · obtain ⟨b, off, rfl, _, hcells⟩ := SAcc.reads (HI.out.below HB.out (fun _ => rfl)) (by have := HN.out; omega)
      obtain ⟨g0, g1, g2, g3⟩ := hcells ((lo + hi) / 2) (by have := HN.out; omega)
      obtain ⟨x, hx⟩ : ∃ x, x = l.getD ((lo + hi) / 2) SAcc.zero := ⟨_, rfl⟩
      have HX := Lib.hid hx
      rw [← hx] at g0 g1 g2 g3
      clear hx hcells
      have hc := HC.out x wr
      obtain ⟨q, hq⟩ : ∃ q, q = cmpI x.id id := ⟨_, rfl⟩
      have HQ := Lib.hid hq
      rw [← hq] at hc
      unfold SAcc.v at hc
      have CC := Lib.hid hc
      clear hq hc
      by_cases hq0 : q < 0
      · have I2 : Hid ((∀ t, t < (lo + hi) / 2 + 1 → (l.getD t SAcc.zero).id < id) ∧ (∀ t, hi ≤ t → t < n → id ≤ (l.getD t SAcc.zero).id)) := Lib.hid ⟨fun t ht => by
            have h1 : (l.getD ((lo + hi) / 2) SAcc.zero).id < id := by rw [← HX.out]; rw [HQ.out] at hq0; exact (cmpI_lt _ _).1 hq0
            rcases Nat.lt_or_ge t ((lo + hi) / 2) with h | h
            · have h2 := HR.out t ((lo + hi) / 2) (by have := HN.out; omega) h
              rw [SAcc.at (x := SAcc.zero) (show (lo + hi) / 2 < l.length by have := HN.out; omega)] at h1
              rw [SAcc.at (x := SAcc.zero) (show t < l.length by have := HN.out; omega)]
              omega
            · rw [show t = (lo + hi) / 2 by omega]; exact h1, HV.out.2⟩
        go_wp2_with (go_at_call 52; (with_reducible refine CC.out.mono ?_); rintro r wq ⟨rfl, hb⟩; have HBQ := Lib.hid (HB.out.trans (hb.mono HB.out.size)); clear hb)
        go_roundg (hi - ((lo + hi) / 2 + 1))
        case measure => omega
        case rel => exact ⟨(lo + hi) / 2 + 1, hi, by rw [show ((lo : Int) + (hi : Int)) / 2 + 1 = (((lo + hi) / 2 + 1 : Nat) : Int) by omega], rfl, by omega, hin, Nat.le_refl _, HBQ, I2⟩
      · have I2 : Hid ((∀ t, t < lo → (l.getD t SAcc.zero).id < id) ∧ (∀ t, (lo + hi) / 2 ≤ t → t < n → id ≤ (l.getD t SAcc.zero).id)) := Lib.hid ⟨HV.out.1, fun t ht htn => by
            have h1 : id ≤ (l.getD ((lo + hi) / 2) SAcc.zero).id := by rw [← HX.out]; rw [HQ.out, cmpI_lt] at hq0; omega
            rcases Nat.lt_or_ge ((lo + hi) / 2) t with h | h
            · have h2 := HR.out ((lo + hi) / 2) t (by have := HN.out; omega) h
              rw [SAcc.at (x := SAcc.zero) (show (lo + hi) / 2 < l.length by have := HN.out; omega)] at h1
              rw [SAcc.at (x := SAcc.zero) (show t < l.length by have := HN.out; omega)]
              omega
            · rw [show t = (lo + hi) / 2 by omega]; exact h1⟩
        go_wp2_with (go_at_call 52; (with_reducible refine CC.out.mono ?_); rintro r wq ⟨rfl, hb⟩; have HBQ := Lib.hid (HB.out.trans (hb.mono HB.out.size)); clear hb)
        go_roundg ((lo + hi) / 2 - lo)
        case measure => omega
        case rel => exact ⟨lo, (lo + hi) / 2, rfl, by rw [show ((lo : Int) + (hi : Int)) / 2 = (((lo + hi) / 2 : Nat) : Int) by omega], by omega, by omega, Nat.le_refl _, HBQ, I2⟩
    · obtain rfl : hi = lo := by omega
      obtain ⟨e1, e2⟩ := place_is (key := SAcc.id) (id := id) HR.out (k := hi) (by have := HN.out; omega) (fun j hj => by rw [← SAcc.at (x := SAcc.zero) (show j < l.length by have := HN.out; omega)]; exact HV.out.1 j hj) (fun j hj hk => by rw [← SAcc.at (x := SAcc.zero) hj]; exact HV.out.2 j hk (by have := HN.out; omega))
      obtain rfl : P = hi := HP.out.trans e1
      by_cases hlt : P < n
      · have hkl : P < l.length := by have := HN.out; omega
        rw [dif_pos hkl, ← SAcc.at (x := SAcc.zero) hkl] at e2
        obtain ⟨b, off, rfl, _, hcells⟩ := SAcc.reads (HI.out.below HB.out (fun _ => rfl)) (by have := HN.out; omega)
        obtain ⟨g0, g1, g2, g3⟩ := hcells P hkl
        obtain ⟨x, hx⟩ : ∃ x, x = l.getD P SAcc.zero := ⟨_, rfl⟩
        rw [← hx] at g0 g1 g2 g3 e2
        clear hx hcells hkl
        have hc := HC.out x wr
        obtain ⟨q, hq⟩ : ∃ q, q = cmpI x.id id := ⟨_, rfl⟩
        have HQ := Lib.hid hq
        rw [← hq] at hc
        unfold SAcc.v at hc
        have CC := Lib.hid hc
        have hqe : (q == 0) = decide (x.id = id) := by
          rw [HQ.out]
          by_cases h : x.id = id
          · rw [decide_eq_true h, beq_iff_eq]; exact (cmpI_eq _ _).2 h
          · rw [decide_eq_false h, beq_eq_false_iff_ne]; exact fun h' => h ((cmpI_eq _ _).1 h')
        rw [← hqe, ← HBB.out] at e2
        subst e2
        clear hq hc hqe e1
        go_wp2_with (go_at_call 52; (with_reducible refine CC.out.mono ?_); rintro r wq ⟨rfl, hb⟩; have HBQ := Lib.hid (HB.out.trans (hb.mono HB.out.size)); clear hb)
        go_ret2
        exact ⟨rfl, HBQ.out⟩
      · rw [dif_neg (by have := HN.out; omega), ← HBB.out] at e2
        subst e2
        clear e1
        go_wp2
        go_ret2
        exact ⟨rfl, HB.out⟩
set_option maxRecDepth 8000 in
set_option maxHeartbeats 1000000 in
theorem accplace_any (A : Option Addr) (l : List SAcc) (n c : Nat) (id : Int) (w : World) (hn : n = l.length) (hI : MemL SAcc.cells 4 w A l) (hl : n ≤ 1000000000000) (hr : Rise SAcc.id l) : Calls Try.prog 38 #[.slice A n c, .int .i64 id] w fun r w' => r = .returned (.tuple #[.int .i64 (plc SAcc.id l id : Nat), .bool (isAt SAcc.id l id)]) ∧ Below w.heap.size w w' := by
  have HC := Lib.hid (bsacc_any A l n c id w hn hI hl hr)
  clear hn hI hl hr
  go_enter Try.func38, Try.ntmps38
  go_wp2_with (go_at_call 51; (with_reducible refine HC.out.mono ?_); rintro r wq ⟨rfl, hb⟩; have HB := Lib.hid hb; clear hb)
  go_ret2
  exact ⟨rfl, HB.out⟩
end Go.Proofs.Ytjlhmiajklddiaa
