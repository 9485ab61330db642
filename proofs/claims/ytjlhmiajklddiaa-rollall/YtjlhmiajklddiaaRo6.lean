/-
  The walks of the reference's Enrol, Turn.
-/
import Derived.Test.YtjlhmiajklddiaaRo5
import Derived.Test.YtjlhmiajklddiaaOwnT
namespace Go.Proofs.Ytjlhmiajklddiaa
set_option maxRecDepth 8000
open Go Go.RowKit
set_option linter.unusedVariables false

/-- A list and a code come back; the list is the call's own. -/
def LRes {α : Type} (enc : α → List Value) (e : TypeId) (sz : Nat) (w : World) (o : List α × Int) (r : Ending) (w' : World) : Prop :=
  ∃ v, r = .returned (.tuple #[v, .int .i64 o.2]) ∧ OwnL enc e sz w' w.heap.size v o.1 ∧ Below w.heap.size w w'
/-- Where a list is parted by what holds of its first things. -/
theorem part_at {α : Type} {l : List α} {p : α → Bool} {k : Nat} (hk : k ≤ l.length) (ha : ∀ j (hj : j < k), p (l[j]'(by omega)) = true) (hb : ∀ h : k < l.length, p l[k] = false) : l.takeWhile p = l.take k ∧ l.dropWhile p = l.drop k := by
  induction l generalizing k with
  | nil => simp at hk; subst hk; simp
  | cons x l ih =>
    cases k with
    | zero =>
      have h := hb (by simp)
      simp at h
      constructor
      · simp [h]
      · simp [h]
    | succ k =>
      have h := ha 0 (by omega)
      simp at h
      obtain ⟨h1, h2⟩ := ih (k := k) (by simpa using hk) (fun j hj => by simpa using ha (j + 1) (by omega)) (fun h => by have := hb (Nat.succ_lt_succ h); simpa only [List.getElem_cons_succ] using this)
      constructor
      · simp [h, h1]
      · simp [h, h2]
/-- Each thing below a place is turned. -/
def upto {α : Type} (f : α → α) (l : List α) (k : Nat) : List α := (l.take k).map f ++ l.drop k
theorem upto_len {α : Type} (f : α → α) (l : List α) (k : Nat) : (upto f l k).length = l.length := by
  unfold upto
  rw [List.length_append, List.length_map, List.length_take, List.length_drop]
  omega
theorem upto_at {α : Type} (f : α → α) (l : List α) (k : Nat) (hk : k < l.length) : (upto f l k)[k]'(by rw [upto_len]; exact hk) = l[k] := by
  unfold upto
  rw [List.getElem_append_right (by rw [List.length_map, List.length_take]; omega)]
  simp only [List.length_map, List.length_take, List.getElem_drop]
  congr 1
  omega
theorem upto_succ {α : Type} (f : α → α) (l : List α) (k : Nat) (hk : k < l.length) : upto f l (k + 1) = (upto f l k).set k (f l[k]) := by
  unfold upto
  rw [List.set_append_right _ _ (by rw [List.length_map, List.length_take]; omega), List.length_map, List.length_take, show k - min k l.length = 0 by omega, List.drop_eq_getElem_cons hk, List.set_cons_zero, List.take_succ_eq_append_getElem hk, List.map_append, List.append_assoc]
  rfl
theorem upto_same {α : Type} (f : α → α) (l : List α) (k : Nat) (hk : k < l.length) (h : f l[k] = l[k]) : upto f l (k + 1) = upto f l k := by
  rw [upto_succ f l k hk, h]
  have h1 := upto_at f l k hk
  have h2 := @List.set_getElem_self _ (upto f l k) k (by rw [upto_len]; exact hk)
  rw [h1] at h2
  exact h2
theorem upto_all {α : Type} (f : α → α) (l : List α) : upto f l l.length = l.map f := by unfold upto; simp
/-- Members with one more, where its number belongs. -/
def insMem (m : List SMember) (x : SMember) : List SMember := m.takeWhile (fun y => decide (y.id < x.id)) ++ x :: m.dropWhile (fun y => decide (y.id < x.id))
def enrolV (m : List SMember) (id : Int) : List SMember × Int :=
  if (!membersOk m || (decide (id < 1) || decide (12 < id))) = true then ([], 1) else if memS m id = 0 then (insMem m ⟨id, 1⟩, 0) else ([], 4)
set_option maxRecDepth 8000 in
set_option maxHeartbeats 16000000 in
theorem renrol_any (A : Option Addr) (l : List SMember) (n c : Nat) (id : Int) (w : World) (hn : n = l.length) (hI : MemL SMember.cells 2 w A l) (hA : c = 0 ∨ ∃ b off, A = some ⟨b, off, none⟩) (hc : n ≤ c) (hc2 : c ≤ 9223372036854775807) (hl : n ≤ 1000000000000) : Calls Try.prog 19 #[.slice A n c, .int .i64 id] w (LRes SMember.cells 39 2 w (enrolV l id)) := by
  have CM := Lib.hid (rmembers_any A l n c w hn hI (by omega))
  have CS := Lib.hid (fun W (hW : Below w.heap.size w W) => rstat_any A l n c id W hn (hI.below hW (fun _ => rfl)) (by omega))
  have HI := Lib.hid hI
  have HN := Lib.hid hn
  have HA := Lib.hid hA
  have HC := Lib.hid hc
  clear hn hI hA
  obtain ⟨O, hO⟩ : ∃ O, O = enrolV l id := ⟨_, rfl⟩
  have HO := Lib.hid hO
  rw [← hO]
  unfold enrolV at hO
  cases hmo : membersOk l with
  | false =>
    rw [hmo] at hO CM
    have HF : Hid (O = ([], 1)) := Lib.hid hO
    clear hO hmo
    go_enter Try.func19, Try.ntmps19
    go_wp2_with (go_at_call 27; (with_reducible refine CM.out.mono ?_); rintro r w1 ⟨rfl, hb1⟩; have HB1 := Lib.hid hb1; clear hb1)
    go_ret2
    exact ⟨_, by rw [HF.out]; rfl, by rw [HF.out]; exact ownL_nil _ _, HB1.out⟩
  | true =>
    rw [hmo] at hO CM
    clear hmo
    by_cases hlo : id < 1
    · have e1 : decide (id < 1) = true := decide_eq_true hlo
      rw [e1] at hO
      have HF : Hid (O = ([], 1)) := Lib.hid hO
      clear hO hlo
      go_enter Try.func19, Try.ntmps19
      go_wp2_with (go_at_call 27; (with_reducible refine CM.out.mono ?_); rintro r w1 ⟨rfl, hb1⟩; have HB1 := Lib.hid hb1; clear hb1)
      go_ret2
      exact ⟨_, by rw [HF.out]; rfl, by rw [HF.out]; exact ownL_nil _ _, HB1.out⟩
    have e1 : decide (id < 1) = false := decide_eq_false hlo
    rw [e1] at hO
    by_cases hhi : 12 < id
    · have e2 : decide (12 < id) = true := decide_eq_true hhi
      rw [e2] at hO
      have HF : Hid (O = ([], 1)) := Lib.hid hO
      clear hO hlo hhi
      go_enter Try.func19, Try.ntmps19
      go_wp2_with (go_at_call 27; (with_reducible refine CM.out.mono ?_); rintro r w1 ⟨rfl, hb1⟩; have HB1 := Lib.hid hb1; clear hb1)
      go_ret2
      exact ⟨_, by rw [HF.out]; rfl, by rw [HF.out]; exact ownL_nil _ _, HB1.out⟩
    have e2 : decide (12 < id) = false := decide_eq_false hhi
    rw [e2] at hO
    obtain ⟨s, hs⟩ : ∃ s, s = memS l id := ⟨_, rfl⟩
    rw [← hs] at hO CS
    clear hlo hhi
    by_cases hs0 : s = 0
    · rw [if_pos hs0] at hO
      have HF : Hid (O = (insMem l ⟨id, 1⟩, 0)) := Lib.hid hO
      subst hs0
      clear hO hs
      rcases HA.out with hc0 | ⟨b, off, rfl⟩
      · obtain rfl : c = 0 := hc0
        obtain rfl : n = 0 := by omega
        obtain rfl : l = [] := List.eq_nil_of_length_eq_zero HN.out.symm
        go_enter Try.func19, Try.ntmps19
        go_wp2_with (first
          | (go_at_call 27; (with_reducible refine CM.out.mono ?_); rintro r w1 ⟨rfl, hb1⟩; have HB1 := Lib.hid hb1; clear hb1)
          | (go_at_call 44; (with_reducible refine (CS.out _ HB1.out).mono ?_); rintro r wq ⟨rfl, hwq⟩; obtain rfl : w1 = wq := hwq))
        go_loopw [7] (fun i wr => i = .int .i64 0 ∧ Hid (Below w.heap.size w wr)) (fun i _ => 0)
        case atStart => exact ⟨rfl, HB1⟩
        case round =>
          obtain ⟨rfl, HB⟩ := hrel
          clear HB1
          have HTL : Hid (0 = ([] : List SMember).length) := Lib.hid rfl
          have HDL : Hid (0 = ([] : List SMember).length) := Lib.hid rfl
          have HL1 : Hid ((([] : List SMember).length + ([] : List SMember).length) * 16 ≤ 140737488355328) := Lib.hid (by simp)
          have HL2 : Hid (([] : List SMember).length + ([] : List SMember).length ≤ 140737488355328) := Lib.hid (by simp)
          have HL3 : Hid ((([] : List SMember).length + 1) * 16 ≤ 140737488355328) := Lib.hid (by simp)
          have HL4 : Hid (([] : List SMember).length + 1 ≤ 140737488355328) := Lib.hid (by simp)
          have HL5 : Hid (((([] : List SMember) ++ [(⟨id, 1⟩ : SMember)]).length + ([] : List SMember).length) * 16 ≤ 140737488355328) := Lib.hid (by simp)
          have HL6 : Hid ((([] : List SMember) ++ [(⟨id, 1⟩ : SMember)]).length + ([] : List SMember).length ≤ 140737488355328) := Lib.hid (by simp)
          have HADN : Hid (A = none → 0 = 0) := Lib.hid (fun _ => rfl)
          have HAXN : Hid (A = none → 0 = 0) := Lib.hid (fun _ => rfl)
          have HMF : Hid (MemL SMember.cells 2 w A []) := Lib.hid (memL_nil _ _)
          have HMX : Hid (MemL SMember.cells 2 w A []) := Lib.hid (memL_nil _ _)
          go_wp2_with (first
            | (at_builtin; first
              | (refine wpList_appV lay_Member rfl (.tmp 38) (.tmp 41) rfl w.heap.size _ [] rfl (ownL_nil _ _) _ 0 0 [] HTL.out rfl (fun _ => rfl) (memL_nil _ _) HL1.out HL2.out HB.out.size ?_; intro v3 w3 ho3 hb3 hg3; rw [List.nil_append] at ho3; have HO3 := Lib.hid ho3; have HB3 := Lib.hid (HB.out.trans hb3); have hsz3 := HB3.out.size; clear ho3 hb3 hg3)
              | (refine wpList_appL lay_Member rfl (.tmp 43) (.tmp 46) rfl w.heap.size _ [] rfl (HO3.out.alloc _) _ 1 (⟨id, 1⟩ : SMember) rfl (lit_one _ _ _ (SMember.cells (⟨id, 1⟩ : SMember)) rfl _ (by simp)) HL3.out HL4.out (by simp; omega) ?_; intro v4 w4 ho4 hg4 _; have HO4 := Lib.hid ho4; have HB4 := Lib.hid ((alloc_b HB3.out (Nat.le_refl _) _).trans (OwnL.below (HO3.out.alloc _) hg4 (by simp; omega))); clear ho4 hg4)
              | (refine wpList_appV lay_Member rfl (.tmp 48) (.tmp 51) rfl w.heap.size _ ([] ++ [(⟨id, 1⟩ : SMember)]) rfl HO4.out _ 0 0 [] HDL.out rfl (fun _ => rfl) (memL_nil _ _) HL5.out HL6.out HB4.out.size ?_; intro v5 w5 ho5 hb5 _; have HO5 := Lib.hid ho5; have HB5 := Lib.hid (HB4.out.trans hb5); clear ho5 hb5)))
          go_ret2
          exact ⟨_, by rw [HF.out]; rfl, by rw [HF.out]; have := HO5.out; rw [List.append_nil] at this; exact this, HB5.out⟩
      go_enter Try.func19, Try.ntmps19
      go_wp2_with (first
        | (go_at_call 27; (with_reducible refine CM.out.mono ?_); rintro r w1 ⟨rfl, hb1⟩; have HB1 := Lib.hid hb1; clear hb1)
        | (go_at_call 44; (with_reducible refine (CS.out _ HB1.out).mono ?_); rintro r wq ⟨rfl, hwq⟩; obtain rfl : w1 = wq := hwq))
      go_loopw [7] (fun i wr => ∃ k : Nat, k ≤ n ∧ i = .int .i64 (k : Int) ∧ Hid (Below w.heap.size w wr) ∧ Hid (∀ j, j < k → decide ((l.getD j SMember.zero).id < id) = true)) (fun i _ => n - (intOf i).toNat)
      case atStart => exact ⟨0, Nat.zero_le _, rfl, HB1, Lib.hid (fun j hj => absurd hj (Nat.not_lt_zero j))⟩
      case round =>
        obtain ⟨k, hk, rfl, HB, HP⟩ := hrel
        clear HB1
        by_cases hlt : k < n
        · have hkl : k < l.length := by rw [← HN.out]; exact hlt
          have HKL := Lib.hid hkl
          obtain ⟨b', off', hAe, _, hcells⟩ := SMember.reads (HI.out.below HB.out (fun _ => rfl)) (by omega)
          obtain ⟨rfl, rfl⟩ : b = b' ∧ off = off' := by injection hAe with hAe; injection hAe with h1 h2; exact ⟨h1, h2⟩
          clear hAe
          obtain ⟨g0, g1⟩ := hcells k hkl
          obtain ⟨x, hx⟩ : ∃ x, x = l.getD k SMember.zero := ⟨_, rfl⟩
          have HX := Lib.hid hx
          rw [← hx] at g0 g1
          clear hx hkl hcells
          by_cases hxi : x.id < id
          · have e3 : decide (x.id < id) = true := decide_eq_true hxi
            have HE3 := Lib.hid e3
            clear hxi
            go_wp2
            go_roundw
            case rel => exact ⟨k + 1, by omega, by go_num, HB, Lib.hid (fun j hj => by
              rcases Nat.lt_or_ge j k with h | h
              · exact HP.out j h
              · obtain rfl : j = k := by omega
                rw [← HX.out]; exact HE3.out)⟩
            case measure => simp [intOf]; omega
          · have e3 : decide (x.id < id) = false := decide_eq_false hxi
            have HE3 := Lib.hid e3
            clear hxi
            have HTW : Hid (insMem l ⟨id, 1⟩ = l.take k ++ ⟨id, 1⟩ :: l.drop k) := Lib.hid (by
              obtain ⟨h1, h2⟩ := part_at (l := l) (p := fun y => decide (y.id < id)) (k := k) (Nat.le_of_lt HKL.out) (fun j hj => by rw [← SMember.at (x := SMember.zero)]; exact HP.out j hj) (fun h => by rw [← SMember.at (x := SMember.zero), ← HX.out]; exact HE3.out)
              unfold insMem
              rw [h1, h2])
            have HTL : Hid (k = (l.take k).length) := Lib.hid (by rw [List.length_take, ← HN.out]; omega)
            have HDL : Hid (n - k = (l.drop k).length) := Lib.hid (by rw [List.length_drop, ← HN.out])
            have HL1 : Hid ((([] : List SMember).length + (l.take k).length) * 16 ≤ 140737488355328) := Lib.hid (by rw [← HTL.out, List.length_nil]; omega)
            have HL2 : Hid (([] : List SMember).length + (l.take k).length ≤ 140737488355328) := Lib.hid (by rw [← HTL.out, List.length_nil]; omega)
            have HL3 : Hid (((l.take k).length + 1) * 16 ≤ 140737488355328) := Lib.hid (by rw [← HTL.out]; omega)
            have HL4 : Hid ((l.take k).length + 1 ≤ 140737488355328) := Lib.hid (by rw [← HTL.out]; omega)
            have HL5 : Hid (((l.take k ++ [(⟨id, 1⟩ : SMember)]).length + (l.drop k).length) * 16 ≤ 140737488355328) := Lib.hid (by rw [List.length_append, ← HTL.out, ← HDL.out, List.length_singleton]; omega)
            have HL6 : Hid ((l.take k ++ [(⟨id, 1⟩ : SMember)]).length + (l.drop k).length ≤ 140737488355328) := Lib.hid (by rw [List.length_append, ← HTL.out, ← HDL.out, List.length_singleton]; omega)
            have hkc : k ≤ c := by omega
            have HADN : Hid ((some ⟨b, off, none⟩ : Option Addr) = none → c = 0) := Lib.hid (fun h => by cases h)
            have HAXN : Hid ((some ⟨b, off + k * 2, none⟩ : Option Addr) = none → c - k = 0) := Lib.hid (fun h => by cases h)
            have HMF : Hid (MemL SMember.cells 2 w (some ⟨b, off, none⟩) (l.take k)) := Lib.hid (HI.out.front k)
            have HMX : Hid (MemL SMember.cells 2 w (some ⟨b, off + k * 2, none⟩) (l.drop k)) := Lib.hid (HI.out.back k)
            go_wp2_with (first
              | (at_builtin; first
                | (refine wpList_appV lay_Member rfl (.tmp 38) (.tmp 41) rfl w.heap.size _ [] rfl (ownL_nil _ _) (some ⟨b, off, none⟩) k c (l.take k) HTL.out rfl (fun h => HADN.out h) (HMF.out.below HB.out (fun _ => rfl)) HL1.out HL2.out HB.out.size ?_; intro v3 w3 ho3 hb3 hg3; rw [List.nil_append] at ho3; have HO3 := Lib.hid ho3; have HB3 := Lib.hid (HB.out.trans hb3); have hsz3 := HB3.out.size; clear ho3 hb3 hg3)
                | (refine wpList_appL lay_Member rfl (.tmp 43) (.tmp 46) rfl w.heap.size _ (l.take k) rfl (HO3.out.alloc _) _ 1 (⟨id, 1⟩ : SMember) rfl (lit_one _ _ _ (SMember.cells (⟨id, 1⟩ : SMember)) rfl _ (by simp)) HL3.out HL4.out (by simp; omega) ?_; intro v4 w4 ho4 hg4 _; have HO4 := Lib.hid ho4; have HB4 := Lib.hid ((alloc_b HB3.out (Nat.le_refl _) _).trans (OwnL.below (HO3.out.alloc _) hg4 (by simp; omega))); clear ho4 hg4)
                | (refine wpList_appV lay_Member rfl (.tmp 48) (.tmp 51) rfl w.heap.size _ ((l.take k) ++ [(⟨id, 1⟩ : SMember)]) rfl HO4.out (some ⟨b, off + k * 2, none⟩) (n - k) (c - k) (l.drop k) HDL.out rfl (fun h => HAXN.out h) (HMX.out.below HB4.out (fun _ => rfl)) HL5.out HL6.out HB4.out.size ?_; intro v5 w5 ho5 hb5 _; have HO5 := Lib.hid ho5; have HB5 := Lib.hid (HB4.out.trans hb5); clear ho5 hb5)))
            go_ret2
            exact ⟨_, by rw [HF.out]; rfl, by rw [HF.out, HTW.out]; have := HO5.out; rw [List.append_assoc] at this; exact this, HB5.out⟩
        · have hkn : k = n := by omega
          have HTW : Hid (insMem l ⟨id, 1⟩ = l.take k ++ ⟨id, 1⟩ :: l.drop k) := Lib.hid (by
            obtain ⟨h1, h2⟩ := part_at (l := l) (p := fun y => decide (y.id < id)) (k := k) (by rw [← HN.out, hkn]; exact Nat.le_refl _) (fun j hj => by rw [← SMember.at (x := SMember.zero)]; exact HP.out j hj) (fun h => by have := HN.out; omega)
            unfold insMem
            rw [h1, h2])
          clear hkn
          have HTL : Hid (k = (l.take k).length) := Lib.hid (by rw [List.length_take, ← HN.out]; omega)
          have HDL : Hid (n - k = (l.drop k).length) := Lib.hid (by rw [List.length_drop, ← HN.out])
          have HL1 : Hid ((([] : List SMember).length + (l.take k).length) * 16 ≤ 140737488355328) := Lib.hid (by rw [← HTL.out, List.length_nil]; omega)
          have HL2 : Hid (([] : List SMember).length + (l.take k).length ≤ 140737488355328) := Lib.hid (by rw [← HTL.out, List.length_nil]; omega)
          have HL3 : Hid (((l.take k).length + 1) * 16 ≤ 140737488355328) := Lib.hid (by rw [← HTL.out]; omega)
          have HL4 : Hid ((l.take k).length + 1 ≤ 140737488355328) := Lib.hid (by rw [← HTL.out]; omega)
          have HL5 : Hid (((l.take k ++ [(⟨id, 1⟩ : SMember)]).length + (l.drop k).length) * 16 ≤ 140737488355328) := Lib.hid (by rw [List.length_append, ← HTL.out, ← HDL.out, List.length_singleton]; omega)
          have HL6 : Hid ((l.take k ++ [(⟨id, 1⟩ : SMember)]).length + (l.drop k).length ≤ 140737488355328) := Lib.hid (by rw [List.length_append, ← HTL.out, ← HDL.out, List.length_singleton]; omega)
          have hkc : k ≤ c := by omega
          obtain ⟨AX, hAX⟩ : ∃ AX, (if c = k then (some ⟨b, off, none⟩ : Option Addr) else some ⟨b, off + k * 2, none⟩) = AX := ⟨_, rfl⟩
          have HADN : Hid ((some ⟨b, off, none⟩ : Option Addr) = none → c = 0) := Lib.hid (fun h => by cases h)
          have HAXN : Hid (AX = none → c - k = 0) := Lib.hid (fun h => by rw [← hAX] at h; split at h <;> cases h)
          have HMF : Hid (MemL SMember.cells 2 w (some ⟨b, off, none⟩) (l.take k)) := Lib.hid (HI.out.front k)
          have HMX : Hid (MemL SMember.cells 2 w AX (l.drop k)) := Lib.hid (by
            rw [← hAX]
            by_cases hck : c = k
            · rw [if_pos hck, List.drop_eq_nil_of_le (by rw [← HN.out]; omega)]; exact memL_nil _ _
            · rw [if_neg hck]; exact HI.out.back k)
          go_wp2_with (first
            | (at_builtin; first
              | (refine wpList_appV lay_Member rfl (.tmp 38) (.tmp 41) rfl w.heap.size _ [] rfl (ownL_nil _ _) (some ⟨b, off, none⟩) k c (l.take k) HTL.out rfl (fun h => HADN.out h) (HMF.out.below HB.out (fun _ => rfl)) HL1.out HL2.out HB.out.size ?_; intro v3 w3 ho3 hb3 hg3; rw [List.nil_append] at ho3; have HO3 := Lib.hid ho3; have HB3 := Lib.hid (HB.out.trans hb3); have hsz3 := HB3.out.size; clear ho3 hb3 hg3)
              | (refine wpList_appL lay_Member rfl (.tmp 43) (.tmp 46) rfl w.heap.size _ (l.take k) rfl (HO3.out.alloc _) _ 1 (⟨id, 1⟩ : SMember) rfl (lit_one _ _ _ (SMember.cells (⟨id, 1⟩ : SMember)) rfl _ (by simp)) HL3.out HL4.out (by simp; omega) ?_; intro v4 w4 ho4 hg4 _; have HO4 := Lib.hid ho4; have HB4 := Lib.hid ((alloc_b HB3.out (Nat.le_refl _) _).trans (OwnL.below (HO3.out.alloc _) hg4 (by simp; omega))); clear ho4 hg4)
              | (refine wpList_appV lay_Member rfl (.tmp 48) (.tmp 51) rfl w.heap.size _ ((l.take k) ++ [(⟨id, 1⟩ : SMember)]) rfl HO4.out AX (n - k) (c - k) (l.drop k) HDL.out rfl (fun h => HAXN.out h) (HMX.out.below HB4.out (fun _ => rfl)) HL5.out HL6.out HB4.out.size ?_; intro v5 w5 ho5 hb5 _; have HO5 := Lib.hid ho5; have HB5 := Lib.hid (HB4.out.trans hb5); clear ho5 hb5)))
          go_ret2
          exact ⟨_, by rw [HF.out]; rfl, by rw [HF.out, HTW.out]; have := HO5.out; rw [List.append_assoc] at this; exact this, HB5.out⟩
    · rw [if_neg hs0] at hO
      have HF : Hid (O = ([], 4)) := Lib.hid hO
      have hb : (s != 0) = true := bne_iff_ne.2 hs0
      clear hO hs hs0
      go_enter Try.func19, Try.ntmps19
      go_wp2_with (first
        | (go_at_call 27; (with_reducible refine CM.out.mono ?_); rintro r w1 ⟨rfl, hb1⟩; have HB1 := Lib.hid hb1; clear hb1)
        | (go_at_call 44; (with_reducible refine (CS.out _ HB1.out).mono ?_); rintro r wq ⟨rfl, hwq⟩; obtain rfl : w1 = wq := hwq))
      go_ret2
      exact ⟨_, by rw [HF.out]; rfl, by rw [HF.out]; exact ownL_nil _ _, HB1.out⟩
end Go.Proofs.Ytjlhmiajklddiaa
