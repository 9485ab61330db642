/-
  The walks of package share's looks at numbers: are any below 0, above 0; are they weights.
-/
import Derived.Test.YtiblbhppojfdaaaWd1
import Derived.Test.YtiblbhppojfdaaaSh0
namespace Go.Proofs.Ytiblbhppojfdaaa
open Go.RowKit

/-- Is any below 0, above 0? -/
def anyNeg (l : List Int) : Bool := l.any fun x => decide (x < 0)
def anyPos (l : List Int) : Bool := l.any fun x => decide (0 < x)
theorem anyNeg_false {l : List Int} (h : anyNeg l = false) : ∀ x ∈ l, 0 ≤ x := by
  intro x hx
  unfold anyNeg at h
  rw [List.any_eq_false] at h
  have := h x hx
  simp at this
  omega
theorem anyPos_false {l : List Int} (h : anyPos l = false) : ∀ x ∈ l, x ≤ 0 := by
  intro x hx
  unfold anyPos at h
  rw [List.any_eq_false] at h
  have := h x hx
  simp at this
  omega
theorem anyPos_true {l : List Int} (h : anyPos l = true) : ∃ x ∈ l, 0 < x := by
  unfold anyPos at h
  rw [List.any_eq_true] at h
  obtain ⟨x, h1, h2⟩ := h
  exact ⟨x, h1, by simpa using h2⟩
/-- The first place where it holds, or -1. -/
def firstAt (p : Int → Bool) : List Int → Nat → Int
  | [], _ => -1
  | x :: l, k => if p x then (k : Int) else firstAt p l (k + 1)
theorem firstAt_nn (p : Int → Bool) (l : List Int) : ∀ k, decide (0 ≤ firstAt p l k) = l.any p := by
  induction l with
  | nil => intro k; simp [firstAt]
  | cons x l ih =>
    intro k
    by_cases h : p x
    · simp [firstAt, h]
    · have h' : p x = false := by simpa using h
      simp only [firstAt, h', List.any_cons, Bool.false_or]
      exact ih (k + 1)
theorem firstAt_hit (p : Int → Bool) (l : List Int) (k : Nat) (h : k < l.length) (hp : p (l.getD k 0) = true) : firstAt p (l.drop k) k = (k : Int) := by
  have e : l.getD k 0 = l[k] := by rw [List.getD_eq_getElem?_getD, List.getElem?_eq_getElem h]; rfl
  rw [List.drop_eq_getElem_cons h]
  rw [e] at hp
  simp [firstAt, hp]
theorem firstAt_miss (p : Int → Bool) (l : List Int) (k : Nat) (h : k < l.length) (hp : p (l.getD k 0) = false) : firstAt p (l.drop k) k = firstAt p (l.drop (k + 1)) (k + 1) := by
  have e : l.getD k 0 = l[k] := by rw [List.getD_eq_getElem?_getD, List.getElem?_eq_getElem h]; rfl
  rw [List.drop_eq_getElem_cons h]
  rw [e] at hp
  simp [firstAt, hp]

set_option maxRecDepth 8000 in
set_option maxHeartbeats 400000 in
theorem isNeg_any (x : Int) (w : World) : Calls Try.prog 78 #[.int .i64 x] w fun e w' => e = .returned (.bool (decide (x < 0))) ∧ w = w' := by
  go_enter Try.func78, Try.ntmps78
  go_wp2
  go_ret
  exact ⟨rfl, rfl⟩
set_option maxRecDepth 8000 in
set_option maxHeartbeats 400000 in
theorem isPos_any (x : Int) (w : World) : Calls Try.prog 73 #[.int .i64 x] w fun e w' => e = .returned (.bool (decide (0 < x))) ∧ w = w' := by
  go_enter Try.func73, Try.ntmps73
  go_wp2
  go_ret
  exact ⟨rfl, rfl⟩

set_option maxRecDepth 8000 in
set_option maxHeartbeats 1000000 in
theorem indexBelow_any (A : Option Addr) (l : List Int) (c : Nat) (w : World) (hr : Ints w .i64 A l) (hn : l.length ≤ 9223372036854775807) (p : Int → Bool) (hp : Hid (∀ x w, Calls Try.prog 78 #[.int .i64 x] w fun e w' => e = .returned (.bool (p x)) ∧ w = w')) :
    Calls Try.prog 82 #[.slice A l.length c, .func (.func 78) #[] #[]] w fun e w' => e = .returned (.int .i64 (firstAt p l 0)) ∧ w = w' := by
  have HR := Lib.hid hr
  clear hr
  go_enter Try.func82, Try.ntmps82
  go_wp2
  go_loop [8] (fun i => ∃ k : Nat, k ≤ l.length ∧ i = .int .i64 k ∧ Hid (firstAt p l 0 = firstAt p (l.drop k) k)) (fun i => l.length - (intOf i).toNat)
  case atStart => exact ⟨0, Nat.zero_le _, rfl, Lib.hid rfl⟩
  case round =>
    obtain ⟨k, hk, rfl, HT⟩ := hrel
    by_cases hlt : k < l.length
    · obtain ⟨b, off, rfl, hc⟩ := HR.out (by omega)
      have hcell := hc k hlt
      have C := hp.out (l.getD k 0)
      by_cases hx : p (l.getD k 0) = true
      · have HT2 := Lib.hid (HT.out.trans (firstAt_hit p l k hlt hx))
        rw [hx] at C
        have C2 := Lib.hid C
        generalize l.getD k 0 = x at *
        clear hc hx C
        go_wp2_with (go_at_call 78; refine (C2.out _).mono ?_; rintro e w' ⟨rfl, rfl⟩)
        go_ret
        exact ⟨by rw [HT2.out]; rfl, rfl⟩
      · have hx' : p (l.getD k 0) = false := by simpa using hx
        have HT2 := Lib.hid (HT.out.trans (firstAt_miss p l k hlt hx'))
        rw [hx'] at C
        have C2 := Lib.hid C
        generalize l.getD k 0 = x at *
        clear hc hx hx' C
        go_wp2_with (go_at_call 78; refine (C2.out _).mono ?_; rintro e w' ⟨rfl, rfl⟩)
        go_round
        case rel => exact ⟨k + 1, by omega, by go_num, HT2⟩
        case measure => simp [intOf]; omega
    · have hkl : k = l.length := by omega
      subst hkl
      have HT2 := HT.out
      rw [List.drop_length] at HT2
      have HT3 := Lib.hid HT2
      clear HT2
      go_wp2
      go_ret
      exact ⟨by rw [HT3.out]; rfl, rfl⟩
set_option maxRecDepth 8000 in
set_option maxHeartbeats 1000000 in
theorem indexAbove_any (A : Option Addr) (l : List Int) (c : Nat) (w : World) (hr : Ints w .i64 A l) (hn : l.length ≤ 9223372036854775807) (p : Int → Bool) (hp : Hid (∀ x w, Calls Try.prog 73 #[.int .i64 x] w fun e w' => e = .returned (.bool (p x)) ∧ w = w')) :
    Calls Try.prog 82 #[.slice A l.length c, .func (.func 73) #[] #[]] w fun e w' => e = .returned (.int .i64 (firstAt p l 0)) ∧ w = w' := by
  have HR := Lib.hid hr
  clear hr
  go_enter Try.func82, Try.ntmps82
  go_wp2
  go_loop [8] (fun i => ∃ k : Nat, k ≤ l.length ∧ i = .int .i64 k ∧ Hid (firstAt p l 0 = firstAt p (l.drop k) k)) (fun i => l.length - (intOf i).toNat)
  case atStart => exact ⟨0, Nat.zero_le _, rfl, Lib.hid rfl⟩
  case round =>
    obtain ⟨k, hk, rfl, HT⟩ := hrel
    by_cases hlt : k < l.length
    · obtain ⟨b, off, rfl, hc⟩ := HR.out (by omega)
      have hcell := hc k hlt
      have C := hp.out (l.getD k 0)
      by_cases hx : p (l.getD k 0) = true
      · have HT2 := Lib.hid (HT.out.trans (firstAt_hit p l k hlt hx))
        rw [hx] at C
        have C2 := Lib.hid C
        generalize l.getD k 0 = x at *
        clear hc hx C
        go_wp2_with (go_at_call 73; refine (C2.out _).mono ?_; rintro e w' ⟨rfl, rfl⟩)
        go_ret
        exact ⟨by rw [HT2.out]; rfl, rfl⟩
      · have hx' : p (l.getD k 0) = false := by simpa using hx
        have HT2 := Lib.hid (HT.out.trans (firstAt_miss p l k hlt hx'))
        rw [hx'] at C
        have C2 := Lib.hid C
        generalize l.getD k 0 = x at *
        clear hc hx hx' C
        go_wp2_with (go_at_call 73; refine (C2.out _).mono ?_; rintro e w' ⟨rfl, rfl⟩)
        go_round
        case rel => exact ⟨k + 1, by omega, by go_num, HT2⟩
        case measure => simp [intOf]; omega
    · have hkl : k = l.length := by omega
      subst hkl
      have HT2 := HT.out
      rw [List.drop_length] at HT2
      have HT3 := Lib.hid HT2
      clear HT2
      go_wp2
      go_ret
      exact ⟨by rw [HT3.out]; rfl, rfl⟩
end Go.Proofs.Ytiblbhppojfdaaa
