/-
  Package standing: what a status becomes; the walks of Next, Path, Live, Name and of the reference's.
-/
import Derived.Test.YtppikncfmjaacaaBst
namespace Go.Proofs.Ytppikncfmjaacaa
set_option maxRecDepth 8000
open Go Go.RowKit
set_option linter.unusedVariables false

/-- What a status becomes by a kind, and whether it does. -/
def nok (s k : Int) : Bool := decide (s = 0 ∧ k = 1 ∨ s = 1 ∧ k = 11 ∨ s = 2 ∧ k = 12 ∨ s = 2 ∧ k = 13 ∨ s = 3 ∧ k = 21)
def nxt (s k : Int) : Int := if s = 0 ∧ k = 1 then 1 else if s = 1 ∧ k = 11 then 2 else if s = 2 ∧ k = 12 then 1 else if s = 2 ∧ k = 13 then 3 else if s = 3 ∧ k = 21 then 4 else 0
theorem nxt_no {s k : Int} (h : nok s k = false) : nxt s k = 0 := by
  have h := of_decide_eq_false h
  unfold nxt
  rw [if_neg (by omega), if_neg (by omega), if_neg (by omega), if_neg (by omega), if_neg (by omega)]
theorem nok_no {s k : Int} (h : ¬ (s = 0 ∧ k = 1 ∨ s = 1 ∧ k = 11 ∨ s = 2 ∧ k = 12 ∨ s = 2 ∧ k = 13 ∨ s = 3 ∧ k = 21)) : nok s k = false := decide_eq_false h
/-- Of any status and kind, which way the table goes. -/
theorem ways (s k : Int) : (s = 0 ∧ k = 1) ∨ (s = 1 ∧ k = 11) ∨ (s = 2 ∧ k = 12) ∨ (s = 2 ∧ k = 13) ∨ (s = 3 ∧ k = 21) ∨ (s = 0 ∧ (k == 1) = false) ∨ (s = 1 ∧ (k == 11) = false) ∨ (s = 2 ∧ (k == 12) = false ∧ (k == 13) = false) ∨ (s = 3 ∧ (k == 21) = false) ∨ ((s == 0) = false ∧ (s == 1) = false ∧ (s == 2) = false ∧ (s == 3) = false) := by
  simp only [beq_eq_false_iff_ne]
  omega
set_option maxRecDepth 8000 in
set_option maxHeartbeats 2000000 in
theorem x8_any (s k : Int) (w : World) : Calls Try.prog 8 #[.int .i64 s, .int .i64 k] w fun r w' => r = .returned (.tuple #[.int .i64 (nxt s k), .bool (nok s k)]) ∧ w = w' := by
  rcases ways s k with ⟨rfl, rfl⟩ | ⟨rfl, rfl⟩ | ⟨rfl, rfl⟩ | ⟨rfl, rfl⟩ | ⟨rfl, rfl⟩ | h
  · go_enter Try.func8, Try.ntmps8
    go_wp2
    go_ret2
    exact ⟨rfl, rfl⟩
  · go_enter Try.func8, Try.ntmps8
    go_wp2
    go_ret2
    exact ⟨rfl, rfl⟩
  · go_enter Try.func8, Try.ntmps8
    go_wp2
    go_ret2
    exact ⟨rfl, rfl⟩
  · go_enter Try.func8, Try.ntmps8
    go_wp2
    go_ret2
    exact ⟨rfl, rfl⟩
  · go_enter Try.func8, Try.ntmps8
    go_wp2
    go_ret2
    exact ⟨rfl, rfl⟩
  · have e1 : nok s k = false := nok_no (by simp only [beq_eq_false_iff_ne] at h; omega)
    rw [nxt_no e1, e1]
    clear e1
    rcases h with ⟨rfl, h⟩ | ⟨rfl, h⟩ | ⟨rfl, h, h'⟩ | ⟨rfl, h⟩ | ⟨h0, h1, h2, h3⟩
    · go_enter Try.func8, Try.ntmps8
      go_wp2
      go_ret2
      exact ⟨rfl, rfl⟩
    · go_enter Try.func8, Try.ntmps8
      go_wp2
      go_ret2
      exact ⟨rfl, rfl⟩
    · go_enter Try.func8, Try.ntmps8
      go_wp2
      go_ret2
      exact ⟨rfl, rfl⟩
    · go_enter Try.func8, Try.ntmps8
      go_wp2
      go_ret2
      exact ⟨rfl, rfl⟩
    · go_enter Try.func8, Try.ntmps8
      go_wp2
      go_ret2
      exact ⟨rfl, rfl⟩
set_option maxRecDepth 8000 in
set_option maxHeartbeats 2000000 in
theorem x9_any (s k : Int) (w : World) : Calls Try.prog 9 #[.int .i64 s, .int .i64 k] w fun r w' => r = .returned (.tuple #[.int .i64 (nxt s k), .bool (nok s k)]) ∧ w = w' := by
  rcases ways s k with ⟨rfl, rfl⟩ | ⟨rfl, rfl⟩ | ⟨rfl, rfl⟩ | ⟨rfl, rfl⟩ | ⟨rfl, rfl⟩ | h
  · go_enter Try.func9, Try.ntmps9
    go_wp2
    go_ret2
    exact ⟨rfl, rfl⟩
  · go_enter Try.func9, Try.ntmps9
    go_wp2
    go_ret2
    exact ⟨rfl, rfl⟩
  · go_enter Try.func9, Try.ntmps9
    go_wp2
    go_ret2
    exact ⟨rfl, rfl⟩
  · go_enter Try.func9, Try.ntmps9
    go_wp2
    go_ret2
    exact ⟨rfl, rfl⟩
  · go_enter Try.func9, Try.ntmps9
    go_wp2
    go_ret2
    exact ⟨rfl, rfl⟩
  · have e1 : nok s k = false := nok_no (by simp only [beq_eq_false_iff_ne] at h; omega)
    rw [nxt_no e1, e1]
    clear e1
    rcases h with ⟨rfl, h⟩ | ⟨rfl, h⟩ | ⟨rfl, h, h'⟩ | ⟨rfl, h⟩ | ⟨h0, h1, h2, h3⟩
    · go_enter Try.func9, Try.ntmps9
      go_wp2
      go_ret2
      exact ⟨rfl, rfl⟩
    · go_enter Try.func9, Try.ntmps9
      go_wp2
      go_ret2
      exact ⟨rfl, rfl⟩
    · go_enter Try.func9, Try.ntmps9
      go_wp2
      go_ret2
      exact ⟨rfl, rfl⟩
    · go_enter Try.func9, Try.ntmps9
      go_wp2
      go_ret2
      exact ⟨rfl, rfl⟩
    · go_enter Try.func9, Try.ntmps9
      go_wp2
      go_ret2
      exact ⟨rfl, rfl⟩
theorem next_any (s k : Int) (w : World) : Calls Try.prog 8 #[.int .i64 s, .int .i64 k] w fun r w' => r = .returned (.tuple #[.int .i64 (nxt s k), .bool (nok s k)]) ∧ w = w' := x8_any s k w
theorem rnext_any (s k : Int) (w : World) : Calls Try.prog 9 #[.int .i64 s, .int .i64 k] w fun r w' => r = .returned (.tuple #[.int .i64 (nxt s k), .bool (nok s k)]) ∧ w = w' := x9_any s k w
/-- Is it live? -/
def liveS (s : Int) : Bool := s == 1 || s == 2
theorem x10_live (s : Int) (w : World) : Calls Try.prog 10 #[.int .i64 s] w fun r w' => r = .returned (.bool (liveS s)) ∧ w = w' := by
  rcases (by simp only [beq_eq_false_iff_ne]; omega : s = 1 ∨ s = 2 ∨ ((s == 1) = false ∧ (s == 2) = false)) with rfl | rfl | ⟨h1, h2⟩
  · go_enter Try.func10, Try.ntmps10
    go_wp2
    go_ret
    exact ⟨rfl, rfl⟩
  · go_enter Try.func10, Try.ntmps10
    go_wp2
    go_ret
    exact ⟨rfl, rfl⟩
  · rw [show liveS s = false from by unfold liveS; rw [h1, h2]; rfl]
    go_enter Try.func10, Try.ntmps10
    go_wp2
    go_ret
    exact ⟨rfl, rfl⟩
theorem x11_live (s : Int) (w : World) : Calls Try.prog 11 #[.int .i64 s] w fun r w' => r = .returned (.bool (liveS s)) ∧ w = w' := by
  rcases (by simp only [beq_eq_false_iff_ne]; omega : s = 1 ∨ s = 2 ∨ ((s == 1) = false ∧ (s == 2) = false)) with rfl | rfl | ⟨h1, h2⟩
  · go_enter Try.func11, Try.ntmps11
    go_wp2
    go_ret
    exact ⟨rfl, rfl⟩
  · go_enter Try.func11, Try.ntmps11
    go_wp2
    go_ret
    exact ⟨rfl, rfl⟩
  · rw [show liveS s = false from by unfold liveS; rw [h1, h2]; rfl]
    go_enter Try.func11, Try.ntmps11
    go_wp2
    go_ret
    exact ⟨rfl, rfl⟩
theorem live_any (s : Int) (w : World) : Calls Try.prog 10 #[.int .i64 s] w fun r w' => r = .returned (.bool (liveS s)) ∧ w = w' := x10_live s w
theorem rlive_any (s : Int) (w : World) : Calls Try.prog 11 #[.int .i64 s] w fun r w' => r = .returned (.bool (liveS s)) ∧ w = w' := x11_live s w
/-- Its name. -/
def nameS (s : Int) : ByteArray := if s = 1 then { data := #[97, 99, 116, 105, 118, 101] } else if s = 2 then { data := #[115, 117, 115, 112, 101, 110, 100, 101, 100] } else if s = 3 then { data := #[100, 101, 102, 97, 117, 108, 116, 101, 100] } else if s = 4 then { data := #[99, 108, 111, 115, 101, 100] } else { data := #[] }
theorem names (s : Int) : s = 1 ∨ s = 2 ∨ s = 3 ∨ s = 4 ∨ ((s == 1) = false ∧ (s == 2) = false ∧ (s == 3) = false ∧ (s == 4) = false) := by
  simp only [beq_eq_false_iff_ne]
  omega
theorem nameS_no {s : Int} (h : (s == 1) = false ∧ (s == 2) = false ∧ (s == 3) = false ∧ (s == 4) = false) : nameS s = { data := #[] } := by
  simp only [beq_eq_false_iff_ne] at h
  unfold nameS
  rw [if_neg h.1, if_neg h.2.1, if_neg h.2.2.1, if_neg h.2.2.2]
theorem name_any (s : Int) (w : World) : Calls Try.prog 12 #[.int .i64 s] w fun r w' => r = .returned (.string (nameS s)) ∧ w = w' := by
  rcases names s with rfl | rfl | rfl | rfl | h
  · go_enter Try.func12, Try.ntmps12
    go_wp2
    go_ret
    exact ⟨rfl, rfl⟩
  · go_enter Try.func12, Try.ntmps12
    go_wp2
    go_ret
    exact ⟨rfl, rfl⟩
  · go_enter Try.func12, Try.ntmps12
    go_wp2
    go_ret
    exact ⟨rfl, rfl⟩
  · go_enter Try.func12, Try.ntmps12
    go_wp2
    go_ret
    exact ⟨rfl, rfl⟩
  · rw [nameS_no h]
    obtain ⟨h1, h2, h3, h4⟩ := h
    go_enter Try.func12, Try.ntmps12
    go_wp2
    go_ret
    exact ⟨rfl, rfl⟩
/-- Where kinds lead from a status on. -/
def goS (s : Int) : List Int → Option Int
  | [] => some s
  | k :: l => if nok s k then goS (nxt s k) l else none
theorem goS_snoc (l : List Int) (k : Int) : ∀ s, goS s (l ++ [k]) = (goS s l).bind fun t => if nok t k then some (nxt t k) else none := by
  induction l with
  | nil => intro s; rfl
  | cons x l ih =>
    intro s
    rw [List.cons_append]
    unfold goS
    by_cases h : nok s x = true
    · rw [if_pos h, if_pos h, ih]
    · rw [if_neg h, if_neg h]; rfl
theorem goS_none (l r : List Int) : ∀ s, goS s l = none → goS s (l ++ r) = none := by
  induction l with
  | nil => intro s h; cases h
  | cons x l ih =>
    intro s h
    rw [List.cons_append]
    unfold goS at h ⊢
    by_cases hx : nok s x = true
    · rw [if_pos hx] at h ⊢; exact ih _ h
    · rw [if_neg hx]
def pst (l : List Int) : Int := (goS 0 l).getD 0
def pok (l : List Int) : Bool := (goS 0 l).isSome
theorem goS_take {l : List Int} {i : Nat} {s : Int} (hi : i < l.length) (h : goS 0 (l.take i) = some s) : goS 0 (l.take (i + 1)) = if nok s (l.getD i 0) then some (nxt s (l.getD i 0)) else none := by
  rw [List.take_succ_eq_append_getElem hi, goS_snoc, h, List.getD_eq_getElem?_getD, List.getElem?_eq_getElem hi]
  rfl
theorem goS_off {l : List Int} {i : Nat} (h : goS 0 (l.take i) = none) : pst l = 0 ∧ pok l = false := by
  have := goS_none (l.take i) (l.drop i) 0 h
  rw [List.take_append_drop] at this
  unfold pst pok
  rw [this]
  exact ⟨rfl, rfl⟩
set_option maxRecDepth 8000 in
set_option maxHeartbeats 1000000 in
theorem path_any (A : Option Addr) (l : List Int) (c : Nat) (w : World) (hr : Ints w .i64 A l) (hn : l.length ≤ 9223372036854775807) :
    Calls Try.prog 13 #[.slice A l.length c] w fun r w' => r = .returned (.tuple #[.int .i64 (pst l), .bool (pok l)]) ∧ w = w' := by
  go_enter Try.func13, Try.ntmps13
  go_wp2
  go_loop [4, 11] (fun s i => ∃ (k : Nat) (t : Int), k ≤ l.length ∧ i = .int .i64 k ∧ s = .int .i64 t ∧ Hid (goS 0 (l.take k) = some t)) (fun _ i => l.length - (intOf i).toNat)
  case atStart => exact ⟨0, 0, Nat.zero_le _, rfl, rfl, Lib.hid rfl⟩
  case round =>
    obtain ⟨k, t, hk, rfl, rfl, HG⟩ := hrel
    by_cases hlt : k < l.length
    · obtain ⟨b, off, rfl, hc⟩ := hr (by omega)
      have hcell := hc k hlt
      have HT := Lib.hid (goS_take hlt HG.out)
      generalize l.getD k 0 = x at *
      have C := Lib.hid (next_any t x)
      by_cases hok : nok t x = true
      · rw [if_pos hok] at HT
        rw [hok] at C
        clear hok hc hr
        go_wp2_with (first | (go_at_call 8; refine (C.out _).mono ?_; rintro e w' ⟨rfl, rfl⟩))
        go_round
        case rel => exact ⟨k + 1, _, by omega, by go_num, rfl, HT⟩
        case measure => simp [intOf]; omega
      · have hno : nok t x = false := by simpa using hok
        rw [if_neg hok] at HT
        have HP := Lib.hid (goS_off HT.out)
        rw [hno] at C
        clear hok hno hc hr
        go_wp2_with (first | (go_at_call 8; refine (C.out _).mono ?_; rintro e w' ⟨rfl, rfl⟩))
        go_ret2
        rw [HP.out.1, HP.out.2]
        exact ⟨rfl, rfl⟩
    · obtain rfl : k = l.length := by omega
      rw [List.take_length] at HG
      have HP : Hid (pst l = t ∧ pok l = true) := Lib.hid (by unfold pst pok; rw [HG.out]; exact ⟨rfl, rfl⟩)
      go_wp2
      go_ret2
      rw [HP.out.1, HP.out.2]
      exact ⟨rfl, rfl⟩
end Go.Proofs.Ytppikncfmjaacaa
