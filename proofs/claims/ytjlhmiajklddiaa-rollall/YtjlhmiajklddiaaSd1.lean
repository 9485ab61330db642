/-
  Package standing: what a status becomes; the walks of Next, Path, Live, Name and of the reference's.
-/
import Derived.Test.YtjlhmiajklddiaaBst
namespace Go.Proofs.Ytjlhmiajklddiaa
set_option maxRecDepth 8000
open Go Go.RowKit
set_option linter.unusedVariables false

/-- What a status becomes by a kind, and whether it does. -/
def nok (s k : Int) : Bool := decide (s = 0 ∧ k = 1 ∨ s = 1 ∧ k = 11 ∨ s = 2 ∧ k = 12 ∨ s = 2 ∧ k = 13 ∨ s = 3 ∧ k = 21)
def nxt (s k : Int) : Int := if s = 0 ∧ k = 1 then 1 else if s = 1 ∧ k = 11 then 2 else if s = 2 ∧ k = 12 then 1 else if s = 2 ∧ k = 13 then 3 else if s = 3 ∧ k = 21 then 4 else 0
theorem nxt_no {s k : Int} (h : nok s k = false) : nxt s k = 0 := by
  have h := of_decide_eq_false h
  unfold nxt
  rw [if_neg (by omega), if_neg (by omega), if_neg (by omega), if_neg (by omega), if_neg (by omega)]
theorem nok_no {s k : Int} (h : ¬ (s = 0 ∧ k = 1 ∨ s = 1 ∧ k = 11 ∨ s = 2 ∧ k = 12 ∨ s = 2 ∧ k = 13 ∨ s = 3 ∧ k = 21)) : nok s k = false := decide_eq_false h
/-- Of any status and kind, which way the table goes. -/
theorem ways (s k : Int) : (s = 0 ∧ k = 1) ∨ (s = 1 ∧ k = 11) ∨ (s = 2 ∧ k = 12) ∨ (s = 2 ∧ k = 13) ∨ (s = 3 ∧ k = 21) ∨ (s = 0 ∧ (k == 1) = false) ∨ (s = 1 ∧ (k == 11) = false) ∨ (s = 2 ∧ (k == 12) = false ∧ (k == 13) = false) ∨ (s = 3 ∧ (k == 21) = false) ∨ ((s == 0) = false ∧ (s == 1) = false ∧ (s == 2) = false ∧ (s == 3) = false) := by
  simp only [beq_eq_false_iff_ne]
  omega
set_option maxRecDepth 8000 in
set_option maxHeartbeats 2000000 in
theorem x35_any (s k : Int) (w : World) : Calls Try.prog 35 #[.int .i64 s, .int .i64 k] w fun r w' => r = .returned (.tuple #[.int .i64 (nxt s k), .bool (nok s k)]) ∧ w = w' := by
  rcases ways s k with ⟨rfl, rfl⟩ | ⟨rfl, rfl⟩ | ⟨rfl, rfl⟩ | ⟨rfl, rfl⟩ | ⟨rfl, rfl⟩ | h
  · go_enter Try.func35, Try.ntmps35
    go_wp2
    go_ret2
    exact ⟨rfl, rfl⟩
  · go_enter Try.func35, Try.ntmps35
    go_wp2
    go_ret2
    exact ⟨rfl, rfl⟩
  · go_enter Try.func35, Try.ntmps35
    go_wp2
    go_ret2
    exact ⟨rfl, rfl⟩
  · go_enter Try.func35, Try.ntmps35
    go_wp2
    go_ret2
    exact ⟨rfl, rfl⟩
  · go_enter Try.func35, Try.ntmps35
    go_wp2
    go_ret2
    exact ⟨rfl, rfl⟩
  · have e1 : nok s k = false := nok_no (by simp only [beq_eq_false_iff_ne] at h; omega)
    rw [nxt_no e1, e1]
    clear e1
    rcases h with ⟨rfl, h⟩ | ⟨rfl, h⟩ | ⟨rfl, h, h'⟩ | ⟨rfl, h⟩ | ⟨h0, h1, h2, h3⟩
    · go_enter Try.func35, Try.ntmps35
      go_wp2
      go_ret2
      exact ⟨rfl, rfl⟩
    · go_enter Try.func35, Try.ntmps35
      go_wp2
      go_ret2
      exact ⟨rfl, rfl⟩
    · go_enter Try.func35, Try.ntmps35
      go_wp2
      go_ret2
      exact ⟨rfl, rfl⟩
    · go_enter Try.func35, Try.ntmps35
      go_wp2
      go_ret2
      exact ⟨rfl, rfl⟩
    · go_enter Try.func35, Try.ntmps35
      go_wp2
      go_ret2
      exact ⟨rfl, rfl⟩
set_option maxRecDepth 8000 in
set_option maxHeartbeats 2000000 in
theorem x45_any (s k : Int) (w : World) : Calls Try.prog 45 #[.int .i64 s, .int .i64 k] w fun r w' => r = .returned (.tuple #[.int .i64 (nxt s k), .bool (nok s k)]) ∧ w = w' := by
  rcases ways s k with ⟨rfl, rfl⟩ | ⟨rfl, rfl⟩ | ⟨rfl, rfl⟩ | ⟨rfl, rfl⟩ | ⟨rfl, rfl⟩ | h
  · go_enter Try.func45, Try.ntmps45
    go_wp2
    go_ret2
    exact ⟨rfl, rfl⟩
  · go_enter Try.func45, Try.ntmps45
    go_wp2
    go_ret2
    exact ⟨rfl, rfl⟩
  · go_enter Try.func45, Try.ntmps45
    go_wp2
    go_ret2
    exact ⟨rfl, rfl⟩
  · go_enter Try.func45, Try.ntmps45
    go_wp2
    go_ret2
    exact ⟨rfl, rfl⟩
  · go_enter Try.func45, Try.ntmps45
    go_wp2
    go_ret2
    exact ⟨rfl, rfl⟩
  · have e1 : nok s k = false := nok_no (by simp only [beq_eq_false_iff_ne] at h; omega)
    rw [nxt_no e1, e1]
    clear e1
    rcases h with ⟨rfl, h⟩ | ⟨rfl, h⟩ | ⟨rfl, h, h'⟩ | ⟨rfl, h⟩ | ⟨h0, h1, h2, h3⟩
    · go_enter Try.func45, Try.ntmps45
      go_wp2
      go_ret2
      exact ⟨rfl, rfl⟩
    · go_enter Try.func45, Try.ntmps45
      go_wp2
      go_ret2
      exact ⟨rfl, rfl⟩
    · go_enter Try.func45, Try.ntmps45
      go_wp2
      go_ret2
      exact ⟨rfl, rfl⟩
    · go_enter Try.func45, Try.ntmps45
      go_wp2
      go_ret2
      exact ⟨rfl, rfl⟩
    · go_enter Try.func45, Try.ntmps45
      go_wp2
      go_ret2
      exact ⟨rfl, rfl⟩
theorem next_any (s k : Int) (w : World) : Calls Try.prog 35 #[.int .i64 s, .int .i64 k] w fun r w' => r = .returned (.tuple #[.int .i64 (nxt s k), .bool (nok s k)]) ∧ w = w' := x35_any s k w
theorem rnext_any (s k : Int) (w : World) : Calls Try.prog 45 #[.int .i64 s, .int .i64 k] w fun r w' => r = .returned (.tuple #[.int .i64 (nxt s k), .bool (nok s k)]) ∧ w = w' := x45_any s k w
/-- Is it live? -/
def liveS (s : Int) : Bool := s == 1 || s == 2
/-- Its name. -/
def nameS (s : Int) : ByteArray := if s = 1 then { data := #[97, 99, 116, 105, 118, 101] } else if s = 2 then { data := #[115, 117, 115, 112, 101, 110, 100, 101, 100] } else if s = 3 then { data := #[100, 101, 102, 97, 117, 108, 116, 101, 100] } else if s = 4 then { data := #[99, 108, 111, 115, 101, 100] } else { data := #[] }
theorem names (s : Int) : s = 1 ∨ s = 2 ∨ s = 3 ∨ s = 4 ∨ ((s == 1) = false ∧ (s == 2) = false ∧ (s == 3) = false ∧ (s == 4) = false) := by
  simp only [beq_eq_false_iff_ne]
  omega
theorem nameS_no {s : Int} (h : (s == 1) = false ∧ (s == 2) = false ∧ (s == 3) = false ∧ (s == 4) = false) : nameS s = { data := #[] } := by
  simp only [beq_eq_false_iff_ne] at h
  unfold nameS
  rw [if_neg h.1, if_neg h.2.1, if_neg h.2.2.1, if_neg h.2.2.2]
/-- Where kinds lead from a status on. -/
def goS (s : Int) : List Int → Option Int
  | [] => some s
  | k :: l => if nok s k then goS (nxt s k) l else none
theorem goS_snoc (l : List Int) (k : Int) : ∀ s, goS s (l ++ [k]) = (goS s l).bind fun t => if nok t k then some (nxt t k) else none := by
  induction l with
  | nil => intro s; rfl
  | cons x l ih =>
    intro s
    rw [List.cons_append]
    unfold goS
    by_cases h : nok s x = true
    · rw [if_pos h, if_pos h, ih]
    · rw [if_neg h, if_neg h]; rfl
theorem goS_none (l r : List Int) : ∀ s, goS s l = none → goS s (l ++ r) = none := by
  induction l with
  | nil => intro s h; cases h
  | cons x l ih =>
    intro s h
    rw [List.cons_append]
    unfold goS at h ⊢
    by_cases hx : nok s x = true
    · rw [if_pos hx] at h ⊢; exact ih _ h
    · rw [if_neg hx]
def pst (l : List Int) : Int := (goS 0 l).getD 0
def pok (l : List Int) : Bool := (goS 0 l).isSome
theorem goS_take {l : List Int} {i : Nat} {s : Int} (hi : i < l.length) (h : goS 0 (l.take i) = some s) : goS 0 (l.take (i + 1)) = if nok s (l.getD i 0) then some (nxt s (l.getD i 0)) else none := by
  rw [List.take_succ_eq_append_getElem hi, goS_snoc, h, List.getD_eq_getElem?_getD, List.getElem?_eq_getElem hi]
  rfl
theorem goS_off {l : List Int} {i : Nat} (h : goS 0 (l.take i) = none) : pst l = 0 ∧ pok l = false := by
  have := goS_none (l.take i) (l.drop i) 0 h
  rw [List.take_append_drop] at this
  unfold pst pok
  rw [this]
  exact ⟨rfl, rfl⟩
end Go.Proofs.Ytjlhmiajklddiaa
