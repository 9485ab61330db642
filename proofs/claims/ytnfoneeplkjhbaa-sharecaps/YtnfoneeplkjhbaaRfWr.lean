/-
  The walk of the reference's look at weights.
-/
import Derived.Test.YtnfoneeplkjhbaaShC3
namespace Go.Proofs.Ytnfoneeplkjhbaa
open Go.RowKit

/-- May these weights not share that? -/
def wrongB (t : Int) (l : List Int) : Bool := decide (t < 0) || !areW l

set_option maxRecDepth 8000 in
set_option maxHeartbeats 1000000 in
theorem wrong_any (t : Int) (A : Option Addr) (l : List Int) (c : Nat) (w : World) (hr : Ints w .i64 A l) (hn : l.length ≤ 9223372036854775807) :
    Calls Try.prog 49 #[.int .i64 t, .slice A l.length c] w fun e w' => e = .returned (.bool (wrongB t l)) ∧ w = w' := by
  have HR := Lib.hid hr
  clear hr
  by_cases ht : t < 0
  · have HF : Hid (wrongB t l = true) := Lib.hid (by unfold wrongB; rw [decide_eq_true ht]; rfl)
    have d1 : decide (t < 0) = true := decide_eq_true ht
    clear ht
    go_enter Try.func49, Try.ntmps49
    go_wp2
    go_ret
    exact ⟨by rw [HF.out]; rfl, rfl⟩
  · have d1 : decide (t < 0) = false := decide_eq_false ht
    by_cases h64 : 64 < l.length
    · have HF : Hid (wrongB t l = true) := Lib.hid (by unfold wrongB areW; rw [decide_eq_false (p := l.length ≤ 64) (by omega)]; simp)
      have d2 : decide ((64 : Int) < (l.length : Int)) = true := by simp; omega
      clear ht
      go_enter Try.func49, Try.ntmps49
      go_wp2
      go_ret
      exact ⟨by rw [HF.out]; rfl, rfl⟩
    · have d2 : decide ((64 : Int) < (l.length : Int)) = false := by simp; omega
      have HF : Hid (wrongB t l = anyNeg l) := Lib.hid (by unfold wrongB areW; rw [d1, decide_eq_true (p := l.length ≤ 64) (by omega)]; simp)
      clear ht
      go_enter Try.func49, Try.ntmps49
      go_wp2
      go_loop [5] (fun i => ∃ k : Nat, k ≤ l.length ∧ i = .int .i64 k ∧ Hid (∀ j, j < k → 0 ≤ l.getD j 0)) (fun i => l.length - (intOf i).toNat)
      case atStart => exact ⟨0, Nat.zero_le _, rfl, Lib.hid (fun j h => absurd h (by omega))⟩
      case round =>
        obtain ⟨k, hk, rfl, HP⟩ := hrel
        by_cases hlt : k < l.length
        · obtain ⟨b, off, rfl, hc⟩ := HR.out (by omega)
          have q1 := hc k hlt
          by_cases hx : l.getD k 0 < 0
          · have HN : Hid (anyNeg l = true) := Lib.hid (by unfold anyNeg; rw [List.any_eq_true]; exact ⟨_, getD_mem hlt, decide_eq_true hx⟩)
            generalize l.getD k 0 = x at *
            have d3 : decide (x < 0) = true := decide_eq_true hx
            clear hc hx
            go_wp2
            go_ret
            exact ⟨by rw [HF.out, HN.out]; rfl, rfl⟩
          · have HP2 : Hid (∀ j, j < k + 1 → 0 ≤ l.getD j 0) := Lib.hid fun j hj => by
              by_cases e : j = k
              · rw [e]; omega
              · exact HP.out j (by omega)
            generalize l.getD k 0 = x at *
            have d3 : decide (x < 0) = false := decide_eq_false hx
            clear hc hx
            go_wp2
            go_round
            case rel => exact ⟨k + 1, by omega, by go_num, HP2⟩
            case measure => simp [intOf]; omega
        · have HN : Hid (anyNeg l = false) := Lib.hid <| by
            unfold anyNeg; rw [List.any_eq_false]
            intro x hx
            obtain ⟨i, hi, rfl⟩ := List.getElem_of_mem hx
            have := HP.out i (by omega)
            rw [List.getD_eq_getElem?_getD, List.getElem?_eq_getElem hi, Option.getD_some] at this
            simp; omega
          go_wp2
          go_ret
          exact ⟨by rw [HF.out, HN.out]; rfl, rfl⟩
end Go.Proofs.Ytnfoneeplkjhbaa
