/-
  The walk of novationlaw10.StandingEnds.
-/
import Derived.Test.YtppikncfmjaacaaSd2
namespace Go.Proofs.Ytppikncfmjaacaa
set_option maxRecDepth 8000
open Go Go.RowKit
set_option linter.unusedVariables false

/-- The kinds that a law draws from. -/
def kindL : List Int := [1, 11, 12, 13, 21]
def kindOf (x : Nat) : Int := kindL.getD (x % 5) 0
theorem kind_mod (x : Nat) : ∃ q : Nat, (x : Int) % 5 = (q : Int) ∧ (x : Int).tmod 5 = (q : Int) ∧ q < 5 ∧ kindOf x = kindL.getD q 0 := ⟨x % 5, rfl, rfl, by omega, rfl⟩
theorem kind_cells : ∀ q, q < 5 → (#[.int .i64 1, .int .i64 11, .int .i64 12, .int .i64 13, .int .i64 21] : Array Value)[q]? = some (.int .i64 (kindL.getD q 0)) := by
  intro q hq
  rcases (by omega : q = 0 ∨ q = 1 ∨ q = 2 ∨ q = 3 ∨ q = 4) with rfl | rfl | rfl | rfl | rfl <;> rfl
theorem kind_cell (w : World) (t : TypeId) (q : Nat) (hq : q < 5) : (w.alloc (.cells #[.int .i64 1, .int .i64 11, .int .i64 12, .int .i64 13, .int .i64 21] t)).cell? ⟨w.heap.size, q, none⟩ = some (.int .i64 (kindL.getD q 0)) := by
  rw [World.cell?_alloc_new]
  exact kind_cells q hq
theorem alloc_b {B : Nat} {w W : World} (h : Below B w W) (hb : B ≤ w.heap.size) (o : Obj) : Below B w (W.alloc o) := h.alloc (Nat.le_trans hb h.size) _

set_option maxRecDepth 100000 in
set_option maxHeartbeats 16000000 in
theorem sends_walk (A : Option Addr) (l : List Nat) (c : Nat) (k : Int) (w : World) (hr : Byts w A l) (hn : l.length ≤ 9223372036854775807) : Calls Try.prog 6 #[.slice A l.length c, .int .i64 k] w fun r w' => r = .returned (.bool true) ∧ Below w.heap.size w w' := by
  have CK := Lib.hid (known10_any w)
  by_cases hbig : l.length > 200
  · have hb2 : ((200 : Int) < (l.length : Int)) := by omega
    clear hr
    go_enter Try.func6, Try.ntmps6
    go_wp2_with (first
      | (go_at_call 7; (with_reducible refine CK.out.mono ?_); rintro r w1 ⟨rfl, hb1⟩; have HB1 := Lib.hid hb1; clear hb1))
    go_ret
    exact ⟨rfl, HB1.out⟩
  · have hle : l.length ≤ 200 := by omega
    have HR := Lib.hid hr
    have CE := Lib.hid (next_any 4 k)
    rw [nxt_no (s := 4) (k := k) (nok_no (by omega)), nok_no (s := 4) (k := k) (by omega)] at CE
    clear hr hbig
    go_enter Try.func6, Try.ntmps6
    go_wp2_with (first
      | (go_at_call 7; (with_reducible refine CK.out.mono ?_); rintro r w1 ⟨rfl, hb1⟩; have HB1 := Lib.hid hb1; clear hb1))
    go_loopw [5, 6, 7] (fun s u i wr => ∃ (j : Nat) (t v : Int), j ≤ l.length ∧ i = .int .i64 (j : Int) ∧ s = .int .i64 t ∧ u = .int .i64 v ∧ Hid (Below w.heap.size w wr)) (fun _ _ i _ => l.length - (intOf i).toNat)
    case atStart => exact ⟨0, 0, 0, Nat.zero_le _, rfl, rfl, rfl, HB1⟩
    case round =>
      obtain ⟨j, t, v, hj, rfl, rfl, rfl, HB⟩ := hrel
      by_cases hlt : j < l.length
      · obtain ⟨b, off, rfl, hc⟩ := (HR.out.below HB.out) (by omega)
        have hcell := hc j hlt
        have hbl := block_lt hcell
        obtain ⟨q, hq1, hq2, hq5, hq⟩ := kind_mod (l.getD j 0)
        have HK := kind_cell wr 3 q hq5
        have HBA : Hid (∀ o, Below w.heap.size w (wr.alloc o)) := Lib.hid (fun o => alloc_b HB.out (Nat.le_refl _) o)
        generalize l.getD j 0 = x at *
        generalize kindL.getD q 0 = kd at *
        have CN := Lib.hid (next_any t kd)
        clear hc
        rcases ways t kd with ⟨rfl, rfl⟩ | ⟨rfl, rfl⟩ | ⟨rfl, rfl⟩ | ⟨rfl, rfl⟩ | ⟨rfl, rfl⟩ | h
        · rw [show nxt 0 1 = 1 from rfl, show nok 0 1 = true from rfl] at CN
          go_wp2_with (first
            | (go_at_call 8; (with_reducible refine (CN.out _).mono ?_); rintro e w' ⟨rfl, rfl⟩))
          go_roundw
          case rel => exact ⟨j + 1, _, _, by omega, by go_num, rfl, rfl, Lib.hid (HBA.out _)⟩
          case measure => simp [intOf]; omega
        · rw [show nxt 1 11 = 2 from rfl, show nok 1 11 = true from rfl] at CN
          go_wp2_with (first
            | (go_at_call 8; (with_reducible refine (CN.out _).mono ?_); rintro e w' ⟨rfl, rfl⟩))
          go_roundw
          case rel => exact ⟨j + 1, _, _, by omega, by go_num, rfl, rfl, Lib.hid (HBA.out _)⟩
          case measure => simp [intOf]; omega
        · rw [show nxt 2 12 = 1 from rfl, show nok 2 12 = true from rfl] at CN
          go_wp2_with (first
            | (go_at_call 8; (with_reducible refine (CN.out _).mono ?_); rintro e w' ⟨rfl, rfl⟩))
          go_roundw
          case rel => exact ⟨j + 1, _, _, by omega, by go_num, rfl, rfl, Lib.hid (HBA.out _)⟩
          case measure => simp [intOf]; omega
        · rw [show nxt 2 13 = 3 from rfl, show nok 2 13 = true from rfl] at CN
          go_wp2_with (first
            | (go_at_call 8; (with_reducible refine (CN.out _).mono ?_); rintro e w' ⟨rfl, rfl⟩))
          go_roundw
          case rel => exact ⟨j + 1, _, _, by omega, by go_num, rfl, rfl, Lib.hid (HBA.out _)⟩
          case measure => simp [intOf]; omega
        · rw [show nxt 3 21 = 4 from rfl, show nok 3 21 = true from rfl] at CN
          go_wp2_with (first
            | (go_at_call 8; (with_reducible refine (CN.out _).mono ?_); rintro e w' ⟨rfl, rfl⟩))
          go_roundw
          case rel => exact ⟨j + 1, _, _, by omega, by go_num, rfl, rfl, Lib.hid (HBA.out _)⟩
          case measure => simp [intOf]; omega
        · have e1 : nok t kd = false := nok_no (by simp only [beq_eq_false_iff_ne] at h; omega)
          rw [nxt_no e1, e1] at CN
          clear e1 h
          go_wp2_with (first
            | (go_at_call 8; (with_reducible refine (CN.out _).mono ?_); rintro e w' ⟨rfl, rfl⟩))
          go_roundw
          case rel => exact ⟨j + 1, _, _, by omega, by go_num, rfl, rfl, Lib.hid (HBA.out _)⟩
          case measure => simp [intOf]; omega
      · obtain rfl : j = l.length := by omega
        have CL := Lib.hid (live_any t)
        rcases (by simp only [beq_eq_false_iff_ne]; omega : t = 1 ∨ t = 2 ∨ ((t == 1) = false ∧ (t == 2) = false)) with rfl | rfl | ⟨h1, h2⟩
        · rw [show liveS 1 = true from rfl] at CL
          go_wp2_with (first
            | (go_at_call 8; (with_reducible refine (CE.out _).mono ?_); rintro e w' ⟨rfl, rfl⟩)
            | (go_at_call 10; (with_reducible refine (CL.out _).mono ?_); rintro e w' ⟨rfl, rfl⟩))
          go_ret
          exact ⟨rfl, HB.out⟩
        · rw [show liveS 2 = true from rfl] at CL
          go_wp2_with (first
            | (go_at_call 8; (with_reducible refine (CE.out _).mono ?_); rintro e w' ⟨rfl, rfl⟩)
            | (go_at_call 10; (with_reducible refine (CL.out _).mono ?_); rintro e w' ⟨rfl, rfl⟩))
          go_ret
          exact ⟨rfl, HB.out⟩
        · rw [show liveS t = false from by unfold liveS; rw [h1, h2]; rfl] at CL
          go_wp2_with (first
            | (go_at_call 8; (with_reducible refine (CE.out _).mono ?_); rintro e w' ⟨rfl, rfl⟩)
            | (go_at_call 10; (with_reducible refine (CL.out _).mono ?_); rintro e w' ⟨rfl, rfl⟩))
          go_ret
          exact ⟨rfl, HB.out⟩
end Go.Proofs.Ytppikncfmjaacaa
