/-
  The walk of the order by which package share puts places.
-/
import Derived.Test.YtiblbhppojfdaaaWd2
import Derived.Test.YtiblbhppojfdaaaShOrd
import Derived.Sort.Grow
namespace Go.Proofs.Ytiblbhppojfdaaa
open Go.RowKit

set_option maxRecDepth 8000 in
set_option maxHeartbeats 400000 in
theorem nan_n (x : Int) (w : World) : Calls Try.prog 81 #[.int .i64 x] w fun e w' => e = .returned (.bool false) ∧ w = w' := by
  go_enter Try.func81, Try.ntmps81
  go_wp2
  go_ret
  exact ⟨by simp, rfl⟩
set_option maxRecDepth 8000 in
set_option maxHeartbeats 400000 in
theorem compare_n (x y : Int) (w : World) : Calls Try.prog 71 #[.int .i64 x, .int .i64 y] w fun e w' => e = .returned (.int .i64 (cmp3 x y)) ∧ w = w' := by
  have c1 := Lib.hid (nan_n x)
  have c2 := Lib.hid (nan_n y)
  unfold cmp3
  rcases Int.lt_trichotomy x y with h | h | h
  · rw [if_pos h]
    go_enter Try.func71, Try.ntmps71
    go_wp2_with (go_at_call 81; first | ((with_reducible refine (c1.out _).mono ?_); rintro e w' ⟨rfl, rfl⟩) | ((with_reducible refine (c2.out _).mono ?_); rintro e w' ⟨rfl, rfl⟩))
    go_ret
    exact ⟨rfl, rfl⟩
  · subst h
    rw [if_neg (by omega), if_neg (by omega)]
    go_enter Try.func71, Try.ntmps71
    go_wp2_with (go_at_call 81; first | ((with_reducible refine (c1.out _).mono ?_); rintro e w' ⟨rfl, rfl⟩) | ((with_reducible refine (c2.out _).mono ?_); rintro e w' ⟨rfl, rfl⟩))
    go_ret
    exact ⟨rfl, rfl⟩
  · rw [if_neg (by omega), if_pos h]
    go_enter Try.func71, Try.ntmps71
    go_wp2_with (go_at_call 81; first | ((with_reducible refine (c1.out _).mono ?_); rintro e w' ⟨rfl, rfl⟩) | ((with_reducible refine (c2.out _).mono ?_); rintro e w' ⟨rfl, rfl⟩))
    go_ret
    exact ⟨rfl, rfl⟩

/-- The order of two places. -/
def cfo (l : List Int) (x y : Nat) : Int := firstNZ [cmp3 (l.getD y 0) (l.getD x 0), cmp3 (x : Int) (y : Int)]
theorem cfo_lt (l : List Int) (x y : Nat) : cfo l x y < 0 ↔ leq l x y ∧ x ≠ y := by
  unfold cfo leq
  by_cases e : x = y
  · subst e
    simp [firstNZ, cmp3]
  · simp only [firstNZ, cmp3]
    repeat' split
    all_goals omega

set_option maxRecDepth 8000 in
set_option maxHeartbeats 1000000 in
/-- The closure that orders places: it reads, and lays one block. -/
theorem place_any (l : List Int) (A : Option Addr) (c lb x y : Nat) (hx : x < l.length) (hy : y < l.length) (hn : l.length ≤ 9223372036854775807) (W : World) (hbox : W.cell? ⟨lb, 0, none⟩ = some (.slice A l.length c)) (hI : Ints W .i64 A l) :
    Calls Try.prog 70 #[.int .i64 x, .int .i64 y, .pointer (some ⟨lb, 0, none⟩)] W fun e w' => e = .returned (.int .i64 (cfo l x y)) ∧ ∃ o, w' = (W.alloc o).drew := by
  have hk : ∀ W A, Ints W .i64 A [cmp3 (l.getD y 0) (l.getD x 0), cmp3 (x : Int) (y : Int)] → Calls Try.prog 47 #[.slice A 2 2] W fun e w' => e = .returned (.int .i64 (cfo l x y)) ∧ W = w' := by
    intro W A hI
    exact or_any A _ 2 W hI (by simp)
  have HK := Lib.hid hk
  have c1 := Lib.hid (compare_i (l.getD y 0) (l.getD x 0))
  have c2 := Lib.hid (compare_n (x : Int) (y : Int))
  obtain ⟨b, off, rfl, hc⟩ := hI (by omega)
  have k1 := hc x hx
  have k2 := hc y hy
  have hb1 := block_lt k1
  have hb2 := block_lt hbox
  generalize cfo l x y = r at *
  generalize cmp3 (l.getD y 0) (l.getD x 0) = p at *
  generalize cmp3 (x : Int) (y : Int) = q at *
  generalize l.getD x 0 = lx at *
  generalize l.getD y 0 = ly at *
  clear hk hc hI
  have HT : Hid (W.drew.cell? ⟨lb, 0, none⟩ = some (.slice (some ⟨b, off, none⟩) l.length c) ∧ W.drew.cell? ⟨b, off + x, none⟩ = some (.int .i64 lx) ∧ W.drew.cell? ⟨b, off + y, none⟩ = some (.int .i64 ly)) := Lib.hid ⟨hbox, k1, k2⟩
  have HT2 : Hid (∀ o, (W.alloc o).drew.cell? ⟨lb, 0, none⟩ = some (.slice (some ⟨b, off, none⟩) l.length c) ∧ (W.alloc o).drew.cell? ⟨b, off + x, none⟩ = some (.int .i64 lx) ∧ (W.alloc o).drew.cell? ⟨b, off + y, none⟩ = some (.int .i64 ly)) := Lib.hid fun o => by
    have hB : Below W.heap.size W (W.alloc o) := (Below.refl _ _).alloc (Nat.le_refl _) _
    obtain ⟨m1, _⟩ := old_cells hB
    exact ⟨(m1 _ _ hb2).trans hbox, (m1 _ _ hb1).trans k1, (m1 _ _ hb1).trans k2⟩
  clear hb1 hb2
  go_enter Try.func70, Try.ntmps70
  go_wp2
  go_region_held3 (fun w' => w'.cell? ⟨lb, 0, none⟩ = some (.slice (some ⟨b, off, none⟩) l.length c) ∧ w'.cell? ⟨b, off + x, none⟩ = some (.int .i64 lx) ∧ w'.cell? ⟨b, off + y, none⟩ = some (.int .i64 ly))
    (first | exact HT.out | exact HT2.out _)
    (first
      | (go_at_call 48; refine (c1.out _).mono ?_; rintro e w' ⟨rfl, rfl⟩)
      | (go_at_call 71; refine (c2.out _).mono ?_; rintro e w' ⟨rfl, rfl⟩)
      | (go_at_call 47; refine (HK.out _ _ (by exact ints_new _ .i64 [p, q] _ _ rfl _ (by simp))).mono ?_; rintro e w' ⟨rfl, rfl⟩))
  go_wp2
  go_ret
  exact ⟨rfl, _, rfl⟩
end Go.Proofs.Ytiblbhppojfdaaa
