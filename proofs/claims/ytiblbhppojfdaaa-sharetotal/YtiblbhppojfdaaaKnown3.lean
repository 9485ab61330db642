/-
  The walk of the third layer's known shares.
-/
import Derived.Test.YtiblbhppojfdaaaShC3
namespace Go.Proofs.Ytiblbhppojfdaaa
open Go.RowKit

theorem ksplit1 (g : Nat) (W : World) (h : Ints W .i64 (some ⟨g, 0, none⟩) [1, 1, 1]) :
    Calls Try.prog 30 #[.int .i64 10, .slice (some ⟨g, 0, none⟩) 3 3] W fun e w' => ∃ A c, e = .returned (.tuple #[.slice A 3 c, .int .i64 0]) ∧ Ints w' .i64 A [4, 3, 3] ∧ Below W.heap.size W w' := by
  have hs := split_any 10 (some ⟨g, 0, none⟩) [1, 1, 1] 3 W (by unfold I64; omega) h (by intro x hx; simp at hx; unfold I64; omega) (by simp)
  rw [show splitV 10 [1, 1, 1] = [4, 3, 3] from by decide, show splitC 10 [1, 1, 1] = 0 from by decide] at hs
  refine hs.mono ?_
  rintro e w' ⟨A, c, rfl, h1, _, _, _, h2⟩
  exact ⟨A, c, rfl, h1, h2⟩
theorem ksplit2 (g : Nat) (W : World) (h : Ints W .i64 (some ⟨g, 0, none⟩) [0]) :
    Calls Try.prog 30 #[.int .i64 1, .slice (some ⟨g, 0, none⟩) 1 1] W fun e w' => ∃ A c, e = .returned (.tuple #[.slice A 0 c, .int .i64 1]) ∧ Below W.heap.size W w' := by
  have hs := split_any 1 (some ⟨g, 0, none⟩) [0] 1 W (by unfold I64; omega) h (by intro x hx; simp at hx; unfold I64; omega) (by simp)
  rw [show splitV 1 [0] = [] from by decide, show splitC 1 [0] = 1 from by decide] at hs
  refine hs.mono ?_
  rintro e w' ⟨A, c, rfl, h1, _, _, _, h2⟩
  exact ⟨A, c, rfl, h2⟩
theorem keven (W : World) :
    Calls Try.prog 50 #[.int .i64 7, .int .i64 3] W fun e w' => ∃ A c, e = .returned (.tuple #[.slice A 3 c, .int .i64 0]) ∧ Ints w' .i64 A [3, 2, 2] ∧ Below W.heap.size W w' := by
  have hs := even_any 7 3 (by unfold I64; omega) W
  rw [show evenV 7 3 = [3, 2, 2] from by decide, show evenC 7 3 = 0 from by decide] at hs
  refine hs.mono ?_
  rintro e w' ⟨A, c, rfl, h1, _, _, _, h2⟩
  exact ⟨A, c, rfl, h1, h2⟩
theorem kcapped (g g2 : Nat) (W : World) (h : Ints W .i64 (some ⟨g, 0, none⟩) [1, 1, 1]) (h2 : Ints W .i64 (some ⟨g2, 0, none⟩) [2, 9, 9]) :
    Calls Try.prog 51 #[.int .i64 10, .slice (some ⟨g, 0, none⟩) 3 3, .slice (some ⟨g2, 0, none⟩) 3 3] W fun e w' => ∃ A c, e = .returned (.tuple #[.slice A 3 c, .int .i64 0, .int .i64 0]) ∧ Ints w' .i64 A [2, 4, 4] ∧ Below W.heap.size W w' := by
  have hs := capped_any 10 (some ⟨g, 0, none⟩) (some ⟨g2, 0, none⟩) [1, 1, 1] [2, 9, 9] 3 3 W (by unfold I64; omega) h h2 (by intro x hx; simp at hx; unfold I64; omega) (by intro x hx; simp at hx; unfold I64; omega) (by simp) (by simp)
  rw [show capV 10 [1, 1, 1] [2, 9, 9] = ([2, 4, 4], 0) from by decide, show capC 10 [1, 1, 1] [2, 9, 9] = 0 from by decide] at hs
  refine hs.mono ?_
  rintro e w' ⟨A, c, rfl, h1, _, _, _, h2⟩
  exact ⟨A, c, rfl, h1, h2⟩
theorem korder (g : Nat) (W : World) (h : Ints W .i64 (some ⟨g, 0, none⟩) [1, 5, 5]) :
    Calls Try.prog 54 #[.slice (some ⟨g, 0, none⟩) 3 3] W fun e w' => ∃ g', e = .returned (.slice (some ⟨g', 0, none⟩) 3 3) ∧ Ints w' .i64 (some ⟨g', 0, none⟩) [1, 2, 0] ∧ Below W.heap.size W w' := by
  have hs := order_any (some ⟨g, 0, none⟩) [1, 5, 5] 3 W h (by simp)
  refine hs.mono ?_
  rintro e w' ⟨g', rfl, _, h1, h2⟩
  rw [show ordI [1, 5, 5] = [1, 2, 0] from by decide] at h1
  exact ⟨g', rfl, h1.ints, h2⟩
theorem kints (A B : Option Addr) (l : List Int) (h3 : l.length = 3) (c1 c2 : Nat) (W : World) (h1 : Ints W .i64 A l) (h2 : Ints W .i64 B l) :
    Calls Try.prog 52 #[.slice A 3 c1, .slice B 3 c2] W fun e w' => e = .returned (.bool true) ∧ Below W.heap.size W w' := by
  have h := hInts_any A B l l c1 c2 W h1 h2 (by omega)
  rw [same_self, h3] at h
  exact h
theorem knums (A B : Option Addr) (l : List Int) (h3 : l.length = 3) (c1 c2 : Nat) (W : World) (h1 : Ints W .i64 A l) (h2 : Ints W .i64 B l) :
    Calls Try.prog 53 #[.slice A 3 c1, .slice B 3 c2] W fun e w' => e = .returned (.bool true) ∧ Below W.heap.size W w' := by
  have h := hNums_any A B l l c1 c2 W h1 h2 (by omega)
  rw [same_self, h3] at h
  exact h

/-- A world that has grown by blocks and calls. -/
theorem grew {w W W' : World} (h : Below w.heap.size w W) (hb : Below W.heap.size W W') : Below w.heap.size w W' := h.trans (hb.mono h.size)
theorem grew1 {w W : World} (h : Below w.heap.size w W) (o : Obj) : Below w.heap.size w (W.alloc o) := h.alloc h.size o

set_option maxRecDepth 100000 in
set_option maxHeartbeats 4000000 in
theorem known3_any (w : World) : Calls Try.prog 27 #[] w fun e w' => e = .returned (.bool true) ∧ Below w.heap.size w w' := by
  have C1 := Lib.hid ksplit1
  have C2 := Lib.hid ksplit2
  have C3 := Lib.hid keven
  have C4 := Lib.hid kcapped
  have C5 := Lib.hid korder
  have C6 := Lib.hid (fun A c1 B c2 W => kints A B [4, 3, 3] rfl c1 c2 W)
  have C7 := Lib.hid (fun A c1 B c2 W => kints A B [3, 2, 2] rfl c1 c2 W)
  have C8 := Lib.hid (fun A c1 B c2 W => kints A B [2, 4, 4] rfl c1 c2 W)
  have C9 := Lib.hid (fun A c1 B c2 W => knums A B [1, 2, 0] rfl c1 c2 W)
  have K : Hid (Below w.heap.size w w) := Lib.hid (Below.refl _ _)
  go_enter Try.func27, Try.ntmps27
  go_wp2_with (first
    | (go_at_call 30; first
      | ((with_reducible refine (C1.out _ _ ?_).mono ?_); (exact ints_new _ .i64 [1, 1, 1] _ _ rfl _ (by simp)); rintro e w1 ⟨A1, a1, rfl, hA1, hb⟩; have HA1 := Lib.hid hA1; replace K := Lib.hid (grew (grew1 K.out _) hb); clear hA1 hb)
      | ((with_reducible refine (C2.out _ _ ?_).mono ?_); (exact ints_new _ .i64 [0] _ _ rfl _ (by simp)); rintro e w4 ⟨A4, a4, rfl, hb⟩; have hb' := grew (grew1 (Below.refl _ w3) _) hb; replace K := Lib.hid (grew K.out hb'); replace HA1 := Lib.hid (HA1.out.below hb'); replace HA2 := Lib.hid (HA2.out.below hb'); replace HA3 := Lib.hid (HA3.out.below hb'); have KK : Hid (Below w4.heap.size w4 w4) := Lib.hid (Below.refl _ _); clear hb hb'))
    | (go_at_call 50; refine (C3.out _).mono ?_; rintro e w2 ⟨A2, a2, rfl, hA2, hb⟩; have HA2 := Lib.hid hA2; replace HA1 := Lib.hid (HA1.out.below hb); replace K := Lib.hid (grew K.out hb); clear hA2 hb)
    | (go_at_call 51; (with_reducible refine (C4.out _ _ _ ?_ ?_).mono ?_); (exact (ints_new _ .i64 [1, 1, 1] _ _ rfl _ (by simp)).below ((Below.refl _ _).alloc (Nat.le_refl _) _)); (exact ints_new _ .i64 [2, 9, 9] _ _ rfl _ (by simp)); rintro e w3 ⟨A3, a3, rfl, hA3, hb⟩; have HA3 := Lib.hid hA3; have hb' := grew (grew1 (grew1 (Below.refl _ w2) _) _) hb; replace HA1 := Lib.hid (HA1.out.below hb'); replace HA2 := Lib.hid (HA2.out.below hb'); replace K := Lib.hid (grew K.out hb'); clear hA3 hb hb')
    | (go_at_call 52; first
      | ((with_reducible refine (C6.out A1 _ _ _ _ ?_ ?_).mono ?_); (exact HA1.out.below (grew1 KK.out _)); (exact ints_new _ .i64 [4, 3, 3] _ _ rfl _ (by simp)); rintro e w5 ⟨rfl, hb⟩; replace KK := Lib.hid (grew (grew1 KK.out _) hb); clear hb)
      | ((with_reducible refine (C7.out A2 _ _ _ _ ?_ ?_).mono ?_); (exact HA2.out.below (grew1 KK.out _)); (exact ints_new _ .i64 [3, 2, 2] _ _ rfl _ (by simp)); rintro e w6 ⟨rfl, hb⟩; replace KK := Lib.hid (grew (grew1 KK.out _) hb); clear hb)
      | ((with_reducible refine (C8.out A3 _ _ _ _ ?_ ?_).mono ?_); (exact HA3.out.below (grew1 KK.out _)); (exact ints_new _ .i64 [2, 4, 4] _ _ rfl _ (by simp)); rintro e w7 ⟨rfl, hb⟩; replace KK := Lib.hid (grew (grew1 KK.out _) hb); clear hb))
    | (go_at_call 54; (with_reducible refine (C5.out _ _ ?_).mono ?_); (exact ints_new _ .i64 [1, 5, 5] _ _ rfl _ (by simp)); rintro e w8 ⟨g8, rfl, hA8, hb⟩; have HA8 := Lib.hid hA8; replace KK := Lib.hid (grew (grew1 KK.out _) hb); clear hA8 hb)
    | (go_at_call 53; (with_reducible refine (C9.out _ _ _ _ _ ?_ ?_).mono ?_); (exact HA8.out.below (grew1 (Below.refl _ w8) _)); (exact ints_new _ .i64 [1, 2, 0] _ _ rfl _ (by simp)); rintro e w9 ⟨rfl, hb⟩; replace KK := Lib.hid (grew (grew1 KK.out _) hb); clear hb))
  go_ret
  exact ⟨rfl, grew K.out KK.out⟩
end Go.Proofs.Ytiblbhppojfdaaa
