/-
  The walks of package wide's Of, Int, Sign, Add.
-/
import Derived.Test.YtiblbhppojfdaaaWd2
import Derived.BigQuiet
namespace Go.Proofs.Ytiblbhppojfdaaa
open Go.RowKit

theorem signWord_q (x : Int) (hx : I64 x) (w : World) :
    Calls Try.prog 41 #[.int .i64 x] w fun e w' => e = .returned (.int .i64 (up64 x)) ∧ w' = w :=
  (signWord_any x hx w).mono fun _ _ h => ⟨h.1, h.2.symm⟩

set_option maxRecDepth 8000 in
set_option maxHeartbeats 400000 in
theorem of_any (x : Int) (hx : I64 x) (w : World) :
    Calls Try.prog 22 #[.int .i64 x] w fun e w' => e = .returned (.agg #[.int .i64 (up64 (x)), .int .u64 (lo64 (x))]) ∧ Below w.heap.size w w' := by
  have C := Lib.hid (signWord_any x hx)
  have hu := wrapu x
  have hB : ∀ o, Below w.heap.size w ((w.alloc (.cells o 24))) := fun o => (Below.refl _ _).alloc (Nat.le_refl _) _
  generalize up64 x = xh at *
  generalize lo64 x = xl at *
  unfold I64 at hx
  go_enter Try.func22, Try.ntmps22
  go_wp2_with (go_at_call 41; refine (C.out _).mono ?_; rintro e w' ⟨rfl, rfl⟩)
  refine bodyPost_ret (v := .agg #[.int .i64 xh, .int .u64 xl]) (by simp [results, Try.results22, go_sem]) rfl ⟨rfl, hB _⟩

theorem int_words (n : Int) (h : W128 n) : (up64 n = up64 (wrap64 (lo64 n))) ↔ I64 n := by
  unfold W128 at h
  unfold up64 lo64 I64 wrap64
  omega
theorem int_word {n : Int} (h : I64 n) : wrap64 (lo64 n) = n := by
  unfold I64 at h
  unfold lo64 wrap64
  omega

set_option maxRecDepth 8000 in
set_option maxHeartbeats 400000 in
theorem wint_any (n : Int) (hn : W128 n) (w : World) :
    Calls Try.prog 12 #[.agg #[.int .i64 (up64 (n)), .int .u64 (lo64 (n))]] w fun e w' => e = .returned (.tuple #[.int .i64 (held n), .bool (fits n)]) ∧ Below w.heap.size w w' := by
  have hI : I64 (wrap64 (lo64 n)) := by have := lo64_nn n; have := lo64_le n; unfold I64 wrap64; omega
  have C := Lib.hid (signWord_q (wrap64 (lo64 n)) hI)
  have hw := int_words n hn
  have hb : Below w.heap.size w (w.alloc (.cells #[.int .i64 (up64 n), .int .u64 (lo64 n)] 24)) := ((Below.refl _ _).alloc (Nat.le_refl _) _)
  have n1 := lo64_nn n
  have n2 := lo64_le n
  by_cases h : I64 n
  · have e1 : (up64 n != up64 (wrap64 (lo64 n))) = false := by rw [hw.2 h]; simp
    have H := Lib.hid (show Ending.returned (.tuple #[.int .i64 (wrap64 (lo64 n)), .bool true]) = .returned (.tuple #[.int .i64 (held n), .bool (fits n)]) from ret_two ((int_word h).trans (held_of h).symm) (fits_of h).symm)
    have HB := Lib.hid hb
    generalize up64 (wrap64 (lo64 n)) = sh at *
    generalize up64 n = nh at *
    generalize lo64 n = nl at *
    clear hw hI hn h hb
    go_enter Try.func12, Try.ntmps12
    go_wp2
    go_quiet ((go_at_call 41; exact Calls.quiet_of_same (C.out _)))
    go_wp2
    go_ret2
    exact ⟨H.out, below_drewN HB.out _⟩
  · have e1 : (up64 n != up64 (wrap64 (lo64 n))) = true := by rw [bne_iff_ne]; exact fun e => h (hw.1 e)
    have H := Lib.hid (show Ending.returned (.tuple #[.int .i64 0, .bool false]) = .returned (.tuple #[.int .i64 (held n), .bool (fits n)]) from ret_two (held_not h).symm (fits_not h).symm)
    have HB := Lib.hid hb
    generalize up64 (wrap64 (lo64 n)) = sh at *
    generalize up64 n = nh at *
    generalize lo64 n = nl at *
    clear hw hI hn h hb
    go_enter Try.func12, Try.ntmps12
    go_wp2
    go_quiet ((go_at_call 41; exact Calls.quiet_of_same (C.out _)))
    go_wp2
    go_ret2
    exact ⟨H.out, below_drewN HB.out _⟩

set_option maxRecDepth 8000 in
set_option maxHeartbeats 400000 in
theorem wsign_any (n : Int) (w : World) :
    Calls Try.prog 23 #[.agg #[.int .i64 (up64 (n)), .int .u64 (lo64 (n))]] w fun e w' => e = .returned (.int .i64 (cmp3 n 0)) ∧ Below w.heap.size w w' := by
  have c := cmp_any n 0
  rw [show up64 0 = 0 from rfl, show lo64 0 = 0 from rfl] at c
  have C := Lib.hid c
  have HB := Lib.hid (show Below w.heap.size w (w.alloc (.cells #[.int .i64 (up64 n), .int .u64 (lo64 n)] 24)) from ((Below.refl _ _).alloc (Nat.le_refl _) _))
  clear c
  generalize up64 n = nh at *
  generalize lo64 n = nl at *
  go_enter Try.func23, Try.ntmps23
  go_wp2_with (go_at_call 25; refine (C.out _).mono ?_; rintro e w' ⟨rfl, hb⟩)
  go_ret
  exact ⟨rfl, HB.out.trans (hb.mono HB.out.size)⟩
end Go.Proofs.Ytiblbhppojfdaaa
