/-
  The walks of the library's Repeat, at one weight, and of package share's Even.
-/
import Derived.Test.YtiblbhppojfdaaaShE1
namespace Go.Proofs.Ytiblbhppojfdaaa
open Go.RowKit

set_option maxRecDepth 8000 in
set_option maxHeartbeats 1000000 in
theorem repeat_ones (A : Option Addr) (c n : Nat) (w : World) (hr : Ints w .i64 A [1]) (h1 : 1 ≤ n) (hn : n ≤ 1000000) :
    Calls Try.prog 66 #[.slice A 1 c, .int .i64 n] w fun e w' => e = .returned (.slice (some ⟨w.heap.size, 0, none⟩) n n) ∧ RowK w' .i64 w.heap.size (List.replicate n 1) ∧ Below w.heap.size w w' := by
  have C0 := bits_mul 1 n (by omega) (by omega)
  rw [show 1 * n / 18446744073709551616 = 0 from by omega, show 1 * n % 18446744073709551616 = n from by omega] at C0
  have C := Lib.hid C0
  have hmk := made_i64 n (by omega)
  have hR0 := RowK.new w .i64 n 2 w.heap.size rfl
  rw [onesTo_zero] at hR0
  have hB0 : Below w.heap.size w (w.alloc (.cells (madeCells #[.int .i64 0] n) 2)) := (Below.refl _ _).alloc (Nat.le_refl _) _
  obtain ⟨b, off, rfl, hc⟩ := hr.below hB0 (by simp)
  have hc0 := hc 0 (by simp)
  simp at hc0
  have hcp : ∀ ty, (Builtin.copy_ #[49, 49] ty #[.slice (some ⟨w.heap.size, 0, none⟩) n n, .slice (some ⟨b, off, none⟩) 1 c]).run Try.prog (w.alloc (.cells (madeCells #[.int .i64 0] n) 2)) = .ok (goInt 1) ((w.alloc (.cells (madeCells #[.int .i64 0] n) 2)).setCells w.heap.size 0 (List.replicate 1 (.int .i64 1))) := by
    intro ty
    have h := run_copy_cells (P := Try.prog) (w.alloc (.cells (madeCells #[.int .i64 0] n) 2)) 49 49 ty 2 w.heap.size 0 n n ⟨b, off, none⟩ 1 c (List.replicate 1 (.int .i64 1)) Try.underlying49 (by kernel_rfl) (by rw [List.length_replicate]; exact (Nat.min_eq_left h1).symm) ?_ ?_ ?_ ?_
    · exact h
    · intro j v hv
      match j with
      | 0 => simp at hv; subst hv; rw [Go.WideShapes.add_plain]; exact hc0
      | j + 1 => simp at hv
    · intro j hj
      simp at hj
      subst hj
      rw [(hR0 (0 + 0) (by rw [onesTo_length]; omega)).1]; rfl
    · intro j hj
      simp at hj
      subst hj
      exact (hR0 (0 + 0) (by rw [onesTo_length]; omega)).2
    · intro v hv
      rw [(List.mem_replicate.1 hv).2]; rfl
  obtain ⟨hR1, hB1⟩ := ones_put w.heap.size n w.heap.size (Nat.le_refl _) w 1 0 _ (by omega) hR0 hB0
  have HR1 := Lib.hid hR1
  have HB1 := Lib.hid hB1
  clear hR1 hB1 hR0 hB0 hc hc0 hr C0
  generalize ((w.alloc (.cells (madeCells #[.int .i64 0] n) 2)).setCells w.heap.size 0 (List.replicate 1 (.int .i64 1))) = w1 at *
  go_enter Try.func66, Try.ntmps66
  go_wp2_with (go_at_call 77; refine (C.out _).mono ?_; rintro e w' ⟨rfl, rfl⟩)
  go_loopw [8] (fun i wr => ∃ m : Nat, 1 ≤ m ∧ m ≤ n ∧ i = .int .i64 m ∧ Hid (RowK wr .i64 w.heap.size (onesTo n m)) ∧ Hid (Below w.heap.size w wr)) (fun i _ => n - (intOf i).toNat)
  case atStart => exact ⟨1, by omega, h1, rfl, HR1, HB1⟩
  case round =>
    obtain ⟨m, hm1, hm2, rfl, HR, HB⟩ := hrel
    by_cases hlt : m < n
    · have hcp2 := fun ty => ones_copy w.heap.size n m hlt wr.drew HR.out.drew ty
      have hk1 : 1 ≤ Nat.min m (n - m) := Nat.le_min.2 ⟨hm1, by omega⟩
      have hk2 : m + Nat.min m (n - m) ≤ n := by have : Nat.min m (n - m) ≤ n - m := Nat.min_le_right m (n - m); omega
      generalize Nat.min m (n - m) = k at *
      obtain ⟨hR2, hB2⟩ := ones_put w.heap.size n w.heap.size (Nat.le_refl _) w k m wr.drew hk2 HR.out.drew HB.out.drew
      have HR2 := Lib.hid hR2
      have HB2 := Lib.hid hB2
      clear hR2 hB2 hcp hmk
      generalize wr.drew.setCells w.heap.size m (List.replicate k (.int .i64 1)) = w2 at *
      have e1 : ((n : Int) - (m : Int)).toNat = n - m := by omega
      go_wp2
      go_region
      go_wp2
      go_roundw
      case rel => exact ⟨m + k, by omega, hk2, by go_num, HR2, HB2⟩
      case measure => simp [intOf]; omega
    · obtain rfl : m = n := by omega
      rw [onesTo_all] at HR
      go_wp2
      go_ret
      exact ⟨rfl, HR.out, HB.out⟩

/-- The code of Even, and what it hands back. -/
def evenC (t : Int) (n : Int) : Int := if n < 1 ∨ 64 < n then 1 else splitC t (List.replicate n.toNat 1)
def evenV (t : Int) (n : Int) : List Int := if n < 1 ∨ 64 < n then [] else splitV t (List.replicate n.toNat 1)

set_option maxRecDepth 8000 in
set_option maxHeartbeats 1000000 in
theorem even_any (t : Int) (n : Int) (ht : I64 t) (w : World) :
    Calls Try.prog 50 #[.int .i64 t, .int .i64 n] w (SliceC w (evenV t n) (evenC t n)) := by
  unfold evenV evenC
  by_cases h1 : n < 1
  · rw [if_pos (.inl h1), if_pos (.inl h1)]
    have F := Lib.hid (sliceC_nil w w 1 (Below.refl _ _))
    have d1 : decide (n < 1) = true := decide_eq_true h1
    clear h1
    go_enter Try.func50, Try.ntmps50
    go_wp2
    go_ret2
    exact F.out
  · by_cases h2 : 64 < n
    · rw [if_pos (.inr h2), if_pos (.inr h2)]
      have F := Lib.hid (sliceC_nil w w 1 (Below.refl _ _))
      have d1 : decide (n < 1) = false := decide_eq_false h1
      have d2 : decide (64 < n) = true := decide_eq_true h2
      clear h1 h2
      go_enter Try.func50, Try.ntmps50
      go_wp2
      go_ret2
      exact F.out
    · rw [if_neg (by omega), if_neg (by omega)]
      obtain ⟨m, rfl⟩ := Int.eq_ofNat_of_zero_le (show 0 ≤ n by omega)
      rw [Int.toNat_natCast]
      have d1 : decide ((m : Int) < 1) = false := decide_eq_false h1
      have d2 : decide (64 < (m : Int)) = false := decide_eq_false h2
      have hB0 := Lib.hid (show Below w.heap.size w (w.alloc (.cells #[.int .i64 1] 2)) from (Below.refl _ _).alloc (Nat.le_refl _) _)
      have C1 := Lib.hid (repeat_ones (some ⟨w.heap.size, 0, none⟩) 1 m (w.alloc (.cells #[.int .i64 1] 2)) (ints_new w .i64 [1] _ _ rfl _ rfl) (by omega) (by omega))
      rw [show (w.alloc (.cells #[.int .i64 1] 2)).heap.size = w.heap.size + 1 from by simp] at C1
      have C2 : Hid (∀ g W, RowK W .i64 g (List.replicate m 1) → Calls Try.prog 30 #[.int .i64 t, .slice (some ⟨g, 0, none⟩) m m] W (SliceC W (splitV t (List.replicate m 1)) (splitC t (List.replicate m 1)))) := Lib.hid fun g W hW => by
        have h := split_any t (some ⟨g, 0, none⟩) (List.replicate m 1) m W ht hW.ints (fun x hx => by have := (List.mem_replicate.1 hx).2; unfold I64; omega) (by rw [List.length_replicate]; omega)
        rw [List.length_replicate] at h
        exact h
      generalize splitV t (List.replicate m 1) = v at *
      generalize splitC t (List.replicate m 1) = cd at *
      clear h1 h2 ht
      go_enter Try.func50, Try.ntmps50
      go_wp2_with (first
        | (go_at_call 66; refine C1.out.mono ?_; rintro e w1 ⟨rfl, hR, hb⟩; have HR := Lib.hid hR; have HB1 := Lib.hid (hB0.out.trans (hb.mono (by simp))); clear hR hb)
        | (go_at_call 30; refine (C2.out _ _ HR.out).mono ?_; rintro e w2 ⟨A, c, rfl, hI, hc1, hc2, hf, hb⟩; have HI := Lib.hid hI; have HB2 := Lib.hid (HB1.out.trans (hb.mono HB1.out.size)); have HF := Lib.hid (fun b o s e => Nat.le_trans HB1.out.size (hf b o s e)); clear hI hb hf))
      go_ret2
      exact ⟨A, c, rfl, HI.out, hc1, hc2, HF.out, HB2.out⟩
end Go.Proofs.Ytiblbhppojfdaaa
