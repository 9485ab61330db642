/-
  The walks of package share's openWeights, and of Capped of what may not be.
-/
import Derived.Test.YtiblbhppojfdaaaShCp
import Derived.Test.YtiblbhppojfdaaaShS2
import Derived.BigQuiet
import Derived.WalkMore
namespace Go.Proofs.Ytiblbhppojfdaaa
open Go.RowKit

set_option maxRecDepth 8000 in
set_option maxHeartbeats 1000000 in
theorem open_any (A B C : Option Addr) (x s c : List Int) (c1 c2 c3 : Nat) (w : World) (ha : Ints w .i64 A x) (hb : Ints w .i64 B s) (hc : Ints w .i64 C c) (h1 : s.length = x.length) (h2 : c.length = x.length) (hn : x.length ≤ 1000000) :
    Calls Try.prog 68 #[.slice A x.length c1, .slice B x.length c2, .slice C x.length c3] w fun e w' => e = .returned (.slice (some ⟨w.heap.size, 0, none⟩) x.length x.length) ∧ RowK w' .i64 w.heap.size (openL x s c) ∧ Below w.heap.size w w' := by
  have hmk := made_i64 x.length (by omega)
  have hR0 := RowK.new w .i64 x.length 2 w.heap.size rfl
  rw [fillTo_zero (openL x s c) x.length (openL_length x s c)] at hR0
  have HR0 := Lib.hid hR0
  have HB0 := Lib.hid (show Below w.heap.size w (w.alloc (.cells (madeCells #[.int .i64 0] x.length) 2)) from (Below.refl _ _).alloc (Nat.le_refl _) _)
  have HA := Lib.hid ha
  have HB := Lib.hid hb
  have HC := Lib.hid hc
  clear ha hb hc hR0
  go_enter Try.func68, Try.ntmps68
  go_wp2
  go_loopw [15] (fun i wr => ∃ k : Nat, k ≤ x.length ∧ i = .int .i64 k ∧ Hid (RowK wr .i64 w.heap.size (fillTo (openL x s c) k)) ∧ Hid (Below w.heap.size w wr)) (fun i _ => x.length - (intOf i).toNat)
  case atStart => exact ⟨0, Nat.zero_le _, rfl, HR0, HB0⟩
  case round =>
    obtain ⟨k, hk, rfl, HR, HW⟩ := hrel
    by_cases hlt : k < x.length
    · obtain ⟨ab, ao, rfl, hca⟩ := HA.out.below HW.out (by omega)
      obtain ⟨bb, bo, rfl, hcb⟩ := HB.out.below HW.out (by omega)
      obtain ⟨cb, co, rfl, hcc⟩ := HC.out.below HW.out (by omega)
      have q1 := hca k hlt
      have q2 := hcb k (by omega)
      have q3 := hcc k (by omega)
      have hkl : k < (openL x s c).length := by rw [openL_length]; exact hlt
      have eo := openL_getD x s c k hlt
      clear hca hcb hcc hmk HR0 HB0
      by_cases hx : s.getD k 0 < c.getD k 0
      · rw [if_pos hx] at eo
        have hst := fillTo_step (openL x s c) k hkl
        rw [eo] at hst
        generalize x.getD k 0 = xk at *
        generalize s.getD k 0 = sk at *
        generalize c.getD k 0 = ck at *
        have d1 : decide (sk < ck) = true := decide_eq_true hx
        clear hx
        go_wp2
        go_quiet (fail)
        have hB2 := below_drewN (Below.refl wr.heap.size wr) nq
        have HR2 := HR.out.below hB2
        have HW2 := HW.out.trans (hB2.mono HW.out.size)
        clear HR HW hB2 q1 q2 q3
        generalize wr.drewN nq = wq at *
        obtain ⟨r1, r2⟩ := HR2 k (by rw [fillTo_length]; exact hkl)
        generalize (fillTo (openL x s c) k).getD k 0 = z at *
        have hR3 := HR2.set k (by rw [fillTo_length]; exact hkl) xk
        rw [hst] at hR3
        have HR3 := Lib.hid hR3
        have HW3 := Lib.hid (HW2.setCell (p := ⟨w.heap.size, k, none⟩) (Nat.le_refl _) (.int .i64 xk))
        clear hR3 HR2 HW2 hst
        go_wp2
        go_roundw
        case rel => exact ⟨k + 1, by omega, by go_num, HR3, HW3⟩
        case measure => simp [intOf]; omega
      · rw [if_neg hx] at eo
        have hst := fillTo_skip (openL x s c) k eo
        generalize x.getD k 0 = xk at *
        generalize s.getD k 0 = sk at *
        generalize c.getD k 0 = ck at *
        have d1 : decide (sk < ck) = false := decide_eq_false hx
        rw [hst] at HR
        clear hx hst
        go_wp2
        go_quiet (fail)
        go_wp2
        go_roundw
        case rel => exact ⟨k + 1, by omega, by go_num, Lib.hid (HR.out.below (below_drewN (Below.refl _ _) _)), Lib.hid (below_drewN HW.out _)⟩
        case measure => simp [intOf]; omega
    · obtain rfl : k = x.length := by omega
      rw [fillTo_all _ _ (openL_length x s c).symm] at HR
      go_wp2
      go_ret
      exact ⟨rfl, HR.out, HW.out⟩

/-- A slice of numbers that is new, a number, and a code. -/
def SliceFC (w : World) (l : List Int) (f code : Int) (e : Ending) (w' : World) : Prop :=
  ∃ (A : Option Addr) (c : Nat), e = .returned (.tuple #[.slice A l.length c, .int .i64 f, .int .i64 code]) ∧ Ints w' .i64 A l ∧ l.length ≤ c ∧ c ≤ 9223372036854775807 ∧ (∀ b o s, A = some ⟨b, o, s⟩ → w.heap.size ≤ b) ∧ Below w.heap.size w w'
theorem sliceFC_nil (w w' : World) (code : Int) (hb : Below w.heap.size w w') : SliceFC w [] 0 code (.returned (.tuple #[.slice none 0 0, .int .i64 0, .int .i64 code])) w' :=
  ⟨none, 0, rfl, fun h => absurd h (by simp), by simp, by omega, (fun _ _ _ e => by cases e), hb⟩

/-- What may be cut up to caps. -/
def MayC (t : Int) (l c : List Int) : Prop := 0 ≤ t ∧ areW l = true ∧ c.length = l.length ∧ anyNeg c = false

set_option maxRecDepth 8000 in
set_option maxHeartbeats 1000000 in
theorem capped_form (t : Int) (A B : Option Addr) (l c : List Int) (c1 c2 : Nat) (w : World) (hr : Ints w .i64 A l) (hq : Ints w .i64 B c) (hn : l.length ≤ 9223372036854775807) (hn2 : c.length ≤ 9223372036854775807) (h : ¬ MayC t l c) :
    Calls Try.prog 51 #[.int .i64 t, .slice A l.length c1, .slice B c.length c2] w (SliceFC w [] 0 1) := by
  have C1 := Lib.hid (areW_any A l c1 w hr hn)
  have C2 := Lib.hid (anyNeg_any B c c2 w hq hn2)
  have F := Lib.hid (sliceFC_nil w w 1 (Below.refl _ _))
  clear hr hq
  by_cases ht : t < 0
  · have d1 : decide (t < 0) = true := decide_eq_true ht
    clear h ht C1 C2
    go_enter Try.func51, Try.ntmps51
    go_wp2
    go_step3
    go_wp2
    rw [Exit.noGoto_ret]
    go_ret3
    exact F.out
  · have d1 : decide (t < 0) = false := decide_eq_false ht
    cases ha : areW l
    · rw [ha] at C1
      clear h ha C2 ht
      go_enter Try.func51, Try.ntmps51
      go_wp2
      go_step3
      go_wp2_with (go_at_call 55; refine C1.out.mono ?_; rintro e w' ⟨rfl, rfl⟩)
      rw [Exit.noGoto_ret]
      go_ret3
      exact F.out
    · rw [ha] at C1
      by_cases hl : c.length = l.length
      · have hc : anyNeg c = true := by
          cases hc : anyNeg c
          · exact absurd ⟨by omega, ha, hl, hc⟩ h
          · rfl
        rw [hc] at C2
        have d2 : (((c.length : Nat) : Int) != ((l.length : Nat) : Int)) = false := by rw [hl]; simp
        rw [hl] at C2 d2 ⊢
        clear h ha ht hc hl
        go_enter Try.func51, Try.ntmps51
        go_wp2
        go_step3
        go_wp2_with (first
          | (go_at_call 55; refine C1.out.mono ?_; rintro e w' ⟨rfl, rfl⟩)
          | (go_at_call 67; refine C2.out.mono ?_; rintro e w' ⟨rfl, rfl⟩))
        rw [Exit.noGoto_ret]
        go_ret3
        exact F.out
      · have d2 : (((c.length : Nat) : Int) != ((l.length : Nat) : Int)) = true := by rw [bne_iff_ne]; omega
        clear h ha ht C2
        go_enter Try.func51, Try.ntmps51
        go_wp2
        go_step3
        go_wp2_with (go_at_call 55; refine C1.out.mono ?_; rintro e w' ⟨rfl, rfl⟩)
        rw [Exit.noGoto_ret]
        go_ret3
        exact F.out

set_option maxRecDepth 8000 in
set_option maxHeartbeats 1000000 in
theorem capped_over (t : Int) (A B : Option Addr) (l c : List Int) (c1 c2 : Nat) (w : World) (hr : Ints w .i64 A l) (hq : Ints w .i64 B c) (hx : ∀ x ∈ l, I64 x) (hn : l.length ≤ 9223372036854775807) (h : MayC t l c) (hs : fits l.sum = false) :
    Calls Try.prog 51 #[.int .i64 t, .slice A l.length c1, .slice B c.length c2] w (SliceFC w [] 0 2) := by
  obtain ⟨h0, h1, h2, h3⟩ := h
  have C1 := Lib.hid (areW_any A l c1 w hr hn)
  have C2 := Lib.hid (anyNeg_any B c c2 w hq (by omega))
  have C3 := Lib.hid (asum_any A l c1 w hr hx hn)
  have F := Lib.hid (sliceFC_nil w w 2 (Below.refl _ _))
  rw [h1] at C1
  rw [h3] at C2
  rw [hs] at C3
  have d1 : decide (t < 0) = false := decide_eq_false (by omega)
  rw [h2] at C2 ⊢
  generalize held l.sum = sm at *
  clear hr hq hx h0 h1 h2 h3 hs
  go_enter Try.func51, Try.ntmps51
  go_wp2
  go_step3
  go_wp2_with (first
    | (go_at_call 55; refine C1.out.mono ?_; rintro e w' ⟨rfl, rfl⟩)
    | (go_at_call 67; refine C2.out.mono ?_; rintro e w' ⟨rfl, rfl⟩)
    | (go_at_call 57; refine C3.out.mono ?_; rintro e w' ⟨rfl, rfl⟩))
  rw [Exit.noGoto_ret]
  go_ret3
  exact F.out
end Go.Proofs.Ytiblbhppojfdaaa
