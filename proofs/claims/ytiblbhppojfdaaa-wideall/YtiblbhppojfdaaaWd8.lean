/-
  The walk of package wide's Sum.
-/
import Derived.Test.YtiblbhppojfdaaaWd4
namespace Go.Proofs.Ytiblbhppojfdaaa
open Go.RowKit

/-- A slice of Wides reads as these numbers. -/
def Wides (w : World) (A : Option Addr) (l : List Int) : Prop :=
  0 < l.length → ∃ b off, A = some ⟨b, off, none⟩ ∧ ∀ i, i < l.length → w.cell? ⟨b, off + i * 2, none⟩ = some (.int .i64 (up64 (l.getD i 0))) ∧ w.cell? ⟨b, off + i * 2 + 1, none⟩ = some (.int .u64 (lo64 (l.getD i 0)))
theorem Wides.below {w w' : World} {A : Option Addr} {l : List Int} (h : Wides w A l) (hb : Below w.heap.size w w') : Wides w' A l := by
  intro h0
  obtain ⟨b, off, e, hc⟩ := h h0
  refine ⟨b, off, e, fun i hi => ?_⟩
  rw [hb.cell (p := ⟨b, off + i * 2, none⟩) (block_lt (hc i hi).1), hb.cell (p := ⟨b, off + i * 2 + 1, none⟩) (block_lt (hc i hi).2)]
  exact hc i hi

theorem carry1 (S x : Int) : up64 (S + x) = up64 S + up64 x + up64 (lo64 S + lo64 x) := by unfold up64 lo64; omega
theorem carry2 (S x c : Int) : up64 (S + x + c) = up64 S + up64 x + up64 (lo64 S + lo64 x + c) := by unfold up64 lo64; omega
theorem lo_carry (S x c : Int) : lo64 (lo64 S + lo64 x + c) = lo64 (S + x + c) := by unfold lo64; omega
theorem ca_range (S x c : Int) (h0 : 0 ≤ c) (h1 : c ≤ 1) : 0 ≤ up64 (lo64 S + lo64 x + c) ∧ up64 (lo64 S + lo64 x + c) ≤ 1 := by unfold up64 lo64; omega
theorem sum_mid (S x : Int) : lo64 (lo64 (up64 S) + lo64 (up64 x) + up64 (lo64 S + lo64 x)) = lo64 (up64 (S + x)) := by rw [lo_carry, ← carry1]
theorem sum_top (S x : Int) : lo64 (lo64 (up64 (up64 S)) + lo64 (up64 (up64 x)) + up64 (lo64 (up64 S) + lo64 (up64 x) + up64 (lo64 S + lo64 x))) = lo64 (up64 (up64 (S + x))) := by
  rw [lo_carry, ← carry2, ← carry1]
theorem wtake_bound (l : List Int) (hl : ∀ x ∈ l, W128 x) (k : Nat) (hk : k ≤ l.length) : -(170141183460469231731687303715884105728 * (k : Int)) ≤ (l.take k).sum ∧ (l.take k).sum ≤ 170141183460469231731687303715884105728 * (k : Int) := by
  induction k with
  | zero => simp
  | succ k ih =>
    have h := ih (by omega)
    have hx := hl (l.getD k 0) (by rw [List.getD_eq_getElem?_getD, List.getElem?_eq_getElem (by omega)]; simp)
    unfold W128 at hx
    rw [take_sum l k (by omega)]
    omega
/-- What three words tell. -/
theorem three_words (S : Int) (h : -1569275433846670190958947355801916604025588861116008628224 ≤ S ∧ S ≤ 1569275433846670190958947355801916604025588861116008628224) : (wrap64 (lo64 (up64 (up64 S))) = up64 (wrap64 (lo64 (up64 S)))) ↔ W128 S := by
  unfold W128 wrap64 lo64 up64
  omega
theorem two_of_three {S : Int} (h : W128 S) : wrap64 (lo64 (up64 S)) = up64 S := by
  unfold W128 at h
  unfold wrap64 lo64 up64
  omega
theorem wrap_i64 (x : Int) : I64 (wrap64 x) := by unfold I64 wrap64; omega

set_option maxRecDepth 8000 in
set_option maxHeartbeats 1000000 in
theorem wsum_any (A : Option Addr) (l : List Int) (c : Nat) (w : World) (hr : Wides w A l) (hl : ∀ x ∈ l, W128 x) (hn : l.length ≤ 9223372036854775807) :
    Calls Try.prog 32 #[.slice A l.length c] w fun e w' => e = .returned (.tuple #[.agg #[.int .i64 (up64 (wheld l.sum)), .int .u64 (lo64 (wheld l.sum))], .bool (wfits l.sum)]) ∧ Below w.heap.size w w' := by
  have HR := Lib.hid hr
  have HL := Lib.hid hl
  clear hr hl
  go_enter Try.func32, Try.ntmps32
  go_wp2
  go_loopw [4, 5, 6, 13] (fun top hi lo i wr => ∃ k : Nat, k ≤ l.length ∧ i = .int .i64 k ∧ lo = .int .u64 (lo64 (l.take k).sum) ∧ hi = .int .u64 (lo64 (up64 (l.take k).sum)) ∧ top = .int .u64 (lo64 (up64 (up64 (l.take k).sum))) ∧ Hid (Box2 wr w.heap.size (.int .i64 0) (.int .u64 0)) ∧ Hid (Below w.heap.size w wr)) (fun _ _ _ i _ => l.length - (intOf i).toNat)
  case atStart => exact ⟨0, Nat.zero_le _, rfl, rfl, rfl, rfl, Lib.hid (Box2.new w _ _ _ _ rfl), Lib.hid ((Below.refl _ _).alloc (Nat.le_refl _) _)⟩
  case round =>
    obtain ⟨k, hk, rfl, rfl, rfl, rfl, HX, HB⟩ := hrel
    by_cases hlt : k < l.length
    · obtain ⟨b, off, rfl, hc⟩ := HR.out.below HB.out (by omega)
      obtain ⟨hcell, hcell2⟩ := hc k hlt
      have hx := HL.out (l.getD k 0) (by rw [List.getD_eq_getElem?_getD, List.getElem?_eq_getElem hlt]; simp)
      have HT := Lib.hid (take_sum l k hlt)
      generalize l.getD k 0 = x at *
      generalize hS : (l.take k).sum = s at *
      have H1 := Lib.hid (step_lo s x)
      have H2 := Lib.hid (sum_mid s x)
      have H3 := Lib.hid (sum_top s x)
      have i1 := up_i64 hx
      have CS := Lib.hid (signWord_any (up64 x) i1)
      have hca := step_ca s x
      have hcb := ca_range (up64 s) (up64 x) (up64 (lo64 s + lo64 x)) hca.1 hca.2
      have A1 := Lib.hid (bits_add64_0 (lo64 s) (lo64 x) (lo64_nn _) (lo64_nn _))
      have A2 := Lib.hid (bits_add64 (lo64 (up64 s)) (lo64 (up64 x)) (up64 (lo64 s + lo64 x)) (lo64_nn _) (lo64_nn _) hca.1 hca.2)
      have A3 := Lib.hid (bits_add64 (lo64 (up64 (up64 s))) (lo64 (up64 (up64 x))) (up64 (lo64 (up64 s) + lo64 (up64 x) + up64 (lo64 s + lo64 x))) (lo64_nn _) (lo64_nn _) hcb.1 hcb.2)
      rw [H1.out] at A1
      rw [H2.out] at A2
      rw [H3.out] at A3
      have u1 := wrapu (up64 x)
      have u2 := wrapu (up64 (up64 x))
      clear hc hx i1 hca hcb H1 H2 H3 hS
      generalize up64 (lo64 (up64 s) + lo64 (up64 x) + up64 (lo64 s + lo64 x)) = c2 at *
      generalize up64 (lo64 s + lo64 x) = c1 at *
      generalize lo64 (up64 x) = xhu at *
      generalize lo64 (up64 (up64 x)) = xtu at *
      generalize up64 (up64 x) = xt at *
      generalize up64 x = xh at *
      generalize lo64 x = xl at *
      have HX2 := Lib.hid (HX.out.alloc (.cells #[.int .i64 xh, .int .u64 xl] 24))
      have HB2 := Lib.hid (HB.out.alloc HB.out.size (.cells #[.int .i64 xh, .int .u64 xl] 24))
      go_wp2_with (first | (go_at_call 41; refine (CS.out _).mono ?_; rintro e w' ⟨rfl, rfl⟩) | simp only [A1.out, A2.out, A3.out])
      go_roundw
      case rel => exact ⟨k + 1, by omega, by go_num, by rw [HT.out], by rw [HT.out], by rw [HT.out], HX2, HB2⟩
      case measure => simp [intOf]; omega
    · obtain rfl : k = l.length := by omega
      have hb := wtake_bound l HL.out l.length (Nat.le_refl _)
      rw [List.take_length] at hb ⊢
      obtain ⟨s, hS⟩ : ∃ s, l.sum = s := ⟨_, rfl⟩
      rw [hS] at hb ⊢
      have h3 := three_words s (by omega)
      have hw := wrap_i64 (lo64 (up64 s))
      have CS := Lib.hid (signWord_any (wrap64 (lo64 (up64 s))) hw)
      have n1 := lo64_nn s
      have n2 := lo64_nn (up64 s)
      have n3 := lo64_le s
      have n4 := lo64_le (up64 s)
      have n5 := lo64_nn (up64 (up64 s))
      have n6 := lo64_le (up64 (up64 s))
      have z1 : up64 0 = 0 := rfl
      have z2 : lo64 0 = 0 := rfl
      by_cases h : W128 s
      · have e1 : (wrap64 (lo64 (up64 (up64 s))) != up64 (wrap64 (lo64 (up64 s)))) = false := by rw [h3.2 h]; simp
        have e2 := two_of_three h
        have F := Lib.hid (show Ending.returned (.tuple #[.agg #[.int .i64 (up64 (s)), .int .u64 (lo64 (s))], .bool true]) = .returned (.tuple #[.agg #[.int .i64 (up64 (wheld l.sum)), .int .u64 (lo64 (wheld l.sum))], .bool (wfits l.sum)]) from by rw [hS]; exact ret_wide (wheld_of h).symm (wfits_of h).symm)
        rw [e2] at CS e1
        generalize up64 (up64 s) = st at *
        generalize lo64 st = stl at *
        generalize lo64 (up64 s) = sm at *
        generalize up64 s = sh at *
        generalize lo64 s = sl at *
        have HX2 := Lib.hid (HX.out.alloc (.cells #[.int .i64 sh, .int .u64 sl] 24))
        have HB2 := Lib.hid (HB.out.alloc HB.out.size (.cells #[.int .i64 sh, .int .u64 sl] 24))
        obtain ⟨g0, g1, f0, f1⟩ := HX2.out
        clear h3 hw hb h hS
        go_wp2_with (first | (go_at_call 41; refine (CS.out _).mono ?_; rintro e w' ⟨rfl, rfl⟩))
        obtain ⟨p0, p1⟩ := HX2.out.put (.int .i64 sh) (.int .u64 sl)
        refine bodyPost_ret (v := .tuple #[.agg #[.int .i64 sh, .int .u64 sl], .bool true]) (by simp [results, Try.results32, go_sem, p0, p1]) rfl ⟨F.out, below_two HB2.out (by omega) _ _⟩
      · have e1 : (wrap64 (lo64 (up64 (up64 s))) != up64 (wrap64 (lo64 (up64 s)))) = true := by rw [bne_iff_ne]; exact fun e => h (h3.1 e)
        have F := Lib.hid (show Ending.returned (.tuple #[.agg #[.int .i64 (up64 (0)), .int .u64 (lo64 (0))], .bool false]) = .returned (.tuple #[.agg #[.int .i64 (up64 (wheld l.sum)), .int .u64 (lo64 (wheld l.sum))], .bool (wfits l.sum)]) from by rw [hS]; exact ret_wide (wheld_not h).symm (wfits_not h).symm)
        rw [z1, z2] at F
        generalize up64 (up64 s) = st at *
        generalize lo64 st = stl at *
        generalize lo64 (up64 s) = sm at *
        generalize lo64 s = sl at *
        have HX2 := Lib.hid (HX.out.alloc (.cells #[.int .i64 (wrap64 sm), .int .u64 sl] 24))
        have HB2 := Lib.hid (HB.out.alloc HB.out.size (.cells #[.int .i64 (wrap64 sm), .int .u64 sl] 24))
        obtain ⟨g0, g1, f0, f1⟩ := HX2.out
        clear h3 hw hb h hS
        go_wp2_with (first | (go_at_call 41; refine (CS.out _).mono ?_; rintro e w' ⟨rfl, rfl⟩))
        obtain ⟨p0, p1⟩ := HX2.out.put (.int .i64 0) (.int .u64 0)
        refine bodyPost_ret (v := .tuple #[.agg #[.int .i64 0, .int .u64 0], .bool false]) (by simp [results, Try.results32, go_sem, p0, p1]) rfl ⟨F.out, below_two HB2.out (by omega) _ _⟩
end Go.Proofs.Ytiblbhppojfdaaa
