/-
  The walks of the reference's ToWide, and of the second layer's told.
-/
import Derived.Test.YtiblbhppojfdaaaOv2
import Derived.Test.YtiblbhppojfdaaaKnown2
namespace Go.Proofs.Ytiblbhppojfdaaa
open Go.RowKit

theorem BigV.opened {w : World} {nr : Bool} {R : Option Addr} {lr cr : Nat} {z : Int} {n : Nat} (h : BigV w (.agg #[.bool nr, .slice R lr cr]) z n) :
    ∃ l : List Int, lr = l.length ∧ Ints w .u64 R l ∧ Digs l ∧ Norm l ∧ l.length ≤ n ∧ (nr = true → l ≠ []) ∧ z = if nr then -dval l else dval l := by
  obtain ⟨neg, A, l, c, e, _, _, h3, h4, h5, h6, h7, h8⟩ := h
  simp only [Value.agg.injEq, Array.mk.injEq, List.cons.injEq, Value.bool.injEq, Value.slice.injEq, and_true] at e
  obtain ⟨rfl, rfl, rfl, rfl⟩ := e
  exact ⟨l, rfl, h3, h4, h5, h6, h7, h8⟩
/-- A number that a word can hold, by its two digits. -/
theorem big_word {l : List Int} {nr : Bool} {z : Int} (hd : Digs l) (hn : Norm l) (h7 : nr = true → l ≠ []) (hz : z = if nr then -dval l else dval l) (h0 : 0 ≤ z) (h1 : z < 18446744073709551616) :
    l.length ≤ 2 ∧ z = l.getD 0 0 + 4294967296 * l.getD 1 0 := by
  have hnn := dval_nn hd
  have hzz : z = dval l := by
    cases nr
    · simpa using hz
    · have hl : l ≠ [] := h7 rfl
      have := dval_pos hd hn (List.length_pos_iff.2 hl)
      simp at hz
      omega
  have hle : l.length ≤ 2 := by
    rcases Nat.lt_or_ge 2 l.length with h | h
    · have := dval_long h hd hn
      omega
    · exact h
  exact ⟨hle, by rw [hzz]; exact dval_two l hle⟩
theorem fits_up (x : Int) : fits (x / 18446744073709551616) = wfits x := by
  unfold fits wfits
  by_cases h : -170141183460469231731687303715884105728 ≤ x ∧ x ≤ 170141183460469231731687303715884105727
  · rw [decide_eq_true h]; exact decide_eq_true (by omega)
  · rw [decide_eq_false h]; exact decide_eq_false (by omega)

set_option maxRecDepth 100000 in
set_option maxHeartbeats 2000000 in
theorem towide_walk (va : Value) (x : Int) (n : Nat) (hn : n ≤ 1000) (w : World) (hx : BigV w va x n) :
    Calls Try.prog 43 #[va] w fun e w' => e = .returned (.tuple #[.agg #[.int .i64 (up64 (wheld x)), .int .u64 (lo64 (wheld x))], .bool (wfits x)]) ∧ Below w.heap.size w w' := by
  obtain ⟨na, A, la, ca, rfl⟩ := hx.form
  have CO : Hid (∀ W va vd, BigV W va x n → BigV W vd 18446744073709551616 3 → Calls Try.prog 63 #[va, vd] W fun e w' => ∃ (nq : Bool) (Q : Option Addr) (lq cq : Nat) (nr : Bool) (R : Option Addr) (lr cr : Nat), e = .returned (.tuple #[.agg #[.bool nq, .slice Q lq cq], .agg #[.bool nr, .slice R lr cr]]) ∧ BigV w' (.agg #[.bool nq, .slice Q lq cq]) (x / 18446744073709551616) (32 * n * 8 + 3 + 8) ∧ BigV w' (.agg #[.bool nr, .slice R lr cr]) (x % 18446744073709551616) (32 * n * 8 + 3 + 8) ∧ Below W.heap.size W w') := Lib.hid fun W va vd h1 h2 => over_told va vd x _ n 3 W h1 h2 (by omega) (by omega) (by omega)
  have CI : Hid (∀ W v, BigV W v (x / 18446744073709551616) (32 * n * 8 + 3 + 8) → Calls Try.prog 13 #[v] W fun e w' => e = .returned (.tuple #[.int .i64 (held (x / 18446744073709551616)), .bool (wfits x)]) ∧ Below W.heap.size W w') := Lib.hid fun W v h => by
    have := int_any v _ _ W h
    rw [fits_up] at this
    exact this
  have K0 : Hid (Kn w [(w.heap.size + 1, .int .i64 0, .int .u64 0), (w.heap.size, .bool na, .slice A la ca)] ((w.alloc (.cells #[.bool na, .slice A la ca] 28)).alloc (.cells #[.int .i64 0, .int .u64 0] 24))) := Lib.hid <| by
    have h : Kn w [] w := Below.refl _ _
    have := (h.push (.bool na) (.slice A la ca) 28).push (.int .i64 0) (.int .u64 0) 24
    simpa using this
  have HX0 := Lib.hid (hx.below K0.out.old)
  clear hx
  by_cases hw : W128 x
  · have hf : wfits x = true := wfits_of hw
    rw [hf] at CI
    rw [hf, wheld_of hw]
    have hq : held (x / 18446744073709551616) = up64 x := held_of (up_i64 hw)
    rw [hq] at CI
    have hlo : x % 18446744073709551616 = lo64 x := rfl
    rw [hlo] at CO
    have l1 := lo64_nn x
    have l2 := lo64_le x
    clear hf hq hlo hw
    generalize up64 x = xh at *
    generalize hxl : lo64 x = xl at *
    go_enter Try.func43, Try.ntmps43
    go_wp2_with (first
      | (go_at_call 33; refine (two64_told _ _ (by exact ints_new _ .u64 [0, 0, 1] _ _ rfl _ (by simp))).mono ?_; rintro e w2 ⟨ng2, A2, n2, c2, rfl, hV, hb⟩; have K2 := Lib.hid (((K0.out.alloc _).below hb).push (.bool ng2) (.slice A2 n2 c2) 28); have HX2 := Lib.hid (((HX0.out.below ((Below.refl _ _).alloc (Nat.le_refl _) _)).below hb).below ((Below.refl _ _).alloc (Nat.le_refl _) (.cells #[.bool ng2, .slice A2 n2 c2] 28))); have HV2 := Lib.hid (hV.below ((Below.refl _ _).alloc (Nat.le_refl _) (.cells #[.bool ng2, .slice A2 n2 c2] 28))); clear hV hb; obtain ⟨i0, i1, i2, i3⟩ := K2.out.2.2.1)
      | (go_at_call 63; refine (CO.out _ _ _ HX2.out HV2.out).mono ?_; rintro e w5 ⟨nq, Q, lq, cq, nr, R, lr, cr, rfl, hVq, hVr, hb⟩; have K5 := Lib.hid ((((K2.out.below hb).push (.bool nq) (.slice Q lq cq) 28).push (.bool nr) (.slice R lr cr) 28)); have HVq := Lib.hid (hVq.below (((Below.refl _ _).alloc (Nat.le_refl _) (.cells #[.bool nq, .slice Q lq cq] 28)).alloc (by simp) (.cells #[.bool nr, .slice R lr cr] 28))); have HVr := Lib.hid (hVr.below (((Below.refl _ _).alloc (Nat.le_refl _) (.cells #[.bool nq, .slice Q lq cq] 28)).alloc (by simp) (.cells #[.bool nr, .slice R lr cr] 28))); clear hVq hVr hb; obtain ⟨j0, j1, j2, j3⟩ := K5.out.2.1)
      | (go_at_call 13; refine (CI.out _ _ HVq.out).mono ?_; rintro e w6 ⟨rfl, hb⟩; have K6 := Lib.hid ((K5.out.below hb).drew); have HVr6 := Lib.hid ((HVr.out.below hb).below (Below.refl _ _).drew); clear hb))
    obtain ⟨wd, hwd⟩ : ∃ wd, wd = ({ w6 with drawn := w6.drawn + 1 } : World) := ⟨_, rfl⟩
    have K7 : Hid (Kn w [(w5.heap.size + 1, .bool nr, .slice R lr cr), (w5.heap.size, .bool nq, .slice Q lq cq), (w2.heap.size, .bool ng2, .slice A2 n2 c2), (w.heap.size + 1, .int .i64 0, .int .u64 0), (w.heap.size, .bool na, .slice A la ca)] wd) := Lib.hid (by rw [hwd]; have := K6.out; simpa using this)
    have HV7 : Hid (BigV wd (.agg #[.bool nr, .slice R lr cr]) xl (32 * n * 8 + 3 + 8)) := Lib.hid (by rw [hwd]; exact HVr6.out)
    obtain ⟨l, rfl, h3, h4, h5, h6, h7, h8⟩ := HV7.out.opened
    obtain ⟨hl2, hval⟩ := big_word h4 h5 h7 h8 l1 (by omega)
    have D0 : Hid (∀ c, Calls Try.prog 42 #[.slice R l.length c, .int .i64 0] wd fun e w' => e = .returned (.int .u64 (l.getD 0 0)) ∧ wd = w') := Lib.hid fun c => digit_any R l c 0 (by omega) wd h3 (by omega)
    have D1 : Hid (∀ c, Calls Try.prog 42 #[.slice R l.length c, .int .i64 1] wd fun e w' => e = .returned (.int .u64 (l.getD 1 0)) ∧ wd = w') := Lib.hid fun c => digit_any R l c 1 (by omega) wd h3 (by omega)
    have e1 := digs_getD h4 0
    have e2 := digs_getD h4 1
    generalize l.getD 0 0 = d0 at *
    generalize l.getD 1 0 = d1 at *
    have hor := or_add d0 d1 e1 e2
    rw [← hval] at hor
    obtain ⟨s1, s2, s3, s4⟩ := K7.out.1
    refine wp_region_loads (fun w' => w'.cell? ⟨w5.heap.size + 1, 1, none⟩ = some (.slice R l.length cr)) [0, 1, 2, 4, 5] [3, 6, 7, 8, 9] 10 (by kernel_rfl) [_, _, _, _, _] [_, _, _, _, _] rfl rfl (by kernel_rfl) (by rw [← hwd]; exact s2) ?_
    rw [← hwd]
    clear hwd K0 K2 K5 K6 HX0 HX2 HV2 HVq HVr HVr6 HV7 CO CI h3 h4 h5 h6 h7 h8 hval s1 s3 s4
    refine ⟨.int .i64 xh, .inl ⟨rfl, fun w' s0 => by go_simp⟩, ?_⟩
    refine ⟨.pointer (some ⟨w5.heap.size + 1, 1, none⟩), .inl ⟨rfl, fun w' s0 => by go_simp⟩, ?_⟩
    refine ⟨.slice R l.length cr, .inl ⟨rfl, fun w' s0 => by go_simp⟩, ?_⟩
    refine ⟨.pointer (some ⟨w5.heap.size + 1, 1, none⟩), .inl ⟨rfl, fun w' s0 => by go_simp⟩, ?_⟩
    refine ⟨.slice R l.length cr, .inl ⟨rfl, fun w' s0 => by go_simp⟩, ?_⟩
    simp only [wpLoads, wpCallsL]
    go_wp2_with (go_at_call 42; refine (D0.out _).mono ?_; rintro e w' ⟨rfl, rfl⟩)
    refine ⟨s2, ?_⟩
    dsimp only
    go_wp2_with (go_at_call 42; refine (D1.out _).mono ?_; rintro e w' ⟨rfl, rfl⟩)
    refine ⟨s2, ?_⟩
    dsimp only
    go_wp2
    refine ⟨s2, ?_⟩
    dsimp only
    go_wp2
    refine ⟨s2, ?_⟩
    dsimp only
    go_wp2
    refine ⟨s2, ?_⟩
    dsimp only
    obtain ⟨g0, g1, f0, f1⟩ := K7.out.2.2.2.1
    go_wp2
    refine NoPanic.normal ?_
    go_wp2
    obtain ⟨p0, p1⟩ := K7.out.2.2.2.1.put (.int .i64 xh) (.int .u64 xl)
    refine bodyPost_ret (v := .tuple #[.agg #[.int .i64 xh, .int .u64 xl], .bool true]) (by simp [results, Try.results43, go_sem, p0, p1]) rfl ⟨rfl, below_two K7.out.old (by omega) _ _⟩
  · have hf : wfits x = false := wfits_not hw
    rw [hf] at CI
    rw [hf, wheld_not hw, show up64 0 = 0 from rfl, show lo64 0 = 0 from rfl]
    generalize held (x / 18446744073709551616) = xh at *
    clear hf hw
    go_enter Try.func43, Try.ntmps43
    go_wp2_with (first
      | (go_at_call 33; refine (two64_told _ _ (by exact ints_new _ .u64 [0, 0, 1] _ _ rfl _ (by simp))).mono ?_; rintro e w2 ⟨ng2, A2, n2, c2, rfl, hV, hb⟩; have K2 := Lib.hid (((K0.out.alloc _).below hb).push (.bool ng2) (.slice A2 n2 c2) 28); have HX2 := Lib.hid (((HX0.out.below ((Below.refl _ _).alloc (Nat.le_refl _) _)).below hb).below ((Below.refl _ _).alloc (Nat.le_refl _) (.cells #[.bool ng2, .slice A2 n2 c2] 28))); have HV2 := Lib.hid (hV.below ((Below.refl _ _).alloc (Nat.le_refl _) (.cells #[.bool ng2, .slice A2 n2 c2] 28))); clear hV hb; obtain ⟨i0, i1, i2, i3⟩ := K2.out.2.2.1)
      | (go_at_call 63; refine (CO.out _ _ _ HX2.out HV2.out).mono ?_; rintro e w5 ⟨nq, Q, lq, cq, nr, R, lr, cr, rfl, hVq, hVr, hb⟩; have K5 := Lib.hid ((((K2.out.below hb).push (.bool nq) (.slice Q lq cq) 28).push (.bool nr) (.slice R lr cr) 28)); have HVq := Lib.hid (hVq.below (((Below.refl _ _).alloc (Nat.le_refl _) (.cells #[.bool nq, .slice Q lq cq] 28)).alloc (by simp) (.cells #[.bool nr, .slice R lr cr] 28))); have HVr := Lib.hid (hVr.below (((Below.refl _ _).alloc (Nat.le_refl _) (.cells #[.bool nq, .slice Q lq cq] 28)).alloc (by simp) (.cells #[.bool nr, .slice R lr cr] 28))); clear hVq hVr hb; obtain ⟨j0, j1, j2, j3⟩ := K5.out.2.1)
      | (go_at_call 13; refine (CI.out _ _ HVq.out).mono ?_; rintro e w6 ⟨rfl, hb⟩; have K6 := Lib.hid (K5.out.below hb); clear hb; obtain ⟨g0, g1, f0, f1⟩ := K6.out.2.2.2.1))
    obtain ⟨p0, p1⟩ := K6.out.2.2.2.1.put (.int .i64 0) (.int .u64 0)
    refine bodyPost_ret (v := .tuple #[.agg #[.int .i64 0, .int .u64 0], .bool false]) (by simp [results, Try.results43, go_sem, p0, p1]) rfl ⟨rfl, below_two K6.out.old (by omega) _ _⟩
end Go.Proofs.Ytiblbhppojfdaaa
