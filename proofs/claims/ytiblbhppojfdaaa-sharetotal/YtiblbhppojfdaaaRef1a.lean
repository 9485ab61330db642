/-
  The walks of the reference's digits: trim, size, made, Whole, digit.
-/
import Derived.Test.YtiblbhppojfdaaaRows
import Derived.Test.YtiblbhppojfdaaaDig
import Derived.WalkKit
import Derived.WalkSpells
import Derived.WalkLawsBesides
import Derived.Lib.Hide
namespace Go.Proofs.Ytiblbhppojfdaaa
open Go.RowKit

theorem ret_slice {A : Option Addr} {n m : Nat} (h : n = m) : Ending.returned (.slice A n n) = .returned (.slice A m m) := by rw [h]

set_option maxRecDepth 8000 in
set_option maxHeartbeats 400000 in
theorem digit_any (A : Option Addr) (l : List Int) (c : Nat) (i : Int) (h0 : 0 ≤ i) (w : World) (hr : Ints w .u64 A l) (hn : l.length ≤ 9223372036854775807) :
    Calls Try.prog 42 #[.slice A l.length c, .int .i64 i] w fun e w' => e = .returned (.int .u64 (l.getD i.toNat 0)) ∧ w = w' := by
  obtain ⟨n, rfl⟩ := Int.eq_ofNat_of_zero_le h0
  rw [Int.toNat_natCast]
  by_cases hlt : n < l.length
  · obtain ⟨b, off, rfl, hc⟩ := hr (by omega)
    have hcell := hc n hlt
    generalize l.getD n 0 = x at *
    clear hc hr h0
    go_enter Try.func42, Try.ntmps42
    go_wp2
    go_ret
    exact ⟨rfl, rfl⟩
  · rw [List.getD_eq_getElem?_getD, List.getElem?_eq_none (by omega)]
    clear hr h0
    go_enter Try.func42, Try.ntmps42
    go_wp2
    go_ret
    exact ⟨rfl, rfl⟩

set_option maxRecDepth 8000 in
set_option maxHeartbeats 400000 in
theorem trim_any (A : Option Addr) (l : List Int) (c : Nat) (w : World) (hr : Ints w .u64 A l) (hlc : l.length ≤ c) (hn : c ≤ 9223372036854775807) :
    Calls Try.prog 61 #[.slice A l.length c] w fun e w' => e = .returned (.slice A (tl l l.length) (tl l l.length)) ∧ w = w' := by
  have HR := Lib.hid hr
  clear hr
  go_enter Try.func61, Try.ntmps61
  go_wp2
  go_loop [3] (fun n => ∃ k : Nat, k ≤ l.length ∧ n = .int .i64 k ∧ Hid (tl l k = tl l l.length)) (fun n => (intOf n).toNat)
  case atStart => exact ⟨l.length, Nat.le_refl _, rfl, Lib.hid rfl⟩
  case round =>
    obtain ⟨k, hk, rfl, HT⟩ := hrel
    by_cases hk0 : 0 < k
    · obtain ⟨m, rfl⟩ : ∃ m, k = m + 1 := ⟨k - 1, by omega⟩
      obtain ⟨b, off, rfl, hc⟩ := HR.out (by omega)
      have hcell := hc m (by omega)
      have ht := HT.out
      simp only [tl] at ht
      by_cases hz : l.getD m 0 = 0
      · rw [if_pos hz] at ht
        rw [hz] at hcell
        have HT2 := Lib.hid ht
        clear hc ht hz
        go_wp2
        go_round
        case rel => exact ⟨m, by omega, by go_num, HT2⟩
        case measure => simp [intOf]
      · rw [if_neg hz] at ht
        have hz' : (l.getD m 0 == 0) = false := beq_eq_false_iff_ne.2 hz
        generalize l.getD m 0 = x at *
        have HT2 := Lib.hid ht
        clear hc ht hz
        go_wp2
        go_ret
        exact ⟨ret_slice HT2.out, rfl⟩
    · obtain rfl : k = 0 := by omega
      go_wp2
      go_ret
      exact ⟨ret_slice HT.out, rfl⟩

theorem trimL_ints {w : World} {A : Option Addr} {l : List Int} (h : Ints w .u64 A l) : Ints w .u64 A (trimL l) := by
  intro h0
  have hle := tl_le l l.length
  rw [trimL_length] at h0
  obtain ⟨b, off, e, hc⟩ := h (by omega)
  refine ⟨b, off, e, fun i hi => ?_⟩
  rw [trimL_length] at hi
  rw [hc i (by omega), trimL, List.getD_eq_getElem?_getD, List.getD_eq_getElem?_getD, List.getElem?_take_of_lt hi]

/-- A slice of these digits comes back. -/
def SliceOf (w : World) (l : List Int) (e : Ending) (w' : World) : Prop :=
  ∃ A c, e = .returned (.slice A l.length c) ∧ l.length ≤ c ∧ c ≤ 9223372036854775807 ∧ Ints w' .u64 A l ∧ Below w.heap.size w w'
/-- A Big of the number x, of n digits at most. -/
def BigV (w : World) (v : Value) (x : Int) (n : Nat) : Prop :=
  ∃ neg A l c, v = .agg #[.bool neg, .slice A l.length c] ∧ l.length ≤ c ∧ c ≤ 9223372036854775807 ∧ Ints w .u64 A l ∧ Digs l ∧ Norm l ∧ l.length ≤ n ∧ (neg = true → l ≠ []) ∧ x = if neg then -dval l else dval l
/-- A Big of the number x comes back. -/
def BigR (w : World) (x : Int) (n : Nat) (e : Ending) (w' : World) : Prop :=
  ∃ v, e = .returned v ∧ BigV w' v x n ∧ Below w.heap.size w w'

theorem BigV.below {w w' : World} {v : Value} {x : Int} {n : Nat} (h : BigV w v x n) (hb : Below w.heap.size w w') : BigV w' v x n := by
  obtain ⟨neg, A, l, c, e, h1, h2, hi, h3⟩ := h
  exact ⟨neg, A, l, c, e, h1, h2, hi.below hb, h3⟩
theorem BigV.more {w : World} {v : Value} {x : Int} {n m : Nat} (h : BigV w v x n) (hm : n ≤ m) : BigV w v x m := by
  obtain ⟨neg, A, l, c, e, h1, h2, hi, h3, h4, h5, h6⟩ := h
  exact ⟨neg, A, l, c, e, h1, h2, hi, h3, h4, by omega, h6⟩

set_option maxRecDepth 8000 in
set_option maxHeartbeats 400000 in
theorem size_u64 (u : Int) (h0 : 0 ≤ u) (h1 : u < 18446744073709551616) (w : World) :
    Calls Try.prog 34 #[.int .u64 u] w (SliceOf w (trimL [u % 4294967296, u / 4294967296])) := by
  have hm := mask32i u h0 h1
  have hk : ∀ W, Ints W .u64 (some ⟨w.heap.size, 0, none⟩) [u % 4294967296, u / 4294967296] → Calls Try.prog 61 #[.slice (some ⟨w.heap.size, 0, none⟩) 2 2] W fun e w' => e = .returned (.slice (some ⟨w.heap.size, 0, none⟩) (tl [u % 4294967296, u / 4294967296] 2) (tl [u % 4294967296, u / 4294967296] 2)) ∧ W = w' :=
    fun W hW => trim_any _ [u % 4294967296, u / 4294967296] 2 W hW (by simp) (by simp)
  have HK := Lib.hid hk
  clear hk
  go_enter Try.func34, Try.ntmps34
  go_wp2_with (fail)
  have hI := ints_new w .u64 [u % 4294967296, u / 4294967296] 22 _ rfl _ rfl
  refine (HK.out _ hI).mono ?_
  rintro e w' ⟨rfl, rfl⟩
  have HI := Lib.hid hI
  clear hI
  go_wp2
  go_ret
  have hl := trimL_length [u % 4294967296, u / 4294967296]
  have hl2 := tl_le [u % 4294967296, u / 4294967296] 2
  refine ⟨some ⟨w.heap.size, 0, none⟩, (trimL [u % 4294967296, u / 4294967296]).length, ?_, Nat.le_refl _, ?_, trimL_ints HI.out, (Below.refl _ _).alloc (Nat.le_refl _) _⟩
  · rw [hl]; rfl
  · rw [hl]; exact Nat.le_trans hl2 (by omega)

set_option maxRecDepth 8000 in
set_option maxHeartbeats 400000 in
theorem made_any (neg : Bool) (A : Option Addr) (l : List Int) (c : Nat) (w : World) (hr : Ints w .u64 A l) (hd : Digs l) (hlc : l.length ≤ c) (hn : c ≤ 9223372036854775807) :
    Calls Try.prog 33 #[.bool neg, .slice A l.length c] w (BigR w (if neg then -dval l else dval l) l.length) := by
  have hb : Below w.heap.size w (w.alloc (.cells #[.bool false, .slice none 0 0] 28)) := (Below.refl _ _).alloc (Nat.le_refl _) _
  have C := Lib.hid (trim_any A l c _ (hr.below hb) hlc hn)
  have hl := tl_le l l.length
  have fin : ∀ w' v, v = .agg #[.bool (neg && decide (0 < tl l l.length)), .slice A (tl l l.length) (tl l l.length)] → Below w.heap.size w w' → BigR w (if neg then -dval l else dval l) l.length (.returned v) w' := by
    intro w' v hv hB
    refine ⟨v, rfl, ⟨neg && decide (0 < tl l l.length), A, trimL l, tl l l.length, ?_, ?_, by omega, trimL_ints (hr.below hB), digs_trim hd, trimL_norm l, ?_, ?_, ?_⟩, hB⟩
    · rw [hv, trimL_length]
    · rw [trimL_length]; exact Nat.le_refl _
    · rw [trimL_length]; exact hl
    · intro h
      simp at h
      intro e
      have := trimL_length l
      rw [e] at this
      simp at this
      omega
    · rw [dval_trim]
      by_cases h : 0 < tl l l.length
      · simp [h]
      · have e0 : trimL l = [] := List.eq_nil_of_length_eq_zero (by rw [trimL_length]; omega)
        have := dval_trim l
        rw [e0, dval_nil] at this
        rw [← this]
        simp
  have F := Lib.hid fin
  clear fin hr hd
  generalize tl l l.length = t at *
  have hB2 : ∀ o, Below w.heap.size w ((w.alloc (.cells o 28))) := fun o => (Below.refl _ _).alloc (Nat.le_refl _) _
  cases neg
  · go_enter Try.func33, Try.ntmps33
    go_wp2_with (go_at_call 61; refine C.out.mono ?_; rintro e w' ⟨rfl, rfl⟩)
    refine bodyPost_ret (v := .agg #[.bool false, .slice A t t]) (by simp [results, Try.results33, go_sem]) rfl (F.out _ _ (by simp) (hB2 _))
  · by_cases ht : 0 < t
    · have hd : decide ((0 : Int) < (t : Int)) = true := by simp; omega
      go_enter Try.func33, Try.ntmps33
      go_wp2_with (go_at_call 61; refine C.out.mono ?_; rintro e w' ⟨rfl, rfl⟩)
      refine bodyPost_ret (v := .agg #[.bool true, .slice A t t]) (by simp [results, Try.results33, go_sem]) rfl (F.out _ _ (by simp [ht]) (hB2 _))
    · obtain rfl : t = 0 := by omega
      go_enter Try.func33, Try.ntmps33
      go_wp2_with (go_at_call 61; refine C.out.mono ?_; rintro e w' ⟨rfl, rfl⟩)
      refine bodyPost_ret (v := .agg #[.bool false, .slice A 0 0]) (by simp [results, Try.results33, go_sem]) rfl (F.out _ _ (by simp) (hB2 _))

/-- A Big is a bool and a slice: what it reads as is one of the two fields. -/
theorem BigV.form {w : World} {v : Value} {x : Int} {n : Nat} (h : BigV w v x n) : ∃ neg A l c, v = .agg #[.bool neg, .slice A l c] := by
  obtain ⟨neg, A, l, c, e, _⟩ := h
  exact ⟨neg, A, l.length, c, e⟩

theorem BigV.setCell {w : World} {v : Value} {x : Int} {n : Nat} (h : BigV w v x n) {p : Addr} {u : Value} (hp : w.cell? p = some u) (hu : ∀ n, u ≠ .int .u64 n) (v' : Value) : BigV (w.setCell p v') v x n := by
  obtain ⟨neg, A, l, c, e, h1, h2, hi, h3⟩ := h
  exact ⟨neg, A, l, c, e, h1, h2, hi.setCell hp hu v', h3⟩

/-- A Big laid into its struct and handed back. -/
theorem big_out {w w2 : World} {b m : Nat} {neg f : Bool} {A A0 : Option Addr} {n c n0 c0 : Nat} {x : Int} (hw : Below w.heap.size w w2) (hb : w.heap.size ≤ b) (H : Box2 w2 b (.bool f) (.slice A0 n0 c0))
    (hV : BigV w2 (.agg #[.bool neg, .slice A n c]) x m) :
    BigR w x m (.returned (.agg #[.bool neg, .slice A n c])) ((w2.setCell ⟨b, 0, none⟩ (.bool neg)).setCell ⟨b, 1, none⟩ (.slice A n c)) := by
  obtain ⟨h1, h2, h3, h4⟩ := H
  have h2' : (w2.setCell ⟨b, 0, none⟩ (.bool neg)).cell? ⟨b, 1, none⟩ = some (.slice A0 n0 c0) := by
    rw [World.cell?_setCell_other _ _ _ _ (by simp)]; exact h2
  exact ⟨_, rfl, (hV.setCell h1 (fun _ e => by cases e) _).setCell h2' (fun _ e => by cases e) _, (hw.setCell hb _).setCell hb _⟩

theorem BigR.as {w w' : World} {x y : Int} {n m : Nat} {e : Ending} (h : BigR w x n e w') (hx : x = y) (hm : n ≤ m) : BigR w y m e w' := by
  subst hx
  obtain ⟨v, e1, hV, hb⟩ := h
  exact ⟨v, e1, hV.more hm, hb⟩

theorem size_val (u : Int) : dval [u % 4294967296, u / 4294967296] = u := by
  rw [dval_cons, dval_cons, dval_nil]; omega
theorem size_digs (u : Int) (h0 : 0 ≤ u) (h1 : u < 18446744073709551616) : Digs [u % 4294967296, u / 4294967296] :=
  digs_cons (by omega) (digs_cons (by omega) digs_nil)

set_option maxRecDepth 8000 in
set_option maxHeartbeats 400000 in
theorem whole_any (x : Int) (hx : I64 x) (w : World) :
    Calls Try.prog 20 #[.int .i64 x] w (BigR w x 2) := by
  unfold I64 at hx
  by_cases hneg : x < 0
  · have hu : IntKind.u64.wrap (-IntKind.u64.wrap x) = -x := by rw [IntKind.wrap_u64, IntKind.wrap_u64]; omega
    have hd := Lib.hid (digs_trim (size_digs (-x) (by omega) (by omega)))
    have hv := Lib.hid ((dval_trim _).trans (size_val (-x)))
    have C1 := Lib.hid (size_u64 (-x) (by omega) (by omega))
    have hle : (trimL [(-x) % 4294967296, (-x) / 4294967296]).length ≤ 2 := by rw [trimL_length]; exact tl_le _ _
    generalize trimL [(-x) % 4294967296, (-x) / 4294967296] = l at *
    go_enter Try.func20, Try.ntmps20
    go_wp2_with (fail)
    refine (C1.out _).mono ?_
    rintro e w1 ⟨A, c, rfl, hc1, hc2, hI, hb1⟩
    have H1 := (Box2.new w (.bool false) (.slice none 0 0) 28 _ rfl).below hb1
    have hB1 : Below w.heap.size w w1 := ((Below.refl _ _).alloc (Nat.le_refl _) _).trans (hb1.mono (by simp))
    have c2 := Lib.hid (made_any true A l c w1 hI hd.out hc1 hc2)
    have HH1 := Lib.hid H1
    have HB1 := Lib.hid hB1
    clear hI hb1 hB1 H1
    go_wp2_with (fail)
    refine c2.out.mono ?_
    rintro e w2 ⟨v, rfl, hV, hb2⟩
    obtain ⟨neg, A2, n2, c3, rfl⟩ := hV.form
    have H2 := HH1.out.below hb2
    have HV := Lib.hid hV
    have HH2 := Lib.hid H2
    have HB2 := Lib.hid (HB1.out.trans (hb2.mono HB1.out.size))
    obtain ⟨g0, g1, f0, f1⟩ := H2
    clear hV hb2
    go_wp2_with (fail)
    obtain ⟨p0, p1⟩ := HH2.out.put (.bool neg) (.slice A2 n2 c3)
    refine bodyPost_ret (v := .agg #[.bool neg, .slice A2 n2 c3]) (by simp [results, Try.results20, go_sem, p0, p1]) rfl ?_
    refine (big_out HB2.out (Nat.le_refl _) HH2.out HV.out).as ?_ hle
    have := hv.out
    simp
    omega
  · have hu : IntKind.u64.wrap x = x := by rw [IntKind.wrap_u64]; omega
    have hd := Lib.hid (digs_trim (size_digs (x) (by omega) (by omega)))
    have hv := Lib.hid ((dval_trim _).trans (size_val (x)))
    have C1 := Lib.hid (size_u64 (x) (by omega) (by omega))
    have hle : (trimL [(x) % 4294967296, (x) / 4294967296]).length ≤ 2 := by rw [trimL_length]; exact tl_le _ _
    generalize trimL [(x) % 4294967296, (x) / 4294967296] = l at *
    go_enter Try.func20, Try.ntmps20
    go_wp2_with (fail)
    refine (C1.out _).mono ?_
    rintro e w1 ⟨A, c, rfl, hc1, hc2, hI, hb1⟩
    have H1 := (Box2.new w (.bool false) (.slice none 0 0) 28 _ rfl).below hb1
    have hB1 : Below w.heap.size w w1 := ((Below.refl _ _).alloc (Nat.le_refl _) _).trans (hb1.mono (by simp))
    have c2 := Lib.hid (made_any false A l c w1 hI hd.out hc1 hc2)
    have HH1 := Lib.hid H1
    have HB1 := Lib.hid hB1
    clear hI hb1 hB1 H1
    go_wp2_with (fail)
    refine c2.out.mono ?_
    rintro e w2 ⟨v, rfl, hV, hb2⟩
    obtain ⟨neg, A2, n2, c3, rfl⟩ := hV.form
    have H2 := HH1.out.below hb2
    have HV := Lib.hid hV
    have HH2 := Lib.hid H2
    have HB2 := Lib.hid (HB1.out.trans (hb2.mono HB1.out.size))
    obtain ⟨g0, g1, f0, f1⟩ := H2
    clear hV hb2
    go_wp2_with (fail)
    obtain ⟨p0, p1⟩ := HH2.out.put (.bool neg) (.slice A2 n2 c3)
    refine bodyPost_ret (v := .agg #[.bool neg, .slice A2 n2 c3]) (by simp [results, Try.results20, go_sem, p0, p1]) rfl ?_
    refine (big_out HB2.out (Nat.le_refl _) HH2.out HV.out).as ?_ hle
    have := hv.out
    simp
    omega
end Go.Proofs.Ytiblbhppojfdaaa
