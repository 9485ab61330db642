/-
  The walks of the reference's opposite, difference, and of what an int64 can hold.
-/
import Derived.Test.YtiblbhppojfdaaaRef1d
import Derived.Deep.DeepFit
namespace Go.Proofs.Ytiblbhppojfdaaa
open Go.RowKit

theorem digit_lit (A : Option Addr) (l : List Int) (c k : Nat) (i : Int) (hi : i = (k : Int)) (w : World) (hr : Ints w .u64 A l) (hn : l.length ≤ 9223372036854775807) (n : Nat) :
    Calls Try.prog 42 #[.slice A l.length c, .int .i64 i] (w.drewN n) fun e w' => e = .returned (.int .u64 (l.getD k 0)) ∧ w' = w.drewN n := by
  rw [hi]; exact digit_quiet A l c k w hr hn n

set_option maxRecDepth 8000 in
set_option maxHeartbeats 200000 in
theorem turned_any (va : Value) (x : Int) (n : Nat) (w : World) (hx : BigV w va x n) :
    Calls Try.prog 17 #[va] w (BigR w (-x) n) := by
  obtain ⟨na, A, a, c1, rfl, a1, a2, a3, a4, a5, a6, a7, rfl⟩ := hx
  cases na
  · have hb : Below w.heap.size w ((w.alloc (.cells #[.bool false, .slice A a.length c1] 28)).alloc (.cells #[.bool false, .slice none 0 0] 28)) := ((Below.refl _ _).alloc (Nat.le_refl _) _).alloc (by simp) _
    have H0 := Box2.new (w.alloc (.cells #[.bool false, .slice A a.length c1] 28)) (.bool false) (.slice none 0 0) 28 (w.heap.size + 1) (by simp)
    have C := Lib.hid (made_any (!false) A a c1 _ (a3.below hb) a4 a1 a2)
    have HB := Lib.hid hb
    have HH := Lib.hid H0
    clear hb H0 a3 a7
    go_enter Try.func17, Try.ntmps17
    go_wp2_with (fail)
    refine C.out.mono ?_
    rintro e w2 ⟨v, rfl, hV, hb2⟩
    obtain ⟨neg, A2, n2, c3, rfl⟩ := hV.form
    have H2 := HH.out.below hb2
    have HV := Lib.hid hV
    have HH2 := Lib.hid H2
    have HB2 := Lib.hid (HB.out.trans (hb2.mono HB.out.size))
    obtain ⟨g0, g1, f0, f1⟩ := H2
    clear hV hb2
    go_wp2_with (fail)
    obtain ⟨p0, p1⟩ := HH2.out.put (.bool neg) (.slice A2 n2 c3)
    refine bodyPost_ret (v := .agg #[.bool neg, .slice A2 n2 c3]) (by simp [results, Try.results17, go_sem, p0, p1]) rfl ?_
    exact (big_out HB2.out (by omega) HH2.out HV.out).as (by simp) a6
  · have hb : Below w.heap.size w ((w.alloc (.cells #[.bool true, .slice A a.length c1] 28)).alloc (.cells #[.bool false, .slice none 0 0] 28)) := ((Below.refl _ _).alloc (Nat.le_refl _) _).alloc (by simp) _
    have H0 := Box2.new (w.alloc (.cells #[.bool true, .slice A a.length c1] 28)) (.bool false) (.slice none 0 0) 28 (w.heap.size + 1) (by simp)
    have C := Lib.hid (made_any (!true) A a c1 _ (a3.below hb) a4 a1 a2)
    have HB := Lib.hid hb
    have HH := Lib.hid H0
    clear hb H0 a3 a7
    go_enter Try.func17, Try.ntmps17
    go_wp2_with (fail)
    refine C.out.mono ?_
    rintro e w2 ⟨v, rfl, hV, hb2⟩
    obtain ⟨neg, A2, n2, c3, rfl⟩ := hV.form
    have H2 := HH.out.below hb2
    have HV := Lib.hid hV
    have HH2 := Lib.hid H2
    have HB2 := Lib.hid (HB.out.trans (hb2.mono HB.out.size))
    obtain ⟨g0, g1, f0, f1⟩ := H2
    clear hV hb2
    go_wp2_with (fail)
    obtain ⟨p0, p1⟩ := HH2.out.put (.bool neg) (.slice A2 n2 c3)
    refine bodyPost_ret (v := .agg #[.bool neg, .slice A2 n2 c3]) (by simp [results, Try.results17, go_sem, p0, p1]) rfl ?_
    exact (big_out HB2.out (by omega) HH2.out HV.out).as (by simp) a6

set_option maxRecDepth 8000 in
set_option maxHeartbeats 1000000 in
theorem less_any (va vb : Value) (x y : Int) (n : Nat) (w : World) (hx : BigV w va x n) (hy : BigV w vb y n) (hn : n ≤ 100000000000) :
    Calls Try.prog 16 #[va, vb] w (BigR w (x - y) (n + 1)) := by
  obtain ⟨na, A, la, c1, rfl⟩ := hx.form
  obtain ⟨nb, B, lb, c2, rfl⟩ := hy.form
  have CT : Hid (∀ W, Two w na A la c1 nb B lb c2 W → Calls Try.prog 17 #[.agg #[.bool nb, .slice B lb c2]] W fun e w1 => ∃ (neg : Bool) (A2 : Option Addr) (n2 c3 : Nat), e = .returned (.agg #[.bool neg, .slice A2 n2 c3]) ∧ BigV w1 (.agg #[.bool neg, .slice A2 n2 c3]) (-y) n ∧ Two w na A la c1 nb B lb c2 w1) := Lib.hid fun W hW => by
    refine (turned_any _ y n W (hy.below hW.old)).mono ?_
    rintro e w1 ⟨v, rfl, hV, hb⟩
    obtain ⟨neg, A2, n2, c3, rfl⟩ := hV.form
    exact ⟨neg, A2, n2, c3, rfl, hV, hW.below hb⟩
  have CP : Hid (∀ W (neg : Bool) (A2 : Option Addr) (n2 c3 : Nat), BigV W (.agg #[.bool neg, .slice A2 n2 c3]) (-y) n → Two w na A la c1 nb B lb c2 W → Calls Try.prog 15 #[.agg #[.bool na, .slice A la c1], .agg #[.bool neg, .slice A2 n2 c3]] W fun e w1 => ∃ (neg : Bool) (A2 : Option Addr) (n2 c3 : Nat), e = .returned (.agg #[.bool neg, .slice A2 n2 c3]) ∧ BigV w1 (.agg #[.bool neg, .slice A2 n2 c3]) (x + -y) (n + 1) ∧ Two w na A la c1 nb B lb c2 w1) := Lib.hid fun W neg A2 n2 c3 hV hW => by
    refine (plus_any _ _ x (-y) n W (hx.below hW.old) hV hn).mono ?_
    rintro e w1 ⟨v, rfl, hV, hb⟩
    obtain ⟨neg, A2, n2, c3, rfl⟩ := hV.form
    exact ⟨neg, A2, n2, c3, rfl, hV, hW.below hb⟩
  have HT := Lib.hid (Two.new w na A la c1 nb B lb c2 28).drew
  clear hx hy
  go_enter Try.func16, Try.ntmps16
  go_wp2
  go_region_held3 (fun w' => w'.cell? ⟨w.heap.size, 0, none⟩ = some (.bool na) ∧ w'.cell? ⟨w.heap.size, 1, none⟩ = some (.slice A la c1) ∧ w'.cell? ⟨w.heap.size + 1, 0, none⟩ = some (.bool nb) ∧ w'.cell? ⟨w.heap.size + 1, 1, none⟩ = some (.slice B lb c2))
    (first | exact HT.out.four | exact HS1.out.four | exact HS2.out.four | exact HS2.out.stored _ _)
    (first
      | (go_at_call 17; refine (CT.out _ HT.out).mono ?_; rintro e w1 ⟨ng, A1, n1, c4, rfl, hV1, hS1⟩; have HS1 := Lib.hid hS1; have HV1 := Lib.hid hV1; clear hS1 hV1)
      | (go_at_call 15; refine (CP.out _ _ _ _ _ HV1.out HS1.out).mono ?_; rintro e w2 ⟨neg, A2, n2, c3, rfl, hV, hS2⟩; have HS2 := Lib.hid hS2; have HV := Lib.hid hV; obtain ⟨g0, g1, f0, f1⟩ := hS2.box; clear hS2 hV))
  go_wp2_with fail
  obtain ⟨p0, p1⟩ := HS2.out.box.put (.bool neg) (.slice A2 n2 c3)
  refine bodyPost_ret (v := .agg #[.bool neg, .slice A2 n2 c3]) (by simp [results, Try.results16, go_sem, p0, p1]) rfl ?_
  exact (big_out HS2.out.old (by omega) HS2.out.box HV.out).as (by omega) (Nat.le_refl _)

theorem or_add (x y : Int) (hx : 0 ≤ x ∧ x < 4294967296) (hy : 0 ≤ y ∧ y < 4294967296) : bits .or .u64 x (y * 4294967296) = x + 4294967296 * y := by
  obtain ⟨a, rfl⟩ := Int.eq_ofNat_of_zero_le hx.1
  obtain ⟨b, rfl⟩ := Int.eq_ofNat_of_zero_le hy.1
  have h := bits_or_u64_nat a (b * 4294967296) (by omega) (by omega)
  have e : a ||| b * 4294967296 = b * 4294967296 + a := by
    rw [Nat.or_comm, show b * 4294967296 = b <<< 32 from by rw [Nat.shiftLeft_eq], ← Nat.shiftLeft_add_eq_or_of_lt (by omega)]
  rw [e] at h
  rw [show ((b : Int) * 4294967296) = ((b * 4294967296 : Nat) : Int) from by omega, h]
  omega

theorem norm_drop {l : List Int} (h : Norm l) (k : Nat) : Norm (l.drop k) := by
  induction k generalizing l with
  | zero => exact h
  | succ k ih =>
    cases l with
    | nil => exact h
    | cons x l => rw [List.drop_succ_cons]; exact ih (norm_tail h)
theorem dval_two (a : List Int) (h : a.length ≤ 2) : dval a = a.getD 0 0 + 4294967296 * a.getD 1 0 := by
  have h0 := dval_drop a 0
  have h1 := dval_drop a 1
  simp only [List.drop_zero, Nat.zero_add, Nat.reduceAdd] at h0 h1
  rw [List.drop_eq_nil_of_le h, dval_nil] at h1
  omega
theorem dval_long {a : List Int} (h : 2 < a.length) (ha : Digs a) (na : Norm a) : 18446744073709551616 ≤ dval a := by
  have h0 := dval_drop a 0
  have h1 := dval_drop a 1
  have h2 := dval_pos (digs_drop ha 2) (norm_drop na 2) (by rw [List.length_drop]; omega)
  have e0 := digs_getD ha 0
  have e1 := digs_getD ha 1
  simp only [List.drop_zero, Nat.zero_add, Nat.reduceAdd] at h0 h1
  omega

set_option maxRecDepth 8000 in
set_option maxHeartbeats 1000000 in
theorem int_any (va : Value) (x : Int) (n : Nat) (w : World) (hx : BigV w va x n) :
    Calls Try.prog 13 #[va] w fun e w' => e = .returned (.tuple #[.int .i64 (held x), .bool (fits x)]) ∧ Below w.heap.size w w' := by
  obtain ⟨na, A, a, c1, rfl, a1, a2, a3, a4, a5, a6, a7, rfl⟩ := hx
  have hb : Below w.heap.size w (w.alloc (.cells #[.bool na, .slice A a.length c1] 28)) := ((Below.refl _ _).alloc (Nat.le_refl _) _)
  by_cases h2 : 2 < a.length
  · have hd : decide ((2 : Int) < (a.length : Int)) = true := by simp; omega
    have hl := dval_long h2 a4 a5
    have hn : ¬ I64 (if na then -dval a else dval a) := by unfold I64; split <;> omega
    rw [held_not hn, fits_not hn]
    have HB := Lib.hid hb
    clear hb a3 hl hn a4 a5 a7
    go_enter Try.func13, Try.ntmps13
    go_wp2
    go_ret2
    exact ⟨rfl, HB.out⟩
  · have hd : decide ((2 : Int) < (a.length : Int)) = false := by simp; omega
    have D0 := Lib.hid (digit_lit A a c1 0 0 rfl _ (a3.below hb) (by omega))
    have D1 := Lib.hid (digit_lit A a c1 1 1 rfl _ (a3.below hb) (by omega))
    have e1 := digs_getD a4 0
    have e2 := digs_getD a4 1
    have ev := dval_two a (by omega)
    generalize a.getD 0 0 = x at *
    generalize a.getD 1 0 = y at *
    have hor := or_add x y e1 e2
    rw [← ev] at hor
    have hu : 0 ≤ dval a ∧ dval a < 18446744073709551616 := by omega
    generalize dval a = u at *
    have HB := Lib.hid hb
    clear hb a3 a4 a5 a7 ev
    cases na
    · by_cases hs : u ≤ 9223372036854775807
      · have hI : I64 u := by unfold I64; omega
        have F := Lib.hid (show Ending.returned (.tuple #[.int .i64 u, .bool true]) = .returned (.tuple #[.int .i64 (held (if false then -u else u)), .bool (fits (if false then -u else u))]) from ret_two (by simp [held_of hI]) (by simp [fits_of hI]))
        clear hI
        go_enter Try.func13, Try.ntmps13
        go_wp2
        go_quiet ((go_at_call 42; first | with_reducible exact Calls.quiet_of_same (D0.out _) | with_reducible exact Calls.quiet_of_same (D1.out _)))
        go_wp2
        go_ret2
        exact ⟨F.out, below_drewN HB.out _⟩
      · have hI : ¬ I64 u := by unfold I64; omega
        have F := Lib.hid (show Ending.returned (.tuple #[.int .i64 0, .bool false]) = .returned (.tuple #[.int .i64 (held (if false then -u else u)), .bool (fits (if false then -u else u))]) from ret_two (by simp [held_not hI]) (by simp [fits_not hI]))
        clear hI
        go_enter Try.func13, Try.ntmps13
        go_wp2
        go_quiet ((go_at_call 42; first | with_reducible exact Calls.quiet_of_same (D0.out _) | with_reducible exact Calls.quiet_of_same (D1.out _)))
        go_wp2
        go_ret2
        exact ⟨F.out, below_drewN HB.out _⟩
    · by_cases hs : u ≤ 9223372036854775808
      · have hI : I64 (-u) := by unfold I64; omega
        have hwr : wrap64 (IntKind.u64.wrap (-u)) = -u := by rw [IntKind.wrap_u64]; unfold wrap64; omega
        have F := Lib.hid (show Ending.returned (.tuple #[.int .i64 (-u), .bool true]) = .returned (.tuple #[.int .i64 (held (if true then -u else u)), .bool (fits (if true then -u else u))]) from ret_two (by simp [held_of hI]) (by simp [fits_of hI]))
        clear hI
        go_enter Try.func13, Try.ntmps13
        go_wp2
        go_quiet ((go_at_call 42; first | with_reducible exact Calls.quiet_of_same (D0.out _) | with_reducible exact Calls.quiet_of_same (D1.out _)))
        go_wp2
        go_ret2
        exact ⟨F.out, below_drewN HB.out _⟩
      · have hI : ¬ I64 (-u) := by unfold I64; omega
        have F := Lib.hid (show Ending.returned (.tuple #[.int .i64 0, .bool false]) = .returned (.tuple #[.int .i64 (held (if true then -u else u)), .bool (fits (if true then -u else u))]) from ret_two (by simp [held_not hI]) (by simp [fits_not hI]))
        clear hI
        go_enter Try.func13, Try.ntmps13
        go_wp2
        go_quiet ((go_at_call 42; first | with_reducible exact Calls.quiet_of_same (D0.out _) | with_reducible exact Calls.quiet_of_same (D1.out _)))
        go_wp2
        go_ret2
        exact ⟨F.out, below_drewN HB.out _⟩

end Go.Proofs.Ytiblbhppojfdaaa
