/-
  The walks of the reference's size without sign, sign, order and half.
-/
import Derived.Test.YtiblbhppojfdaaaRef1e
import Derived.Test.YtiblbhppojfdaaaRef1g
namespace Go.Proofs.Ytiblbhppojfdaaa
open Go.RowKit

set_option maxRecDepth 8000 in
set_option maxHeartbeats 1000000 in
theorem sized_any (va : Value) (x : Int) (n : Nat) (w : World) (hx : BigV w va x n) :
    Calls Try.prog 18 #[va] w (BigR w (x.natAbs : Int) n) := by
  obtain ⟨na, A, a, c1, rfl, a1, a2, a3, a4, a5, a6, a7, rfl⟩ := hx
  have hv : (if false = true then -dval a else dval a) = (((if na = true then -dval a else dval a).natAbs : Nat) : Int) := by
    have := dval_nn a4
    cases na <;> simp <;> omega
  have hb : Below w.heap.size w ((w.alloc (.cells #[.bool na, .slice A a.length c1] 28)).alloc (.cells #[.bool false, .slice none 0 0] 28)) := ((Below.refl _ _).alloc (Nat.le_refl _) _).alloc (by simp) _
  have H0 := Box2.new (w.alloc (.cells #[.bool na, .slice A a.length c1] 28)) (.bool false) (.slice none 0 0) 28 (w.heap.size + 1) (by simp)
  have c := made_any false A a c1 _ (a3.below hb) a4 a1 a2
  rw [hv] at c
  generalize (((if na = true then -dval a else dval a).natAbs : Nat) : Int) = y at *
  have C := Lib.hid c
  have HB := Lib.hid hb
  have HH := Lib.hid H0
  clear hb H0 a3 a7 hv c
  go_enter Try.func18, Try.ntmps18
  go_wp2_with (fail)
  refine C.out.mono ?_
  rintro e w2 ⟨v, rfl, hV, hb2⟩
  obtain ⟨neg, A2, n2, c3, rfl⟩ := hV.form
  have H2 := HH.out.below hb2
  have HV := Lib.hid hV
  have HH2 := Lib.hid H2
  have HB2 := Lib.hid (HB.out.trans (hb2.mono HB.out.size))
  obtain ⟨g0, g1, f0, f1⟩ := H2
  clear hV hb2
  go_wp2_with (fail)
  obtain ⟨p0, p1⟩ := HH2.out.put (.bool neg) (.slice A2 n2 c3)
  refine bodyPost_ret (v := .agg #[.bool neg, .slice A2 n2 c3]) (by simp [results, Try.results18, go_sem, p0, p1]) rfl ?_
  exact (big_out HB2.out (by omega) HH2.out HV.out).as rfl a6

set_option maxRecDepth 8000 in
set_option maxHeartbeats 400000 in
theorem sign_any (va : Value) (x : Int) (n : Nat) (w : World) (hx : BigV w va x n) :
    Calls Try.prog 24 #[va] w fun e w' => e = .returned (.int .i64 (ord3 x 0)) ∧ Below w.heap.size w w' := by
  obtain ⟨na, A, a, c1, rfl, a1, a2, a3, a4, a5, a6, a7, rfl⟩ := hx
  have hb : ∀ o, Below w.heap.size w (w.alloc o) := fun o => (Below.refl _ _).alloc (Nat.le_refl _) _
  have HB := Lib.hid hb
  by_cases h0 : a.length = 0
  · obtain rfl : a = [] := List.eq_nil_of_length_eq_zero h0
    have e : ord3 (if na = true then -dval [] else dval []) 0 = 0 := by cases na <;> rfl
    rw [e]
    clear hb a3 a4 a5 a7 e h0
    go_enter Try.func24, Try.ntmps24
    go_wp2
    go_ret
    exact ⟨rfl, HB.out _⟩
  · have hp := dval_pos a4 a5 (by omega)
    have hz : ((a.length : Int) == 0) = false := beq_eq_false_iff_ne.2 (by omega)
    cases na
    · have e : ord3 (if false = true then -dval a else dval a) 0 = 1 := by unfold ord3; simp; omega
      rw [e]
      clear hb a3 a4 a5 a7 e hp
      go_enter Try.func24, Try.ntmps24
      go_wp2
      go_ret
      exact ⟨rfl, HB.out _⟩
    · have e : ord3 (if true = true then -dval a else dval a) 0 = -1 := by unfold ord3; simp; omega
      rw [e]
      clear hb a3 a4 a5 a7 e hp
      go_enter Try.func24, Try.ntmps24
      go_wp2
      go_ret
      exact ⟨rfl, HB.out _⟩

theorem ord3_sub (x y : Int) : ord3 (x - y) 0 = ord3 x y := by
  unfold ord3
  by_cases h1 : x < y
  · rw [if_pos (by omega), if_pos h1]
  · rw [if_neg (by omega), if_neg h1]
    by_cases h2 : y < x
    · rw [if_pos (by omega), if_pos h2]
    · rw [if_neg (by omega), if_neg h2]

set_option maxRecDepth 8000 in
set_option maxHeartbeats 400000 in
theorem rcmp_any (va vb : Value) (x y : Int) (n : Nat) (w : World) (hx : BigV w va x n) (hy : BigV w vb y n) (hn : n ≤ 100000000000) :
    Calls Try.prog 26 #[va, vb] w fun e w' => e = .returned (.int .i64 (ord3 x y)) ∧ Below w.heap.size w w' := by
  obtain ⟨na, A, la, c1, rfl⟩ := hx.form
  obtain ⟨nb, B, lb, c2, rfl⟩ := hy.form
  have hb : Below w.heap.size w ((w.alloc (.cells #[.bool na, .slice A la c1] 28)).alloc (.cells #[.bool nb, .slice B lb c2] 28)) := ((Below.refl _ _).alloc (Nat.le_refl _) _).alloc (by simp) _
  have C := Lib.hid (less_any _ _ x y n _ (hx.below hb) (hy.below hb) hn)
  have CS : Hid (∀ W v, BigV W v (x - y) (n + 1) → Calls Try.prog 24 #[v] W fun e w' => e = .returned (.int .i64 (ord3 x y)) ∧ Below W.heap.size W w') := Lib.hid fun W v h => by
    rw [← ord3_sub]; exact sign_any v _ _ W h
  have HB := Lib.hid hb
  clear hb hx hy
  go_enter Try.func26, Try.ntmps26
  go_wp2_with (first
    | (go_at_call 16; refine C.out.mono ?_; rintro e w1 ⟨v, rfl, hV, hb1⟩; have HV := Lib.hid hV; have HB1 := Lib.hid hb1; clear hV hb1)
    | (go_at_call 24; refine (CS.out _ _ HV.out).mono ?_; rintro e w2 ⟨rfl, hb2⟩; have HB2 := Lib.hid hb2; clear hb2))
  go_ret
  have k1 := HB.out.trans (HB1.out.mono HB.out.size)
  exact ⟨rfl, k1.trans (HB2.out.mono k1.size)⟩

theorem or_up (c d : Int) (hc : 0 ≤ c ∧ c ≤ 1) (hd : 0 ≤ d ∧ d < 4294967296) : bits .or .u64 (c * 4294967296) d = d + 4294967296 * c := by
  obtain ⟨a, rfl⟩ := Int.eq_ofNat_of_zero_le hc.1
  obtain ⟨b, rfl⟩ := Int.eq_ofNat_of_zero_le hd.1
  have h := bits_or_u64_nat (a * 4294967296) b (by omega) (by omega)
  have e : a * 4294967296 ||| b = a * 4294967296 + b := by
    rw [show a * 4294967296 = a <<< 32 from by rw [Nat.shiftLeft_eq], ← Nat.shiftLeft_add_eq_or_of_lt (by omega)]
  rw [e] at h
  rw [show ((a : Int) * 4294967296) = ((a * 4294967296 : Nat) : Int) from by omega, h]
  omega
theorem and_one (x : Int) (h0 : 0 ≤ x) (h1 : x < 18446744073709551616) : bits .and .u64 x 1 = x % 2 := by
  obtain ⟨a, rfl⟩ := Int.eq_ofNat_of_zero_le h0
  have h := bits_and_u64_nat a 1 (by omega) (by omega)
  rw [Nat.and_one_is_mod] at h
  exact h.trans (by omega)

/-- Half's answer: the half's digits, and the rest. -/
def HalfR (w : World) (l : List Int) (e : Ending) (w' : World) : Prop :=
  ∃ (out : List Int) (A : Option Addr), e = .returned (.tuple #[.slice A out.length out.length, .int .u64 (dval l % 2)]) ∧ out.length ≤ l.length ∧ Ints w' .u64 A out ∧ Digs out ∧ Norm out ∧ dval out = dval l / 2 ∧ Below w.heap.size w w' ∧ A = some ⟨w.heap.size, 0, none⟩

/-- Behind the digits from k on: the carry, and the half of them. -/
def HalfInv (l : List Int) (k : Nat) (c : Int) (o : List Int) : Prop :=
  o.length = l.length ∧ Digs o ∧ c = dval (l.drop k) % 2 ∧ dval (o.drop k) = dval (l.drop k) / 2
theorem half_step {l o : List Int} {m : Nat} {c : Int} (h : HalfInv l (m + 1) c o) (hm : m < l.length) (hl : Digs l) (s : Int) (hs : s = l.getD m 0 + 4294967296 * c) : HalfInv l m (s % 2) (o.set m (s / 2)) := by
  obtain ⟨h1, h2, h3, h4⟩ := h
  have hx := digs_getD hl m
  have e1 := dval_drop l m
  have e2 := dval_drop (o.set m (s / 2)) m
  have e3 : (o.set m (s / 2)).drop (m + 1) = o.drop (m + 1) := List.drop_set_of_lt (by omega)
  have e4 : (o.set m (s / 2)).getD m 0 = s / 2 := by rw [List.getD_eq_getElem?_getD, List.getElem?_set_self (by omega)]; rfl
  rw [e3, e4] at e2
  refine ⟨by rw [List.length_set]; exact h1, digs_set h2 _ (by omega), by omega, by omega⟩

set_option maxRecDepth 8000 in
set_option maxHeartbeats 1000000 in
theorem half_any (A : Option Addr) (l : List Int) (c : Nat) (w : World) (hr : Ints w .u64 A l) (hd : Digs l) (hn : l.length ≤ 100000000000) :
    Calls Try.prog 76 #[.slice A l.length c] w (HalfR w l) := by
  have hmk := made_eq l.length (by omega) (l.length : Int) rfl
  have HR0 := Lib.hid (Row.new w l.length 22 w.heap.size rfl)
  have HB0 := Lib.hid (show Below w.heap.size w (w.alloc (.cells (madeCells #[.int .u64 0] l.length) 22)) from (Below.refl _ _).alloc (Nat.le_refl _) _)
  have HA := Lib.hid hr
  clear hr
  go_enter Try.func76, Try.ntmps76
  go_wp2
  go_loopw [5, 6] (fun cv i wr => ∃ (k : Nat) (cc : Int) (o : List Int), k ≤ l.length ∧ i = .int .i64 ((k : Int) - 1) ∧ cv = .int .u64 cc ∧ 0 ≤ cc ∧ cc ≤ 1 ∧ Hid (HalfInv l k cc o) ∧ Hid (Row wr w.heap.size o) ∧ Hid (Below w.heap.size w wr)) (fun _ i _ => (intOf i + 1).toNat)
  case atStart =>
    refine ⟨l.length, 0, List.replicate l.length 0, Nat.le_refl _, rfl, rfl, by omega, by omega, Lib.hid ⟨List.length_replicate, fun d h => ?_, by simp [dval_nil], by simp [dval_nil]⟩, HR0, HB0⟩
    have := (List.mem_replicate.1 h).2; omega
  case round =>
    obtain ⟨k, cc, o, hk, rfl, rfl, hc0, hc1, HI, HRow, HB⟩ := hrel
    by_cases hk0 : 0 < k
    · obtain ⟨m, rfl⟩ : ∃ m, k = m + 1 := ⟨k - 1, by omega⟩
      rw [show ((m + 1 : Nat) : Int) - 1 = (m : Int) from by omega]
      obtain ⟨ab, ao, rfl, hca⟩ := HA.out.below HB.out (by omega)
      have r1 := hca m (by omega)
      have hmo : m < o.length := by rw [HI.out.1]; omega
      obtain ⟨r2, r3⟩ := HRow.out m hmo
      have hx := digs_getD hd m
      have hs := half_step HI.out (by omega) hd _ rfl
      generalize l.getD m 0 = x at *
      generalize o.getD m 0 = z at *
      have hor := or_up cc x ⟨hc0, hc1⟩ hx
      have hand := and_one (x + 4294967296 * cc) (by omega) (by omega)
      have HS := Lib.hid hs
      have HR2 := Lib.hid (HRow.out.set m hmo ((x + 4294967296 * cc) / 2))
      have HB2 := Lib.hid (fun v => HB.out.setCell (p := ⟨w.heap.size, m, none⟩) (Nat.le_refl _) v)
      clear hca hs hmk HR0 HB0
      go_wp2
      go_roundw
      case rel => exact ⟨m, _, _, by omega, rfl, rfl, by omega, by omega, HS, HR2, Lib.hid (HB2.out _)⟩
      case measure => simp [intOf]
    · obtain rfl : k = 0 := by omega
      have hol := HI.out.1
      have C := trim_any (some ⟨w.heap.size, 0, none⟩) o l.length wr HRow.out.ints (by omega) (by omega)
      rw [hol] at C
      have hv := HI.out.2.2.2
      have hcv := HI.out.2.2.1
      simp only [List.drop_zero] at hv hcv
      have F : Hid (HalfR w l (.returned (.tuple #[.slice (some ⟨w.heap.size, 0, none⟩) (tl o l.length) (tl o l.length), .int .u64 cc])) wr) := Lib.hid ⟨trimL o, some ⟨w.heap.size, 0, none⟩, by rw [trimL_length, hol, hcv], by rw [trimL_length, hol]; exact tl_le _ _, trimL_ints HRow.out.ints, digs_trim HI.out.2.1, trimL_norm o, by rw [dval_trim, hv], HB.out, rfl⟩
      have HC := Lib.hid C
      clear C hol hv hcv hmk HR0 HB0
      go_wp2_with (go_at_call 61; refine HC.out.mono ?_; rintro e w' ⟨rfl, rfl⟩)
      go_ret2
      exact F.out
end Go.Proofs.Ytiblbhppojfdaaa
