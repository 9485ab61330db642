/-
  The walks of the reference's differences and order of digits.
-/
import Derived.Test.YtiblbhppojfdaaaRef1b
namespace Go.Proofs.Ytiblbhppojfdaaa
open Go.RowKit

theorem digit_quiet (A : Option Addr) (l : List Int) (c k : Nat) (w : World) (hr : Ints w .u64 A l) (hn : l.length ≤ 9223372036854775807) (n : Nat) :
    Calls Try.prog 42 #[.slice A l.length c, .int .i64 (k : Int)] (w.drewN n) fun e w' => e = .returned (.int .u64 (l.getD k 0)) ∧ w' = w.drewN n :=
  (digit_nat A l c k (w.drewN n) hr hn).mono fun _ _ ⟨h1, h2⟩ => ⟨h1, h2.symm⟩

/-- The difference's digits come back. -/
def SubR (w : World) (a b : List Int) (e : Ending) (w' : World) : Prop :=
  ∃ out, SliceOf w out e w' ∧ Digs out ∧ dval out = dval a - dval b ∧ out.length = a.length

theorem sub_step {out a b : List Int} {cc z c' : Int} (h : Digs out ∧ dapp out (dval (a.drop out.length) - dval (b.drop out.length) - cc) = dval a - dval b)
    (x y : Int) (hx : x = a.getD out.length 0) (hy : y = b.getD out.length 0) (hz : 0 ≤ z ∧ z < 4294967296) (e : x - y - cc = z - 4294967296 * c') :
    Digs (out ++ [z]) ∧ dapp (out ++ [z]) (dval (a.drop (out ++ [z]).length) - dval (b.drop (out ++ [z]).length) - c') = dval a - dval b := by
  refine ⟨digs_snoc h.1 hz, ?_⟩
  rw [dapp_snoc, ← h.2, List.length_append, List.length_singleton, dval_drop a out.length, dval_drop b out.length, ← hx, ← hy]
  congr 1
  omega
theorem sub_last {out a b : List Int} {cc : Int} (h : Digs out ∧ dapp out (dval (a.drop out.length) - dval (b.drop out.length) - cc) = dval a - dval b) (ha : a.length ≤ out.length) (db : Digs b) (hc : 0 ≤ cc) (hab : dval b ≤ dval a) : dval out = dval a - dval b := by
  obtain ⟨h1, h2⟩ := h
  rw [List.drop_eq_nil_of_le ha, dval_nil] at h2
  have hn := dval_nn (digs_drop db out.length)
  by_cases e : 0 - dval (b.drop out.length) - cc = 0
  · rw [e] at h2; exact h2
  · have := dapp_neg h1 (r := 0 - dval (b.drop out.length) - cc) (by omega)
    omega

set_option maxRecDepth 8000 in
set_option maxHeartbeats 1000000 in
theorem subSizes_any (A B : Option Addr) (a b : List Int) (c1 c2 : Nat) (w : World) (ha : Ints w .u64 A a) (hb : Ints w .u64 B b) (da : Digs a) (db : Digs b) (la : a.length ≤ 1000000000000) (lb : b.length ≤ 1000000000000) (hab : dval b ≤ dval a) :
    Calls Try.prog 46 #[.slice A a.length c1, .slice B b.length c2] w (SubR w a b) := by
  obtain ⟨i0, hi, hz0, hz1, hz2⟩ := info_parts info_u64
  have HI := Lib.hid hi
  have HZ0 := Lib.hid hz0
  have HZ1 := Lib.hid hz1
  have HZ2 := Lib.hid hz2
  have HA := Lib.hid ha
  have HB := Lib.hid hb
  clear hi hz0 hz1 hz2 ha hb
  go_enter Try.func46, Try.ntmps46
  go_wp2
  go_loopw [5, 6, 7] (fun v c i wr => ∃ (cc : Int) (out : List Int), i = .int .i64 (out.length : Int) ∧ c = .int .u64 cc ∧ 0 ≤ cc ∧ cc ≤ 1 ∧ out.length ≤ a.length ∧ wr.ownsRow w.heap.size 22 1 v out.length (out.map (Value.int .u64)) ∧ Below w.heap.size w wr ∧
      Hid (Digs out ∧ dapp out (dval (a.drop out.length) - dval (b.drop out.length) - cc) = dval a - dval b)) (fun _ _ i _ => a.length - (intOf i).toNat)
  case atStart => exact ⟨0, [], rfl, rfl, by omega, by omega, by simp, World.ownsRow_nil _ _ _ _, Below.refl _ _, Lib.hid ⟨digs_nil, by simp [dapp]⟩⟩
  case round =>
    obtain ⟨cc, out, rfl, rfl, hc0, hc1, hk, hown, hbel, HV⟩ := hrel
    by_cases hlt : out.length < a.length
    · have hx := digs_getD da out.length
      have hy := digs_getD db out.length
      obtain ⟨ab, off, rfl, hc⟩ := HA.out.below hbel (by omega)
      have hcell := hc out.length hlt
      have D2 := Lib.hid (digit_quiet B b c2 out.length wr (HB.out.below hbel) (by omega))
      have HS := Lib.hid (fun (z c' : Int) => sub_step (z := z) (c' := c') HV.out _ _ rfl rfl)
      generalize a.getD out.length 0 = x at *
      generalize b.getD out.length 0 = y at *
      clear hc HV
      have hsz := hbel.size
      by_cases hxy : x < y + cc
      · have HS2 := Lib.hid (HS.out (x + 4294967296 - (y + cc)) 1 (by omega) (by omega))
        clear HS
        go_wp2
        go_quiet ((go_at_call 42; exact Calls.quiet_of_same (D2.out _)))
        have q1 : (wr.drewN nq).ownsRow w.heap.size 22 1 _ out.length (out.map (Value.int .u64)) := hown
        have q2 : Below w.heap.size w (wr.drewN nq) := below_drewN hbel nq
        have q3 : w.heap.size ≤ (wr.drewN nq).heap.size := hsz
        clear hown hbel hsz hcell D2
        generalize wr.drewN nq = wq at *
        go_wp2_with (at_builtin; refine wpList_append_own _ rfl _ _ 26 rfl w.heap.size 22 i0 (.int .u64 0) 1 8 Try.underlying26 HI.out HZ0.out HZ1.out HZ2.out rfl (by decide) _ _ _ rfl (q1.alloc _) ⟨wq.heap.size, 0, none⟩ 1 1 [.int .u64 (x + 4294967296 - (y + cc))] rfl rfl (cell_one_new _ _ _) (one_u64 _) (by unfold maxLen; omega) (by omega) (by simp; omega) ?_)
        intro v' w2 hown' hgrow _
        have hb2 : Below w.heap.size w w2 := (q2.alloc q3 _).grown hgrow (by simp; omega) (fun g hg => (q1.lt g hg).1)
        have hown2 := own_snoc hown'
        clear hown' hgrow q1 q2
        go_wp2
        go_roundw
        case rel => exact ⟨1, out ++ [x + 4294967296 - (y + cc)], by simp, rfl, by omega, by omega, by simp; omega, by simpa using hown2, hb2, HS2⟩
        case measure => simp [intOf]; omega
      · have HS2 := Lib.hid (HS.out (x - (y + cc)) 0 (by omega) (by omega))
        clear HS
        go_wp2
        go_quiet ((go_at_call 42; exact Calls.quiet_of_same (D2.out _)))
        have q1 : (wr.drewN nq).ownsRow w.heap.size 22 1 _ out.length (out.map (Value.int .u64)) := hown
        have q2 : Below w.heap.size w (wr.drewN nq) := below_drewN hbel nq
        have q3 : w.heap.size ≤ (wr.drewN nq).heap.size := hsz
        clear hown hbel hsz hcell D2
        generalize wr.drewN nq = wq at *
        go_wp2_with (at_builtin; refine wpList_append_own _ rfl _ _ 26 rfl w.heap.size 22 i0 (.int .u64 0) 1 8 Try.underlying26 HI.out HZ0.out HZ1.out HZ2.out rfl (by decide) _ _ _ rfl (q1.alloc _) ⟨wq.heap.size, 0, none⟩ 1 1 [.int .u64 (x - (y + cc))] rfl rfl (cell_one_new _ _ _) (one_u64 _) (by unfold maxLen; omega) (by omega) (by simp; omega) ?_)
        intro v' w2 hown' hgrow _
        have hb2 : Below w.heap.size w w2 := (q2.alloc q3 _).grown hgrow (by simp; omega) (fun g hg => (q1.lt g hg).1)
        have hown2 := own_snoc hown'
        clear hown' hgrow q1 q2
        go_wp2
        go_roundw
        case rel => exact ⟨0, out ++ [x - (y + cc)], by simp, rfl, by omega, by omega, by simp; omega, by simpa using hown2, hb2, HS2⟩
        case measure => simp [intOf]; omega
    · have hlast := Lib.hid (sub_last HV.out (by omega) db hc0 hab)
      have HD := Lib.hid HV.out.1
      obtain ⟨hlen, A', c', rfl, hI, hc', hc2'⟩ := own_form2 hown
      have F := Lib.hid (show SubR w a b (.returned (.slice A' out.length c')) wr from ⟨out, ⟨A', c', rfl, hc', hc2', hI, hbel⟩, HD.out, hlast.out, by omega⟩)
      clear hown hI hbel
      go_wp2
      go_ret
      exact F.out

/-- The order of two numbers. -/
def ord3 (x y : Int) : Int := if x < y then -1 else if y < x then 1 else 0

set_option maxRecDepth 8000 in
set_option maxHeartbeats 1000000 in
theorem cmpSizes_any (A B : Option Addr) (a b : List Int) (c1 c2 : Nat) (w : World) (ha : Ints w .u64 A a) (hb : Ints w .u64 B b) (da : Digs a) (db : Digs b) (na : Norm a) (nb : Norm b) (la : a.length ≤ 1000000000000) (_lb : b.length ≤ 1000000000000) :
    Calls Try.prog 45 #[.slice A a.length c1, .slice B b.length c2] w fun e w' => e = .returned (.int .i64 (ord3 (dval a) (dval b))) ∧ Below w.heap.size w w' := by
  by_cases h1 : a.length < b.length
  · have hd := dval_short da db nb h1
    have e : ord3 (dval a) (dval b) = -1 := by unfold ord3; rw [if_pos hd]
    rw [e]
    have hne : ((a.length : Int) != (b.length : Int)) = true := by rw [bne_iff_ne]; omega
    clear ha hb da db na nb hd e
    go_enter Try.func45, Try.ntmps45
    go_wp2
    go_ret
    exact ⟨rfl, Below.refl _ _⟩
  by_cases h2 : b.length < a.length
  · have hd := dval_short db da na h2
    have e : ord3 (dval a) (dval b) = 1 := by unfold ord3; rw [if_neg (by omega), if_pos hd]
    rw [e]
    have hne : ((a.length : Int) != (b.length : Int)) = true := by rw [bne_iff_ne]; omega
    clear ha hb da db na nb hd e
    go_enter Try.func45, Try.ntmps45
    go_wp2
    go_ret
    exact ⟨rfl, Below.refl _ _⟩
  have hl : b.length = a.length := by omega
  rw [hl]
  have HL := Lib.hid hl
  have HA := Lib.hid ha
  have HB := Lib.hid hb
  clear h1 h2 hl ha hb na nb
  go_enter Try.func45, Try.ntmps45
  go_wp2
  go_loopw [5] (fun i wr => ∃ k : Nat, k ≤ a.length ∧ i = .int .i64 ((k : Int) - 1) ∧ Hid (dval (a.drop k) = dval (b.drop k)) ∧ Below w.heap.size w wr) (fun i _ => (intOf i + 1).toNat)
  case atStart => exact ⟨a.length, Nat.le_refl _, rfl, Lib.hid (by rw [List.drop_length, List.drop_eq_nil_of_le (by rw [HL.out]; exact Nat.le_refl _)]), Below.refl _ _⟩
  case round =>
    obtain ⟨k, hk, rfl, HV, hbel⟩ := hrel
    by_cases hk0 : 0 < k
    · obtain ⟨m, rfl⟩ : ∃ m, k = m + 1 := ⟨k - 1, by omega⟩
      rw [show ((m + 1 : Nat) : Int) - 1 = (m : Int) from by omega]
      obtain ⟨ab, ao, rfl, hca⟩ := HA.out.below hbel (by omega)
      obtain ⟨bb, bo, rfl, hcb⟩ := HB.out.below hbel (by rw [HL.out]; omega)
      have c1 := hca m (by omega)
      have c2 := hcb m (by rw [HL.out]; omega)
      have e1 := dval_drop a m
      have e2 := dval_drop b m
      have t1 := fun h => dval_top da db m h
      have t2 := fun h => dval_top db da m h
      have hv := HV.out
      have FL : Hid (a.getD m 0 < b.getD m 0 → ord3 (dval a) (dval b) = -1) := Lib.hid fun h => by
        unfold ord3; rw [if_pos (t1 (by omega))]
      have FG : Hid (b.getD m 0 < a.getD m 0 → ord3 (dval a) (dval b) = 1) := Lib.hid fun h => by
        have := t2 (by omega)
        unfold ord3; rw [if_neg (by omega), if_pos this]
      have FE : Hid (a.getD m 0 = b.getD m 0 → dval (a.drop m) = dval (b.drop m)) := Lib.hid fun h => by omega
      generalize a.getD m 0 = x at *
      generalize b.getD m 0 = y at *
      have HBEL := Lib.hid hbel
      clear hca hcb e1 e2 t1 t2 hv HV hbel HA HB HL da db
      by_cases hlt : x < y
      · have F := Lib.hid (FL.out hlt)
        clear FL FG FE
        go_wp2
        go_quiet (fail)
        go_wp2
        go_ret
        exact ⟨ret_int F.out.symm, below_drewN HBEL.out _⟩
      by_cases hgt : y < x
      · have F := Lib.hid (FG.out hgt)
        clear FL FG FE
        go_wp2
        go_quiet (fail)
        have q1 : (wr.drewN nq).cell? ⟨ab, ao + m, none⟩ = some (.int .u64 x) := c1
        have q2 : (wr.drewN nq).cell? ⟨bb, bo + m, none⟩ = some (.int .u64 y) := c2
        have Q3 := Lib.hid (below_drewN HBEL.out nq)
        clear c1 c2 HBEL
        generalize wr.drewN nq = wq at *
        go_wp2
        go_quiet (fail)
        go_wp2
        go_ret
        exact ⟨ret_int F.out.symm, below_drewN Q3.out _⟩
      · have F := Lib.hid (FE.out (by omega))
        clear FL FG FE
        go_wp2
        go_quiet (fail)
        have q1 : (wr.drewN nq).cell? ⟨ab, ao + m, none⟩ = some (.int .u64 x) := c1
        have q2 : (wr.drewN nq).cell? ⟨bb, bo + m, none⟩ = some (.int .u64 y) := c2
        have Q3 := Lib.hid (below_drewN HBEL.out nq)
        clear c1 c2 HBEL
        generalize wr.drewN nq = wq at *
        go_wp2
        go_quiet (fail)
        go_wp2
        go_roundw
        case rel => exact ⟨m, by omega, rfl, F, below_drewN Q3.out _⟩
        case measure => simp [intOf]
    · obtain rfl : k = 0 := by omega
      have e : ord3 (dval a) (dval b) = 0 := by
        have := HV.out
        simp only [List.drop_zero] at this
        unfold ord3; rw [if_neg (by omega), if_neg (by omega)]
      have E := Lib.hid e
      have HBEL := Lib.hid hbel
      clear e HV hbel
      go_wp2
      go_ret
      exact ⟨ret_int E.out.symm, HBEL.out⟩
end Go.Proofs.Ytiblbhppojfdaaa
