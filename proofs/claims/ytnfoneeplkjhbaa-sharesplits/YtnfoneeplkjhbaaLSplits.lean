/-
  The walk of the law ShareSplits, over the reference's Split by what is told of it.
-/
import Derived.Test.YtnfoneeplkjhbaaRfCap
import Derived.Test.YtnfoneeplkjhbaaRfOrd
import Derived.Test.YtnfoneeplkjhbaaRfSp3
namespace Go.Proofs.Ytnfoneeplkjhbaa
open Go.RowKit

theorem placeV_ints (o : List Nat) : placeV o = (o.map fun (n : Nat) => (n : Int)).map (Value.int .i64) := by unfold placeV; rw [List.map_map]; rfl

set_option maxRecDepth 8000 in
set_option maxHeartbeats 2000000 in
theorem reven_any (RS : Hid RSplitSaid) (t : Int) (n : Int) (ht : I64 t) (w : World) :
    Calls Try.prog 14 #[.int .i64 t, .int .i64 n] w (SliceC w (evenV t n) (evenC t n)) := by
  have F := Lib.hid (sliceC_nil w w 1 (Below.refl _ _))
  unfold evenV evenC
  by_cases ht0 : t < 0
  · have e1 : (if n < 1 ∨ 64 < n then 1 else splitC t (List.replicate n.toNat 1)) = 1 := by
      split
      · rfl
      · unfold splitC; rw [decide_eq_true ht0]; rfl
    have e2 : (if n < 1 ∨ 64 < n then [] else splitV t (List.replicate n.toNat 1)) = [] := by
      split
      · rfl
      · unfold splitV splitC; rw [decide_eq_true ht0]; rfl
    rw [e1, e2]
    have d0 : decide (t < 0) = true := decide_eq_true ht0
    clear ht ht0 e1 e2
    go_enter Try.func14, Try.ntmps14
    go_wp2
    go_ret2
    exact F.out
  · have d0 : decide (t < 0) = false := decide_eq_false ht0
    by_cases h1 : n < 1
    · rw [if_pos (.inl h1), if_pos (.inl h1)]
      have d1 : decide (n < 1) = true := decide_eq_true h1
      clear h1 ht ht0
      go_enter Try.func14, Try.ntmps14
      go_wp2
      go_ret2
      exact F.out
    · have d1 : decide (n < 1) = false := decide_eq_false h1
      by_cases h2 : 64 < n
      · rw [if_pos (.inr h2), if_pos (.inr h2)]
        have d2 : decide (64 < n) = true := decide_eq_true h2
        clear h1 h2 ht ht0
        go_enter Try.func14, Try.ntmps14
        go_wp2
        go_ret2
        exact F.out
      · rw [if_neg (by omega), if_neg (by omega)]
        have d2 : decide (64 < n) = false := decide_eq_false h2
        obtain ⟨m, rfl⟩ := Int.eq_ofNat_of_zero_le (show 0 ≤ n by omega)
        rw [Int.toNat_natCast]
        have hm : m ≤ 64 := by omega
        have hmk := made_i64 m (by omega)
        have HR0 := Lib.hid (onesTo_zero m ▸ RowK.new w .i64 m 2 w.heap.size rfl)
        have HB0 := Lib.hid (show Below w.heap.size w (w.alloc (.cells (madeCells #[.int .i64 0] m) 2)) from (Below.refl _ _).alloc (Nat.le_refl _) _)
        have C2 : Hid (∀ W, RowK W .i64 w.heap.size (List.replicate m 1) → Calls Try.prog 12 #[.int .i64 t, .slice (some ⟨w.heap.size, 0, none⟩) m m] W (SliceC W (splitV t (List.replicate m 1)) (splitC t (List.replicate m 1)))) := Lib.hid fun W hW => by
          have h := RS.out t (some ⟨w.heap.size, 0, none⟩) (List.replicate m 1) m W ht hW.ints (fun x hx => by have := (List.mem_replicate.1 hx).2; unfold I64; omega) (by rw [List.length_replicate]; omega)
          rw [List.length_replicate] at h
          exact h
        generalize splitV t (List.replicate m 1) = v at *
        generalize splitC t (List.replicate m 1) = cd at *
        clear h1 h2 ht ht0
        go_enter Try.func14, Try.ntmps14
        go_wp2
        go_loopw [7] (fun i wr => ∃ k : Nat, k ≤ m ∧ i = .int .i64 k ∧ Hid (RowK wr .i64 w.heap.size (onesTo m k)) ∧ Hid (Below w.heap.size w wr)) (fun i _ => m - (intOf i).toNat)
        case atStart => exact ⟨0, Nat.zero_le _, rfl, HR0, HB0⟩
        case round =>
          obtain ⟨k, hk, rfl, HR, HB⟩ := hrel
          by_cases hlt : k < m
          · obtain ⟨r1, r2⟩ := HR.out k (by rw [onesTo_length]; exact hlt)
            have hR2 := HR.out.set k (by rw [onesTo_length]; exact hlt) 1
            rw [onesTo_step _ _ hlt] at hR2
            have HR2 := Lib.hid hR2
            have HB2 := Lib.hid (HB.out.setCell (p := ⟨w.heap.size, k, none⟩) (Nat.le_refl _) (.int .i64 1))
            generalize (onesTo m k).getD k 0 = z at *
            clear hR2 hmk HR0 HB0
            go_wp2
            go_roundw
            case rel => exact ⟨k + 1, by omega, by go_num, HR2, HB2⟩
            case measure => simp [intOf]; omega
          · obtain rfl : k = m := by omega
            rw [onesTo_all] at HR
            clear hmk HR0 HB0
            go_wp2_with (go_at_call 12; refine (C2.out _ HR.out).mono ?_; rintro e w2 ⟨A, c, rfl, hI, hc1, hc2, hf, hb⟩; have HI := Lib.hid hI; have HB2 := Lib.hid (grew HB.out hb); have HF := Lib.hid (fun b o s e => Nat.le_trans HB.out.size (hf b o s e)); clear hI hb hf)
            go_ret2
            exact ⟨A, c, rfl, HI.out, hc1, hc2, HF.out, HB2.out⟩

set_option maxRecDepth 8000 in
set_option maxHeartbeats 4000000 in
theorem splits_walk (RS : Hid RSplitSaid) (t : Int) (A : Option Addr) (l : List Int) (c1 : Nat) (n : Int) (w : World) (ht : I64 t) (hr : Ints w .i64 A l) (hl : ∀ x ∈ l, I64 x) (hn : l.length ≤ 9223372036854775807) :
    Calls Try.prog 3 #[.int .i64 t, .slice A l.length c1, .int .i64 n] w fun e w' => e = .returned (.bool true) ∧ Below w.heap.size w w' := by
  have c0 := Lib.hid known3_any
  by_cases h1 : 70 < l.length
  · have d1 : decide ((70 : Int) < (l.length : Int)) = true := by simp; omega
    clear hr hl ht
    go_enter Try.func3, Try.ntmps3
    go_wp2_with (go_at_call 10; refine (c0.out _).mono ?_; rintro e w1 ⟨rfl, hw1⟩)
    go_ret
    exact ⟨rfl, hw1⟩
  have d1 : decide ((70 : Int) < (l.length : Int)) = false := by simp; omega
  have CA : Hid (∀ W, Below w.heap.size w W → Calls Try.prog 11 #[.int .i64 t, .slice A l.length c1] W (SliceC W (splitV t l) (splitC t l))) := Lib.hid fun W hW => split_any t A l c1 W ht (hr.below hW) hl hn
  have CB : Hid (∀ W, Below w.heap.size w W → Calls Try.prog 12 #[.int .i64 t, .slice A l.length c1] W (SliceC W (splitV t l) (splitC t l))) := Lib.hid fun W hW => RS.out t A l c1 W ht (hr.below hW) hl hn
  have CE := Lib.hid (even_any t n ht)
  have CF := Lib.hid (reven_any RS t n ht)
  have CO : Hid (∀ W, Below w.heap.size w W → Calls Try.prog 17 #[.slice A l.length c1] W (OrderR W l)) := Lib.hid fun W hW => order_any A l c1 W (hr.below hW) (by omega)
  have CP : Hid (∀ W, Below w.heap.size w W → Calls Try.prog 18 #[.slice A l.length c1] W fun e w' => ∃ (Q : Option Addr) (q : Nat), e = .returned (.slice Q l.length q) ∧ Ints w' .i64 Q (ordI l) ∧ Below W.heap.size W w') := Lib.hid fun W hW => by
    refine (rorder_any A l c1 W (hr.below hW) (by omega)).mono ?_
    rintro e w' ⟨v, rfl, ho, hb⟩
    rw [placeV_ints] at ho
    obtain ⟨_, Q, q, rfl, hI⟩ := own_form ho
    exact ⟨Q, q, rfl, hI, hb⟩
  have CH : Hid (∀ (a : List Int) W (P Q : Option Addr) (p q : Nat), Ints W .i64 P a → Ints W .i64 Q a → a.length ≤ 9223372036854775807 → Calls Try.prog 15 #[.slice P a.length p, .slice Q a.length q] W fun e w' => e = .returned (.bool true) ∧ Below W.heap.size W w') := Lib.hid fun a W P Q p q h1 h2 h3 => by
    have h := hInts_any P Q _ _ p q W h1 h2 h3
    rw [same_self] at h
    exact h
  have CN : Hid (∀ W (P Q : Option Addr) (p q : Nat), Ints W .i64 P (ordI l) → Ints W .i64 Q (ordI l) → Calls Try.prog 16 #[.slice P l.length p, .slice Q l.length q] W fun e w' => e = .returned (.bool true) ∧ Below W.heap.size W w') := Lib.hid fun W P Q p q h1 h2 => by
    have h := hNums_any P Q _ _ p q W h1 h2 (by rw [ordI_length]; omega)
    rw [same_self, ordI_length] at h
    exact h
  clear hr hl ht
  generalize splitV t l = a at *
  generalize splitC t l = cd at *
  generalize evenV t n = b at *
  generalize evenC t n = ce at *
  go_enter Try.func3, Try.ntmps3
  go_wp2_with (first
    | (go_at_call 10; refine (c0.out _).mono ?_; rintro e w1 ⟨rfl, hw1⟩; have HW1 := Lib.hid hw1; clear hw1)
    | (go_at_call 11; refine (CA.out _ HW1.out).mono ?_; rintro e w2 ⟨P, p, rfl, hP, hp1, hp2, _, hb⟩; have HP := Lib.hid hP; have HW2 := Lib.hid (grew HW1.out hb); have HL := Lib.hid (Nat.le_trans hp1 hp2); clear hP hb)
    | (go_at_call 12; refine (CB.out _ HW2.out).mono ?_; rintro e w3 ⟨Q, q, rfl, hQ, hq1, hq2, _, hb⟩; have HQ := Lib.hid hQ; replace HP := Lib.hid (HP.out.below hb); have HW3 := Lib.hid (grew HW2.out hb); clear hQ hb)
    | (go_at_call 13; refine (CE.out _).mono ?_; rintro e w4 ⟨P2, p2, rfl, hP, hp3, hp4, _, hb⟩; have HP2 := Lib.hid hP; replace HP := Lib.hid (HP.out.below hb); replace HQ := Lib.hid (HQ.out.below hb); have HW4 := Lib.hid (grew HW3.out hb); have HL2 := Lib.hid (Nat.le_trans hp3 hp4); clear hP hb)
    | (go_at_call 14; refine (CF.out _).mono ?_; rintro e w5 ⟨Q2, q2, rfl, hQ, hq3, hq4, _, hb⟩; have HQ2 := Lib.hid hQ; replace HP := Lib.hid (HP.out.below hb); replace HQ := Lib.hid (HQ.out.below hb); replace HP2 := Lib.hid (HP2.out.below hb); have HW5 := Lib.hid (grew HW4.out hb); clear hQ hb)
    | (go_at_call 15; first
      | ((with_reducible refine (CH.out _ _ P Q _ _ HP.out HQ.out HL.out).mono ?_); rintro e w6 ⟨rfl, hb⟩; replace HP2 := Lib.hid (HP2.out.below hb); replace HQ2 := Lib.hid (HQ2.out.below hb); have HW6 := Lib.hid (grew HW5.out hb); clear hb)
      | ((with_reducible refine (CH.out _ _ P2 Q2 _ _ HP2.out HQ2.out HL2.out).mono ?_); rintro e w7 ⟨rfl, hb⟩; have HW7 := Lib.hid (grew HW6.out hb); clear hb))
    | (go_at_call 17; refine (CO.out _ HW7.out).mono ?_; rintro e w8 ⟨g8, rfl, _, hO, hb⟩; have HO := Lib.hid hO.ints; have HW8 := Lib.hid (grew HW7.out hb); clear hO hb)
    | (go_at_call 18; refine (CP.out _ HW8.out).mono ?_; rintro e w9 ⟨Q9, q9, rfl, hQ, hb⟩; have HQ9 := Lib.hid hQ; replace HO := Lib.hid (HO.out.below hb); have HW9 := Lib.hid (grew HW8.out hb); clear hQ hb)
    | (go_at_call 16; refine (CN.out _ _ _ _ _ HO.out HQ9.out).mono ?_; rintro e wa ⟨rfl, hb⟩; have HWa := Lib.hid (grew HW9.out hb); clear hb))
  go_ret
  exact ⟨rfl, HWa.out⟩

theorem wf_i64 {a : Int} (h : (Lit.int .i64 a).wf = true) : I64 a := by
  unfold I64; simpa [Lit.wf, IntKind.min, IntKind.max, IntKind.signed, IntKind.bits] using h
theorem splits_law (t : Int) (A : Option Addr) (len cap : Nat) (zs : List Int) (n : Int) (w : World) (h0 : (Lit.int .i64 t).wf = true)
    (h : (A = none ∧ len = 0 ∧ cap = 0 ∧ zs = []) ∨
      ∃ x, A = some x ∧ len ≤ cap ∧ cap ≤ maxLen ∧ zs.length = cap ∧ (∀ i, i < zs.length → w.cell? (x.add i) = some (.int .i64 (zs.getD i 0))) ∧ ∀ n ∈ zs, (Lit.int .i64 n).wf = true) :
    Calls Try.prog 3 #[.int .i64 t, .slice A len cap, .int .i64 n] w fun e w' => e = .returned (.bool true) ∧ Below w.heap.size w w' := by
  obtain ⟨l, rfl, hr, hn, hl⟩ := row_ints h
  exact splits_walk (Lib.hid rsplit_said) t A l cap n w (wf_i64 h0) hr (fun x hx => wf_i64 (hl x hx)) hn
end Go.Proofs.Ytnfoneeplkjhbaa
