/-
  The walk of novationlaw5.TapeFronts.
-/
import Derived.Test.YtcpimdafpmdjnaaRws5
import Derived.Laws.Concat
namespace Go.Proofs.Ytcpimdafpmdjnaa
open Go Go.RowKit
set_option linter.unusedVariables false

/-- The tape behind so many appends. -/
def frT (ls : List (List Nat)) (W K i : Nat) : Tp :=
  if i ≤ W then ⟨(ls.take i).flatten, 1048576, false, true, (W : Int) - (i : Int), (K : Int)⟩ else ⟨(ls.take W).flatten ++ (ls.getD W []).take K, 1048576, true, false, 0, 0⟩
theorem flat_take (ls : List (List Nat)) (k : Nat) (h : k < ls.length) : (ls.take (k + 1)).flatten = (ls.take k).flatten ++ ls.getD k [] := by
  rw [List.take_succ_eq_append_getElem h, List.flatten_append, List.getD_eq_getElem?_getD, List.getElem?_eq_getElem h]
  simp
theorem flat_bound (ls : List (List Nat)) (h : ∀ i, i < ls.length → (ls.getD i []).length ≤ 100) (k : Nat) (hk : k ≤ ls.length) : ((ls.take k).flatten).length ≤ 100 * k := by
  induction k with
  | zero => simp
  | succ k ih =>
    rw [flat_take ls k (by omega), List.length_append]
    have := ih (by omega)
    have := h k (by omega)
    omega
theorem fr_zero (ls : List (List Nat)) (W K : Nat) : (newTp 1048576).arm (W : Int) (K : Int) = frT ls W K 0 := by
  unfold Tp.arm frT newTp roomOf
  rw [if_neg (by simp), if_pos (by omega), if_pos (by omega)]
  simp
  rfl
section
variable {ls : List (List Nat)} {W K i : Nat} (hl : ls.length ≤ 30) (h : ∀ i, i < ls.length → (ls.getD i []).length ≤ 100) (hi : i < ls.length)
include hl h hi
theorem fr_goes (hw : i < W) : (frT ls W K i).append (ls.getD i []) = (frT ls W K (i + 1), 0) := by
  have h1 := flat_bound ls h i (by omega)
  have h2 := h i hi
  unfold frT
  rw [if_pos (by omega), if_pos (by omega), flat_take ls i hi]
  unfold Tp.append
  have hg : (⟨(ls.take i).flatten, 1048576, false, true, (W : Int) - (i : Int), (K : Int)⟩ : Tp).goes = (⟨(ls.take i).flatten, 1048576, false, true, (W : Int) - (i : Int) - 1, (K : Int)⟩, 0, false) := by
    unfold Tp.goes
    rw [if_pos rfl, if_pos (by simp only; omega)]
  rw [hg, if_neg (by simp), if_neg (by simp only; omega), if_neg (by simp)]
  simp only
  rw [show (W : Int) - (i : Int) - 1 = (W : Int) - ((i + 1 : Nat) : Int) by omega]
theorem fr_flies (hw : i = W) : (frT ls W K i).append (ls.getD i []) = (frT ls W K (i + 1), 15) := by
  subst hw
  have h1 := flat_bound ls h i (by omega)
  have h2 := h i hi
  unfold frT
  rw [if_pos (by omega), if_neg (by omega)]
  unfold Tp.append
  have hg : (⟨(ls.take i).flatten, 1048576, false, true, (i : Int) - (i : Int), (K : Int)⟩ : Tp).goes = (⟨(ls.take i).flatten, 1048576, true, false, 0, 0⟩, (K : Int), true) := by
    unfold Tp.goes
    rw [if_pos rfl, if_neg (by simp only; omega)]
    rfl
  rw [hg, if_neg (by simp), if_neg (by simp only; omega), if_pos rfl]
  simp only [frontN]
  rw [show min (max (K : Int) 0).toNat (ls.getD i []).length = min K (ls.getD i []).length by omega, ← List.take_take, List.take_length]
omit hl h hi in
theorem fr_stays (hw : W < i) (x : List Nat) : (frT ls W K i).append x = (frT ls W K (i + 1), 15) ∧ (frT ls W K (i + 1)).cut 0 = (frT ls W K (i + 1), 15) := by
  unfold frT
  rw [if_neg (by omega), if_neg (by omega)]
  exact ⟨rfl, rfl⟩
end
theorem fr_down (ls : List (List Nat)) (W K i : Nat) : (frT ls W K i).down = decide (W < i) := by
  unfold frT
  split
  · rw [decide_eq_false (by omega)]
  · rw [decide_eq_true (by omega)]
theorem fr_goes_all {ls : List (List Nat)} {W K i : Nat} (hi : i < ls.length) (hw : i < W) : (frT ls W K (i + 1)).all = (frT ls W K i).all ++ ls.getD i [] := by
  unfold frT
  rw [if_pos (by omega), if_pos (by omega)]
  exact flat_take ls i hi
theorem fr_flies_all {ls : List (List Nat)} {W K i : Nat} (hw : i = W) : (frT ls W K (i + 1)).all = (frT ls W K i).all ++ (ls.getD i []).take K := by
  subst hw
  unfold frT
  rw [if_neg (by omega), if_pos (by omega)]
theorem fr_stays_all {ls : List (List Nat)} {W K i : Nat} (hw : W < i) : frT ls W K (i + 1) = frT ls W K i := by
  unfold frT
  rw [if_neg (by omega), if_neg (by omega)]
theorem fr_len {ls : List (List Nat)} {W K i : Nat} (hl : ls.length ≤ 30) (h : ∀ i, i < ls.length → (ls.getD i []).length ≤ 100) (hi : i ≤ ls.length) : (frT ls W K i).all.length ≤ 3100 := by
  unfold frT
  split
  · have := flat_bound ls h i hi; simp only; omega
  · have := flat_bound ls h W (by omega); have := h W (by omega); simp only [List.length_append, List.length_take]; omega
theorem fr_wake (ls : List (List Nat)) (W K i : Nat) : (frT ls W K i).wake = ⟨(frT ls W K i).all, 1048576, false, false, 0, 0⟩ := by
  unfold frT
  split <;> rfl

set_option maxRecDepth 8000 in
set_option maxHeartbeats 1000000 in
theorem fronts_many (A : Option Addr) (n c : Nat) (W K : Int) (w : World) (hn : n ≤ 9223372036854775807) (h : 30 < n) :
    Calls Try.prog 5 #[.slice A n c, .int .u8 W, .int .u8 K] w fun e w' => e = .returned (.bool true) ∧ Below w.heap.size w w' := by
  have C := Lib.hid (known_any w)
  go_enter Try.func5, Try.ntmps5
  go_wp2_with (go_at_call 8; refine C.out.mono ?_; rintro e w1 ⟨rfl, HB⟩)
  go_ret
  exact ⟨rfl, HB⟩
set_option maxRecDepth 100000 in
set_option maxHeartbeats 4000000 in
theorem fronts_walk (A : Option Addr) (ls : List (List Nat)) (c W K : Nat) (w : World) (hr : Rws w A ls) (hn : ls.length ≤ 9223372036854775807) (hW : W ≤ 255) (hK : K ≤ 255) :
    Calls Try.prog 5 #[.slice A ls.length c, .int .u8 (W : Int), .int .u8 (K : Int)] w fun e w' => e = .returned (.bool true) ∧ Below w.heap.size w w' := by
  by_cases h30 : 30 < ls.length
  · exact fronts_many A _ c _ _ w hn h30
  obtain ⟨n, hnn⟩ : ∃ n, n = ls.length := ⟨_, rfl⟩
  rw [← hnn] at h30 ⊢
  have HN := Lib.hid hnn
  have C := Lib.hid (known_any w)
  have HR := Lib.hid hr
  clear hr hn hnn
  go_enter Try.func5, Try.ntmps5
  go_wp2_with (go_at_call 8; refine C.out.mono ?_; rintro e w1 ⟨rfl, hb1⟩; have HB1 := Lib.hid hb1; clear hb1)
  clear C
  go_loop [8] (fun i => ∃ k : Nat, k ≤ n ∧ i = .int .i64 k ∧ Hid (∀ j, j < k → (ls.getD j []).length ≤ 100)) (fun i => n - (intOf i).toNat)
  case atStart => exact ⟨0, Nat.zero_le _, rfl, Lib.hid (fun j hj => by omega)⟩
  case round =>
    obtain ⟨k, hk, rfl, HJ⟩ := hrel
    by_cases hlt : k < n
    · obtain ⟨b, off, rfl, hc⟩ := (HR.out.below HB1.out) (by rw [← HN.out]; omega)
      obtain ⟨A', c', hcell, _, _, _, h5, _⟩ := hc k (by rw [← HN.out]; exact hlt)
      clear hc
      by_cases h4 : (ls.getD k []).length ≤ 100
      · have HJ2 : Hid (∀ j, j < k + 1 → (ls.getD j []).length ≤ 100) := Lib.hid fun j hj => by
          rcases Nat.lt_or_ge j k with h1 | h1
          · exact HJ.out j h1
          · obtain rfl : j = k := by omega
            exact h4
        generalize (ls.getD k []).length = m at *
        go_wp2
        go_round
        case rel => exact ⟨k + 1, by omega, by go_num, HJ2⟩
        case measure => simp [intOf]; omega
      · generalize (ls.getD k []).length = m at *
        go_wp2
        go_ret
        exact ⟨rfl, HB1.out⟩
    · obtain rfl : k = n := by omega
      have HE : Hid (∀ i, i < ls.length → (ls.getD i []).length ≤ 100) := Lib.hid (fun i hi => HJ.out i (by rw [HN.out]; exact hi))
      have C2 := Lib.hid (in_new 1048576 w1)
      go_wp2_with (first
        | (go_at_call 10; (with_reducible refine C2.out.mono ?_); rintro e w2 ⟨rfl, h2⟩; have CA := Lib.hid (h2.arm (W : Int) (K : Int) (by unfold I64; omega) (by unfold I64; omega)); rw [fr_zero ls W K] at CA; clear h2)
        | (go_at_call 16; (with_reducible refine CA.out.mono ?_); rintro e w3 ⟨rfl, h3⟩; have H3 := Lib.hid h3; clear h3))
      clear C2 CA HJ
      go_loopw [7, 10] (fun s i wr => ∃ j : Nat, j ≤ k ∧ i = .int .i64 j ∧ s = .string (bstr (frT ls W K j).all) ∧ Hid (In w1 w1.heap.size w1.heap.size (frT ls W K j) wr)) (fun _ i _ => k - (intOf i).toNat)
      case atStart => exact ⟨0, Nat.zero_le _, rfl, by unfold frT; simp [bstr]; rfl, H3⟩
      case round =>
        obtain ⟨j, hj, rfl, rfl, HI⟩ := hrel
        by_cases hlt2 : j < k
        · have HBW : Hid (Below w.heap.size w wr) := Lib.hid (HB1.out.trans (HI.out.below.mono HB1.out.size))
          obtain ⟨b, off, A0, c', rfl, hcell, hlow, hO, hA, h6, h7⟩ := HR.out.one (i := j) (by rw [← HN.out]; exact hlt2)
          have CP := Lib.hid (HI.out.append (Below.refl _ _) A0 (ls.getD j []).length c' (ls.getD j []) rfl (hcell wr HBW.out).2 hO hA h6 h7 (fun bb off e h0 => .inl (Nat.lt_of_lt_of_le (hlow bb off e h0) HB1.out.size)))
          have hm := HE.out j (by rw [← HN.out]; exact hlt2)
          have hjl : j < ls.length := by rw [← HN.out]; exact hlt2
          have hl30 : ls.length ≤ 30 := by rw [← HN.out]; omega
          have hbig := fr_len (W := W) (K := K) hl30 HE.out (i := j) (by omega)
          have hcl := (hcell wr HBW.out).1
          have HC : Hid (∀ V, Below w1.heap.size w1 V → V.cell? ⟨b, off + j, none⟩ = some (.slice A0 (ls.getD j []).length c') ∧ Byts V A0 (ls.getD j [])) := Lib.hid (fun V hV => hcell V (HB1.out.trans (hV.mono HB1.out.size)))
          clear hcell hlow hO HBW
          rcases Nat.lt_trichotomy j W with hw | hw | hw
          · rw [fr_goes hl30 HE.out hjl hw] at CP
            have HALL := Lib.hid (fr_goes_all (K := K) hjl hw)
            have HDW : Hid ((frT ls W K (j + 1)).down = false) := Lib.hid (by rw [fr_down]; simp; omega)
            have HAdd : Hid (∀ V : World, (Op.stringOp .add (bstr (frT ls W K j).all) (bstr (ls.getD j []))).run Try.prog V = .ok (.string (bstr (frT ls W K (j + 1)).all)) V) := Lib.hid (fun V => by
              have h := run_string_add_sum (P := Try.prog) (w := V) (bstr (frT ls W K j).all) (bstr (ls.getD j [])) (by rw [bstr_size, bstr_size]; omega)
              rw [bstr_cat, ← HALL.out] at h
              exact h)
            generalize ls.getD j [] = x at *
            obtain ⟨m, hmm⟩ : ∃ m, m = x.length := ⟨_, rfl⟩
            rw [← hmm] at hm h6 hcl CP HC
            have HM := Lib.hid hmm
            generalize bstr (frT ls W K j).all = S1 at *
            obtain ⟨S2, hS2⟩ : ∃ S, S = bstr (frT ls W K (j + 1)).all := ⟨_, rfl⟩
            rw [← hS2] at HAdd
            have HS2 := Lib.hid hS2
            clear hS2
            clear hbig hmm hjl hl30 HALL hA
            go_wp2_with (first
              | (go_at_call 17; (with_reducible refine CP.out.mono ?_); rintro e w4 ⟨rfl, h4⟩; have H4 := Lib.hid h4; obtain ⟨hcl4, hby4⟩ := HC.out w4 h4.below; have hs4 := run_bstr w4 A0 x m c' HM.out hby4; have hadd := HAdd.out w4; have CD := Lib.hid h4.down; rw [HDW.out] at CD; clear h4 hby4)
              | (go_at_call 18; (with_reducible refine CD.out.mono ?_); rintro e _ ⟨rfl, rfl⟩))
            go_roundw
            case rel => exact ⟨j + 1, by omega, by go_num, by rw [HS2.out], H4⟩
            case measure => simp [intOf]; omega
          · rw [fr_flies hl30 HE.out hjl hw] at CP
            have HALL := Lib.hid (fr_flies_all (ls := ls) (K := K) hw)
            obtain ⟨f, hf⟩ : ∃ f, f = min K (ls.getD j []).length := ⟨_, rfl⟩
            have hfe : (ls.getD j []).take K = (ls.getD j []).take f := by rw [hf, ← List.take_take, List.take_length]
            rw [hfe] at HALL
            have hfl : ((ls.getD j []).take f).length = f := by rw [List.length_take]; omega
            have HAdd : Hid (∀ V : World, (Op.stringOp .add (bstr (frT ls W K j).all) (bstr ((ls.getD j []).take f))).run Try.prog V = .ok (.string (bstr (frT ls W K (j + 1)).all)) V) := Lib.hid (fun V => by
              have h := run_string_add_sum (P := Try.prog) (w := V) (bstr (frT ls W K j).all) (bstr ((ls.getD j []).take f)) (by rw [bstr_size, bstr_size]; omega)
              rw [bstr_cat, ← HALL.out] at h
              exact h)
            generalize ls.getD j [] = x at *
            obtain ⟨m, hmm⟩ : ∃ m, m = x.length := ⟨_, rfl⟩
            rw [← hmm] at hm h6 hcl CP HC hf
            have HFL := Lib.hid hfl
            generalize bstr (frT ls W K j).all = S1 at *
            obtain ⟨S2, hS2⟩ : ∃ S, S = bstr (frT ls W K (j + 1)).all := ⟨_, rfl⟩
            rw [← hS2] at HAdd
            have HS2 := Lib.hid hS2
            have hfm : f ≤ m := by omega
            have hfc : f ≤ c' := by omega
            have hmin : (if (m : Int) < (K : Int) then (m : Int) else (K : Int)) = (f : Int) := by rw [hf]; split <;> omega
            have hmin2 : (if m < K then (m : Int) else (K : Int)) = (f : Int) := by rw [hf]; split <;> omega
            have HX : Hid (∀ V, Byts V A0 x → Byts V A0 (x.take f)) := Lib.hid (fun V hx => by
              intro h0
              obtain ⟨b1, off, e, hc⟩ := hx (by rw [List.length_take] at h0; omega)
              refine ⟨b1, off, e, fun i hi => ?_⟩
              rw [List.length_take] at hi
              rw [hc i (by omega), List.getD_eq_getElem?_getD, List.getD_eq_getElem?_getD, List.getElem?_take_of_lt (by omega)])
            clear hS2 hbig hmm hjl hl30 HALL hfe hfl hf
            subst hw
            go_wp2_with (first
              | (go_at_call 17; (with_reducible refine CP.out.mono ?_); rintro e w4 ⟨rfl, h4⟩; have H4 := Lib.hid h4; obtain ⟨hcl4, hby4⟩ := HC.out w4 h4.below; have hs4 := run_bstr w4.drew A0 (x.take f) f c' HFL.out.symm ((HX.out _ hby4).touch ((Touch.refl (fun _ => False) w4).drew) (fun _ _ _ _ h => h)); have hadd := HAdd.out w4.drew; have hcl5 : w4.drew.cell? ⟨b, off + j, none⟩ = some (.slice A0 m c') := hcl4; clear h4 hby4))
            go_region
            go_wp2
            go_roundw
            case rel => exact ⟨j + 1, by omega, by go_num, by rw [HS2.out], Lib.hid (H4.out.keep ⟨rfl, rfl, rfl, Nat.le_refl _, fun _ _ => rfl⟩)⟩
            case measure => simp [intOf]; omega
          · obtain ⟨q1, q2⟩ := fr_stays (ls := ls) (K := K) hw (ls.getD j [])
            rw [q1] at CP
            have HE2 := Lib.hid (fr_stays_all (ls := ls) (K := K) hw)
            have HQ := Lib.hid q2
            generalize ls.getD j [] = x at *
            generalize x.length = m at *
            clear hbig hjl hl30 hA q1 q2 HC
            go_wp2_with (first
              | (go_at_call 17; (with_reducible refine CP.out.mono ?_); rintro e w4 ⟨rfl, h4⟩; have CC := Lib.hid (h4.cut 0); rw [HQ.out] at CC; clear h4)
              | (go_at_call 19; (with_reducible refine CC.out.mono ?_); rintro e w5 ⟨rfl, h5⟩; have H5 := Lib.hid h5; clear h5))
            go_roundw
            case rel => exact ⟨j + 1, by omega, by go_num, by rw [HE2.out], H5⟩
            case measure => simp [intOf]; omega
        · obtain rfl : j = k := by omega
          have hdn : (frT ls W K j).down = decide (W < j) := fr_down ls W K j
          have hdd : decide ((W : Int) < (j : Int)) = decide (W < j) := by simp
          have CD := Lib.hid HI.out.down
          have CW := Lib.hid HI.out.wake
          rw [fr_wake] at CW
          have hbig := fr_len (W := W) (K := K) (ls := ls) (by rw [← HN.out]; omega) HE.out (i := j) (by rw [← HN.out]; exact hj)
          generalize (frT ls W K j).all = L at *
          rw [hdn] at CD
          have HSZ : Hid ((bstr L).size = L.length) := Lib.hid (bstr_size L)
          clear hdn
          go_wp2_with (first
            | (go_at_call 18; (with_reducible refine CD.out.mono ?_); rintro e _ ⟨rfl, rfl⟩)
            | (go_at_call 20; (with_reducible refine CW.out.mono ?_); rintro e w4 ⟨rfl, h4⟩; have CR := Lib.hid (h4.read_apart rfl); clear h4)
            | (go_at_call 21; (with_reducible refine CR.out.mono ?_); rintro e w5 ⟨A5, c5, rfl, hB5, hX5⟩; have hs5 := run_bstr w5 A5 L L.length c5 rfl hB5; have CL := Lib.hid (hX5.within.len); have CD2 := Lib.hid (hX5.within.down); have HX5 := Lib.hid hX5; have hsz := HSZ.out; clear hB5 hX5)
            | (go_at_call 22; (with_reducible refine CL.out.mono ?_); rintro e _ ⟨rfl, rfl⟩)
            | (go_at_call 18; (with_reducible refine CD2.out.mono ?_); rintro e _ ⟨rfl, rfl⟩))
          go_ret
          exact ⟨rfl, HB1.out.trans (HX5.out.below.mono HB1.out.size)⟩
end Go.Proofs.Ytcpimdafpmdjnaa
