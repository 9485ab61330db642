import Derived.Test.YtiblbhppojfdaaaShPr2
import Derived.Test.YtiblbhppojfdaaaRef1f
import Derived.Test.YtiblbhppojfdaaaOv2
import Derived.Test.YtiblbhppojfdaaaDagM
import Derived.Deep.DeepCutAuto
import Derived.BigQuiet
import Derived.Test.YtiblbhppojfdaaaLWts
/-
  The walk of novationlaw3.ShareTotal, over what its callees of package share do.
-/
namespace Go.Proofs.Ytiblbhppojfdaaa
open Go.RowKit

theorem sum_told9 (A : Option Addr) (l : List Int) (c : Nat) (w : World) (hr : Ints w .i64 A l) (hl : ∀ x ∈ l, I64 x) (hn : l.length ≤ 64) :
    Calls Try.prog 29 #[.slice A l.length c] w fun e w1 => ∃ (ng : Bool) (A1 : Option Addr) (n1 c1 : Nat), e = .returned (.agg #[.bool ng, .slice A1 n1 c1]) ∧ BigV w1 (.agg #[.bool ng, .slice A1 n1 c1]) l.sum 66 ∧ Below w.heap.size w w1 := by
  refine (sumInts_any A l c w hr hl (by omega)).mono ?_
  rintro e w1 ⟨v, rfl, hV, hb⟩
  obtain ⟨ng, A1, n1, c1, rfl⟩ := hV.form
  exact ⟨ng, A1, n1, c1, rfl, hV.more (by omega), hb⟩
theorem sized_told9 (va : Value) (x : Int) (n : Nat) (w : World) (hx : BigV w va x n) :
    Calls Try.prog 18 #[va] w fun e w1 => ∃ (ng : Bool) (A1 : Option Addr) (n1 c1 : Nat), e = .returned (.agg #[.bool ng, .slice A1 n1 c1]) ∧ BigV w1 (.agg #[.bool ng, .slice A1 n1 c1]) (x.natAbs : Int) n ∧ Below w.heap.size w w1 := by
  refine (sized_any va x n w hx).mono ?_
  rintro e w1 ⟨v, rfl, hV, hb⟩
  obtain ⟨ng, A1, n1, c1, rfl⟩ := hV.form
  exact ⟨ng, A1, n1, c1, rfl, hV, hb⟩
theorem box_at9 {w : World} {b : Nat} {u0 u1 : Value} (h : Box2 w b u0 u1) : ∀ W, Below w.heap.size w W → W.cell? ⟨b, 0, none⟩ = some u0 ∧ W.cell? ⟨b, 1, none⟩ = some u1 := fun _ hb => ⟨(h.below hb).1, (h.below hb).2.1⟩
theorem le_sum {l : List Int} (h : ∀ x ∈ l, 0 ≤ x) : ∀ x ∈ l, x ≤ l.sum := by
  induction l with
  | nil => intro x hx; cases hx
  | cons y l ih =>
    intro x hx
    have h0 : 0 ≤ l.sum := by
      have : ∀ m : List Int, (∀ x ∈ m, 0 ≤ x) → 0 ≤ m.sum := by
        intro m
        induction m with
        | nil => intro _; simp
        | cons z m im => intro hm; have := im (fun x hx => hm x (List.mem_cons_of_mem _ hx)); have := hm z List.mem_cons_self; simp; omega
      exact this l fun x hx => h x (List.mem_cons_of_mem _ hx)
    have hy := h y List.mem_cons_self
    rw [List.sum_cons]
    rcases List.mem_cons.1 hx with rfl | hx
    · omega
    · have := ih (fun x hx => h x (List.mem_cons_of_mem _ hx)) x hx
      omega
theorem getD_mem9 {l : List Int} {i : Nat} (h : i < l.length) : l.getD i 0 ∈ l := by rw [List.getD_eq_getElem?_getD, List.getElem?_eq_getElem h]; simp
theorem two_le_sum {l : List Int} (h : ∀ x ∈ l, 0 ≤ x) (j k : Nat) (hjk : j < k) (hk : k < l.length) : l.getD j 0 + l.getD k 0 ≤ l.sum := by
  induction l generalizing j k with
  | nil => simp at hk
  | cons y l ih =>
    have hl : ∀ x ∈ l, 0 ≤ x := fun x hx => h x (List.mem_cons_of_mem _ hx)
    have hy := h y List.mem_cons_self
    obtain ⟨k', rfl⟩ : ∃ k', k = k' + 1 := ⟨k - 1, by omega⟩
    simp only [List.length_cons] at hk
    rw [List.sum_cons]
    cases j with
    | zero =>
      have := le_sum hl _ (getD_mem9 (l := l) (i := k') (by omega))
      simp only [List.getD_cons_zero, List.getD_cons_succ]
      omega
    | succ j =>
      have := ih hl j k' (by omega) (by omega)
      simp only [List.getD_cons_succ]
      omega
theorem sum_le9 {l : List Int} (h : ∀ x ∈ l, 0 ≤ x ∧ x ≤ 4090905) (hn : l.length ≤ 20) : 0 ≤ l.sum ∧ l.sum ≤ 81818100 := by
  have : ∀ m : List Int, (∀ x ∈ m, 0 ≤ x ∧ x ≤ 4090905) → 0 ≤ m.sum ∧ m.sum ≤ 4090905 * m.length := by
    intro m
    induction m with
    | nil => intro _; simp
    | cons z m im => intro hm; have := im (fun x hx => hm x (List.mem_cons_of_mem _ hx)); have := hm z List.mem_cons_self; simp; omega
  have := this l h
  omega
set_option maxRecDepth 100000 in
set_option maxHeartbeats 40000000 in
theorem total_some (T : Int) (wl : List Int) (A : Option Addr) (n c : Nat) (w : World) (hT : 0 ≤ T ∧ T ≤ 18446744073709551615) (hwr : ∀ x ∈ wl, 0 ≤ x ∧ x ≤ 4090905) (hwn : wl.length ≤ 20) (hS : 0 < wl.sum)
    (ck : ∀ W, Calls Try.prog 27 #[] W fun e w' => e = .returned (.bool true) ∧ Below W.heap.size W w')
    (cw : ∀ W, Below w.heap.size w W → Calls Try.prog 28 #[.slice A n c] W fun e w' => ∃ v, e = .returned v ∧ w'.ownsRow W.heap.size 2 1 v wl.length (wl.map (Value.int .i64)) ∧ Below W.heap.size W w')
    (cs : ∀ W P p, Ints W .i64 P wl → Calls Try.prog 30 #[.int .i64 (T / 2), .slice P wl.length p] W fun e w' => ∃ (Q : Option Addr) (q : Nat), e = .returned (.tuple #[.slice Q (splitV (T / 2) wl).length q, .int .i64 (splitC (T / 2) wl)]) ∧ Ints w' .i64 Q (splitV (T / 2) wl) ∧ Below W.heap.size W w') :
    Calls Try.prog 4 #[.int .u64 T, .slice A n c] w fun e w' => e = .returned (.bool true) ∧ Below w.heap.size w w' := by
  have hsl := sum_le9 hwr hwn
  have hwi : ∀ x ∈ wl, I64 x := fun x hx => by have := hwr x hx; unfold I64; omega
  have hw0 : ∀ x ∈ wl, 0 ≤ x := fun x hx => (hwr x hx).1
  have ht0 : 0 ≤ T / 2 := by omega
  have ht1 : T / 2 ≤ 9223372036854775807 := by omega
  have hti : I64 (T / 2) := by unfold I64; omega
  have hpos : (wl.any fun x => decide (0 < x)) = true := by
    cases h : wl.any fun x => decide (0 < x)
    · exfalso
      have h2 : ∀ x ∈ wl, x ≤ 0 := fun x hx => by
        have := List.any_eq_false.1 h x hx
        simp at this
        omega
      have : ∀ m : List Int, (∀ x ∈ m, x ≤ 0) → m.sum ≤ 0 := by
        intro m
        induction m with
        | nil => intro _; simp
        | cons z m im => intro hm; have := im (fun x hx => hm x (List.mem_cons_of_mem _ hx)); have := hm z List.mem_cons_self; simp; omega
      have := this wl h2
      omega
    · rfl
  have hneg : (wl.any fun x => decide (x < 0)) = false := by
    rw [List.any_eq_false]
    intro x hx
    have := hw0 x hx
    simp
    omega
  have hC : splitC (T / 2) wl = 0 := by
    unfold splitC
    rw [hpos, hneg, fits_of (by unfold I64; omega : I64 wl.sum)]
    have h1 : decide (T / 2 < 0) = false := decide_eq_false (by omega)
    have h2 : decide (wl.length ≤ 64) = true := decide_eq_true (by omega)
    rw [h1, h2]
    simp
  have hV : splitV (T / 2) wl = splitL (T / 2) wl := by unfold splitV; rw [if_pos hC]
  have hlen : (splitL (T / 2) wl).length = wl.length := by unfold splitL; rw [bump_length, quo_length]
  have hsum := splitL_sum (T / 2) wl ht0 hw0 hS
  have hnn := splitL_nn (T / 2) wl ht0 hw0 hS
  have hal : ∀ x ∈ splitL (T / 2) wl, I64 x := fun x hx => by have h1 := hnn x hx; have h2 := le_sum hnn x hx; unfold I64; omega
  have HGE := Lib.hid (fun k i hk hi h => splitL_ge (T / 2) wl ht0 hw0 hS k i hk hi h)
  have HNE := Lib.hid (fun k i hk hi h => splitL_near (T / 2) wl ht0 hw0 hS k i hk hi h)
  have HOF := Lib.hid (fun i hi => splitL_off (T / 2) wl ht0 hw0 hS i hi)
  have CK := Lib.hid ck
  have CW := Lib.hid cw
  have CS : Hid (∀ W P p, Ints W .i64 P wl → Calls Try.prog 30 #[.int .i64 (T / 2), .slice P wl.length p] W fun e w' => ∃ (Q : Option Addr) (q : Nat), e = .returned (.tuple #[.slice Q wl.length q, .int .i64 0]) ∧ Ints w' .i64 Q (splitL (T / 2) wl) ∧ Below W.heap.size W w') := Lib.hid fun W P p h => by
    have := cs W P p h
    rw [hC, hV, hlen] at this
    exact this
  have CU1 : Hid (∀ W P p, Ints W .i64 P wl → Calls Try.prog 29 #[.slice P wl.length p] W fun e w1 => ∃ (ng : Bool) (A1 : Option Addr) (n1 c1 : Nat), e = .returned (.agg #[.bool ng, .slice A1 n1 c1]) ∧ BigV w1 (.agg #[.bool ng, .slice A1 n1 c1]) wl.sum 66 ∧ Below W.heap.size W w1) := Lib.hid fun W P p h => sum_told9 P wl p W h hwi (by omega)
  have CU2 : Hid (∀ W P p, Ints W .i64 P (splitL (T / 2) wl) → Calls Try.prog 29 #[.slice P wl.length p] W fun e w1 => ∃ (ng : Bool) (A1 : Option Addr) (n1 c1 : Nat), e = .returned (.agg #[.bool ng, .slice A1 n1 c1]) ∧ BigV w1 (.agg #[.bool ng, .slice A1 n1 c1]) (T / 2) 66 ∧ Below W.heap.size W w1) := Lib.hid fun W P p h => by
    have := sum_told9 P (splitL (T / 2) wl) p W h hal (by omega)
    rw [hlen, hsum] at this
    exact this
  have CG : Hid (∀ W v, BigV W v wl.sum 66 → Calls Try.prog 24 #[v] W fun e w' => e = .returned (.int .i64 1) ∧ Below W.heap.size W w') := Lib.hid fun W v hv => by
    have := sign_any v _ 66 W hv
    rw [show ord3 wl.sum 0 = 1 from by unfold ord3; rw [if_neg (by omega), if_pos (by omega)]] at this
    exact this
  have CH := Lib.hid (whole_told (T / 2) hti)
  have CC0 : Hid (∀ W v v', BigV W v (T / 2) 66 → BigV W v' (T / 2) 66 → Calls Try.prog 26 #[v, v'] W fun e w' => e = .returned (.int .i64 0) ∧ Below W.heap.size W w') := Lib.hid fun W v v' h h' => by
    have := rcmp_any v v' _ _ 66 W h h' (by omega)
    rw [show ord3 (T / 2) (T / 2) = 0 from by unfold ord3; rw [if_neg (by omega), if_neg (by omega)]] at this
    exact this
  clear ck cw cs hC hV hpos hneg
  generalize hX : splitL (T / 2) wl = al at *
  generalize hs9 : wl.sum = s at *
  have hsh : (T : Int) / 2 = T / 2 := rfl
  go_enter Try.func4, Try.ntmps4
  go_wp2_with (first
    | (go_at_call 27; refine (CK.out _).mono ?_; rintro e w1 ⟨rfl, hb1⟩; have HB1 := Lib.hid hb1; clear hb1)
    | (go_at_call 28; refine (CW.out _ HB1.out).mono ?_; rintro e w2 ⟨v2, rfl, hown, hb2⟩; obtain ⟨hlw, P, cp, rfl, hP, hp1, hp2⟩ := own_form2 hown; have HP2 := Lib.hid hP; have HB2 := Lib.hid (HB1.out.trans (hb2.mono HB1.out.size)); clear hown hP hb2 hlw)
    | (go_at_call 29; (with_reducible refine (CU1.out _ _ _ HP2.out).mono ?_); rintro e w3 ⟨ng, S, n1, k1, rfl, hV3, hb3⟩; have hb3' := hb3.trans ((Below.refl w3.heap.size w3).alloc (Nat.le_refl _) (.cells #[.bool ng, .slice S n1 k1] 28) |>.mono hb3.size); have HP3 := Lib.hid (HP2.out.below hb3'); have HB3 := Lib.hid (HB2.out.trans (hb3'.mono HB2.out.size)); have HX3 := Lib.hid (Box2.new w3 (.bool ng) (.slice S n1 k1) 28 _ rfl); have HV3 := Lib.hid (hV3.below ((Below.refl w3.heap.size w3).alloc (Nat.le_refl _) (.cells #[.bool ng, .slice S n1 k1] 28))); clear hV3 hb3 hb3' HP2 HB2)
    | (go_at_call 30; refine (CS.out _ _ _ HP3.out).mono ?_; rintro e w4 ⟨Q, q, rfl, hQ, hb4⟩; have HQ4 := Lib.hid hQ; have HP4 := Lib.hid (HP3.out.below hb4); have HX4 := Lib.hid (HX3.out.below hb4); have HV4 := Lib.hid (HV3.out.below hb4); have HB4 := Lib.hid (HB3.out.trans (hb4.mono HB3.out.size)); obtain ⟨i1, i2, _, _⟩ := HX4.out; clear hQ hb4 HP3 HX3 HV3 HB3)
    | (go_at_call 24; refine (CG.out _ _ HV4.out).mono ?_; rintro e w5 ⟨rfl, hb5⟩; have HQ5 := Lib.hid (HQ4.out.below hb5); clear i1 i2)
    | (go_at_call 29; (with_reducible refine (CU2.out _ _ _ HQ5.out).mono ?_); rintro e w6 ⟨n6, S6, l6, c6, rfl, hV6, hb6⟩)
    | (go_at_call 20; refine (CH.out _).mono ?_; rintro e w7 ⟨n7, S7, l7, c7, rfl, hV7, hb7⟩; have HV67 := Lib.hid (hV6.below hb7))
    | (go_at_call 26; refine (CC0.out _ _ _ HV67.out (hV7.more (by omega))).mono ?_; rintro e w8 ⟨rfl, hb8⟩))
  have hb48 : Below w4.heap.size w4 w8 := (hb5.trans (hb6.mono hb5.size)).trans (((hb7.trans (hb8.mono hb7.size))).mono (Nat.le_trans hb5.size hb6.size))
  have HP8 := Lib.hid (HP4.out.below hb48)
  have HQ8 := Lib.hid (HQ4.out.below hb48)
  have HX8 := Lib.hid (HX4.out.below hb48)
  have HV8 := Lib.hid (HV4.out.below hb48)
  have HB8 := Lib.hid (HB4.out.trans (hb48.mono HB4.out.size))
  clear hb48 hb5 hb6 hb7 hb8 hV6 hV7 HV67 HQ5 HP4 HQ4 HX4 HV4 HB4 HB1 CK CW CS CU1 CU2 CG CC0
  go_loopw [10, 11, 12] (fun i _ _ wr => ∃ k : Nat, k ≤ wl.length ∧ i = .int .i64 k ∧ Hid (Below w8.heap.size w8 wr)) (fun i _ _ _ => wl.length - (intOf i).toNat)
  case atStart => exact ⟨0, Nat.zero_le _, rfl, Lib.hid (Below.refl _ _)⟩
  case round =>
    obtain ⟨k, hk, rfl, HB⟩ := hrel
    by_cases hlt : k < wl.length
    · obtain ⟨pb, po, rfl, hpc⟩ := HP8.out (by omega)
      obtain ⟨qb, qo, rfl, hqc⟩ := HQ8.out (by omega)
      have FP : Hid (∀ W j, Below w8.heap.size w8 W → j < wl.length → W.cell? ⟨pb, po + j, none⟩ = some (.int .i64 (wl.getD j 0))) := Lib.hid fun W j h hj => (h.cell (p := ⟨pb, po + j, none⟩) (block_lt (hpc j hj))).trans (hpc j hj)
      have FQ : Hid (∀ W j, Below w8.heap.size w8 W → j < wl.length → W.cell? ⟨qb, qo + j, none⟩ = some (.int .i64 (al.getD j 0))) := Lib.hid fun W j h hj => (h.cell (p := ⟨qb, qo + j, none⟩) (block_lt (hqc j (by omega)))).trans (hqc j (by omega))
      have FS := Lib.hid (box_at9 HX8.out)
      have hof := HOF.out k hlt
      have hxi : I64 (wl.getD k 0) := hwi _ (by rw [List.getD_eq_getElem?_getD, List.getElem?_eq_getElem hlt]; simp)
      have hyi : I64 (al.getD k 0) := hal _ (by rw [List.getD_eq_getElem?_getD, List.getElem?_eq_getElem (by omega)]; simp)
      have hy0 : 0 ≤ al.getD k 0 := hnn _ (by rw [List.getD_eq_getElem?_getD, List.getElem?_eq_getElem (by omega)]; simp)
      obtain ⟨x, hxk⟩ : ∃ x, x = wl.getD k 0 := ⟨_, rfl⟩
      obtain ⟨y, hyk⟩ : ∃ y, y = al.getD k 0 := ⟨_, rfl⟩
      rw [← hxk, ← hyk] at hof
      rw [← hxk] at hxi
      rw [← hyk] at hyi hy0
      have CX := Lib.hid (whole_told x hxi)
      have CY := Lib.hid (whole_told y hyi)
      have FPk : Hid (∀ W, Below w8.heap.size w8 W → W.cell? ⟨pb, po + k, none⟩ = some (.int .i64 x)) := Lib.hid fun W h => by rw [hxk]; exact FP.out W k h hlt
      have FQk : Hid (∀ W, Below w8.heap.size w8 W → W.cell? ⟨qb, qo + k, none⟩ = some (.int .i64 y)) := Lib.hid fun W h => by rw [hyk]; exact FQ.out W k h hlt
      have HXK := Lib.hid hxk
      have HYK := Lib.hid hyk
      have HOk := Lib.hid hof
      clear hpc hqc hxk hyk hof
      have hwz : w8.heap.size ≤ wr.heap.size := HB.out.size
      go_wp2
      go_cut [11] (fun p wx => ∃ (b : Nat) (nf : Bool) (F : Option Addr) (lf cf : Nat), p = .pointer (some ⟨b, 0, none⟩) ∧ Hid (Box2 wx b (.bool nf) (.slice F lf cf) ∧ BigV wx (.agg #[.bool nf, .slice F lf cf]) ((y * s - T / 2 * x).natAbs : Int) 134 ∧ Below wr.heap.size wr wx))
      case first =>
        refine wp_region_dagL [11, 75, 76, 77, 78, 79, 80, 81, 82, 83, 84, 85, 86, 87, 88, 89, 90, 91] (fun W W' => Below W.heap.size W W') (fun W => Below wr.heap.size wr W) (spOf [.val (.slice (some ⟨qb, qo, none⟩) wl.length q), .val (.int .i64 k), .val (.pointer (some ⟨qb, qo + k, none⟩)), .val (.int .i64 y), .big y 2, .val (.agg #[.bool ng, .slice S n1 k1]), .big (y * s) 133, .val (.int .i64 (T / 2)), .big (T / 2) 2, .val (.slice (some ⟨pb, po, none⟩) wl.length cp), .val (.int .i64 k), .val (.pointer (some ⟨pb, po + k, none⟩)), .val (.int .i64 x), .big x 2, .big (T / 2 * x) 5, .big (y * s - T / 2 * x) 134, .big ((y * s - T / 2 * x).natAbs : Int) 134, .box wr.heap.size])
          (fun a W => ∃ (b : Nat) (nf : Bool) (F : Option Addr) (lf cf : Nat), a.tmps.getD 11 undef = .pointer (some ⟨b, 0, none⟩) ∧ Box2 W b (.bool nf) (.slice F lf cf) ∧ BigV W (.agg #[.bool nf, .slice F lf cf]) ((y * s - T / 2 * x).natAbs : Int) 134 ∧ Below wr.heap.size wr W) rfl rfl rfl rfl rfl rfl rfl rfl (fun i v W W' hb h => Sp.below h hb) (Below.refl _ _).drew ⟨?_, ?_, ?_, ?_, ?_, ?_, ?_, ?_, ?_, ?_, ?_, ?_, ?_, ?_, ?_, ?_, ?_, ?_, trivial⟩ ?_ ?_
        · intro a W K ho hW hpre hK
          rw [if_pos (wanted_none rfl)]
          have e0 : a.tmps.getD 8 undef = .slice (some ⟨qb, qo, none⟩) wl.length q := ho.slot 8 (by decide)
          go_simp
          exact hK _ _ (Below.refl _ _) hW rfl
        · intro a W K ho hW hpre hK
          rw [if_pos (wanted_none rfl)]
          have e0 : a.tmps.getD 10 undef = .int .i64 (k : Int) := ho.slot 10 (by decide)
          go_simp
          exact hK _ _ (Below.refl _ _) hW rfl
        · intro a W K ho hW hpre hK
          rw [if_pos (wanted_none rfl)]
          have e0 : a.tmps.getD 75 undef = .slice (some ⟨qb, qo, none⟩) wl.length q := hpre ⟨0, .data⟩ (by simp) rfl _ rfl
          have e1 : a.tmps.getD 76 undef = .int .i64 (k : Int) := hpre ⟨1, .data⟩ (by simp) rfl _ rfl
          go_simp
          exact hK _ _ (Below.refl _ _) hW rfl
        · intro a W K ho hW hpre hK
          rw [if_pos (wanted_none rfl)]
          have e0 : a.tmps.getD 77 undef = .pointer (some ⟨qb, qo + k, none⟩) := hpre ⟨2, .data⟩ (by simp) rfl _ rfl
          have i1 := FQk.out W (HB.out.trans (hW.mono HB.out.size))
          go_simp
          exact hK _ _ (Below.refl _ _) hW rfl
        · intro a W K ho hW hpre hK
          rw [if_pos (wanted_none rfl)]
          have e0 : a.tmps.getD 78 undef = .int .i64 y := hpre ⟨3, .data⟩ (by simp) rfl _ rfl
          go_simp
          refine (CY.out _).mono ?_
          rintro e w9 ⟨ng', A', n', k', rfl, hV9, hb9⟩
          exact hK _ _ hb9 (hW.trans (hb9.mono hW.size)) hV9
        · intro a W K ho hW hpre hK
          rw [if_pos (wanted_none rfl)]
          have e0 : a.tmps.getD 7 undef = .pointer (some ⟨w3.heap.size, 0, none⟩) := ho.slot 7 (by decide)
          obtain ⟨i1, i2⟩ := FS.out W (HB.out.trans (hW.mono HB.out.size))
          go_simp
          exact hK _ _ (Below.refl _ _) hW rfl
        · intro a W K ho hW hpre hK
          rw [if_pos (wanted_none rfl)]
          have e0 : BigV W (a.tmps.getD 79 undef) (y) 2 := hpre ⟨4, .data⟩ (by simp) rfl _ rfl
          obtain ⟨m0, A0, l0, c0, f0⟩ := e0.form
          rw [f0] at e0
          have H0 := Lib.hid e0
          clear e0
          have e1 : a.tmps.getD 80 undef = .agg #[.bool ng, .slice S n1 k1] := hpre ⟨5, .data⟩ (by simp) rfl _ rfl
          go_simp
          refine (times_told _ _ y s 66 _ (H0.out.more (by omega)) (HV8.out.below (HB.out.trans (hW.mono HB.out.size))) (by omega)).mono ?_
          rintro e w9 ⟨ng', A', n', k', rfl, hV9, hb9⟩
          exact hK _ _ hb9 (hW.trans (hb9.mono hW.size)) hV9
        · intro a W K ho hW hpre hK
          rw [if_pos (wanted_none rfl)]
          have e0 : a.tmps.getD 6 undef = .int .i64 (T / 2) := ho.slot 6 (by decide)
          go_simp
          exact hK _ _ (Below.refl _ _) hW rfl
        · intro a W K ho hW hpre hK
          rw [if_pos (wanted_none rfl)]
          have e0 : a.tmps.getD 82 undef = .int .i64 (T / 2) := hpre ⟨7, .data⟩ (by simp) rfl _ rfl
          go_simp
          refine (CH.out _).mono ?_
          rintro e w9 ⟨ng', A', n', k', rfl, hV9, hb9⟩
          exact hK _ _ hb9 (hW.trans (hb9.mono hW.size)) hV9
        · intro a W K ho hW hpre hK
          rw [if_pos (wanted_none rfl)]
          have e0 : a.tmps.getD 5 undef = .slice (some ⟨pb, po, none⟩) wl.length cp := ho.slot 5 (by decide)
          go_simp
          exact hK _ _ (Below.refl _ _) hW rfl
        · intro a W K ho hW hpre hK
          rw [if_pos (wanted_none rfl)]
          have e0 : a.tmps.getD 10 undef = .int .i64 (k : Int) := ho.slot 10 (by decide)
          go_simp
          exact hK _ _ (Below.refl _ _) hW rfl
        · intro a W K ho hW hpre hK
          rw [if_pos (wanted_none rfl)]
          have e0 : a.tmps.getD 84 undef = .slice (some ⟨pb, po, none⟩) wl.length cp := hpre ⟨9, .data⟩ (by simp) rfl _ rfl
          have e1 : a.tmps.getD 85 undef = .int .i64 (k : Int) := hpre ⟨10, .data⟩ (by simp) rfl _ rfl
          go_simp
          exact hK _ _ (Below.refl _ _) hW rfl
        · intro a W K ho hW hpre hK
          rw [if_pos (wanted_none rfl)]
          have e0 : a.tmps.getD 86 undef = .pointer (some ⟨pb, po + k, none⟩) := hpre ⟨11, .data⟩ (by simp) rfl _ rfl
          have i1 := FPk.out W (HB.out.trans (hW.mono HB.out.size))
          go_simp
          exact hK _ _ (Below.refl _ _) hW rfl
        · intro a W K ho hW hpre hK
          rw [if_pos (wanted_none rfl)]
          have e0 : a.tmps.getD 87 undef = .int .i64 x := hpre ⟨12, .data⟩ (by simp) rfl _ rfl
          go_simp
          refine (CX.out _).mono ?_
          rintro e w9 ⟨ng', A', n', k', rfl, hV9, hb9⟩
          exact hK _ _ hb9 (hW.trans (hb9.mono hW.size)) hV9
        · intro a W K ho hW hpre hK
          rw [if_pos (wanted_none rfl)]
          have e0 : BigV W (a.tmps.getD 83 undef) (T / 2) 2 := hpre ⟨8, .data⟩ (by simp) rfl _ rfl
          obtain ⟨m0, A0, l0, c0, f0⟩ := e0.form
          rw [f0] at e0
          have H0 := Lib.hid e0
          clear e0
          have e1 : BigV W (a.tmps.getD 88 undef) (x) 2 := hpre ⟨13, .data⟩ (by simp) rfl _ rfl
          obtain ⟨m1, A1, l1, c1, f1⟩ := e1.form
          rw [f1] at e1
          have H1 := Lib.hid e1
          clear e1
          go_simp
          refine (times_told _ _ (T / 2) x 2 _ H0.out H1.out (by omega)).mono ?_
          rintro e w9 ⟨ng', A', n', k', rfl, hV9, hb9⟩
          exact hK _ _ hb9 (hW.trans (hb9.mono hW.size)) hV9
        · intro a W K ho hW hpre hK
          rw [if_pos (wanted_none rfl)]
          have e0 : BigV W (a.tmps.getD 81 undef) (y * s) 133 := hpre ⟨6, .data⟩ (by simp) rfl _ rfl
          obtain ⟨m0, A0, l0, c0, f0⟩ := e0.form
          rw [f0] at e0
          have H0 := Lib.hid e0
          clear e0
          have e1 : BigV W (a.tmps.getD 89 undef) (T / 2 * x) 5 := hpre ⟨14, .data⟩ (by simp) rfl _ rfl
          obtain ⟨m1, A1, l1, c1, f1⟩ := e1.form
          rw [f1] at e1
          have H1 := Lib.hid e1
          clear e1
          go_simp
          refine (less_told _ _ (y * s) (T / 2 * x) 133 _ H0.out (H1.out.more (by omega)) (by omega)).mono ?_
          rintro e w9 ⟨ng', A', n', k', rfl, hV9, hb9⟩
          exact hK _ _ hb9 (hW.trans (hb9.mono hW.size)) hV9
        · intro a W K ho hW hpre hK
          rw [if_pos (wanted_none rfl)]
          have e0 : BigV W (a.tmps.getD 90 undef) (y * s - T / 2 * x) 134 := hpre ⟨15, .data⟩ (by simp) rfl _ rfl
          obtain ⟨m0, A0, l0, c0, f0⟩ := e0.form
          rw [f0] at e0
          have H0 := Lib.hid e0
          clear e0
          go_simp
          refine (sized_told9 _ _ 134 _ H0.out).mono ?_
          rintro e w9 ⟨ng', A', n', k', rfl, hV9, hb9⟩
          exact hK _ _ hb9 (hW.trans (hb9.mono hW.size)) hV9
        · intro a W K ho hW hpre hK
          rw [if_pos (wanted_none rfl)]
          go_simp
          exact hK _ _ ((Below.refl _ _).alloc (Nat.le_refl _) _) (hW.trans (((Below.refl W.heap.size W).alloc (Nat.le_refl _) _).mono hW.size)) ⟨_, rfl, hW.size, Box2.new W _ _ _ _ rfl⟩
        · intro a W K ho hW hall hK
          obtain ⟨b, e11, hlo, hbx⟩ : ∃ b, a.tmps.getD 11 undef = .pointer (some ⟨b, 0, none⟩) ∧ wr.heap.size ≤ b ∧ Box2 W b (.bool false) (.slice none 0 0) := hall 17 _ rfl
          have h16 : BigV W (a.tmps.getD 91 undef) ((y * s - T / 2 * x).natAbs : Int) 134 := hall 16 _ rfl
          obtain ⟨nf, F, lf, cf, e91⟩ := h16.form
          rw [e91] at h16
          have H16 := Lib.hid h16
          have HBX := Lib.hid hbx
          obtain ⟨j1, j2, j3, j4⟩ := hbx
          clear hall h16
          go_simp
          exact hK _ ⟨b, nf, F, lf, cf, e11, HBX.out.set _ _, big_in H16.out HBX.out _ _, below_in hW hlo _ _⟩
        · intro a W ho hf
          obtain ⟨b, nf, F, lf, cf, e11, hbx, hbv, hbl⟩ := hf
          have HF := Lib.hid (show Box2 W b (.bool nf) (.slice F lf cf) ∧ BigV W (.agg #[.bool nf, .slice F lf cf]) ((y * s - T / 2 * x).natAbs : Int) 134 ∧ Below wr.heap.size wr W from ⟨hbx, hbv, hbl⟩)
          have heq := ho.eq
          clear hbx hbv hbl ho
          simp only [putL, e11] at heq
          generalize a.tmps.getD 75 undef = v75 at heq
          generalize a.tmps.getD 76 undef = v76 at heq
          generalize a.tmps.getD 77 undef = v77 at heq
          generalize a.tmps.getD 78 undef = v78 at heq
          generalize a.tmps.getD 79 undef = v79 at heq
          generalize a.tmps.getD 80 undef = v80 at heq
          generalize a.tmps.getD 81 undef = v81 at heq
          generalize a.tmps.getD 82 undef = v82 at heq
          generalize a.tmps.getD 83 undef = v83 at heq
          generalize a.tmps.getD 84 undef = v84 at heq
          generalize a.tmps.getD 85 undef = v85 at heq
          generalize a.tmps.getD 86 undef = v86 at heq
          generalize a.tmps.getD 87 undef = v87 at heq
          generalize a.tmps.getD 88 undef = v88 at heq
          generalize a.tmps.getD 89 undef = v89 at heq
          generalize a.tmps.getD 90 undef = v90 at heq
          generalize a.tmps.getD 91 undef = v91 at heq
          clear e11
          subst heq
          go_simp
          go_wp2
          go_meet
          exact ⟨_, _, _, _, _, rfl, HF⟩
      case rest =>
        obtain ⟨b, nf, F, lf, cf, rfl, HF⟩ := hcut
        have HBc := Lib.hid (HB.out.trans (HF.out.2.2.mono HB.out.size))
        obtain ⟨g1, g2, _, _⟩ := HF.out.1
        obtain ⟨g3, g4⟩ := FS.out _ HBc.out
        have g5 := FQk.out _ HBc.out
        have CC1 : Hid (Calls Try.prog 26 #[.agg #[.bool nf, .slice F lf cf], .agg #[.bool ng, .slice S n1 k1]] wc fun e w' => e = .returned (.int .i64 (-1)) ∧ Below wc.heap.size wc w') := Lib.hid (by
          have h9 := rcmp_any _ _ _ _ 134 wc HF.out.2.1 ((HV8.out.below HBc.out).more (by omega)) (by omega)
          have h8 := HOk.out
          rw [show ord3 ((y * s - T / 2 * x).natAbs : Int) s = -1 from by unfold ord3; rw [if_pos h8]] at h9
          exact h9)
        have TWO := Lib.hid (fun j (hj : j < k) => two_le_sum hnn j k hj (by omega))
        clear HF HOk CX CY HX8 HV8
        go_wp2_with (go_at_call 26; refine CC1.out.mono ?_; rintro e w9 ⟨rfl, hb9⟩)
        have HB9 := Lib.hid (HBc.out.trans (hb9.mono HBc.out.size))
        clear hb9 g1 g2 g3 g4 g5 CC1 HBc
        go_loopw [12] (fun i wx => ∃ j : Nat, j ≤ k ∧ i = .int .i64 j ∧ Hid (Below w8.heap.size w8 wx)) (fun i _ => k - (intOf i).toNat)
        case atStart => exact ⟨0, Nat.zero_le _, rfl, HB9⟩
        case round =>
          obtain ⟨j, hj, rfl, HBj⟩ := hrel
          by_cases hjk : j < k
          · have p1 := FP.out _ j HBj.out (by omega)
            have p2 := FPk.out _ HBj.out
            have q1 := FQ.out _ j HBj.out (by omega)
            have q2 := FQk.out _ HBj.out
            have hge := HGE.out j k (by omega) hlt
            have hne := HNE.out j k (by omega) hlt
            have htwo := TWO.out j hjk
            rw [hsum, ← HYK.out] at htwo
            rw [← HXK.out, ← HYK.out] at hge hne
            have hji : I64 (al.getD j 0) := hal _ (getD_mem9 (by omega))
            generalize wl.getD j 0 = xj at *
            generalize al.getD j 0 = yj at *
            rcases Int.lt_trichotomy x xj with hlt9 | heq9 | hgt9
            · have h1 := hge (.inl hlt9)
              have d1 : decide (x < xj) = true := decide_eq_true hlt9
              have d2 : decide (yj < y) = false := decide_eq_false (by omega)
              have d3 : (xj == x) = false := by rw [beq_eq_false_iff_ne]; omega
              clear hge hne htwo hlt9 h1
              go_wp2
              go_quiet (fail)
              have HBq := Lib.hid (below_drewN HBj.out nq)
              clear p1 p2 q1 q2
              generalize wr.drewN nq = wq at *
              go_wp2
              go_roundw
              case rel => exact ⟨j + 1, by omega, by go_num, HBq⟩
              case measure => simp [intOf]; omega
            · have h1 := hge (.inr ⟨heq9, by omega⟩)
              have h2 := hne heq9
              have d1 : decide (x < xj) = false := decide_eq_false (by omega)
              have d2 : decide (yj < y) = false := decide_eq_false (by omega)
              have d3 : (xj == x) = true := by rw [beq_iff_eq]; omega
              have hy9 : y + 1 ≤ 9223372036854775807 := by omega
              have d4 : decide (y + 1 < yj) = false := decide_eq_false (by omega)
              clear hge hne htwo heq9 h1 h2
              go_wp2
              go_quiet (fail)
              have HBq := Lib.hid (below_drewN HBj.out nq)
              clear p1 p2 q1 q2
              generalize wr.drewN nq = wq at *
              go_wp2
              go_roundw
              case rel => exact ⟨j + 1, by omega, by go_num, HBq⟩
              case measure => simp [intOf]; omega
            · have d1 : decide (x < xj) = false := decide_eq_false (by omega)
              have d3 : (xj == x) = false := by rw [beq_eq_false_iff_ne]; omega
              clear hge hne htwo hgt9
              go_wp2
              go_quiet (fail)
              have HBq := Lib.hid (below_drewN HBj.out nq)
              clear p1 p2 q1 q2
              generalize wr.drewN nq = wq at *
              go_wp2
              go_roundw
              case rel => exact ⟨j + 1, by omega, by go_num, HBq⟩
              case measure => simp [intOf]; omega
          · obtain rfl : j = k := by omega
            go_wp2
            go_roundw
            case rel => exact ⟨j + 1, by omega, by go_num, HBj⟩
            case measure => simp [intOf]; omega
    · go_wp2
      go_ret
      exact ⟨rfl, HB8.out.trans (HB.out.mono HB8.out.size)⟩
end Go.Proofs.Ytiblbhppojfdaaa

/-
  The walk of novationlaw3.ShareTotal where all weights are 0; the whole.
-/
namespace Go.Proofs.Ytiblbhppojfdaaa
open Go.RowKit

theorem all_zero {l : List Int} (h : ∀ x ∈ l, 0 ≤ x) (hs : l.sum = 0) : (l.any fun x => decide (0 < x)) = false := by
  rw [List.any_eq_false]
  intro x hx
  have := le_sum h x hx
  simp
  omega
set_option maxRecDepth 100000 in
set_option maxHeartbeats 2000000 in
theorem total_none (T : Int) (wl : List Int) (A : Option Addr) (n c : Nat) (w : World) (hT : 0 ≤ T ∧ T ≤ 18446744073709551615) (hwr : ∀ x ∈ wl, 0 ≤ x ∧ x ≤ 4090905) (hwn : wl.length ≤ 20) (hS : wl.sum = 0)
    (ck : ∀ W, Calls Try.prog 27 #[] W fun e w' => e = .returned (.bool true) ∧ Below W.heap.size W w')
    (cw : ∀ W, Below w.heap.size w W → Calls Try.prog 28 #[.slice A n c] W fun e w' => ∃ v, e = .returned v ∧ w'.ownsRow W.heap.size 2 1 v wl.length (wl.map (Value.int .i64)) ∧ Below W.heap.size W w')
    (cs : ∀ W P p, Ints W .i64 P wl → Calls Try.prog 30 #[.int .i64 (T / 2), .slice P wl.length p] W fun e w' => ∃ (Q : Option Addr) (q : Nat), e = .returned (.tuple #[.slice Q (splitV (T / 2) wl).length q, .int .i64 (splitC (T / 2) wl)]) ∧ Ints w' .i64 Q (splitV (T / 2) wl) ∧ Below W.heap.size W w') :
    Calls Try.prog 4 #[.int .u64 T, .slice A n c] w fun e w' => e = .returned (.bool true) ∧ Below w.heap.size w w' := by
  have hwi : ∀ x ∈ wl, I64 x := fun x hx => by have := hwr x hx; unfold I64; omega
  have hw0 : ∀ x ∈ wl, 0 ≤ x := fun x hx => (hwr x hx).1
  have ht0 : 0 ≤ T / 2 := by omega
  have ht1 : T / 2 ≤ 9223372036854775807 := by omega
  have hpos := all_zero hw0 hS
  have hneg : (wl.any fun x => decide (x < 0)) = false := by
    rw [List.any_eq_false]
    intro x hx
    have := hw0 x hx
    simp
    omega
  have h2 : decide (wl.length ≤ 64) = true := decide_eq_true (by omega)
  have h1 : decide (T / 2 < 0) = false := decide_eq_false (by omega)
  have CK := Lib.hid ck
  have CW := Lib.hid cw
  have CU1 : Hid (∀ W P p, Ints W .i64 P wl → Calls Try.prog 29 #[.slice P wl.length p] W fun e w1 => ∃ (ng : Bool) (A1 : Option Addr) (n1 c1 : Nat), e = .returned (.agg #[.bool ng, .slice A1 n1 c1]) ∧ BigV w1 (.agg #[.bool ng, .slice A1 n1 c1]) 0 66 ∧ Below W.heap.size W w1) := Lib.hid fun W P p h => by
    have := sum_told9 P wl p W h hwi (by omega)
    rw [hS] at this
    exact this
  have CG : Hid (∀ W v, BigV W v 0 66 → Calls Try.prog 24 #[v] W fun e w' => e = .returned (.int .i64 0) ∧ Below W.heap.size W w') := Lib.hid fun W v hv => by
    have := sign_any v _ 66 W hv
    rw [show ord3 0 0 = 0 from rfl] at this
    exact this
  by_cases hz : T / 2 = 0
  · have hC : splitC (T / 2) wl = 0 := by
      unfold splitC
      rw [hpos, hneg, h1, h2, hS]
      have h3 : decide (0 < T / 2) = false := decide_eq_false (by omega)
      rw [h3]
      rfl
    have hV : (splitV (T / 2) wl).length = wl.length := by unfold splitV; rw [if_pos hC, splitL_length]
    have CS : Hid (∀ W P p, Ints W .i64 P wl → Calls Try.prog 30 #[.int .i64 (T / 2), .slice P wl.length p] W fun e w' => ∃ (Q : Option Addr) (q : Nat), e = .returned (.tuple #[.slice Q wl.length q, .int .i64 0]) ∧ Below W.heap.size W w') := Lib.hid fun W P p h => by
      have h9 := cs W P p h
      rw [hC, hV] at h9
      exact h9.mono fun e w' ⟨Q, q, e1, _, e3⟩ => ⟨Q, q, e1, e3⟩
    have hbq : (T / 2 == 0) = true := by rw [beq_iff_eq]; exact hz
    clear ck cw cs hC hV hpos hneg h1 h2 hwi hw0 hwr
    clear hz
    go_enter Try.func4, Try.ntmps4
    go_wp2_with (first
      | (go_at_call 27; refine (CK.out _).mono ?_; rintro e w1 ⟨rfl, hb1⟩; have HB1 := Lib.hid hb1; clear hb1)
      | (go_at_call 28; refine (CW.out _ HB1.out).mono ?_; rintro e w2 ⟨v2, rfl, hown, hb2⟩; obtain ⟨hlw, P, cp, rfl, hP, hp1, hp2⟩ := own_form2 hown; have HP2 := Lib.hid hP; have HB2 := Lib.hid (HB1.out.trans (hb2.mono HB1.out.size)); clear hown hP hb2 hlw)
      | (go_at_call 29; (with_reducible refine (CU1.out _ _ _ HP2.out).mono ?_); rintro e w3 ⟨ng, S, n1, k1, rfl, hV3, hb3⟩; have hb3' := hb3.trans ((Below.refl w3.heap.size w3).alloc (Nat.le_refl _) (.cells #[.bool ng, .slice S n1 k1] 28) |>.mono hb3.size); have HP3 := Lib.hid (HP2.out.below hb3'); have HB3 := Lib.hid (HB2.out.trans (hb3'.mono HB2.out.size)); have HX3 := Lib.hid (Box2.new w3 (.bool ng) (.slice S n1 k1) 28 _ rfl); have HV3 := Lib.hid (hV3.below ((Below.refl w3.heap.size w3).alloc (Nat.le_refl _) (.cells #[.bool ng, .slice S n1 k1] 28))); clear hV3 hb3 hb3' HP2 HB2)
      | (go_at_call 30; refine (CS.out _ _ _ HP3.out).mono ?_; rintro e w4 ⟨Q, q, rfl, hb4⟩; have HX4 := Lib.hid (HX3.out.below hb4); have HV4 := Lib.hid (HV3.out.below hb4); have HB4 := Lib.hid (HB3.out.trans (hb4.mono HB3.out.size)); obtain ⟨i1, i2, _, _⟩ := HX4.out; clear hb4 HP3 HX3 HV3 HB3)
      | (go_at_call 24; refine (CG.out _ _ HV4.out).mono ?_; rintro e w5 ⟨rfl, hb5⟩; clear i1 i2))
    go_ret
    exact ⟨rfl, HB4.out.trans (hb5.mono HB4.out.size)⟩
  · have hC : splitC (T / 2) wl = 1 := by
      unfold splitC
      rw [hpos, hneg, h1, h2]
      have h3 : decide (0 < T / 2) = true := decide_eq_true (by omega)
      rw [h3]
      rfl
    have CS : Hid (∀ W P p, Ints W .i64 P wl → Calls Try.prog 30 #[.int .i64 (T / 2), .slice P wl.length p] W fun e w' => ∃ (Q : Option Addr) (m q : Nat), e = .returned (.tuple #[.slice Q m q, .int .i64 1]) ∧ Below W.heap.size W w') := Lib.hid fun W P p h => by
      have h9 := cs W P p h
      rw [hC] at h9
      exact h9.mono fun e w' ⟨Q, q, e1, _, e3⟩ => ⟨Q, _, q, e1, e3⟩
    have hbn : (T / 2 != 0) = true := by rw [bne_iff_ne]; exact hz
    have hbq : (T / 2 == 0) = false := by rw [beq_eq_false_iff_ne]; exact hz
    clear hz
    clear ck cw cs hC hpos hneg h1 h2 hwi hw0 hwr
    go_enter Try.func4, Try.ntmps4
    go_wp2_with (first
      | (go_at_call 27; refine (CK.out _).mono ?_; rintro e w1 ⟨rfl, hb1⟩; have HB1 := Lib.hid hb1; clear hb1)
      | (go_at_call 28; refine (CW.out _ HB1.out).mono ?_; rintro e w2 ⟨v2, rfl, hown, hb2⟩; obtain ⟨hlw, P, cp, rfl, hP, hp1, hp2⟩ := own_form2 hown; have HP2 := Lib.hid hP; have HB2 := Lib.hid (HB1.out.trans (hb2.mono HB1.out.size)); clear hown hP hb2 hlw)
      | (go_at_call 29; (with_reducible refine (CU1.out _ _ _ HP2.out).mono ?_); rintro e w3 ⟨ng, S, n1, k1, rfl, hV3, hb3⟩; have hb3' := hb3.trans ((Below.refl w3.heap.size w3).alloc (Nat.le_refl _) (.cells #[.bool ng, .slice S n1 k1] 28) |>.mono hb3.size); have HP3 := Lib.hid (HP2.out.below hb3'); have HB3 := Lib.hid (HB2.out.trans (hb3'.mono HB2.out.size)); have HX3 := Lib.hid (Box2.new w3 (.bool ng) (.slice S n1 k1) 28 _ rfl); have HV3 := Lib.hid (hV3.below ((Below.refl w3.heap.size w3).alloc (Nat.le_refl _) (.cells #[.bool ng, .slice S n1 k1] 28))); clear hV3 hb3 hb3' HP2 HB2)
      | (go_at_call 30; refine (CS.out _ _ _ HP3.out).mono ?_; rintro e w4 ⟨Q, m4, q, rfl, hb4⟩; have HX4 := Lib.hid (HX3.out.below hb4); have HV4 := Lib.hid (HV3.out.below hb4); have HB4 := Lib.hid (HB3.out.trans (hb4.mono HB3.out.size)); obtain ⟨i1, i2, _, _⟩ := HX4.out; clear hb4 HP3 HX3 HV3 HB3)
      | (go_at_call 24; refine (CG.out _ _ HV4.out).mono ?_; rintro e w5 ⟨rfl, hb5⟩; clear i1 i2))
    go_ret
    exact ⟨rfl, HB4.out.trans (hb5.mono HB4.out.size)⟩
end Go.Proofs.Ytiblbhppojfdaaa

/-
  The walk of novationlaw3.ShareTotal, whole.
-/
namespace Go.Proofs.Ytiblbhppojfdaaa
open Go.RowKit

theorem wts_mem9 {l : List Int} (hl : ∀ x ∈ l, U32 x) : ∀ x ∈ wts l, 0 ≤ x ∧ x ≤ 4090905 := by
  intro x hx
  unfold wts at hx
  obtain ⟨y, hy, rfl⟩ := List.mem_map.1 hx
  exact wt_range (hl y (List.mem_of_mem_take hy))
theorem wts_len9 (l : List Int) : (wts l).length ≤ 20 := by
  unfold wts
  rw [List.length_map, List.length_take]
  omega
theorem wf_u64t {a : Int} (h : (Lit.int .u64 a).wf = true) : 0 ≤ a ∧ a ≤ 18446744073709551615 := by
  simpa [Lit.wf, IntKind.min, IntKind.max, IntKind.signed, IntKind.bits] using h
theorem wf_u32s {k : List Int} (h : ∀ n ∈ k, (Lit.int .u32 n).wf = true) : ∀ x ∈ k, U32 x := fun x hx => by
  have := h x hx
  simp [Lit.wf, IntKind.min, IntKind.max, IntKind.signed, IntKind.bits] at this
  unfold U32
  omega
theorem total_walk (T : Int) (A : Option Addr) (l : List Int) (c : Nat) (w : World) (hT : 0 ≤ T ∧ T ≤ 18446744073709551615) (hr : Ints w .u32 A l) (hl : ∀ x ∈ l, U32 x) (hn : l.length ≤ 9223372036854775807) :
    Calls Try.prog 4 #[.int .u64 T, .slice A l.length c] w fun e w' => e = .returned (.bool true) ∧ Below w.heap.size w w' := by
  have hm := wts_mem9 hl
  have hln := wts_len9 l
  have hs := sum_le9 hm hln
  have hwi : ∀ x ∈ wts l, I64 x := fun x hx => by have := hm x hx; unfold I64; omega
  have cw := fun W (hW : Below w.heap.size w W) => wts_any A l c W (hr.below hW) hl hn
  have cs : ∀ W P p, Ints W .i64 P (wts l) → Calls Try.prog 30 #[.int .i64 (T / 2), .slice P (wts l).length p] W fun e w' => ∃ (Q : Option Addr) (q : Nat), e = .returned (.tuple #[.slice Q (splitV (T / 2) (wts l)).length q, .int .i64 (splitC (T / 2) (wts l))]) ∧ Ints w' .i64 Q (splitV (T / 2) (wts l)) ∧ Below W.heap.size W w' := fun W P p h =>
    (split_any (T / 2) P (wts l) p W (by unfold I64; omega) h hwi (by omega)).mono fun e w' ⟨Q, q, e1, e2, _, _, _, e3⟩ => ⟨Q, q, e1, e2, e3⟩
  by_cases h0 : wts l = [] ∨ (wts l).sum = 0
  · have hS : (wts l).sum = 0 := by
      rcases h0 with h | h
      · rw [h]; rfl
      · exact h
    exact total_none T (wts l) A l.length c w hT hm hln hS known3_any cw cs
  · have hS : 0 < (wts l).sum := by
      have : (wts l).sum ≠ 0 := fun e => h0 (.inr e)
      omega
    exact total_some T (wts l) A l.length c w hT hm hln hS known3_any cw cs
end Go.Proofs.Ytiblbhppojfdaaa
