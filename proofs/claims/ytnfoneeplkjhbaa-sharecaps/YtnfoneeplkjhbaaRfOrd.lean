/-
  The walk of the reference's order of places.
-/
import Derived.Test.YtnfoneeplkjhbaaShC3
import Derived.Laws.AppendOwnNone
import Derived.Test.YtnfoneeplkjhbaaLWts
namespace Go.Proofs.Ytnfoneeplkjhbaa
open Go.RowKit

theorem ins_at (l : List Int) (i : Nat) : ∀ (o : List Nat) (k : Nat), (∀ j, j < k → l.getD i 0 ≤ l.getD (o.getD j 0) 0) → k ≤ o.length → (k < o.length → l.getD (o.getD k 0) 0 < l.getD i 0) → ins l i o = o.take k ++ i :: o.drop k := by
  intro o
  induction o with
  | nil => intro k _ h _; simp at h; subst h; rfl
  | cons a o ih =>
    intro k h1 h2 h3
    cases k with
    | zero =>
      have := h3 (by simp)
      simp only [List.getD_cons_zero] at this
      unfold ins
      rw [if_neg (by omega)]
      rfl
    | succ k =>
      have h0 := h1 0 (by omega)
      simp only [List.getD_cons_zero] at h0
      unfold ins
      rw [if_pos h0, ih k (fun j hj => by have := h1 (j + 1) (by omega); simpa using this) (by simpa using h2) (fun hk => by have := h3 (by simpa using hk); simpa using this)]
      rfl

/-- Places as cells. -/
def placeV (o : List Nat) : List Value := o.map fun (n : Nat) => Value.int .i64 (n : Int)
theorem placeV_append (a b : List Nat) : placeV (a ++ b) = placeV a ++ placeV b := by unfold placeV; rw [List.map_append]
theorem placeV_get (o : List Nat) (j : Nat) (h : j < o.length) : (placeV o)[j]? = some (.int .i64 ((o.getD j 0 : Nat) : Int)) := by
  unfold placeV
  rw [List.getElem?_map, List.getElem?_eq_getElem h, List.getD_eq_getElem?_getD, List.getElem?_eq_getElem h]; rfl
theorem placeV_one (o : List Nat) : ∀ u ∈ placeV o, u.oneCell' = true := by
  intro u hu
  unfold placeV at hu
  obtain ⟨n, _, rfl⟩ := List.mem_map.1 hu
  rfl
theorem placeV_length (o : List Nat) : (placeV o).length = o.length := by simp [placeV]
/-- The row of a slice of places, cell by cell. -/
theorem own_place {w : World} {base : Nat} {e : TypeId} {g n cap : Nat} {o : List Nat} (h : w.ownsRow base e 1 (.slice (some ⟨g, 0, none⟩) n cap) n (placeV o)) (j : Nat) (hj : j < o.length) : w.cell? ⟨g, j, none⟩ = some (.int .i64 ((o.getD j 0 : Nat) : Int)) := by
  have hc := h.cells (g := g) rfl j _ (placeV_get o j hj)
  rw [Go.WideShapes.add_plain, Nat.zero_add] at hc
  exact hc

theorem own_base {w : World} {base base' : Nat} {e : TypeId} {size : Nat} {v : Value} {n : Nat} {xs : List Value} (h : w.ownsRow base e size v n xs) (hb : base' ≤ base) : w.ownsRow base' e size v n xs := by
  refine ⟨h.1, ?_⟩
  rcases h.2 with h2 | ⟨g, cap, cur, h3, h4, h5⟩
  · exact .inl h2
  · exact .inr ⟨g, cap, cur, h3, Nat.le_trans hb h4, h5⟩

set_option maxRecDepth 8000 in
set_option maxHeartbeats 4000000 in
theorem rorder_any (A : Option Addr) (l : List Int) (c : Nat) (w : World) (hr : Ints w .i64 A l) (hn : l.length ≤ 1000000) :
    Calls Try.prog 18 #[.slice A l.length c] w fun e w' => ∃ v, e = .returned v ∧ w'.ownsRow w.heap.size 3 1 v l.length (placeV (ordL l)) ∧ Below w.heap.size w w' := by
  have HR := Lib.hid hr
  obtain ⟨i0, hi, hz0, hz1, hz2⟩ := parts_i64 info_int
  have HI := Lib.hid hi
  have HZ0 := Lib.hid hz0
  have HZ1 := Lib.hid hz1
  have HZ2 := Lib.hid hz2
  clear hi hz0 hz1 hz2 hr
  go_enter Try.func18, Try.ntmps18
  go_wp2
  go_loopw [3, 4] (fun v i wr => ∃ k : Nat, k ≤ l.length ∧ i = .int .i64 k ∧ Hid (wr.ownsRow w.heap.size 3 1 v k (placeV (ordTo l k))) ∧ Hid (Below w.heap.size w wr)) (fun _ i _ => l.length - (intOf i).toNat)
  case atStart => exact ⟨0, Nat.zero_le _, rfl, Lib.hid (World.ownsRow_nil _ _ _ _), Lib.hid (Below.refl _ _)⟩
  case round =>
    obtain ⟨i, hi, rfl, HO, HB⟩ := hrel
    by_cases hlt : i < l.length
    · generalize wr = w1 at *
      rcases HO.out.2 with ⟨rfl, rfl⟩ | ⟨g, cap, cur, rfl, hgb, _, hic, hcm, _, _⟩
      · clear HO
        have HNil : Hid (∀ W : World, W.ownsRow w1.heap.size 3 1 (.slice none 0 0) 0 []) := Lib.hid fun W => World.ownsRow_nil _ _ _ _
        go_wp2
        go_loopw [5] (fun kk wr2 => kk = .int .i64 0 ∧ Hid (Below w1.heap.size w1 wr2)) (fun _ _ => 0)
        case atStart => exact ⟨rfl, Lib.hid (Below.refl _ _)⟩
        case round =>
          obtain ⟨rfl, HB2⟩ := hrel
          go_wp2
          go_quiet (fail)
          have HB3 := Lib.hid (below_drewN HB2.out nq)
          generalize wr.drewN nq = w2 at *
          have hsz := HB3.out.size
          go_wp2_with (first
            | (at_builtin; refine wpList_append_own_none rfl _ _ 30 rfl w1.heap.size 3 i0 1 Try.underlying30 HI.out _ _ _ rfl (HNil.out _) rfl ?_)
            | (at_builtin; refine wpList_append_own _ rfl _ _ 30 rfl w1.heap.size 3 i0 (.int .i64 0) 1 8 Try.underlying30 HI.out HZ0.out HZ1.out HZ2.out rfl (by decide) _ _ _ rfl (HNil.out _) ⟨w2.heap.size, 0, none⟩ 1 1 [.int .i64 0] rfl rfl (cell_one_new _ _ _) (one_i64 _) (by unfold maxLen; omega) (by omega) (by simp; omega) ?_; intro v' w3 hown' hgrow _; have HO3 := Lib.hid hown'; have HB4 := Lib.hid ((HB3.out.alloc HB3.out.size _).grown hgrow (by simp; omega) (fun g hg => by cases hg)); clear hown' hgrow)
            | (at_builtin; refine wpList_append_own_none rfl _ _ 30 rfl w1.heap.size 3 i0 1 Try.underlying30 HI.out _ _ _ rfl HO3.out rfl ?_))
          have HO4 : Hid (w3.ownsRow w.heap.size 3 1 v' 1 (placeV (ordTo l 1))) := Lib.hid (own_base HO3.out HB.out.size)
          have HB5 := Lib.hid (grew HB.out HB4.out)
          clear HO3
          go_roundw
          case rel => exact ⟨1, by omega, by go_num, HO4, HB5⟩
          case measure => simp [intOf]; omega
      · have hol := ordTo_length l i
        have HNil : Hid (∀ W : World, W.ownsRow w1.heap.size 3 1 (.slice none 0 0) 0 []) := Lib.hid fun W => World.ownsRow_nil _ _ _ _
        have hglt := (HO.out.lt g rfl).2
        have HCo : Hid (∀ W, Below w1.heap.size w1 W → ∀ j, j < i → W.cell? ⟨g, j, none⟩ = some (.int .i64 (((ordTo l i).getD j 0 : Nat) : Int))) := Lib.hid fun W hW j hj => by
          rw [hW.cell (p := ⟨g, j, none⟩) hglt]
          exact own_place HO.out j (by omega)
        have HCl := Lib.hid (fun W (hW : Below w1.heap.size w1 W) => HR.out.below (grew HB.out hW))
        have HLt : Hid (∀ j, j < i → (ordTo l i).getD j 0 < l.length) := Lib.hid fun j hj => by
          have := ordTo_lt (l := l) (n := i) (k := (ordTo l i).getD j 0) (by rw [List.getD_eq_getElem?_getD, List.getElem?_eq_getElem (by omega)]; simp)
          omega
        clear HO
        go_wp2
        go_loopw [5] (fun kk wr2 => ∃ k : Nat, k ≤ i ∧ kk = .int .i64 k ∧ Hid (∀ j, j < k → l.getD i 0 ≤ l.getD ((ordTo l i).getD j 0) 0) ∧ Hid (Below w1.heap.size w1 wr2)) (fun kk _ => i - (intOf kk).toNat)
        case atStart => exact ⟨0, Nat.zero_le _, rfl, Lib.hid (fun j h => absurd h (by omega)), Lib.hid (Below.refl _ _)⟩
        case round =>
          obtain ⟨k, hk, rfl, HG, HB2⟩ := hrel
          obtain ⟨b, off, rfl, hcl⟩ := HCl.out _ HB2.out (by omega)
          have q1 := hcl i hlt
          by_cases hgo : k < i ∧ l.getD i 0 ≤ l.getD ((ordTo l i).getD k 0) 0
          · obtain ⟨hki, hle⟩ := hgo
            have q2 := HCo.out _ HB2.out k hki
            have hp := HLt.out k hki
            have q3 := hcl _ hp
            have HG2 : Hid (∀ j, j < k + 1 → l.getD i 0 ≤ l.getD ((ordTo l i).getD j 0) 0) := Lib.hid fun j hj => by
              by_cases e : j = k
              · rw [e]; exact hle
              · exact HG.out j (by omega)
            generalize (ordTo l i).getD k 0 = p at *
            generalize l.getD p 0 = lp at *
            generalize l.getD i 0 = li at *
            have d1 : decide (li ≤ lp) = true := decide_eq_true hle
            clear hcl
            go_wp2
            go_quiet (fail)
            go_wp2
            go_roundw
            case rel => exact ⟨k + 1, by omega, by go_num, HG2, Lib.hid (below_drewN HB2.out _)⟩
            case measure => simp [intOf]; omega
          · have hins := ins_at l i (ordTo l i) k HG.out (by omega) (fun h => by
              rw [hol] at h
              exact Int.not_le.1 fun hh => hgo ⟨h, hh⟩)
            have HIns := Lib.hid hins
            have hcase : k = i ∨ (k < i ∧ ¬ l.getD i 0 ≤ l.getD ((ordTo l i).getD k 0) 0) := by
              by_cases h : k < i
              · exact .inr ⟨h, fun hh => hgo ⟨h, hh⟩⟩
              · exact .inl (by omega)
            have HN1 : Hid (∀ W, Below w1.heap.size w1 W → ∀ j u, (placeV ((ordTo l i).take k))[j]? = some u → W.cell? ((⟨g, 0, none⟩ : Addr).add j) = some u) := Lib.hid fun W hW j u hu => by
              have hj : j < ((ordTo l i).take k).length := by
                rw [← placeV_length]
                exact (List.getElem?_eq_some_iff.1 hu).1
              rw [placeV_get _ _ hj] at hu
              rw [List.length_take] at hj
              rw [Go.WideShapes.add_plain, Nat.zero_add, HCo.out W hW j (by omega), ← hu]
              rw [List.getD_eq_getElem?_getD, List.getD_eq_getElem?_getD, List.getElem?_take_of_lt (by omega)]
            have HN2 : Hid (∀ W, Below w1.heap.size w1 W → ∀ j u, (placeV ((ordTo l i).drop k))[j]? = some u → W.cell? ((⟨g, k, none⟩ : Addr).add j) = some u) := Lib.hid fun W hW j u hu => by
              have hj : j < ((ordTo l i).drop k).length := by
                rw [← placeV_length]
                exact (List.getElem?_eq_some_iff.1 hu).1
              rw [placeV_get _ _ hj] at hu
              rw [List.length_drop] at hj
              rw [Go.WideShapes.add_plain, HCo.out W hW (k + j) (by omega), ← hu]
              rw [List.getD_eq_getElem?_getD, List.getD_eq_getElem?_getD, List.getElem?_drop]
            have HL1 : Hid ((placeV ((ordTo l i).take k)).length = k * 1) := Lib.hid (by rw [placeV_length, List.length_take]; omega)
            have HL2 : Hid ((placeV ((ordTo l i).drop k)).length = (i - k) * 1) := Lib.hid (by rw [placeV_length, List.length_drop]; omega)
            have HN3 : Hid (i ≤ k → ∀ (W : World) j u, (placeV ((ordTo l i).drop k))[j]? = some u → W.cell? ((⟨g, 0, none⟩ : Addr).add j) = some u) := Lib.hid fun h W j u hu => by
              have h1 := (List.getElem?_eq_some_iff.1 hu).1
              have h2 := HL2.out
              omega
            clear hins hgo
            rcases hcase with hki | ⟨hki, hle⟩
            · have hnk : ¬ k < i := by omega
              have hcc : k = cap ∨ k < cap := by omega
              clear hki hcl
              rcases hcc with hck | hck
              · subst hck
                obtain rfl : i = k := by omega
                clear hnk
                go_wp2
                go_quiet (fail)
                have HB3 := Lib.hid (below_drewN HB2.out nq)
                clear q1
                generalize wr.drewN nq = w2 at *
                have hsz := HB3.out.size
                go_wp2_with (first
                  | (at_builtin; refine wpList_append_own _ rfl _ _ 30 rfl w1.heap.size 3 i0 (.int .i64 0) 1 8 Try.underlying30 HI.out HZ0.out HZ1.out HZ2.out rfl (by decide) _ _ _ rfl HO2b.out ⟨g, 0, none⟩ 0 0 [] rfl rfl (fun j u hu => by simp at hu) (fun u hu => by simp at hu) (by unfold maxLen; omega) (by omega) (by omega) ?_; intro v3 w5 ho3 hg3 _; have HO3b := Lib.hid ho3; have HB6 := Lib.hid (HB5.out.grown hg3 hsz5 (fun g hg => (HO2b.out.lt g hg).1)); clear ho3 hg3)
                  | (at_builtin; refine wpList_append_own _ rfl _ _ 30 rfl w1.heap.size 3 i0 (.int .i64 0) 1 8 Try.underlying30 HI.out HZ0.out HZ1.out HZ2.out rfl (by decide) _ _ _ rfl (HO1b.out.alloc _) ⟨w3.heap.size, 0, none⟩ 1 1 [.int .i64 i] rfl rfl (cell_one_new _ _ _) (one_i64 _) (by unfold maxLen; omega) (by omega) (by simp; omega) ?_; intro v2 w4 ho2 hg2 _; have HO2b := Lib.hid ho2; have HB5 := Lib.hid ((HB4.out.alloc HB4.out.size _).grown hg2 (by simp; omega) (fun g hg => (HO1b.out.lt g hg).1)); have hsz5 := HB5.out.size; clear ho2 hg2)
                  | (at_builtin; refine wpList_append_own _ rfl _ _ 30 rfl w1.heap.size 3 i0 (.int .i64 0) 1 8 Try.underlying30 HI.out HZ0.out HZ1.out HZ2.out rfl (by decide) _ _ _ rfl (HNil.out _) ⟨g, 0, none⟩ i i (placeV ((ordTo l i).take i)) rfl HL1.out (HN1.out _ HB3.out) (placeV_one _) (by unfold maxLen; omega) (by omega) (by omega) ?_; intro v1 w3 ho1 hg1 _; have HO1b := Lib.hid ho1; have HB4 := Lib.hid (HB3.out.grown hg1 hsz (fun g hg => by cases hg)); have hsz4 := HB4.out.size; clear ho1 hg1))
                have HO7 : Hid (w5.ownsRow w.heap.size 3 1 v3 (i + 1) (placeV (ordTo l (i + 1)))) := Lib.hid <| by
                  have h := own_base HO3b.out HB.out.size
                  rw [show ordTo l (i + 1) = (ordTo l i).take i ++ i :: (ordTo l i).drop i from HIns.out, placeV_append, List.drop_eq_nil_of_le (by omega)]
                  rw [show 0 + i + 1 + 0 = i + 1 from by omega] at h
                  simp only [List.nil_append, List.append_nil] at h
                  exact h
                have HB7 := Lib.hid (grew HB.out HB6.out)
                clear HO1b HO2b HO3b HB3 HB4 HB5 HB6
                go_roundw
                case rel => exact ⟨i + 1, by omega, by go_num, HO7, HB7⟩
                case measure => simp [intOf]; omega
              · go_wp2
                go_quiet (fail)
                have HB3 := Lib.hid (below_drewN HB2.out nq)
                try clear q2 q3
                clear q1
                generalize wr.drewN nq = w2 at *
                have hsz := HB3.out.size
                go_wp2_with (first
                  | (at_builtin; refine wpList_append_own _ rfl _ _ 30 rfl w1.heap.size 3 i0 (.int .i64 0) 1 8 Try.underlying30 HI.out HZ0.out HZ1.out HZ2.out rfl (by decide) _ _ _ rfl HO2b.out ⟨g, k, none⟩ (i - k) (cap - k) (placeV ((ordTo l i).drop k)) rfl HL2.out (HN2.out _ HB5.out) (placeV_one _) (by unfold maxLen; omega) (by omega) (by omega) ?_; intro v3 w5 ho3 hg3 _; have HO3b := Lib.hid ho3; have HB6 := Lib.hid (HB5.out.grown hg3 hsz5 (fun g hg => (HO2b.out.lt g hg).1)); clear ho3 hg3)
                  | (at_builtin; refine wpList_append_own _ rfl _ _ 30 rfl w1.heap.size 3 i0 (.int .i64 0) 1 8 Try.underlying30 HI.out HZ0.out HZ1.out HZ2.out rfl (by decide) _ _ _ rfl (HO1b.out.alloc _) ⟨w3.heap.size, 0, none⟩ 1 1 [.int .i64 i] rfl rfl (cell_one_new _ _ _) (one_i64 _) (by unfold maxLen; omega) (by omega) (by simp; omega) ?_; intro v2 w4 ho2 hg2 _; have HO2b := Lib.hid ho2; have HB5 := Lib.hid ((HB4.out.alloc HB4.out.size _).grown hg2 (by simp; omega) (fun g hg => (HO1b.out.lt g hg).1)); have hsz5 := HB5.out.size; clear ho2 hg2)
                  | (at_builtin; refine wpList_append_own _ rfl _ _ 30 rfl w1.heap.size 3 i0 (.int .i64 0) 1 8 Try.underlying30 HI.out HZ0.out HZ1.out HZ2.out rfl (by decide) _ _ _ rfl (HNil.out _) ⟨g, 0, none⟩ k cap (placeV ((ordTo l i).take k)) rfl HL1.out (HN1.out _ HB3.out) (placeV_one _) (by unfold maxLen; omega) (by omega) (by omega) ?_; intro v1 w3 ho1 hg1 _; have HO1b := Lib.hid ho1; have HB4 := Lib.hid (HB3.out.grown hg1 hsz (fun g hg => by cases hg)); have hsz4 := HB4.out.size; clear ho1 hg1))
                have HO7 : Hid (w5.ownsRow w.heap.size 3 1 v3 (i + 1) (placeV (ordTo l (i + 1)))) := Lib.hid <| by
                  have h := own_base HO3b.out HB.out.size
                  rw [show ordTo l (i + 1) = (ordTo l i).take k ++ i :: (ordTo l i).drop k from HIns.out, placeV_append]
                  rw [show 0 + k + 1 + (i - k) = i + 1 from by omega] at h
                  simp only [List.nil_append, List.append_assoc] at h
                  exact h
                have HB7 := Lib.hid (grew HB.out HB6.out)
                clear HO1b HO2b HO3b HB3 HB4 HB5 HB6
                go_roundw
                case rel => exact ⟨i + 1, by omega, by go_num, HO7, HB7⟩
                case measure => simp [intOf]; omega
            · have q2 := HCo.out _ HB2.out k hki
              have hp := HLt.out k hki
              have q3 := hcl _ hp
              generalize (ordTo l i).getD k 0 = p at *
              generalize l.getD p 0 = lp at *
              generalize l.getD i 0 = li at *
              have d1 : decide (li ≤ lp) = false := decide_eq_false hle
              have hck : k < cap := by omega
              clear hcl hle
              go_wp2
              go_quiet (fail)
              have HB3 := Lib.hid (below_drewN HB2.out nq)
              try clear q2 q3
              clear q1
              generalize wr.drewN nq = w2 at *
              have hsz := HB3.out.size
              go_wp2_with (first
                | (at_builtin; refine wpList_append_own _ rfl _ _ 30 rfl w1.heap.size 3 i0 (.int .i64 0) 1 8 Try.underlying30 HI.out HZ0.out HZ1.out HZ2.out rfl (by decide) _ _ _ rfl HO2b.out ⟨g, k, none⟩ (i - k) (cap - k) (placeV ((ordTo l i).drop k)) rfl HL2.out (HN2.out _ HB5.out) (placeV_one _) (by unfold maxLen; omega) (by omega) (by omega) ?_; intro v3 w5 ho3 hg3 _; have HO3b := Lib.hid ho3; have HB6 := Lib.hid (HB5.out.grown hg3 hsz5 (fun g hg => (HO2b.out.lt g hg).1)); clear ho3 hg3)
                | (at_builtin; refine wpList_append_own _ rfl _ _ 30 rfl w1.heap.size 3 i0 (.int .i64 0) 1 8 Try.underlying30 HI.out HZ0.out HZ1.out HZ2.out rfl (by decide) _ _ _ rfl (HO1b.out.alloc _) ⟨w3.heap.size, 0, none⟩ 1 1 [.int .i64 i] rfl rfl (cell_one_new _ _ _) (one_i64 _) (by unfold maxLen; omega) (by omega) (by simp; omega) ?_; intro v2 w4 ho2 hg2 _; have HO2b := Lib.hid ho2; have HB5 := Lib.hid ((HB4.out.alloc HB4.out.size _).grown hg2 (by simp; omega) (fun g hg => (HO1b.out.lt g hg).1)); have hsz5 := HB5.out.size; clear ho2 hg2)
                | (at_builtin; refine wpList_append_own _ rfl _ _ 30 rfl w1.heap.size 3 i0 (.int .i64 0) 1 8 Try.underlying30 HI.out HZ0.out HZ1.out HZ2.out rfl (by decide) _ _ _ rfl (HNil.out _) ⟨g, 0, none⟩ k cap (placeV ((ordTo l i).take k)) rfl HL1.out (HN1.out _ HB3.out) (placeV_one _) (by unfold maxLen; omega) (by omega) (by omega) ?_; intro v1 w3 ho1 hg1 _; have HO1b := Lib.hid ho1; have HB4 := Lib.hid (HB3.out.grown hg1 hsz (fun g hg => by cases hg)); have hsz4 := HB4.out.size; clear ho1 hg1))
              have HO7 : Hid (w5.ownsRow w.heap.size 3 1 v3 (i + 1) (placeV (ordTo l (i + 1)))) := Lib.hid <| by
                have h := own_base HO3b.out HB.out.size
                rw [show ordTo l (i + 1) = (ordTo l i).take k ++ i :: (ordTo l i).drop k from HIns.out, placeV_append]
                rw [show 0 + k + 1 + (i - k) = i + 1 from by omega] at h
                simp only [List.nil_append, List.append_assoc] at h
                exact h
              have HB7 := Lib.hid (grew HB.out HB6.out)
              clear HO1b HO2b HO3b HB3 HB4 HB5 HB6
              go_roundw
              case rel => exact ⟨i + 1, by omega, by go_num, HO7, HB7⟩
              case measure => simp [intOf]; omega
    · obtain rfl : i = l.length := by omega
      go_wp2
      go_ret
      exact ⟨_, rfl, HO.out, HB.out⟩
end Go.Proofs.Ytnfoneeplkjhbaa
