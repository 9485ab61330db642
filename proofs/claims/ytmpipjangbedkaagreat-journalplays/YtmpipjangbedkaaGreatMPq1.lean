import Derived.Test.YtmpipjangbedkaaGreatMPl2
import Derived.Test.YtmpipjangbedkaaGreatMInv
/-
  The walks of the program's rightInst, Right.
-/
namespace Go.Proofs.YtmpipjangbedkaaGreat
set_option maxRecDepth 8000
open Go Go.RowKit
set_option linter.unusedVariables false

set_option maxRecDepth 8000 in
set_option maxHeartbeats 4000000 in
theorem prinst_any (x : Ins) (w : World) : Calls Tryz.prog 90 #[x.v] w fun r w' => r = .returned (.bool (insOk x)) ∧ Below w.heap.size w w' := by
  obtain ⟨a0, a1, a2, a3⟩ := x
  unfold Ins.v
  dsimp only
  by_cases h0 : 0 ≤ a0
  · skip
    by_cases h1 : a0 < 4
    · skip
      by_cases h2 : 1 ≤ a1
      · skip
        by_cases h3 : a1 ≤ 1000000000000
        · skip
          by_cases h4 : 0 ≤ a2
          · skip
            by_cases h5 : a2 ≤ 1000000000
            · skip
              by_cases h6 : 0 ≤ a3
              · skip
                by_cases h7 : a3 ≤ 1000000000
                · skip
                  rw [show insOk ⟨a0, a1, a2, a3⟩ = true from by simp only [insOk, wIn, Bool.and_eq_true, decide_eq_true_eq]; omega]
                  go_enter Tryz.func90, Tryz.ntmps90
                  go_wp2
                  go_ret
                  exact ⟨rfl, (Below.refl _ _).alloc (Nat.le_refl _) _⟩
                · rw [show insOk ⟨a0, a1, a2, a3⟩ = false from by simp only [insOk, wIn, Bool.and_eq_false_iff, decide_eq_false_iff_not]; omega]
                  go_enter Tryz.func90, Tryz.ntmps90
                  go_wp2
                  go_ret
                  exact ⟨rfl, (Below.refl _ _).alloc (Nat.le_refl _) _⟩
              · rw [show insOk ⟨a0, a1, a2, a3⟩ = false from by simp only [insOk, wIn, Bool.and_eq_false_iff, decide_eq_false_iff_not]; omega]
                go_enter Tryz.func90, Tryz.ntmps90
                go_wp2
                go_ret
                exact ⟨rfl, (Below.refl _ _).alloc (Nat.le_refl _) _⟩
            · rw [show insOk ⟨a0, a1, a2, a3⟩ = false from by simp only [insOk, wIn, Bool.and_eq_false_iff, decide_eq_false_iff_not]; omega]
              go_enter Tryz.func90, Tryz.ntmps90
              go_wp2
              go_ret
              exact ⟨rfl, (Below.refl _ _).alloc (Nat.le_refl _) _⟩
          · rw [show insOk ⟨a0, a1, a2, a3⟩ = false from by simp only [insOk, wIn, Bool.and_eq_false_iff, decide_eq_false_iff_not]; omega]
            go_enter Tryz.func90, Tryz.ntmps90
            go_wp2
            go_ret
            exact ⟨rfl, (Below.refl _ _).alloc (Nat.le_refl _) _⟩
        · rw [show insOk ⟨a0, a1, a2, a3⟩ = false from by simp only [insOk, wIn, Bool.and_eq_false_iff, decide_eq_false_iff_not]; omega]
          go_enter Tryz.func90, Tryz.ntmps90
          go_wp2
          go_ret
          exact ⟨rfl, (Below.refl _ _).alloc (Nat.le_refl _) _⟩
      · rw [show insOk ⟨a0, a1, a2, a3⟩ = false from by simp only [insOk, wIn, Bool.and_eq_false_iff, decide_eq_false_iff_not]; omega]
        go_enter Tryz.func90, Tryz.ntmps90
        go_wp2
        go_ret
        exact ⟨rfl, (Below.refl _ _).alloc (Nat.le_refl _) _⟩
    · rw [show insOk ⟨a0, a1, a2, a3⟩ = false from by simp only [insOk, wIn, Bool.and_eq_false_iff, decide_eq_false_iff_not]; omega]
      go_enter Tryz.func90, Tryz.ntmps90
      go_wp2
      go_ret
      exact ⟨rfl, (Below.refl _ _).alloc (Nat.le_refl _) _⟩
  · rw [show insOk ⟨a0, a1, a2, a3⟩ = false from by simp only [insOk, wIn, Bool.and_eq_false_iff, decide_eq_false_iff_not]; omega]
    go_enter Tryz.func90, Tryz.ntmps90
    go_wp2
    go_ret
    exact ⟨rfl, (Below.refl _ _).alloc (Nat.le_refl _) _⟩
set_option maxRecDepth 8000 in
set_option maxHeartbeats 8000000 in
theorem plright_any (cf : Cfg) (A : Option Addr) (n c : Nat) (w : World) (hn : n = cf.insts.length) (hI : InsM w A cf.insts) : Calls Tryz.prog 73 #[cf.v (.slice A n c)] w fun r w' => r = .returned (.bool (planOk cf)) ∧ Below w.heap.size w w' := by
  have HN := Lib.hid hn
  have HC0 : Hid (CfAt (w.alloc (.cells (cf.cells (.slice A n c)).toArray 31)) w.heap.size cf (.slice A n c)) := Lib.hid (Rec.new w _ (cf.cells (.slice A n c)) _ rfl)
  have HB0 : Hid (Below w.heap.size w (w.alloc (.cells (cf.cells (.slice A n c)).toArray 31))) := Lib.hid ((Below.refl _ _).alloc (Nat.le_refl _) _)
  have HI := Lib.hid hI
  by_cases hlen : ¬ (1 ≤ n ∧ n ≤ 6)
  · have HP : Hid (planOk cf = false) := Lib.hid (plan_len (by rw [← hn]; exact hlen))
    rw [HP.out]
    have hcase : n = 0 ∨ 6 < n := by omega
    unfold Cfg.v
    clear hn hI hlen
    rcases hcase with rfl | h6
    · go_enter Tryz.func73, Tryz.ntmps73
      go_wp2
      go_ret
      exact ⟨rfl, (Below.refl _ _).alloc (Nat.le_refl _) _⟩
    · go_enter Tryz.func73, Tryz.ntmps73
      go_wp2
      go_ret
      exact ⟨rfl, (Below.refl _ _).alloc (Nat.le_refl _) _⟩
  have hlen := Classical.not_not.1 hlen
  have hn1 := hlen.1
  have hn6 := hlen.2
  have HLN := Lib.hid (show 1 ≤ cf.insts.length ∧ cf.insts.length ≤ 6 by rw [← hn]; exact hlen)
  have CI := Lib.hid (fun x W => prinst_any x W)
  unfold Cfg.v
  clear hn hI hlen
  go_enter Tryz.func73, Tryz.ntmps73
  go_wp2
  go_loopw [18] (fun i wr => ∃ k : Nat, k ≤ n ∧ i = .int .i64 (k : Int) ∧ Hid (CfAt wr w.heap.size cf (.slice A n c)) ∧ Hid (Below w.heap.size w wr) ∧ Hid (∀ j, j < k → insOk (cf.insts.getD j Ins.zero) = true)) (fun i _ => n - (intOf i).toNat)
  case atStart => exact ⟨0, Nat.zero_le _, rfl, HC0, HB0, Lib.hid (fun j hj => absurd hj (Nat.not_lt_zero j))⟩
  case round =>
    obtain ⟨k, hk, rfl, HC, HB, HA⟩ := hrel
    obtain ⟨d0, d1, d2, d3, d4, d5, d6⟩ := HC.out.reads
    by_cases hlt : k < n
    · have hkl : k < cf.insts.length := by rw [← HN.out]; exact hlt
      obtain ⟨b, off, rfl, hcells⟩ := (HI.out.below HB.out) (by omega)
      obtain ⟨e0, e1, e2, e3⟩ := hcells k hkl
      have HX := Lib.hid hkl
      obtain ⟨x, hx⟩ : ∃ x, x = cf.insts.getD k Ins.zero := ⟨_, rfl⟩
      rw [← hx] at e0 e1 e2 e3
      have CX := Lib.hid (CI.out x)
      have HXX := Lib.hid hx
      clear hcells hkl hx
      cases hok : insOk x with
      | false =>
        rw [hok] at CX
        have HF : Hid (planOk cf = false) := Lib.hid (plan_ins HX.out (by rw [← HXX.out]; exact hok))
        clear hok
        unfold Ins.v at CX
        go_wp2_with (go_at_call 90; (with_reducible refine (CX.out _).mono ?_); rintro r w5 ⟨rfl, hb5⟩; have HB5 := Lib.hid (((Below.refl _ wr).alloc (Nat.le_refl _) _).trans (hb5.mono (by simp))); clear hb5)
        go_ret
        exact ⟨by rw [HF.out]; rfl, HB.out.trans (HB5.out.mono HB.out.size)⟩
      | true =>
        rw [hok] at CX
        have HA2 : Hid (∀ j, j < k + 1 → insOk (cf.insts.getD j Ins.zero) = true) := Lib.hid (fun j hj => by
          rcases Nat.lt_or_eq_of_le (Nat.le_of_lt_succ hj) with h | h
          · exact HA.out j h
          · rw [h, ← HXX.out]; exact hok)
        clear hok
        unfold Ins.v at CX
        go_wp2_with (go_at_call 90; (with_reducible refine (CX.out _).mono ?_); rintro r w5 ⟨rfl, hb5⟩; have HB5 := Lib.hid (((Below.refl _ wr).alloc (Nat.le_refl _) _).trans (hb5.mono (by simp))); clear hb5)
        go_roundw
        case rel => exact ⟨k + 1, by omega, by go_num, Lib.hid (HC.out.keep HB5.out), Lib.hid (HB.out.trans (HB5.out.mono HB.out.size)), HA2⟩
        case measure => simp [intOf]; omega
    · obtain rfl : k = n := by omega
      have HP : Hid (planOk cf = restOk cf) := Lib.hid (plan_all HLN.out (fun i hi => HA.out i (by rw [HN.out]; exact hi)))
      clear hlt HA HLN HN
      by_cases h0 : 0 ≤ cf.skin
      · skip
        by_cases h1 : 0 ≤ cf.times
        · skip
          by_cases h2 : cf.times ≤ 4
          · skip
            by_cases h3 : 0 ≤ cf.port
            · skip
              by_cases h4 : cf.port ≤ 1000000
              · skip
                by_cases h5 : 0 ≤ cf.bid
                · skip
                  by_cases h6 : cf.bid ≤ 1000000
                  · skip
                    by_cases h7 : 1 ≤ cf.lot
                    · skip
                      by_cases h8 : cf.lot ≤ 4611686018427387904
                      · skip
                        by_cases h9 : 0 ≤ cf.hedge
                        · skip
                          have HR : Hid (restOk cf = true) := Lib.hid (by simp only [restOk, wIn, Bool.and_eq_true, decide_eq_true_eq]; omega)
                          go_wp2
                          go_ret
                          exact ⟨by rw [HP.out, HR.out]; rfl, HB.out⟩
                        · have HR : Hid (restOk cf = false) := Lib.hid (by simp only [restOk, wIn, Bool.and_eq_false_iff, decide_eq_false_iff_not]; omega)
                          go_wp2
                          go_ret
                          exact ⟨by rw [HP.out, HR.out]; rfl, HB.out⟩
                      · have HR : Hid (restOk cf = false) := Lib.hid (by simp only [restOk, wIn, Bool.and_eq_false_iff, decide_eq_false_iff_not]; omega)
                        go_wp2
                        go_ret
                        exact ⟨by rw [HP.out, HR.out]; rfl, HB.out⟩
                    · have HR : Hid (restOk cf = false) := Lib.hid (by simp only [restOk, wIn, Bool.and_eq_false_iff, decide_eq_false_iff_not]; omega)
                      go_wp2
                      go_ret
                      exact ⟨by rw [HP.out, HR.out]; rfl, HB.out⟩
                  · have HR : Hid (restOk cf = false) := Lib.hid (by simp only [restOk, wIn, Bool.and_eq_false_iff, decide_eq_false_iff_not]; omega)
                    go_wp2
                    go_ret
                    exact ⟨by rw [HP.out, HR.out]; rfl, HB.out⟩
                · have HR : Hid (restOk cf = false) := Lib.hid (by simp only [restOk, wIn, Bool.and_eq_false_iff, decide_eq_false_iff_not]; omega)
                  go_wp2
                  go_ret
                  exact ⟨by rw [HP.out, HR.out]; rfl, HB.out⟩
              · have HR : Hid (restOk cf = false) := Lib.hid (by simp only [restOk, wIn, Bool.and_eq_false_iff, decide_eq_false_iff_not]; omega)
                go_wp2
                go_ret
                exact ⟨by rw [HP.out, HR.out]; rfl, HB.out⟩
            · have HR : Hid (restOk cf = false) := Lib.hid (by simp only [restOk, wIn, Bool.and_eq_false_iff, decide_eq_false_iff_not]; omega)
              go_wp2
              go_ret
              exact ⟨by rw [HP.out, HR.out]; rfl, HB.out⟩
          · have HR : Hid (restOk cf = false) := Lib.hid (by simp only [restOk, wIn, Bool.and_eq_false_iff, decide_eq_false_iff_not]; omega)
            go_wp2
            go_ret
            exact ⟨by rw [HP.out, HR.out]; rfl, HB.out⟩
        · have HR : Hid (restOk cf = false) := Lib.hid (by simp only [restOk, wIn, Bool.and_eq_false_iff, decide_eq_false_iff_not]; omega)
          go_wp2
          go_ret
          exact ⟨by rw [HP.out, HR.out]; rfl, HB.out⟩
      · have HR : Hid (restOk cf = false) := Lib.hid (by simp only [restOk, wIn, Bool.and_eq_false_iff, decide_eq_false_iff_not]; omega)
        go_wp2
        go_ret
        exact ⟨by rw [HP.out, HR.out]; rfl, HB.out⟩
end Go.Proofs.YtmpipjangbedkaaGreat

/-
  The law of drawn regions by what holds of each value, for a region whose last operation waits for all others and may turn what they speak of (a store into a struct that the region made). No program is named here.
-/
namespace Go.Proofs.YtmpipjangbedkaaGreat
set_option maxRecDepth 8000
open Go

section
variable {P : Program} {Q : Exit → Act → World → Prop}
/-- An operation waits for all of the first n. -/
def waitsB (n : Nat) (o : Oper) : Bool := (List.range n).all fun j => o.after.toList.any fun e => e.on == j && Region.binds .any e
theorem waitsB_get {n : Nat} {o : Oper} (h : waitsB n o = true) (j : Nat) (hj : j < n) : ∃ e ∈ o.after, e.on = j ∧ Region.binds .any e = true := by
  have h1 := List.all_eq_true.1 h j (List.mem_range.2 hj)
  obtain ⟨e, he, h2⟩ := List.any_eq_true.1 h1
  rw [Bool.and_eq_true] at h2
  exact ⟨e, Array.mem_toList_iff.1 he, by simpa using h2.1, h2.2⟩
/-- THE LAW. The last operation has no slot. -/
theorem wp_region_dagS {id : Nat} {a0 : Act} {w : World} {l : List Oper} {z : Oper} (D : List Nat) (Gr : World → World → Prop) (Wp : World → Prop) (Pv : Nat → Value → World → Prop) (Fin : Act → World → Prop) (hm : P.follows .mixedOrders = true) (hac : acycB .any 0 (l ++ [z]) = true) (hdis : disB l = true) (hin : inB D a0.tmps.size l = true)
    (hz : waitsB l.length z = true) (hzd : z.dst = none) (hzg : z.guard = none)
    (stable : ∀ i v W W', Gr W W' → Pv i v W → Pv i v W')
    (h0 : Wp { w with drawn := w.drawn + 1 })
    (hst : StepsD P (l ++ [z]).toArray (NoPanic Q) D a0 Gr Wp Pv 0 l)
    (hlast : ∀ (a : Act) (W : World) (K : Act → World → Prop), Off D a0 a → Wp W → (∀ (i : Nat) (o : Oper), l[i]? = some o → Pv i (valOf a o) W) → (∀ W', Fin a W' → K a W') → Oper.wp P z a W K (NoPanic Q))
    (hend : ∀ (a : Act) (W : World), Off D a0 a → Fin a W → Q .normal a W) : (Code.region id (l ++ [z]).toArray true).wp P Q a0 w := by
  have hget : ∀ (i : Nat) (o : Oper), l[i]? = some o → (l ++ [z])[i]? = some o := fun i o h => by rw [List.getElem?_append_left (List.getElem?_eq_some_iff.1 h).1]; exact h
  refine wp_region_inv (fun listed a W => Off D a0 a ∧ ((listed.getD l.length false = false ∧ Wp W ∧ ∀ (i : Nat) (o : Oper), l[i]? = some o → listed.getD i false = true → Pv i (valOf a o) W) ∨ ((∀ i, i < l.length → listed.getD i false = true) ∧ listed.getD l.length false = true ∧ Fin a W))) hm hac ⟨Off.refl _ _, .inl ⟨?_, h0, fun i o _ h => ?_⟩⟩ ?_ ?_
  · rw [Array.getD_eq_getD_getElem?, Array.getElem?_replicate]
    split <;> rfl
  · rw [Array.getD_eq_getD_getElem?, Array.getElem?_replicate] at h
    split at h <;> simp at h
  · have key : ∀ (j : Nat) (o : Oper), (l ++ [z])[j]? = some o → StepI P .any (l ++ [z]).toArray (NoPanic Q) (fun listed a W => Off D a0 a ∧ ((listed.getD l.length false = false ∧ Wp W ∧ ∀ (i : Nat) (o : Oper), l[i]? = some o → listed.getD i false = true → Pv i (valOf a o) W) ∨ ((∀ i, i < l.length → listed.getD i false = true) ∧ listed.getD l.length false = true ∧ Fin a W))) j o := by
      intro i o ho listed a W hJ hl hafter K' hK'
      have hl' : listed.getD i false = false := by
        have h4 := lt_of_unl hl
        rw [Array.getD_eq_getD_getElem?, Array.getElem?_eq_getElem h4] at hl ⊢
        exact hl
      rcases Nat.lt_or_ge i l.length with hi | hi
      · -- one of the others
        have ho2 : l[i]? = some o := by rw [List.getElem?_append_left hi] at ho; exact ho
        rcases hJ.2 with ⟨hnl, hw0, hp0⟩ | ⟨hall, _, _⟩
        · have hs := hst.get i o ho2
          rw [Nat.zero_add] at hs
          have hine := List.all_eq_true.1 hin o (List.mem_of_getElem? ho2)
          refine hs a W K' hJ.1 hw0 (fun e he hb o' ho' => ?_) ?_
          · have hlt : e.on < i := by have := acyc_get hac i o ho e he hb; omega
            have ho3 : l[e.on]? = some o' := by
              have h9 : (l ++ [z])[e.on]? = some o' := by simpa using ho'
              rw [List.getElem?_append_left (by omega)] at h9
              exact h9
            exact hp0 e.on o' ho3 (hafter e he hb)
          intro v W' hg hw hp
          refine hK' _ _ ⟨?_, .inl ⟨?_, hw, fun j o' ho' hj => ?_⟩⟩
          · cases hd : o.dst with
            | none => exact hJ.1
            | some d =>
              rw [hd] at hine
              simp only [Bool.and_eq_true, List.contains_iff_mem] at hine
              exact hJ.1.put hine.1 v
          · rw [Array.getD_eq_getD_getElem?, Array.getElem?_setIfInBounds_ne (by omega), ← Array.getD_eq_getD_getElem?]
            exact hnl
          · rcases getD_set_at hj with rfl | hj
            · rw [ho2] at ho'
              injection ho' with e
              subst e
              unfold valOf
              cases hd : o.dst with
              | none => rw [hd] at hp; exact hp
              | some d =>
                rw [hd] at hp hine
                simp only [Bool.and_eq_true, decide_eq_true_eq] at hine
                simp only [Act.put]
                rw [vget_at _ _ (by rw [hJ.1.size]; exact hine.2)]
                exact hp
            · have h1 := stable _ _ _ _ hg (hp0 j o' ho' hj)
              have e : valOf (a.put o.dst v) o' = valOf a o' := by
                unfold valOf
                cases hd' : o'.dst with
                | none => rfl
                | some d' =>
                  cases hd : o.dst with
                  | none => rfl
                  | some d =>
                    simp only [Act.put]
                    refine vget_ne _ _ fun e => ?_
                    subst e
                    have e2 := disB_get hdis i j o o' _ ho2 ho' hd hd'
                    subst e2
                    rw [hl'] at hj
                    cases hj
              rw [e]
              exact h1
        · rw [hall i hi] at hl'
          cases hl'
      · -- the last
        have e : i = l.length := by
          have := (List.getElem?_eq_some_iff.1 ho).1
          simp at this
          omega
        subst e
        have hoz : o = z := by
          rw [List.getElem?_append_right (Nat.le_refl _), Nat.sub_self] at ho
          simpa using ho.symm
        subst hoz
        rw [if_pos (by unfold Region.wanted; rw [hzg])]
        rcases hJ.2 with ⟨_, hw0, hp0⟩ | ⟨_, h9, _⟩
        · have hall : ∀ j, j < l.length → listed.getD j false = true := fun j hj => by
            obtain ⟨e, he, h1, h2⟩ := waitsB_get hz j hj
            have := hafter e he h2
            rw [h1] at this
            exact this
          refine hlast a W K' hJ.1 hw0 (fun j o' ho' => hp0 j o' ho' (hall j (List.getElem?_eq_some_iff.1 ho').1)) fun W' hf => hK' _ _ ⟨hJ.1, .inr ⟨fun j hj => ?_, ?_, hf⟩⟩
          · rw [Array.getD_eq_getD_getElem?, Array.getElem?_setIfInBounds_ne (by omega), ← Array.getD_eq_getD_getElem?]
            exact hall j hj
          · have h4 := lt_of_unl hl
            simp [Array.getD, h4]
        · rw [h9] at hl'
          cases hl'
    have gen : ∀ (r : List Oper) (k : Nat), (∀ (j : Nat) (o : Oper), r[j]? = some o → StepI P .any (l ++ [z]).toArray (NoPanic Q) (fun listed a W => Off D a0 a ∧ ((listed.getD l.length false = false ∧ Wp W ∧ ∀ (i : Nat) (o : Oper), l[i]? = some o → listed.getD i false = true → Pv i (valOf a o) W) ∨ ((∀ i, i < l.length → listed.getD i false = true) ∧ listed.getD l.length false = true ∧ Fin a W))) (k + j) o) → StepsI P .any (l ++ [z]).toArray (NoPanic Q) (fun listed a W => Off D a0 a ∧ ((listed.getD l.length false = false ∧ Wp W ∧ ∀ (i : Nat) (o : Oper), l[i]? = some o → listed.getD i false = true → Pv i (valOf a o) W) ∨ ((∀ i, i < l.length → listed.getD i false = true) ∧ listed.getD l.length false = true ∧ Fin a W))) k r := by
      intro r
      induction r with
      | nil => intro k _; trivial
      | cons x r ih =>
        intro k h
        refine ⟨by have := h 0 x (by simp); simpa using this, ih (k + 1) fun j o hj => ?_⟩
        have := h (j + 1) o (by simpa using hj)
        rw [show k + 1 + j = k + (j + 1) from by omega]
        exact this
    exact gen (l ++ [z]) 0 fun j o hj => by rw [Nat.zero_add]; exact key j o hj
  · intro listed a W hJ hall
    rcases hJ.2 with ⟨hnl, _, _⟩ | ⟨_, _, hf⟩
    · have := hall l.length (by simp)
      rw [hnl] at this
      cases this
    · exact hend a W hJ.1 hf
/-- The same of a region that is written out. -/
theorem wp_region_dagL {id : Nat} {a0 : Act} {w : World} {L : List Oper} {z : Oper} (D : List Nat) (Gr : World → World → Prop) (Wp : World → Prop) (Pv : Nat → Value → World → Prop) (Fin : Act → World → Prop) (hzl : L.getLast? = some z) (hm : P.follows .mixedOrders = true) (hac : acycB .any 0 L = true) (hdis : disB L.dropLast = true) (hin : inB D a0.tmps.size L.dropLast = true)
    (hz : waitsB L.dropLast.length z = true) (hzd : z.dst = none) (hzg : z.guard = none)
    (stable : ∀ i v W W', Gr W W' → Pv i v W → Pv i v W')
    (h0 : Wp { w with drawn := w.drawn + 1 })
    (hst : StepsD P L.toArray (NoPanic Q) D a0 Gr Wp Pv 0 L.dropLast)
    (hlast : ∀ (a : Act) (W : World) (K : Act → World → Prop), Off D a0 a → Wp W → (∀ (i : Nat) (o : Oper), L.dropLast[i]? = some o → Pv i (valOf a o) W) → (∀ W', Fin a W' → K a W') → Oper.wp P z a W K (NoPanic Q))
    (hend : ∀ (a : Act) (W : World), Off D a0 a → Fin a W → Q .normal a W) : (Code.region id L.toArray true).wp P Q a0 w := by
  have e : L.dropLast ++ [z] = L := by
    rcases List.eq_nil_or_concat L with rfl | ⟨r, x, rfl⟩
    · cases hzl
    · rw [List.concat_eq_append] at hzl ⊢
      rw [List.getLast?_concat] at hzl
      injection hzl with hzl
      subst hzl
      rw [List.dropLast_concat]
  have h := wp_region_dagS (id := id) (l := L.dropLast) (z := z) D Gr Wp Pv Fin hm (by rw [e]; exact hac) hdis hin hz hzd hzg stable h0 (by rw [e]; exact hst) hlast hend
  rw [e] at h
  exact h
end
end Go.Proofs.YtmpipjangbedkaaGreat
