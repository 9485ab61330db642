import Derived.Test.YtmpipjangbedkaaGreatMInv
import Derived.Test.YtmpipjangbedkaaGreatMPq1
/-
  The laws of drawn regions by what holds of each value, where what holds of the world may hang on how many operations are still to come. No program is named here.
-/
namespace Go.Proofs.YtmpipjangbedkaaGreat
set_option maxRecDepth 8000
open Go

section
variable {P : Program} {Q : Exit → Act → World → Prop}
/-- What an operation must do; r: how many are still to come, with it. -/
def StepC (P : Program) (ops : Array Oper) (Q : Exit → Act → World → Prop) (D : List Nat) (a0 : Act) (Gr : World → World → Prop) (Wp : Nat → World → Prop) (Pv : Nat → Value → World → Prop) (i : Nat) (o : Oper) : Prop :=
  ∀ (a : Act) (W : World) (K : Act → World → Prop) (r : Nat), Off D a0 a → Wp r W → 0 < r → r ≤ ops.size → (∀ e ∈ o.after, Region.binds .any e = true → ∀ o', ops[e.on]? = some o' → Pv e.on (valOf a o') W) →
    (∀ v W', Gr W W' → (∀ r', r' < r → Wp r' W') → Pv i (match o.dst with | some _ => v | none => undef) W' → K (a.put o.dst v) W') →
    if Region.wanted o (yielded ops a.tmps) = true then Oper.wp P o a W K Q else K (a.put o.dst undef) W
def StepsC (P : Program) (ops : Array Oper) (Q : Exit → Act → World → Prop) (D : List Nat) (a0 : Act) (Gr : World → World → Prop) (Wp : Nat → World → Prop) (Pv : Nat → Value → World → Prop) : Nat → List Oper → Prop
  | _, [] => True
  | i, o :: r => StepC P ops Q D a0 Gr Wp Pv i o ∧ StepsC P ops Q D a0 Gr Wp Pv (i + 1) r
theorem StepsC.get {ops : Array Oper} {D : List Nat} {a0 : Act} {Gr : World → World → Prop} {Wp : Nat → World → Prop} {Pv : Nat → Value → World → Prop} : ∀ {l : List Oper} {k : Nat}, StepsC P ops Q D a0 Gr Wp Pv k l → ∀ (j : Nat) (o : Oper), l[j]? = some o → StepC P ops Q D a0 Gr Wp Pv (k + j) o
  | [], _, _, j, o, hj => by simp at hj
  | x :: r, k, h, 0, o, hj => by
    have : x = o := by simpa using hj
    subst this
    exact h.1
  | x :: r, k, h, j + 1, o, hj => by
    have := StepsC.get h.2 j o (by simpa using hj)
    rw [show k + (j + 1) = k + 1 + j from by omega]
    exact this
theorem unl_le (ops : Array Oper) (listed : Array Bool) : unl ops listed ≤ ops.size := by
  unfold unl
  have := List.countP_le_length (p := fun j => !listed.getD j true) (l := List.range ops.size)
  simpa using this
/-- THE LAW. -/
theorem wp_region_dagU {id : Nat} {a0 : Act} {w : World} {l : List Oper} (D : List Nat) (Gr : World → World → Prop) (Wp : Nat → World → Prop) (Pv : Nat → Value → World → Prop) (hm : P.follows .mixedOrders = true) (hac : acycB .any 0 l = true) (hdis : disB l = true) (hin : inB D a0.tmps.size l = true)
    (stable : ∀ i v W W', Gr W W' → Pv i v W → Pv i v W')
    (h0 : ∀ r, Wp r { w with drawn := w.drawn + 1 })
    (hst : StepsC P l.toArray (NoPanic Q) D a0 Gr Wp Pv 0 l)
    (hend : ∀ (a : Act) (W : World) (r : Nat), Off D a0 a → Wp r W → (∀ (i : Nat) (o : Oper), l[i]? = some o → Pv i (valOf a o) W) → Q .normal a W) : (Code.region id l.toArray true).wp P Q a0 w := by
  refine wp_region_inv (fun listed a W => Off D a0 a ∧ listed.size = l.toArray.size ∧ Wp (unl l.toArray listed) W ∧ ∀ (i : Nat) (o : Oper), l[i]? = some o → listed.getD i false = true → Pv i (valOf a o) W) hm hac ⟨Off.refl _ _, by simp, h0 _, fun i o _ h => ?_⟩ ?_ (fun listed a W hJ hall => hend a W _ hJ.1 hJ.2.2.1 fun i o ho => hJ.2.2.2 i o ho (hall i (List.getElem?_eq_some_iff.1 ho).1))
  · rw [Array.getD_eq_getD_getElem?, Array.getElem?_replicate] at h
    split at h <;> simp at h
  · have key : ∀ (j : Nat) (o : Oper), l[j]? = some o → StepI P .any l.toArray (NoPanic Q) (fun listed a W => Off D a0 a ∧ listed.size = l.toArray.size ∧ Wp (unl l.toArray listed) W ∧ ∀ (i : Nat) (o : Oper), l[i]? = some o → listed.getD i false = true → Pv i (valOf a o) W) j o := by
      intro i o ho listed a W hJ hl hafter K' hK'
      have hs := hst.get i o ho
      rw [Nat.zero_add] at hs
      have hii : i < l.toArray.size := by simpa using (List.getElem?_eq_some_iff.1 ho).1
      have hlt := unl_set (ops := l.toArray) hii hJ.2.1 hl
      refine hs a W K' _ hJ.1 hJ.2.2.1 (by omega) (unl_le _ _) (fun e he hb o' ho' => hJ.2.2.2 e.on o' (by simpa using ho') (hafter e he hb)) ?_
      intro v W' hg hw hp
      have hi := List.all_eq_true.1 hin o (List.mem_of_getElem? ho)
      refine hK' _ _ ⟨?_, by simpa using hJ.2.1, hw _ hlt, fun j o' ho' hj => ?_⟩
      · cases hd : o.dst with
        | none => exact hJ.1
        | some d =>
          rw [hd] at hi
          simp only [Bool.and_eq_true, List.contains_iff_mem] at hi
          exact hJ.1.put hi.1 v
      · rcases getD_set_at hj with rfl | hj
        · rw [ho] at ho'
          injection ho' with e
          subst e
          unfold valOf
          cases hd : o.dst with
          | none => rw [hd] at hp; exact hp
          | some d =>
            rw [hd] at hp hi
            simp only [Bool.and_eq_true, decide_eq_true_eq] at hi
            simp only [Act.put]
            rw [vget_at _ _ (by rw [hJ.1.size]; exact hi.2)]
            exact hp
        · have h1 := stable _ _ _ _ hg (hJ.2.2.2 j o' ho' hj)
          have e : valOf (a.put o.dst v) o' = valOf a o' := by
            unfold valOf
            cases hd' : o'.dst with
            | none => rfl
            | some d' =>
              cases hd : o.dst with
              | none => rfl
              | some d =>
                simp only [Act.put]
                refine vget_ne _ _ fun e => ?_
                subst e
                have e2 := disB_get hdis i j o o' _ ho ho' hd hd'
                subst e2
                have h3 : listed.getD i true = false := hl
                have h4 : i < listed.size := lt_of_unl h3
                rw [Array.getD_eq_getD_getElem?, Array.getElem?_eq_getElem h4] at h3 hj
                simp at h3 hj
                rw [h3] at hj
                cases hj
          rw [e]
          exact h1
    exact (by
      have gen : ∀ (r : List Oper) (k : Nat), (∀ (j : Nat) (o : Oper), r[j]? = some o → StepI P .any l.toArray (NoPanic Q) (fun listed a W => Off D a0 a ∧ listed.size = l.toArray.size ∧ Wp (unl l.toArray listed) W ∧ ∀ (i : Nat) (o : Oper), l[i]? = some o → listed.getD i false = true → Pv i (valOf a o) W) (k + j) o) → StepsI P .any l.toArray (NoPanic Q) (fun listed a W => Off D a0 a ∧ listed.size = l.toArray.size ∧ Wp (unl l.toArray listed) W ∧ ∀ (i : Nat) (o : Oper), l[i]? = some o → listed.getD i false = true → Pv i (valOf a o) W) k r := by
        intro r
        induction r with
        | nil => intro k _; trivial
        | cons x r ih =>
          intro k h
          refine ⟨by have := h 0 x (by simp); simpa using this, ih (k + 1) fun j o hj => ?_⟩
          have := h (j + 1) o (by simpa using hj)
          rw [show k + 1 + j = k + (j + 1) from by omega]
          exact this
      exact gen l 0 fun j o hj => by rw [Nat.zero_add]; exact key j o hj)
theorem wp_region_dagT {id : Nat} {a0 : Act} {w : World} {l : List Oper} {z : Oper} (D : List Nat) (Gr : World → World → Prop) (Wp : Nat → World → Prop) (Pv : Nat → Value → World → Prop) (Fin : Act → World → Prop) (hm : P.follows .mixedOrders = true) (hac : acycB .any 0 (l ++ [z]) = true) (hdis : disB l = true) (hin : inB D a0.tmps.size l = true)
    (hz : waitsB l.length z = true) (hzd : z.dst = none) (hzg : z.guard = none)
    (stable : ∀ i v W W', Gr W W' → Pv i v W → Pv i v W')
    (h0 : ∀ r, Wp r { w with drawn := w.drawn + 1 })
    (hst : StepsC P (l ++ [z]).toArray (NoPanic Q) D a0 Gr Wp Pv 0 l)
    (hlast : ∀ (a : Act) (W : World) (K : Act → World → Prop) (r : Nat), Off D a0 a → Wp r W → (∀ (i : Nat) (o : Oper), l[i]? = some o → Pv i (valOf a o) W) → (∀ W', Fin a W' → K a W') → Oper.wp P z a W K (NoPanic Q))
    (hend : ∀ (a : Act) (W : World), Off D a0 a → Fin a W → Q .normal a W) : (Code.region id (l ++ [z]).toArray true).wp P Q a0 w := by
  have hget : ∀ (i : Nat) (o : Oper), l[i]? = some o → (l ++ [z])[i]? = some o := fun i o h => by rw [List.getElem?_append_left (List.getElem?_eq_some_iff.1 h).1]; exact h
  refine wp_region_inv (fun listed a W => Off D a0 a ∧ ((listed.getD l.length false = false ∧ (listed.size = (l ++ [z]).toArray.size ∧ Wp (unl (l ++ [z]).toArray listed) W) ∧ ∀ (i : Nat) (o : Oper), l[i]? = some o → listed.getD i false = true → Pv i (valOf a o) W) ∨ ((∀ i, i < l.length → listed.getD i false = true) ∧ listed.getD l.length false = true ∧ Fin a W))) hm hac ⟨Off.refl _ _, .inl ⟨?_, ⟨by simp, h0 _⟩, fun i o _ h => ?_⟩⟩ ?_ ?_
  · rw [Array.getD_eq_getD_getElem?, Array.getElem?_replicate]
    split <;> rfl
  · rw [Array.getD_eq_getD_getElem?, Array.getElem?_replicate] at h
    split at h <;> simp at h
  · have key : ∀ (j : Nat) (o : Oper), (l ++ [z])[j]? = some o → StepI P .any (l ++ [z]).toArray (NoPanic Q) (fun listed a W => Off D a0 a ∧ ((listed.getD l.length false = false ∧ (listed.size = (l ++ [z]).toArray.size ∧ Wp (unl (l ++ [z]).toArray listed) W) ∧ ∀ (i : Nat) (o : Oper), l[i]? = some o → listed.getD i false = true → Pv i (valOf a o) W) ∨ ((∀ i, i < l.length → listed.getD i false = true) ∧ listed.getD l.length false = true ∧ Fin a W))) j o := by
      intro i o ho listed a W hJ hl hafter K' hK'
      have hl' : listed.getD i false = false := by
        have h4 := lt_of_unl hl
        rw [Array.getD_eq_getD_getElem?, Array.getElem?_eq_getElem h4] at hl ⊢
        exact hl
      rcases Nat.lt_or_ge i l.length with hi | hi
      · -- one of the others
        have ho2 : l[i]? = some o := by rw [List.getElem?_append_left hi] at ho; exact ho
        rcases hJ.2 with ⟨hnl, hw0, hp0⟩ | ⟨hall, _, _⟩
        · have hs := hst.get i o ho2
          rw [Nat.zero_add] at hs
          have hine := List.all_eq_true.1 hin o (List.mem_of_getElem? ho2)
          have hii : i < (l ++ [z]).toArray.size := by simpa using (List.getElem?_eq_some_iff.1 ho).1
          have hltu := unl_set (ops := (l ++ [z]).toArray) hii hw0.1 hl
          refine hs a W K' _ hJ.1 hw0.2 (by omega) (unl_le _ _) (fun e he hb o' ho' => ?_) ?_
          · have hlt : e.on < i := by have := acyc_get hac i o ho e he hb; omega
            have ho3 : l[e.on]? = some o' := by
              have h9 : (l ++ [z])[e.on]? = some o' := by simpa using ho'
              rw [List.getElem?_append_left (by omega)] at h9
              exact h9
            exact hp0 e.on o' ho3 (hafter e he hb)
          intro v W' hg hw hp
          refine hK' _ _ ⟨?_, .inl ⟨?_, ⟨by simpa using hw0.1, hw _ hltu⟩, fun j o' ho' hj => ?_⟩⟩
          · cases hd : o.dst with
            | none => exact hJ.1
            | some d =>
              rw [hd] at hine
              simp only [Bool.and_eq_true, List.contains_iff_mem] at hine
              exact hJ.1.put hine.1 v
          · rw [Array.getD_eq_getD_getElem?, Array.getElem?_setIfInBounds_ne (by omega), ← Array.getD_eq_getD_getElem?]
            exact hnl
          · rcases getD_set_at hj with rfl | hj
            · rw [ho2] at ho'
              injection ho' with e
              subst e
              unfold valOf
              cases hd : o.dst with
              | none => rw [hd] at hp; exact hp
              | some d =>
                rw [hd] at hp hine
                simp only [Bool.and_eq_true, decide_eq_true_eq] at hine
                simp only [Act.put]
                rw [vget_at _ _ (by rw [hJ.1.size]; exact hine.2)]
                exact hp
            · have h1 := stable _ _ _ _ hg (hp0 j o' ho' hj)
              have e : valOf (a.put o.dst v) o' = valOf a o' := by
                unfold valOf
                cases hd' : o'.dst with
                | none => rfl
                | some d' =>
                  cases hd : o.dst with
                  | none => rfl
                  | some d =>
                    simp only [Act.put]
                    refine vget_ne _ _ fun e => ?_
                    subst e
                    have e2 := disB_get hdis i j o o' _ ho2 ho' hd hd'
                    subst e2
                    rw [hl'] at hj
                    cases hj
              rw [e]
              exact h1
        · rw [hall i hi] at hl'
          cases hl'
      · -- the last
        have e : i = l.length := by
          have := (List.getElem?_eq_some_iff.1 ho).1
          simp at this
          omega
        subst e
        have hoz : o = z := by
          rw [List.getElem?_append_right (Nat.le_refl _), Nat.sub_self] at ho
          simpa using ho.symm
        subst hoz
        rw [if_pos (by unfold Region.wanted; rw [hzg])]
        rcases hJ.2 with ⟨_, hw0, hp0⟩ | ⟨_, h9, _⟩
        · have hall : ∀ j, j < l.length → listed.getD j false = true := fun j hj => by
            obtain ⟨e, he, h1, h2⟩ := waitsB_get hz j hj
            have := hafter e he h2
            rw [h1] at this
            exact this
          refine hlast a W K' _ hJ.1 hw0.2 (fun j o' ho' => hp0 j o' ho' (hall j (List.getElem?_eq_some_iff.1 ho').1)) fun W' hf => hK' _ _ ⟨hJ.1, .inr ⟨fun j hj => ?_, ?_, hf⟩⟩
          · rw [Array.getD_eq_getD_getElem?, Array.getElem?_setIfInBounds_ne (by omega), ← Array.getD_eq_getD_getElem?]
            exact hall j hj
          · have h4 := lt_of_unl hl
            simp [Array.getD, h4]
        · rw [h9] at hl'
          cases hl'
    have gen : ∀ (r : List Oper) (k : Nat), (∀ (j : Nat) (o : Oper), r[j]? = some o → StepI P .any (l ++ [z]).toArray (NoPanic Q) (fun listed a W => Off D a0 a ∧ ((listed.getD l.length false = false ∧ (listed.size = (l ++ [z]).toArray.size ∧ Wp (unl (l ++ [z]).toArray listed) W) ∧ ∀ (i : Nat) (o : Oper), l[i]? = some o → listed.getD i false = true → Pv i (valOf a o) W) ∨ ((∀ i, i < l.length → listed.getD i false = true) ∧ listed.getD l.length false = true ∧ Fin a W))) (k + j) o) → StepsI P .any (l ++ [z]).toArray (NoPanic Q) (fun listed a W => Off D a0 a ∧ ((listed.getD l.length false = false ∧ (listed.size = (l ++ [z]).toArray.size ∧ Wp (unl (l ++ [z]).toArray listed) W) ∧ ∀ (i : Nat) (o : Oper), l[i]? = some o → listed.getD i false = true → Pv i (valOf a o) W) ∨ ((∀ i, i < l.length → listed.getD i false = true) ∧ listed.getD l.length false = true ∧ Fin a W))) k r := by
      intro r
      induction r with
      | nil => intro k _; trivial
      | cons x r ih =>
        intro k h
        refine ⟨by have := h 0 x (by simp); simpa using this, ih (k + 1) fun j o hj => ?_⟩
        have := h (j + 1) o (by simpa using hj)
        rw [show k + 1 + j = k + (j + 1) from by omega]
        exact this
    exact gen (l ++ [z]) 0 fun j o hj => by rw [Nat.zero_add]; exact key j o hj
  · intro listed a W hJ hall
    rcases hJ.2 with ⟨hnl, _, _⟩ | ⟨_, _, hf⟩
    · have := hall l.length (by simp)
      rw [hnl] at this
      cases this
    · exact hend a W hJ.1 hf
/-- The same of a region that is written out. -/
theorem wp_region_dagV {id : Nat} {a0 : Act} {w : World} {L : List Oper} {z : Oper} (D : List Nat) (Gr : World → World → Prop) (Wp : Nat → World → Prop) (Pv : Nat → Value → World → Prop) (Fin : Act → World → Prop) (hzl : L.getLast? = some z) (hm : P.follows .mixedOrders = true) (hac : acycB .any 0 L = true) (hdis : disB L.dropLast = true) (hin : inB D a0.tmps.size L.dropLast = true)
    (hz : waitsB L.dropLast.length z = true) (hzd : z.dst = none) (hzg : z.guard = none)
    (stable : ∀ i v W W', Gr W W' → Pv i v W → Pv i v W')
    (h0 : ∀ r, Wp r { w with drawn := w.drawn + 1 })
    (hst : StepsC P L.toArray (NoPanic Q) D a0 Gr Wp Pv 0 L.dropLast)
    (hlast : ∀ (a : Act) (W : World) (K : Act → World → Prop) (r : Nat), Off D a0 a → Wp r W → (∀ (i : Nat) (o : Oper), L.dropLast[i]? = some o → Pv i (valOf a o) W) → (∀ W', Fin a W' → K a W') → Oper.wp P z a W K (NoPanic Q))
    (hend : ∀ (a : Act) (W : World), Off D a0 a → Fin a W → Q .normal a W) : (Code.region id L.toArray true).wp P Q a0 w := by
  have e : L.dropLast ++ [z] = L := by
    rcases List.eq_nil_or_concat L with rfl | ⟨r, x, rfl⟩
    · cases hzl
    · rw [List.concat_eq_append] at hzl ⊢
      rw [List.getLast?_concat] at hzl
      injection hzl with hzl
      subst hzl
      rw [List.dropLast_concat]
  have h := wp_region_dagT (id := id) (l := L.dropLast) (z := z) D Gr Wp Pv Fin hm (by rw [e]; exact hac) hdis hin hz hzd hzg stable h0 (by rw [e]; exact hst) hlast hend
  rw [e] at h
  exact h
end
end Go.Proofs.YtmpipjangbedkaaGreat

/-
  The law of drawn regions whose last operation waits for all others and writes a slot that they read. No program is named here.
-/
namespace Go.Proofs.YtmpipjangbedkaaGreat
set_option maxRecDepth 8000
open Go

section
variable {P : Program} {Q : Exit → Act → World → Prop}
theorem wp_region_dagX {id : Nat} {a0 : Act} {w : World} {l : List Oper} {z : Oper} (D : List Nat) (Gr : World → World → Prop) (Wp : Nat → World → Prop) (Pv : Nat → Value → World → Prop) (Fin : Act → Value → World → Prop) (hm : P.follows .mixedOrders = true) (hac : acycB .any 0 (l ++ [z]) = true) (hdis : disB l = true) (hin : inB D a0.tmps.size l = true)
    (hz : waitsB l.length z = true) (hzg : z.guard = none)
    (stable : ∀ i v W W', Gr W W' → Pv i v W → Pv i v W')
    (h0 : ∀ r, Wp r { w with drawn := w.drawn + 1 })
    (hst : StepsC P (l ++ [z]).toArray (NoPanic Q) D a0 Gr Wp Pv 0 l)
    (hlast : ∀ (a : Act) (W : World) (K : Act → World → Prop) (r : Nat), Off D a0 a → Wp r W → (∀ (i : Nat) (o : Oper), l[i]? = some o → Pv i (valOf a o) W) → (∀ v W', Fin a v W' → K (a.put z.dst v) W') → Oper.wp P z a W K (NoPanic Q))
    (hend : ∀ (a : Act) (v : Value) (W : World), Off D a0 a → Fin a v W → Q .normal (a.put z.dst v) W) : (Code.region id (l ++ [z]).toArray true).wp P Q a0 w := by
  have hget : ∀ (i : Nat) (o : Oper), l[i]? = some o → (l ++ [z])[i]? = some o := fun i o h => by rw [List.getElem?_append_left (List.getElem?_eq_some_iff.1 h).1]; exact h
  refine wp_region_inv (fun listed a W => (Off D a0 a ∧ listed.getD l.length false = false ∧ (listed.size = (l ++ [z]).toArray.size ∧ Wp (unl (l ++ [z]).toArray listed) W) ∧ ∀ (i : Nat) (o : Oper), l[i]? = some o → listed.getD i false = true → Pv i (valOf a o) W) ∨ ((∀ i, i < l.length → listed.getD i false = true) ∧ listed.getD l.length false = true ∧ ∃ (a1 : Act) (v1 : Value), a = a1.put z.dst v1 ∧ Off D a0 a1 ∧ Fin a1 v1 W)) hm hac (.inl ⟨Off.refl _ _, ?_, ⟨by simp, h0 _⟩, fun i o _ h => ?_⟩) ?_ ?_
  · rw [Array.getD_eq_getD_getElem?, Array.getElem?_replicate]
    split <;> rfl
  · rw [Array.getD_eq_getD_getElem?, Array.getElem?_replicate] at h
    split at h <;> simp at h
  · have key : ∀ (j : Nat) (o : Oper), (l ++ [z])[j]? = some o → StepI P .any (l ++ [z]).toArray (NoPanic Q) (fun listed a W => (Off D a0 a ∧ listed.getD l.length false = false ∧ (listed.size = (l ++ [z]).toArray.size ∧ Wp (unl (l ++ [z]).toArray listed) W) ∧ ∀ (i : Nat) (o : Oper), l[i]? = some o → listed.getD i false = true → Pv i (valOf a o) W) ∨ ((∀ i, i < l.length → listed.getD i false = true) ∧ listed.getD l.length false = true ∧ ∃ (a1 : Act) (v1 : Value), a = a1.put z.dst v1 ∧ Off D a0 a1 ∧ Fin a1 v1 W)) j o := by
      intro i o ho listed a W hJ hl hafter K' hK'
      have hl' : listed.getD i false = false := by
        have h4 := lt_of_unl hl
        rw [Array.getD_eq_getD_getElem?, Array.getElem?_eq_getElem h4] at hl ⊢
        exact hl
      rcases Nat.lt_or_ge i l.length with hi | hi
      · -- one of the others
        have ho2 : l[i]? = some o := by rw [List.getElem?_append_left hi] at ho; exact ho
        rcases hJ with ⟨hOff, hnl, hw0, hp0⟩ | ⟨hall, _, _⟩
        · have hs := hst.get i o ho2
          rw [Nat.zero_add] at hs
          have hine := List.all_eq_true.1 hin o (List.mem_of_getElem? ho2)
          have hii : i < (l ++ [z]).toArray.size := by simpa using (List.getElem?_eq_some_iff.1 ho).1
          have hltu := unl_set (ops := (l ++ [z]).toArray) hii hw0.1 hl
          refine hs a W K' _ hOff hw0.2 (by omega) (unl_le _ _) (fun e he hb o' ho' => ?_) ?_
          · have hlt : e.on < i := by have := acyc_get hac i o ho e he hb; omega
            have ho3 : l[e.on]? = some o' := by
              have h9 : (l ++ [z])[e.on]? = some o' := by simpa using ho'
              rw [List.getElem?_append_left (by omega)] at h9
              exact h9
            exact hp0 e.on o' ho3 (hafter e he hb)
          intro v W' hg hw hp
          refine hK' _ _ (.inl ⟨?_, ?_, ⟨by simpa using hw0.1, hw _ hltu⟩, fun j o' ho' hj => ?_⟩)
          · cases hd : o.dst with
            | none => exact hOff
            | some d =>
              rw [hd] at hine
              simp only [Bool.and_eq_true, List.contains_iff_mem] at hine
              exact hOff.put hine.1 v
          · rw [Array.getD_eq_getD_getElem?, Array.getElem?_setIfInBounds_ne (by omega), ← Array.getD_eq_getD_getElem?]
            exact hnl
          · rcases getD_set_at hj with rfl | hj
            · rw [ho2] at ho'
              injection ho' with e
              subst e
              unfold valOf
              cases hd : o.dst with
              | none => rw [hd] at hp; exact hp
              | some d =>
                rw [hd] at hp hine
                simp only [Bool.and_eq_true, decide_eq_true_eq] at hine
                simp only [Act.put]
                rw [vget_at _ _ (by rw [hOff.size]; exact hine.2)]
                exact hp
            · have h1 := stable _ _ _ _ hg (hp0 j o' ho' hj)
              have e : valOf (a.put o.dst v) o' = valOf a o' := by
                unfold valOf
                cases hd' : o'.dst with
                | none => rfl
                | some d' =>
                  cases hd : o.dst with
                  | none => rfl
                  | some d =>
                    simp only [Act.put]
                    refine vget_ne _ _ fun e => ?_
                    subst e
                    have e2 := disB_get hdis i j o o' _ ho2 ho' hd hd'
                    subst e2
                    rw [hl'] at hj
                    cases hj
              rw [e]
              exact h1
        · rw [hall i hi] at hl'
          cases hl'
      · -- the last
        have e : i = l.length := by
          have := (List.getElem?_eq_some_iff.1 ho).1
          simp at this
          omega
        subst e
        have hoz : o = z := by
          rw [List.getElem?_append_right (Nat.le_refl _), Nat.sub_self] at ho
          simpa using ho.symm
        subst hoz
        rw [if_pos (by unfold Region.wanted; rw [hzg])]
        rcases hJ with ⟨hOff, _, hw0, hp0⟩ | ⟨_, h9, _⟩
        · have hall : ∀ j, j < l.length → listed.getD j false = true := fun j hj => by
            obtain ⟨e, he, h1, h2⟩ := waitsB_get hz j hj
            have := hafter e he h2
            rw [h1] at this
            exact this
          refine hlast a W K' _ hOff hw0.2 (fun j o' ho' => hp0 j o' ho' (hall j (List.getElem?_eq_some_iff.1 ho').1)) fun v' W' hf => hK' _ _ (.inr ⟨fun j hj => ?_, ?_, a, v', rfl, hOff, hf⟩)
          · rw [Array.getD_eq_getD_getElem?, Array.getElem?_setIfInBounds_ne (by omega), ← Array.getD_eq_getD_getElem?]
            exact hall j hj
          · have h4 := lt_of_unl hl
            simp [Array.getD, h4]
        · rw [h9] at hl'
          cases hl'
    have gen : ∀ (r : List Oper) (k : Nat), (∀ (j : Nat) (o : Oper), r[j]? = some o → StepI P .any (l ++ [z]).toArray (NoPanic Q) (fun listed a W => (Off D a0 a ∧ listed.getD l.length false = false ∧ (listed.size = (l ++ [z]).toArray.size ∧ Wp (unl (l ++ [z]).toArray listed) W) ∧ ∀ (i : Nat) (o : Oper), l[i]? = some o → listed.getD i false = true → Pv i (valOf a o) W) ∨ ((∀ i, i < l.length → listed.getD i false = true) ∧ listed.getD l.length false = true ∧ ∃ (a1 : Act) (v1 : Value), a = a1.put z.dst v1 ∧ Off D a0 a1 ∧ Fin a1 v1 W)) (k + j) o) → StepsI P .any (l ++ [z]).toArray (NoPanic Q) (fun listed a W => (Off D a0 a ∧ listed.getD l.length false = false ∧ (listed.size = (l ++ [z]).toArray.size ∧ Wp (unl (l ++ [z]).toArray listed) W) ∧ ∀ (i : Nat) (o : Oper), l[i]? = some o → listed.getD i false = true → Pv i (valOf a o) W) ∨ ((∀ i, i < l.length → listed.getD i false = true) ∧ listed.getD l.length false = true ∧ ∃ (a1 : Act) (v1 : Value), a = a1.put z.dst v1 ∧ Off D a0 a1 ∧ Fin a1 v1 W)) k r := by
      intro r
      induction r with
      | nil => intro k _; trivial
      | cons x r ih =>
        intro k h
        refine ⟨by have := h 0 x (by simp); simpa using this, ih (k + 1) fun j o hj => ?_⟩
        have := h (j + 1) o (by simpa using hj)
        rw [show k + 1 + j = k + (j + 1) from by omega]
        exact this
    exact gen (l ++ [z]) 0 fun j o hj => by rw [Nat.zero_add]; exact key j o hj
  · intro listed a W hJ hall
    rcases hJ with ⟨_, hnl, _, _⟩ | ⟨_, _, a1, v1, rfl, hO1, hf⟩
    · have := hall l.length (by simp)
      rw [hnl] at this
      cases this
    · exact hend a1 v1 W hO1 hf
/-- The same of a region that is written out. -/
theorem wp_region_dagY {id : Nat} {a0 : Act} {w : World} {L : List Oper} {z : Oper} (D : List Nat) (Gr : World → World → Prop) (Wp : Nat → World → Prop) (Pv : Nat → Value → World → Prop) (Fin : Act → Value → World → Prop) (hzl : L.getLast? = some z) (hm : P.follows .mixedOrders = true) (hac : acycB .any 0 L = true) (hdis : disB L.dropLast = true) (hin : inB D a0.tmps.size L.dropLast = true)
    (hz : waitsB L.dropLast.length z = true) (hzg : z.guard = none)
    (stable : ∀ i v W W', Gr W W' → Pv i v W → Pv i v W')
    (h0 : ∀ r, Wp r { w with drawn := w.drawn + 1 })
    (hst : StepsC P L.toArray (NoPanic Q) D a0 Gr Wp Pv 0 L.dropLast)
    (hlast : ∀ (a : Act) (W : World) (K : Act → World → Prop) (r : Nat), Off D a0 a → Wp r W → (∀ (i : Nat) (o : Oper), L.dropLast[i]? = some o → Pv i (valOf a o) W) → (∀ v W', Fin a v W' → K (a.put z.dst v) W') → Oper.wp P z a W K (NoPanic Q))
    (hend : ∀ (a : Act) (v : Value) (W : World), Off D a0 a → Fin a v W → Q .normal (a.put z.dst v) W) : (Code.region id L.toArray true).wp P Q a0 w := by
  have e : L.dropLast ++ [z] = L := by
    rcases List.eq_nil_or_concat L with rfl | ⟨r, x, rfl⟩
    · cases hzl
    · rw [List.concat_eq_append] at hzl ⊢
      rw [List.getLast?_concat] at hzl
      injection hzl with hzl
      subst hzl
      rw [List.dropLast_concat]
  have h := wp_region_dagX (id := id) (l := L.dropLast) (z := z) D Gr Wp Pv Fin hm (by rw [e]; exact hac) hdis hin hz hzg stable h0 (by rw [e]; exact hst) hlast hend
  rw [e] at h
  exact h
end
end Go.Proofs.YtmpipjangbedkaaGreat
