import Derived.Test.YtmpipjangbedkaaDag3
import Derived.Test.YtmpipjangbedkaaPl3
import Derived.Test.YtmpipjangbedkaaMEv4
/-
  The law of drawn regions whose last operation waits for all others and writes a slot that they read. No program is named here.
-/
namespace Go.Proofs.Ytmpipjangbedkaa
set_option maxRecDepth 8000
open Go

section
variable {P : Program} {Q : Exit → Act → World → Prop}
theorem wp_region_dagX {id : Nat} {a0 : Act} {w : World} {l : List Oper} {z : Oper} (D : List Nat) (Gr : World → World → Prop) (Wp : Nat → World → Prop) (Pv : Nat → Value → World → Prop) (Fin : Act → Value → World → Prop) (hm : P.follows .mixedOrders = true) (hac : acycB .any 0 (l ++ [z]) = true) (hdis : disB l = true) (hin : inB D a0.tmps.size l = true)
    (hz : waitsB l.length z = true) (hzg : z.guard = none)
    (stable : ∀ i v W W', Gr W W' → Pv i v W → Pv i v W')
    (h0 : ∀ r, Wp r { w with drawn := w.drawn + 1 })
    (hst : StepsC P (l ++ [z]).toArray (NoPanic Q) D a0 Gr Wp Pv 0 l)
    (hlast : ∀ (a : Act) (W : World) (K : Act → World → Prop) (r : Nat), Off D a0 a → Wp r W → (∀ (i : Nat) (o : Oper), l[i]? = some o → Pv i (valOf a o) W) → (∀ v W', Fin a v W' → K (a.put z.dst v) W') → Oper.wp P z a W K (NoPanic Q))
    (hend : ∀ (a : Act) (v : Value) (W : World), Off D a0 a → Fin a v W → Q .normal (a.put z.dst v) W) : (Code.region id (l ++ [z]).toArray true).wp P Q a0 w := by
  have hget : ∀ (i : Nat) (o : Oper), l[i]? = some o → (l ++ [z])[i]? = some o := fun i o h => by rw [List.getElem?_append_left (List.getElem?_eq_some_iff.1 h).1]; exact h
  refine wp_region_inv (fun listed a W => (Off D a0 a ∧ listed.getD l.length false = false ∧ (listed.size = (l ++ [z]).toArray.size ∧ Wp (unl (l ++ [z]).toArray listed) W) ∧ ∀ (i : Nat) (o : Oper), l[i]? = some o → listed.getD i false = true → Pv i (valOf a o) W) ∨ ((∀ i, i < l.length → listed.getD i false = true) ∧ listed.getD l.length false = true ∧ ∃ (a1 : Act) (v1 : Value), a = a1.put z.dst v1 ∧ Off D a0 a1 ∧ Fin a1 v1 W)) hm hac (.inl ⟨Off.refl _ _, ?_, ⟨by simp, h0 _⟩, fun i o _ h => ?_⟩) ?_ ?_
  · rw [Array.getD_eq_getD_getElem?, Array.getElem?_replicate]
    split <;> rfl
  · rw [Array.getD_eq_getD_getElem?, Array.getElem?_replicate] at h
    split at h <;> simp at h
  · have key : ∀ (j : Nat) (o : Oper), (l ++ [z])[j]? = some o → StepI P .any (l ++ [z]).toArray (NoPanic Q) (fun listed a W => (Off D a0 a ∧ listed.getD l.length false = false ∧ (listed.size = (l ++ [z]).toArray.size ∧ Wp (unl (l ++ [z]).toArray listed) W) ∧ ∀ (i : Nat) (o : Oper), l[i]? = some o → listed.getD i false = true → Pv i (valOf a o) W) ∨ ((∀ i, i < l.length → listed.getD i false = true) ∧ listed.getD l.length false = true ∧ ∃ (a1 : Act) (v1 : Value), a = a1.put z.dst v1 ∧ Off D a0 a1 ∧ Fin a1 v1 W)) j o := by
      intro i o ho listed a W hJ hl hafter K' hK'
      have hl' : listed.getD i false = false := by
        have h4 := lt_of_unl hl
        rw [Array.getD_eq_getD_getElem?, Array.getElem?_eq_getElem h4] at hl ⊢
        exact hl
      rcases Nat.lt_or_ge i l.length with hi | hi
      · -- one of the others
        have ho2 : l[i]? = some o := by rw [List.getElem?_append_left hi] at ho; exact ho
        rcases hJ with ⟨hOff, hnl, hw0, hp0⟩ | ⟨hall, _, _⟩
        · have hs := hst.get i o ho2
          rw [Nat.zero_add] at hs
          have hine := List.all_eq_true.1 hin o (List.mem_of_getElem? ho2)
          have hii : i < (l ++ [z]).toArray.size := by simpa using (List.getElem?_eq_some_iff.1 ho).1
          have hltu := unl_set (ops := (l ++ [z]).toArray) hii hw0.1 hl
          refine hs a W K' _ hOff hw0.2 (by omega) (unl_le _ _) (fun e he hb o' ho' => ?_) ?_
          · have hlt : e.on < i := by have := acyc_get hac i o ho e he hb; omega
            have ho3 : l[e.on]? = some o' := by
              have h9 : (l ++ [z])[e.on]? = some o' := by simpa using ho'
              rw [List.getElem?_append_left (by omega)] at h9
              exact h9
            exact hp0 e.on o' ho3 (hafter e he hb)
          intro v W' hg hw hp
          refine hK' _ _ (.inl ⟨?_, ?_, ⟨by simpa using hw0.1, hw _ hltu⟩, fun j o' ho' hj => ?_⟩)
          · cases hd : o.dst with
            | none => exact hOff
            | some d =>
              rw [hd] at hine
              simp only [Bool.and_eq_true, List.contains_iff_mem] at hine
              exact hOff.put hine.1 v
          · rw [Array.getD_eq_getD_getElem?, Array.getElem?_setIfInBounds_ne (by omega), ← Array.getD_eq_getD_getElem?]
            exact hnl
          · rcases getD_set_at hj with rfl | hj
            · rw [ho2] at ho'
              injection ho' with e
              subst e
              unfold valOf
              cases hd : o.dst with
              | none => rw [hd] at hp; exact hp
              | some d =>
                rw [hd] at hp hine
                simp only [Bool.and_eq_true, decide_eq_true_eq] at hine
                simp only [Act.put]
                rw [vget_at _ _ (by rw [hOff.size]; exact hine.2)]
                exact hp
            · have h1 := stable _ _ _ _ hg (hp0 j o' ho' hj)
              have e : valOf (a.put o.dst v) o' = valOf a o' := by
                unfold valOf
                cases hd' : o'.dst with
                | none => rfl
                | some d' =>
                  cases hd : o.dst with
                  | none => rfl
                  | some d =>
                    simp only [Act.put]
                    refine vget_ne _ _ fun e => ?_
                    subst e
                    have e2 := disB_get hdis i j o o' _ ho2 ho' hd hd'
                    subst e2
                    rw [hl'] at hj
                    cases hj
              rw [e]
              exact h1
        · rw [hall i hi] at hl'
          cases hl'
      · -- the last
        have e : i = l.length := by
          have := (List.getElem?_eq_some_iff.1 ho).1
          simp at this
          omega
        subst e
        have hoz : o = z := by
          rw [List.getElem?_append_right (Nat.le_refl _), Nat.sub_self] at ho
          simpa using ho.symm
        subst hoz
        rw [if_pos (by unfold Region.wanted; rw [hzg])]
        rcases hJ with ⟨hOff, _, hw0, hp0⟩ | ⟨_, h9, _⟩
        · have hall : ∀ j, j < l.length → listed.getD j false = true := fun j hj => by
            obtain ⟨e, he, h1, h2⟩ := waitsB_get hz j hj
            have := hafter e he h2
            rw [h1] at this
            exact this
          refine hlast a W K' _ hOff hw0.2 (fun j o' ho' => hp0 j o' ho' (hall j (List.getElem?_eq_some_iff.1 ho').1)) fun v' W' hf => hK' _ _ (.inr ⟨fun j hj => ?_, ?_, a, v', rfl, hOff, hf⟩)
          · rw [Array.getD_eq_getD_getElem?, Array.getElem?_setIfInBounds_ne (by omega), ← Array.getD_eq_getD_getElem?]
            exact hall j hj
          · have h4 := lt_of_unl hl
            simp [Array.getD, h4]
        · rw [h9] at hl'
          cases hl'
    have gen : ∀ (r : List Oper) (k : Nat), (∀ (j : Nat) (o : Oper), r[j]? = some o → StepI P .any (l ++ [z]).toArray (NoPanic Q) (fun listed a W => (Off D a0 a ∧ listed.getD l.length false = false ∧ (listed.size = (l ++ [z]).toArray.size ∧ Wp (unl (l ++ [z]).toArray listed) W) ∧ ∀ (i : Nat) (o : Oper), l[i]? = some o → listed.getD i false = true → Pv i (valOf a o) W) ∨ ((∀ i, i < l.length → listed.getD i false = true) ∧ listed.getD l.length false = true ∧ ∃ (a1 : Act) (v1 : Value), a = a1.put z.dst v1 ∧ Off D a0 a1 ∧ Fin a1 v1 W)) (k + j) o) → StepsI P .any (l ++ [z]).toArray (NoPanic Q) (fun listed a W => (Off D a0 a ∧ listed.getD l.length false = false ∧ (listed.size = (l ++ [z]).toArray.size ∧ Wp (unl (l ++ [z]).toArray listed) W) ∧ ∀ (i : Nat) (o : Oper), l[i]? = some o → listed.getD i false = true → Pv i (valOf a o) W) ∨ ((∀ i, i < l.length → listed.getD i false = true) ∧ listed.getD l.length false = true ∧ ∃ (a1 : Act) (v1 : Value), a = a1.put z.dst v1 ∧ Off D a0 a1 ∧ Fin a1 v1 W)) k r := by
      intro r
      induction r with
      | nil => intro k _; trivial
      | cons x r ih =>
        intro k h
        refine ⟨by have := h 0 x (by simp); simpa using this, ih (k + 1) fun j o hj => ?_⟩
        have := h (j + 1) o (by simpa using hj)
        rw [show k + 1 + j = k + (j + 1) from by omega]
        exact this
    exact gen (l ++ [z]) 0 fun j o hj => by rw [Nat.zero_add]; exact key j o hj
  · intro listed a W hJ hall
    rcases hJ with ⟨_, hnl, _, _⟩ | ⟨_, _, a1, v1, rfl, hO1, hf⟩
    · have := hall l.length (by simp)
      rw [hnl] at this
      cases this
    · exact hend a1 v1 W hO1 hf
/-- The same of a region that is written out. -/
theorem wp_region_dagY {id : Nat} {a0 : Act} {w : World} {L : List Oper} {z : Oper} (D : List Nat) (Gr : World → World → Prop) (Wp : Nat → World → Prop) (Pv : Nat → Value → World → Prop) (Fin : Act → Value → World → Prop) (hzl : L.getLast? = some z) (hm : P.follows .mixedOrders = true) (hac : acycB .any 0 L = true) (hdis : disB L.dropLast = true) (hin : inB D a0.tmps.size L.dropLast = true)
    (hz : waitsB L.dropLast.length z = true) (hzg : z.guard = none)
    (stable : ∀ i v W W', Gr W W' → Pv i v W → Pv i v W')
    (h0 : ∀ r, Wp r { w with drawn := w.drawn + 1 })
    (hst : StepsC P L.toArray (NoPanic Q) D a0 Gr Wp Pv 0 L.dropLast)
    (hlast : ∀ (a : Act) (W : World) (K : Act → World → Prop) (r : Nat), Off D a0 a → Wp r W → (∀ (i : Nat) (o : Oper), L.dropLast[i]? = some o → Pv i (valOf a o) W) → (∀ v W', Fin a v W' → K (a.put z.dst v) W') → Oper.wp P z a W K (NoPanic Q))
    (hend : ∀ (a : Act) (v : Value) (W : World), Off D a0 a → Fin a v W → Q .normal (a.put z.dst v) W) : (Code.region id L.toArray true).wp P Q a0 w := by
  have e : L.dropLast ++ [z] = L := by
    rcases List.eq_nil_or_concat L with rfl | ⟨r, x, rfl⟩
    · cases hzl
    · rw [List.concat_eq_append] at hzl ⊢
      rw [List.getLast?_concat] at hzl
      injection hzl with hzl
      subst hzl
      rw [List.dropLast_concat]
  have h := wp_region_dagX (id := id) (l := L.dropLast) (z := z) D Gr Wp Pv Fin hm (by rw [e]; exact hac) hdis hin hz hzg stable h0 (by rw [e]; exact hst) hlast hend
  rw [e] at h
  exact h
end
end Go.Proofs.Ytmpipjangbedkaa

/-
  The bytes of a config; the walk of the reference's PutPlan.
-/
namespace Go.Proofs.Ytmpipjangbedkaa
set_option maxRecDepth 8000
open Go Go.RowKit
set_option linter.unusedVariables false

/-- Each field fits. -/
structure CfgI (c : Cfg) : Prop where
  insts : ∀ x ∈ c.insts, I64 x.bucket ∧ I64 x.price ∧ I64 x.rate ∧ I64 x.slip
  skin : I64 c.skin
  times : I64 c.times
  port : I64 c.port
  bid : I64 c.bid
  lot : I64 c.lot
  hedge : I64 c.hedge
def insB (x : Ins) : List Nat := ((numB x.bucket ++ numB x.price) ++ numB x.rate) ++ numB x.slip
def restL (c : Cfg) : List Int := [c.skin, c.times, c.port, c.bid, c.lot, c.hedge]
def frontB (c : Cfg) (k : Nat) : List Nat := numB (c.insts.length : Int) ++ (c.insts.take k).flatMap insB
/-- A config's bytes, up to so many of its last numbers. -/
def planB (c : Cfg) (j : Nat) : List Nat := frontB c c.insts.length ++ ((restL c).take j).flatMap numB
def putP (c : Cfg) : List Nat × Int := if planOk c then (planB c 6, 0) else ([], 1)
theorem front_succ (c : Cfg) (k : Nat) (h : k < c.insts.length) : frontB c (k + 1) = frontB c k ++ insB (c.insts.getD k Ins.zero) := by
  unfold frontB
  rw [List.take_succ_eq_append_getElem h, List.flatMap_append, List.getD_eq_getElem?_getD, List.getElem?_eq_getElem h]
  simp
theorem planB_succ (c : Cfg) (j : Nat) (h : j < 6) : planB c (j + 1) = planB c j ++ numB ((restL c).getD j 0) := by
  unfold planB
  have h' : j < (restL c).length := h
  rw [List.take_succ_eq_append_getElem h', List.flatMap_append, List.getD_eq_getElem?_getD, List.getElem?_eq_getElem h']
  simp
theorem insB_len {x : Ins} (h : I64 x.bucket ∧ I64 x.price ∧ I64 x.rate ∧ I64 x.slip) : (insB x).length ≤ 40 := by
  unfold insB
  simp only [List.length_append]
  have := numB_len h.1; have := numB_len h.2.1; have := numB_len h.2.2.1; have := numB_len h.2.2.2
  omega
theorem flat_len : ∀ l : List Ins, (∀ x ∈ l, I64 x.bucket ∧ I64 x.price ∧ I64 x.rate ∧ I64 x.slip) → (l.flatMap insB).length ≤ 40 * l.length := by
  intro l
  induction l with
  | nil => intro _; simp
  | cons x l ih =>
    intro h
    rw [List.flatMap_cons, List.length_append, List.length_cons]
    have := insB_len (h x (List.mem_cons_self ..))
    have := ih (fun y hy => h y (List.mem_cons_of_mem _ hy))
    omega
theorem front_len {c : Cfg} (h : CfgI c) (hl : c.insts.length ≤ 1000000) (k : Nat) : (frontB c k).length ≤ 10 + 40 * c.insts.length := by
  unfold frontB
  rw [List.length_append]
  have h1 := numB_len (n := (c.insts.length : Int)) (by unfold I64; omega)
  have h2 := flat_len (c.insts.take k) (fun x hx => h.insts x (List.mem_of_mem_take hx))
  rw [List.length_take] at h2
  omega
theorem oct_append {a b : List Nat} (ha : Oct a) (hb : Oct b) : Oct (a ++ b) := fun x hx => (List.mem_append.1 hx).elim (ha x) (hb x)
theorem insB_oct (x : Ins) : Oct (insB x) := oct_append (oct_append (oct_append (numB_oct _) (numB_oct _)) (numB_oct _)) (numB_oct _)
theorem front_oct (c : Cfg) (k : Nat) : Oct (frontB c k) := oct_append (numB_oct _) (fun x hx => by
  obtain ⟨y, _, hy⟩ := List.mem_flatMap.1 hx
  exact insB_oct y x hy)
theorem planB_oct (c : Cfg) (j : Nat) : Oct (planB c j) := oct_append (front_oct c _) (fun x hx => by
  obtain ⟨y, _, hy⟩ := List.mem_flatMap.1 hx
  exact numB_oct y x hy)
theorem rest_len : ∀ l : List Int, (∀ x ∈ l, I64 x) → (l.flatMap numB).length ≤ 10 * l.length := by
  intro l
  induction l with
  | nil => intro _; simp
  | cons x l ih =>
    intro h
    rw [List.flatMap_cons, List.length_append, List.length_cons]
    have := numB_len (h x (List.mem_cons_self ..))
    have := ih (fun y hy => h y (List.mem_cons_of_mem _ hy))
    omega
theorem restL_i64 {c : Cfg} (h : CfgI c) : ∀ x ∈ restL c, I64 x := by
  intro x hx
  simp only [restL, List.mem_cons, List.not_mem_nil, or_false] at hx
  rcases hx with rfl | rfl | rfl | rfl | rfl | rfl
  · exact h.skin
  · exact h.times
  · exact h.port
  · exact h.bid
  · exact h.lot
  · exact h.hedge
theorem planB_len {c : Cfg} (h : CfgI c) (hl : c.insts.length ≤ 1000000) (j : Nat) : (planB c j).length ≤ 70 + 40 * c.insts.length := by
  unfold planB
  rw [List.length_append]
  have h1 := front_len h hl c.insts.length
  have h2 := rest_len ((restL c).take j) (fun x hx => restL_i64 h x (List.mem_of_mem_take hx))
  have h3 : ((restL c).take j).length ≤ 6 := by rw [List.length_take]; exact Nat.min_le_right _ _
  omega
/-- Bytes of the call's own. -/
def SpP.own (base : Nat) (l : List Nat) : SpP := ⟨fun v W => OwnB W base v l, fun _ _ _ hb h => h.keep hb⟩
def BytesK7 (w : World) (l : List Nat) (code : Int) (e : Ending) (w' : World) : Prop :=
  ∃ v, e = .returned (.tuple #[v, .int .i64 code]) ∧ OwnB w' w.heap.size v l ∧ Below w.heap.size w w'
end Go.Proofs.Ytmpipjangbedkaa
