import Derived.OrdersHeld
import Derived.StillTail
import Derived.Tactics
import Derived.Deep.RegionHeld3
import Derived.Test.YtiblbhppojfdaaaRef1h
/-
  A law for regions that draw their order: an invariant that each operation keeps, whichever comes up. No program is named here.
-/
namespace Go.Proofs.Ytiblbhppojfdaaa
open Go

section
variable {P : Program} {ops : Array Oper} {Q : Exit → Act → World → Prop} {md : Region.Mode} {J : Array Bool → Act → World → Prop}

/-- Operation number i keeps the invariant. -/
def StepI (P : Program) (md : Region.Mode) (ops : Array Oper) (Q : Exit → Act → World → Prop) (J : Array Bool → Act → World → Prop) (i : Nat) (o : Oper) : Prop :=
  ∀ listed a w, J listed a w → listed.getD i true = false → (∀ e ∈ o.after, Region.binds md e = true → listed.getD e.on false = true) →
    ∀ K' : Act → World → Prop, (∀ a' w', J (listed.setIfInBounds i true) a' w' → K' a' w') →
      if Region.wanted o (yielded ops a.tmps) = true then Oper.wp P o a w K' Q else K' (a.put o.dst undef) w
def StepsI (P : Program) (md : Region.Mode) (ops : Array Oper) (Q : Exit → Act → World → Prop) (J : Array Bool → Act → World → Prop) : Nat → List Oper → Prop
  | _, [] => True
  | i, o :: r => StepI P md ops Q J i o ∧ StepsI P md ops Q J (i + 1) r
theorem StepsI.get : ∀ {l : List Oper} {k : Nat}, StepsI P md ops Q J k l → ∀ (j : Nat) (o : Oper), l[j]? = some o → StepI P md ops Q J (k + j) o
  | [], _, _, j, o, hj => by simp at hj
  | x :: r, k, h, 0, o, hj => by
    have : x = o := by simpa using hj
    subst this
    exact h.1
  | x :: r, k, h, j + 1, o, hj => by
    have := StepsI.get h.2 j o (by simpa using hj)
    rw [show k + (j + 1) = k + 1 + j from by omega]
    exact this

/-- Each waits for earlier ones alone. -/
def Acyc (md : Region.Mode) (ops : Array Oper) : Prop := ∀ (i : Nat) (o : Oper), ops[i]? = some o → ∀ e ∈ o.after, Region.binds md e = true → e.on < i
def acycB (md : Region.Mode) : Nat → List Oper → Bool
  | _, [] => true
  | i, o :: r => o.after.toList.all (fun e => !Region.binds md e || decide (e.on < i)) && acycB md (i + 1) r
theorem acyc_get : ∀ {l : List Oper} {i : Nat}, acycB md i l = true → ∀ (j : Nat) (o : Oper), l[j]? = some o → ∀ e ∈ o.after, Region.binds md e = true → e.on < i + j
  | [], _, _, j, o, hj, _, _, _ => by simp at hj
  | x :: r, i, h, j, o, hj, e, he, hb => by
    unfold acycB at h
    rw [Bool.and_eq_true] at h
    cases j with
    | zero =>
      have : x = o := by simpa using hj
      subst this
      have h2 := List.all_eq_true.1 h.1 e (Array.mem_toList_iff.2 he)
      rw [hb] at h2
      simpa using h2
    | succ j =>
      have := acyc_get h.2 j o (by simpa using hj) e he hb
      omega
theorem acyc_of {l : List Oper} (h : acycB md 0 l = true) : Acyc md l.toArray := fun i o ho e he hb => by
  have := acyc_get h i o (by simpa using ho) e he hb
  omega
theorem none_ready (hac : Acyc md ops) {listed : Array Bool} (hsz : listed.size = ops.size) (hr : Region.ready md ops listed = []) : ∀ j, j < ops.size → listed.getD j false = true := by
  intro j
  induction j using Nat.strongRecOn with
  | _ j ih =>
    intro hj
    cases hl : listed.getD j false
    · exfalso
      have hl' : listed.getD j true = false := by
        have hlt : j < listed.size := by omega
        simp [Array.getD, hlt] at hl ⊢
        exact hl
      have hm : j ∈ Region.ready md ops listed := by
        refine mem_ready.2 ⟨hl', ops[j], Array.getElem?_eq_getElem hj, fun e he hb => ?_⟩
        have h1 := hac j _ (Array.getElem?_eq_getElem hj) e he hb
        exact ih e.on h1 (by omega)
      rw [hr] at hm
      cases hm
    · rfl
/-- How many have not come up. -/
def unl (ops : Array Oper) (listed : Array Bool) : Nat := (List.range ops.size).countP fun j => !listed.getD j true
theorem unl_set {listed : Array Bool} {i : Nat} (hi : i < ops.size) (hsz : listed.size = ops.size) (hl : listed.getD i true = false) : unl ops (listed.setIfInBounds i true) < unl ops listed := by
  unfold unl
  have hmem : i ∈ List.range ops.size := List.mem_range.2 hi
  revert hmem
  generalize List.range ops.size = r
  have hne : ∀ j, j ≠ i → (listed.setIfInBounds i true).getD j true = listed.getD j true := fun j h => by rw [Array.getD_eq_getD_getElem?, Array.getD_eq_getD_getElem?, Array.getElem?_setIfInBounds_ne (Ne.symm h)]
  have hi2 : (listed.setIfInBounds i true).getD i true = true := by
    have : i < listed.size := by omega
    simp [Array.getD, this]
  have hle : ∀ r : List Nat, r.countP (fun j => !(listed.setIfInBounds i true).getD j true) ≤ r.countP fun j => !listed.getD j true := by
    intro r
    induction r with
    | nil => simp
    | cons x r ih =>
      rw [List.countP_cons, List.countP_cons]
      by_cases h : x = i
      · subst h; rw [hi2, hl]; simp only [Bool.not_true, Bool.not_false, if_true, Bool.false_eq_true, if_false]; omega
      · rw [hne x h]; omega
  induction r with
  | nil => intro h; simp at h
  | cons x r ih =>
    intro hm
    rw [List.countP_cons, List.countP_cons]
    by_cases h : x = i
    · subst h
      have := hle r
      rw [hi2, hl]; simp only [Bool.not_true, Bool.not_false, if_true, Bool.false_eq_true, if_false]; omega
    · have := ih ((List.mem_cons.1 hm).resolve_left (fun e => h e.symm))
      rw [hne x h]; omega

theorem wpAny_inv (hac : Acyc md ops) (hst : ∀ i o, ops[i]? = some o → StepI P md ops Q J i o) (hend : ∀ listed a w, J listed a w → (∀ j, j < ops.size → listed.getD j false = true) → Q .normal a w) :
    ∀ (fuel : Nat) (listed : Array Bool) (a : Act) (w : World), listed.size = ops.size → J listed a w → unl ops listed ≤ fuel → wpAny P md ops Q fuel listed a w := by
  intro fuel
  induction fuel with
  | zero =>
    intro listed a w hsz hJ hu
    have hr : Region.ready md ops listed = [] := by
      rw [List.eq_nil_iff_forall_not_mem]
      intro i hi
      obtain ⟨h1, o, h2, _⟩ := mem_ready.1 hi
      have := unl_set (ops := ops) (Array.getElem?_eq_some_iff.1 h2).1 hsz h1
      omega
    exact ⟨hr, hend _ _ _ hJ (none_ready hac hsz hr)⟩
  | succ fuel ih =>
    intro listed a w hsz hJ hu
    refine ⟨fun hr => hend _ _ _ hJ (none_ready hac hsz hr), fun i hi => ?_⟩
    obtain ⟨h1, o, h2, h3⟩ := mem_ready.1 hi
    have hlt := unl_set (ops := ops) (Array.getElem?_eq_some_iff.1 h2).1 hsz h1
    have hs := hst i o h2 listed a w hJ h1 h3 (wpAny P md ops Q fuel (listed.setIfInBounds i true)) (fun a' w' hJ' => ih _ a' w' (by simpa using hsz) hJ' (by omega))
    unfold wpOp
    simp only [h2]
    split
    · rename_i hw
      rw [if_pos hw] at hs
      exact .inl hs
    · rename_i hw
      rw [if_neg hw] at hs
      exact hs

/-- THE LAW. -/
theorem wp_region_inv {id : Nat} {Q : Exit → Act → World → Prop} {a : Act} {w : World} {l : List Oper} (J : Array Bool → Act → World → Prop) (hm : P.follows .mixedOrders = true) (hac : acycB .any 0 l = true)
    (h0 : J (Array.replicate l.toArray.size false) a { w with drawn := w.drawn + 1 })
    (hst : StepsI P .any l.toArray (NoPanic Q) J 0 l)
    (hend : ∀ listed a w, J listed a w → (∀ j, j < l.length → listed.getD j false = true) → Q .normal a w) : (Code.region id l.toArray true).wp P Q a w := by
  refine wp_region_noPanic (wp_region_any hm ?_)
  refine wpAny_inv (J := J) (acyc_of hac) (fun i o ho => ?_) (fun listed a w hJ hall => NoPanic.normal (hend listed a w hJ (fun j hj => hall j (by simpa using hj)))) _ _ _ _ (by simp) h0 ?_
  · have := hst.get i o (by simpa using ho)
    rwa [Nat.zero_add] at this
  · unfold unl
    exact Nat.le_trans List.countP_le_length (by simp)

/-- A frame that is another one but for the slots D. -/
structure Off (D : List Nat) (a0 a : Act) : Prop where
  defers : a.defers = a0.defers
  size : a.tmps.size = a0.tmps.size
  slot : ∀ d, d ∉ D → a.tmps.getD d undef = a0.tmps.getD d undef
theorem Off.refl (D : List Nat) (a : Act) : Off D a a := ⟨rfl, rfl, fun _ _ => rfl⟩
theorem vget_ne (t : Array Value) {d e : Nat} (v : Value) (h : d ≠ e) : (t.setIfInBounds e v).getD d undef = t.getD d undef := by
  rw [Array.getD_eq_getD_getElem?, Array.getD_eq_getD_getElem?, Array.getElem?_setIfInBounds_ne (Ne.symm h)]
theorem vget_at (t : Array Value) {d : Nat} (v : Value) (h : d < t.size) : (t.setIfInBounds d v).getD d undef = v := by
  rw [Array.getD_eq_getD_getElem?, Array.getElem?_setIfInBounds_self_of_lt h]; rfl
theorem vget_in (t : Array Value) {d : Nat} (h : d < t.size) : t.getD d undef = t[d] := by
  rw [Array.getD_eq_getD_getElem?, Array.getElem?_eq_getElem h]; rfl
theorem getD_put (t : Array Value) (d e : Nat) (v : Value) (he : e < t.size) : (t.setIfInBounds e v).getD d undef = if d = e then v else t.getD d undef := by
  by_cases h : d = e
  · subst h; rw [if_pos rfl, vget_at _ _ he]
  · rw [if_neg h]; exact vget_ne t v h
theorem Off.put {D : List Nat} {a0 a : Act} (h : Off D a0 a) {d : Nat} (hd : d ∈ D) (v : Value) : Off D a0 (a.put (some d) v) := by
  refine ⟨h.defers, by simp only [Act.put]; rw [Array.size_setIfInBounds]; exact h.size, fun e he => ?_⟩
  simp only [Act.put]
  rw [vget_ne _ _ (fun e' => he (by rw [e']; exact hd))]
  exact h.slot e he
/-- What stands in the slots, laid into the elder frame. -/
def putL (a0 : Act) (f : Nat → Value) : List Nat → Act
  | [] => a0
  | d :: D => (putL a0 f D).put (some d) (f d)
theorem putL_spec (a0 : Act) (f : Nat → Value) : ∀ D : List Nat, (putL a0 f D).defers = a0.defers ∧ (putL a0 f D).tmps.size = a0.tmps.size ∧ ∀ d, d < a0.tmps.size → (putL a0 f D).tmps.getD d undef = if d ∈ D then f d else a0.tmps.getD d undef
  | [] => ⟨rfl, rfl, fun d _ => by simp [putL]⟩
  | e :: D => by
    obtain ⟨h1, h2, h3⟩ := putL_spec a0 f D
    refine ⟨h1, by simp only [putL, Act.put]; rw [Array.size_setIfInBounds]; exact h2, fun d hd => ?_⟩
    simp only [putL, Act.put]
    by_cases h : d = e
    · subst h
      rw [getD_put _ _ _ _ (by omega), if_pos rfl, if_pos List.mem_cons_self]
    · rw [vget_ne _ _ h, h3 d hd]
      by_cases hm : d ∈ D
      · rw [if_pos hm, if_pos (List.mem_cons_of_mem _ hm)]
      · rw [if_neg hm, if_neg (fun hh => (List.mem_cons.1 hh).elim h hm)]
theorem Off.eq {D : List Nat} {a0 a : Act} (h : Off D a0 a) : a = putL a0 (fun d => a.tmps.getD d undef) D := by
  obtain ⟨h1, h2, h3⟩ := putL_spec a0 (fun d => a.tmps.getD d undef) D
  have ht : a.tmps = (putL a0 (fun d => a.tmps.getD d undef) D).tmps := by
    apply Array.ext (by rw [h.size, h2])
    intro i hi1 hi2
    have e1 : a.tmps.getD i undef = a.tmps[i] := vget_in _ hi1
    have e2 := h3 i (by rw [← h.size]; exact hi1)
    rw [show (putL a0 (fun d => a.tmps.getD d undef) D).tmps.getD i undef = (putL a0 (fun d => a.tmps.getD d undef) D).tmps[i] from vget_in _ hi2] at e2
    rw [e2, ← e1]
    by_cases hm : i ∈ D
    · rw [if_pos hm]
    · rw [if_neg hm]; exact h.slot i hm
  have hd : a.defers = (putL a0 (fun d => a.tmps.getD d undef) D).defers := h.defers.trans h1.symm
  cases a
  generalize putL a0 _ D = b at *
  cases b
  simp only at ht hd
  rw [ht, hd]

def upd {α : Type} (f : Nat → α) (d : Nat) (v : α) : Nat → α := fun e => if e = d then v else f e
/-- The slots of a frame; what has come up. -/
def slots (a : Act) : Nat → Value := fun d => a.tmps.getD d undef
def ups (l : Array Bool) : Nat → Bool := fun j => l.getD j false
theorem slots_put (a : Act) (d : Nat) (v : Value) (h : d < a.tmps.size) : slots (a.put (some d) v) = upd (slots a) d v := by
  funext e
  unfold slots upd
  simp only [Act.put]
  rw [getD_put _ _ _ _ h]
theorem ups_set (l : Array Bool) (i : Nat) (h : i < l.size) : ups (l.setIfInBounds i true) = upd (ups l) i true := by
  funext j
  unfold ups upd
  by_cases e : j = i
  · subst e; rw [if_pos rfl]; simp [Array.getD, h]
  · rw [if_neg e]
    change _ = l.getD j false
    rw [Array.getD_eq_getD_getElem?, Array.getD_eq_getD_getElem?, Array.getElem?_setIfInBounds_ne (Ne.symm e)]
theorem ups_none (n : Nat) : ups (Array.replicate n false) = fun _ => false := by
  funext j
  unfold ups
  rw [Array.getD_eq_getD_getElem?, Array.getElem?_replicate]
  split <;> rfl
theorem lt_of_unl {l : Array Bool} {i : Nat} (h : l.getD i true = false) : i < l.size := by
  rcases Nat.lt_or_ge i l.size with h1 | h1
  · exact h1
  · rw [Array.getD_eq_getD_getElem?, Array.getElem?_eq_none h1] at h
    cases h
theorem ups_unl {l : Array Bool} {i : Nat} (h : l.getD i true = false) : ups l i = false := by
  have h1 := lt_of_unl h
  unfold ups
  rw [Array.getD_eq_getD_getElem?, Array.getElem?_eq_getElem h1] at h ⊢
  exact h

/-- Operation number i keeps what is told of the slots, of what has come up and of the world. -/
def StepO (P : Program) (Q : Exit → Act → World → Prop) (D : List Nat) (a0 : Act) (I : (Nat → Value) → (Nat → Bool) → World → Prop) (i : Nat) (o : Oper) : Prop :=
  ∀ (a : Act) (W : World) (L : Nat → Bool) (K : Act → World → Prop), Off D a0 a → I (slots a) L W → L i = false → (∀ e ∈ o.after, Region.binds .any e = true → L e.on = true) →
    (∀ a' W', Off D a0 a' → I (slots a') (upd L i true) W' → K a' W') → Oper.wp P o a W K Q
def StepsO (P : Program) (Q : Exit → Act → World → Prop) (D : List Nat) (a0 : Act) (I : (Nat → Value) → (Nat → Bool) → World → Prop) : Nat → List Oper → Prop
  | _, [] => True
  | i, o :: r => StepO P Q D a0 I i o ∧ StepsO P Q D a0 I (i + 1) r
theorem StepsO.to {D : List Nat} {a0 : Act} {I : (Nat → Value) → (Nat → Bool) → World → Prop} : ∀ {l : List Oper} {i : Nat}, l.all (fun o => o.guard.isNone) = true → StepsO P Q D a0 I i l → StepsI P .any ops Q (fun listed a w => Off D a0 a ∧ I (slots a) (ups listed) w) i l
  | [], _, _, _ => trivial
  | o :: r, i, hg, h => by
    rw [List.all_cons, Bool.and_eq_true] at hg
    refine ⟨?_, StepsO.to hg.2 h.2⟩
    intro listed a w hJ hl ha K' hK'
    have hw : Region.wanted o (yielded ops a.tmps) = true := by
      have h1 := hg.1
      unfold Region.wanted
      cases h2 : o.guard
      · rfl
      · rw [h2] at h1; cases h1
    rw [if_pos hw]
    exact h.1 a w (ups listed) K' hJ.1 hJ.2 (ups_unl hl) ha (fun a' W' h1 h2 => hK' a' W' ⟨h1, by rw [ups_set _ _ (lt_of_unl hl)]; exact h2⟩)
theorem Off.next {D : List Nat} {a0 a : Act} {I : (Nat → Value) → (Nat → Bool) → World → Prop} {L' : Nat → Bool} {K : Act → World → Prop} (hK : ∀ a' W', Off D a0 a' → I (slots a') L' W' → K a' W') (ho : Off D a0 a) {d : Nat} (hd : d ∈ D) (hs : d < a0.tmps.size) {v : Value} {W' : World} (hi : I (upd (slots a) d v) L' W') : K (a.put (some d) v) W' :=
  hK _ _ (ho.put hd v) (by rw [slots_put _ _ _ (by rw [ho.size]; exact hs)]; exact hi)
/-- THE LAW, by slots. -/
theorem wp_region_off {id : Nat} {Q : Exit → Act → World → Prop} {a0 : Act} {w : World} {l : List Oper} (D : List Nat) (I : (Nat → Value) → (Nat → Bool) → World → Prop) (hm : P.follows .mixedOrders = true) (hac : acycB .any 0 l = true) (hg : l.all (fun o => o.guard.isNone) = true)
    (h0 : I (slots a0) (fun _ => false) w.drew) (hst : StepsO P (NoPanic Q) D a0 I 0 l)
    (hend : ∀ a W L, Off D a0 a → I (slots a) L W → (∀ j, j < l.length → L j = true) → Q .normal a W) : (Code.region id l.toArray true).wp P Q a0 w :=
  wp_region_inv (fun listed a w => Off D a0 a ∧ I (slots a) (ups listed) w) hm hac ⟨Off.refl _ _, by rw [ups_none]; exact h0⟩ (hst.to hg) (fun listed a w hJ h => hend a w (ups listed) hJ.1 hJ.2 h)
end
end Go.Proofs.Ytiblbhppojfdaaa

/-
  A law for regions that draw their order, calls among them: of each operation is told what holds of its value, given what holds of those that it waits for; nothing is asked of the order. No program is named here.
-/
namespace Go.Proofs.Ytiblbhppojfdaaa
open Go

section
variable {P : Program} {Q : Exit → Act → World → Prop}
/-- The value of an operation, where it has a slot. -/
def valOf (a : Act) (o : Oper) : Value := match o.dst with
  | some d => a.tmps.getD d undef
  | none => undef
/-- No two operations have the same slot. -/
def disB : List Oper → Bool
  | [] => true
  | o :: r => (match o.dst with | none => true | some d => r.all fun o' => o'.dst != some d) && disB r
theorem disB_get : ∀ {l : List Oper}, disB l = true → ∀ (i j : Nat) (o o' : Oper) (d : Nat), l[i]? = some o → l[j]? = some o' → o.dst = some d → o'.dst = some d → i = j
  | [], _, i, j, o, o', d, h, _, _, _ => by simp at h
  | x :: r, hd, i, j, o, o', d, hi, hj, ho, ho' => by
    unfold disB at hd
    rw [Bool.and_eq_true] at hd
    cases i with
    | zero =>
      have e : x = o := by simpa using hi
      subst e
      cases j with
      | zero => rfl
      | succ j =>
        have h1 := hd.1
        rw [ho] at h1
        have h2 := List.all_eq_true.1 h1 o' (List.mem_of_getElem? (by simpa using hj))
        rw [ho'] at h2
        simp at h2
    | succ i =>
      cases j with
      | zero =>
        have e : x = o' := by simpa using hj
        subst e
        have h1 := hd.1
        rw [ho'] at h1
        have h2 := List.all_eq_true.1 h1 o (List.mem_of_getElem? (by simpa using hi))
        rw [ho] at h2
        simp at h2
      | succ j =>
        have := disB_get hd.2 i j o o' d (by simpa using hi) (by simpa using hj) ho ho'
        omega
/-- The slots are among D, and within the frame. -/
def inB (D : List Nat) (n : Nat) (l : List Oper) : Bool := l.all fun o => match o.dst with | none => true | some d => D.contains d && decide (d < n)
/-- What an operation must do. -/
def StepD (P : Program) (ops : Array Oper) (Q : Exit → Act → World → Prop) (D : List Nat) (a0 : Act) (Gr : World → World → Prop) (Wp : World → Prop) (Pv : Nat → Value → World → Prop) (i : Nat) (o : Oper) : Prop :=
  ∀ (a : Act) (W : World) (K : Act → World → Prop), Off D a0 a → Wp W → (∀ e ∈ o.after, Region.binds .any e = true → ∀ o', ops[e.on]? = some o' → Pv e.on (valOf a o') W) →
    (∀ v W', Gr W W' → Wp W' → Pv i (match o.dst with | some _ => v | none => undef) W' → K (a.put o.dst v) W') →
    if Region.wanted o (yielded ops a.tmps) = true then Oper.wp P o a W K Q else K (a.put o.dst undef) W
def StepsD (P : Program) (ops : Array Oper) (Q : Exit → Act → World → Prop) (D : List Nat) (a0 : Act) (Gr : World → World → Prop) (Wp : World → Prop) (Pv : Nat → Value → World → Prop) : Nat → List Oper → Prop
  | _, [] => True
  | i, o :: r => StepD P ops Q D a0 Gr Wp Pv i o ∧ StepsD P ops Q D a0 Gr Wp Pv (i + 1) r
theorem StepsD.get {ops : Array Oper} {D : List Nat} {a0 : Act} {Gr : World → World → Prop} {Wp : World → Prop} {Pv : Nat → Value → World → Prop} : ∀ {l : List Oper} {k : Nat}, StepsD P ops Q D a0 Gr Wp Pv k l → ∀ (j : Nat) (o : Oper), l[j]? = some o → StepD P ops Q D a0 Gr Wp Pv (k + j) o
  | [], _, _, j, o, hj => by simp at hj
  | x :: r, k, h, 0, o, hj => by
    have : x = o := by simpa using hj
    subst this
    exact h.1
  | x :: r, k, h, j + 1, o, hj => by
    have := StepsD.get h.2 j o (by simpa using hj)
    rw [show k + (j + 1) = k + 1 + j from by omega]
    exact this
theorem getD_set_at {l : Array Bool} {i j : Nat} (h : (l.setIfInBounds i true).getD j false = true) : j = i ∨ l.getD j false = true := by
  by_cases e : j = i
  · exact .inl e
  · right
    rw [Array.getD_eq_getD_getElem?, Array.getElem?_setIfInBounds_ne (Ne.symm e), ← Array.getD_eq_getD_getElem?] at h
    exact h
/-- THE LAW. -/
theorem wp_region_dag {id : Nat} {a0 : Act} {w : World} {l : List Oper} (D : List Nat) (Gr : World → World → Prop) (Wp : World → Prop) (Pv : Nat → Value → World → Prop) (hm : P.follows .mixedOrders = true) (hac : acycB .any 0 l = true) (hdis : disB l = true) (hin : inB D a0.tmps.size l = true)
    (stable : ∀ i v W W', Gr W W' → Pv i v W → Pv i v W')
    (h0 : Wp { w with drawn := w.drawn + 1 })
    (hst : StepsD P l.toArray (NoPanic Q) D a0 Gr Wp Pv 0 l)
    (hend : ∀ (a : Act) (W : World), Off D a0 a → Wp W → (∀ (i : Nat) (o : Oper), l[i]? = some o → Pv i (valOf a o) W) → Q .normal a W) : (Code.region id l.toArray true).wp P Q a0 w := by
  refine wp_region_inv (fun listed a W => Off D a0 a ∧ Wp W ∧ ∀ (i : Nat) (o : Oper), l[i]? = some o → listed.getD i false = true → Pv i (valOf a o) W) hm hac ⟨Off.refl _ _, h0, fun i o _ h => ?_⟩ ?_ (fun listed a W hJ hall => hend a W hJ.1 hJ.2.1 fun i o ho => hJ.2.2 i o ho (hall i (List.getElem?_eq_some_iff.1 ho).1))
  · rw [Array.getD_eq_getD_getElem?, Array.getElem?_replicate] at h
    split at h <;> simp at h
  · have key : ∀ (j : Nat) (o : Oper), l[j]? = some o → StepI P .any l.toArray (NoPanic Q) (fun listed a W => Off D a0 a ∧ Wp W ∧ ∀ (i : Nat) (o : Oper), l[i]? = some o → listed.getD i false = true → Pv i (valOf a o) W) j o := by
      intro i o ho listed a W hJ hl hafter K' hK'
      have hs := hst.get i o ho
      rw [Nat.zero_add] at hs
      refine hs a W K' hJ.1 hJ.2.1 (fun e he hb o' ho' => hJ.2.2 e.on o' (by simpa using ho') (hafter e he hb)) ?_
      intro v W' hg hw hp
      have hi := List.all_eq_true.1 hin o (List.mem_of_getElem? ho)
      refine hK' _ _ ⟨?_, hw, fun j o' ho' hj => ?_⟩
      · cases hd : o.dst with
        | none => exact hJ.1
        | some d =>
          rw [hd] at hi
          simp only [Bool.and_eq_true, List.contains_iff_mem] at hi
          exact hJ.1.put hi.1 v
      · rcases getD_set_at hj with rfl | hj
        · rw [ho] at ho'
          injection ho' with e
          subst e
          unfold valOf
          cases hd : o.dst with
          | none => rw [hd] at hp; exact hp
          | some d =>
            rw [hd] at hp hi
            simp only [Bool.and_eq_true, decide_eq_true_eq] at hi
            simp only [Act.put]
            rw [vget_at _ _ (by rw [hJ.1.size]; exact hi.2)]
            exact hp
        · have h1 := stable _ _ _ _ hg (hJ.2.2 j o' ho' hj)
          have e : valOf (a.put o.dst v) o' = valOf a o' := by
            unfold valOf
            cases hd' : o'.dst with
            | none => rfl
            | some d' =>
              cases hd : o.dst with
              | none => rfl
              | some d =>
                simp only [Act.put]
                refine vget_ne _ _ fun e => ?_
                subst e
                have e2 := disB_get hdis i j o o' _ ho ho' hd hd'
                subst e2
                have h3 : listed.getD i true = false := hl
                have h4 : i < listed.size := lt_of_unl h3
                rw [Array.getD_eq_getD_getElem?, Array.getElem?_eq_getElem h4] at h3 hj
                simp at h3 hj
                rw [h3] at hj
                cases hj
          rw [e]
          exact h1
    exact (by
      have gen : ∀ (r : List Oper) (k : Nat), (∀ (j : Nat) (o : Oper), r[j]? = some o → StepI P .any l.toArray (NoPanic Q) (fun listed a W => Off D a0 a ∧ Wp W ∧ ∀ (i : Nat) (o : Oper), l[i]? = some o → listed.getD i false = true → Pv i (valOf a o) W) (k + j) o) → StepsI P .any l.toArray (NoPanic Q) (fun listed a W => Off D a0 a ∧ Wp W ∧ ∀ (i : Nat) (o : Oper), l[i]? = some o → listed.getD i false = true → Pv i (valOf a o) W) k r := by
        intro r
        induction r with
        | nil => intro k _; trivial
        | cons x r ih =>
          intro k h
          refine ⟨by have := h 0 x (by simp); simpa using this, ih (k + 1) fun j o hj => ?_⟩
          have := h (j + 1) o (by simpa using hj)
          rw [show k + 1 + j = k + (j + 1) from by omega]
          exact this
      exact gen l 0 fun j o hj => by rw [Nat.zero_add]; exact key j o hj)
end
end Go.Proofs.Ytiblbhppojfdaaa

/-
  The law of drawn regions by what holds of each value, for a region whose last operation waits for all others and may turn what they speak of (a store into a struct that the region made). No program is named here.
-/
namespace Go.Proofs.Ytiblbhppojfdaaa
open Go

section
variable {P : Program} {Q : Exit → Act → World → Prop}
/-- An operation waits for all of the first n. -/
def waitsB (n : Nat) (o : Oper) : Bool := (List.range n).all fun j => o.after.toList.any fun e => e.on == j && Region.binds .any e
theorem waitsB_get {n : Nat} {o : Oper} (h : waitsB n o = true) (j : Nat) (hj : j < n) : ∃ e ∈ o.after, e.on = j ∧ Region.binds .any e = true := by
  have h1 := List.all_eq_true.1 h j (List.mem_range.2 hj)
  obtain ⟨e, he, h2⟩ := List.any_eq_true.1 h1
  rw [Bool.and_eq_true] at h2
  exact ⟨e, Array.mem_toList_iff.1 he, by simpa using h2.1, h2.2⟩
/-- THE LAW. The last operation has no slot. -/
theorem wp_region_dagS {id : Nat} {a0 : Act} {w : World} {l : List Oper} {z : Oper} (D : List Nat) (Gr : World → World → Prop) (Wp : World → Prop) (Pv : Nat → Value → World → Prop) (Fin : Act → World → Prop) (hm : P.follows .mixedOrders = true) (hac : acycB .any 0 (l ++ [z]) = true) (hdis : disB l = true) (hin : inB D a0.tmps.size l = true)
    (hz : waitsB l.length z = true) (hzd : z.dst = none) (hzg : z.guard = none)
    (stable : ∀ i v W W', Gr W W' → Pv i v W → Pv i v W')
    (h0 : Wp { w with drawn := w.drawn + 1 })
    (hst : StepsD P (l ++ [z]).toArray (NoPanic Q) D a0 Gr Wp Pv 0 l)
    (hlast : ∀ (a : Act) (W : World) (K : Act → World → Prop), Off D a0 a → Wp W → (∀ (i : Nat) (o : Oper), l[i]? = some o → Pv i (valOf a o) W) → (∀ W', Fin a W' → K a W') → Oper.wp P z a W K (NoPanic Q))
    (hend : ∀ (a : Act) (W : World), Off D a0 a → Fin a W → Q .normal a W) : (Code.region id (l ++ [z]).toArray true).wp P Q a0 w := by
  have hget : ∀ (i : Nat) (o : Oper), l[i]? = some o → (l ++ [z])[i]? = some o := fun i o h => by rw [List.getElem?_append_left (List.getElem?_eq_some_iff.1 h).1]; exact h
  refine wp_region_inv (fun listed a W => Off D a0 a ∧ ((listed.getD l.length false = false ∧ Wp W ∧ ∀ (i : Nat) (o : Oper), l[i]? = some o → listed.getD i false = true → Pv i (valOf a o) W) ∨ ((∀ i, i < l.length → listed.getD i false = true) ∧ listed.getD l.length false = true ∧ Fin a W))) hm hac ⟨Off.refl _ _, .inl ⟨?_, h0, fun i o _ h => ?_⟩⟩ ?_ ?_
  · rw [Array.getD_eq_getD_getElem?, Array.getElem?_replicate]
    split <;> rfl
  · rw [Array.getD_eq_getD_getElem?, Array.getElem?_replicate] at h
    split at h <;> simp at h
  · have key : ∀ (j : Nat) (o : Oper), (l ++ [z])[j]? = some o → StepI P .any (l ++ [z]).toArray (NoPanic Q) (fun listed a W => Off D a0 a ∧ ((listed.getD l.length false = false ∧ Wp W ∧ ∀ (i : Nat) (o : Oper), l[i]? = some o → listed.getD i false = true → Pv i (valOf a o) W) ∨ ((∀ i, i < l.length → listed.getD i false = true) ∧ listed.getD l.length false = true ∧ Fin a W))) j o := by
      intro i o ho listed a W hJ hl hafter K' hK'
      have hl' : listed.getD i false = false := by
        have h4 := lt_of_unl hl
        rw [Array.getD_eq_getD_getElem?, Array.getElem?_eq_getElem h4] at hl ⊢
        exact hl
      rcases Nat.lt_or_ge i l.length with hi | hi
      · -- one of the others
        have ho2 : l[i]? = some o := by rw [List.getElem?_append_left hi] at ho; exact ho
        rcases hJ.2 with ⟨hnl, hw0, hp0⟩ | ⟨hall, _, _⟩
        · have hs := hst.get i o ho2
          rw [Nat.zero_add] at hs
          have hine := List.all_eq_true.1 hin o (List.mem_of_getElem? ho2)
          refine hs a W K' hJ.1 hw0 (fun e he hb o' ho' => ?_) ?_
          · have hlt : e.on < i := by have := acyc_get hac i o ho e he hb; omega
            have ho3 : l[e.on]? = some o' := by
              have h9 : (l ++ [z])[e.on]? = some o' := by simpa using ho'
              rw [List.getElem?_append_left (by omega)] at h9
              exact h9
            exact hp0 e.on o' ho3 (hafter e he hb)
          intro v W' hg hw hp
          refine hK' _ _ ⟨?_, .inl ⟨?_, hw, fun j o' ho' hj => ?_⟩⟩
          · cases hd : o.dst with
            | none => exact hJ.1
            | some d =>
              rw [hd] at hine
              simp only [Bool.and_eq_true, List.contains_iff_mem] at hine
              exact hJ.1.put hine.1 v
          · rw [Array.getD_eq_getD_getElem?, Array.getElem?_setIfInBounds_ne (by omega), ← Array.getD_eq_getD_getElem?]
            exact hnl
          · rcases getD_set_at hj with rfl | hj
            · rw [ho2] at ho'
              injection ho' with e
              subst e
              unfold valOf
              cases hd : o.dst with
              | none => rw [hd] at hp; exact hp
              | some d =>
                rw [hd] at hp hine
                simp only [Bool.and_eq_true, decide_eq_true_eq] at hine
                simp only [Act.put]
                rw [vget_at _ _ (by rw [hJ.1.size]; exact hine.2)]
                exact hp
            · have h1 := stable _ _ _ _ hg (hp0 j o' ho' hj)
              have e : valOf (a.put o.dst v) o' = valOf a o' := by
                unfold valOf
                cases hd' : o'.dst with
                | none => rfl
                | some d' =>
                  cases hd : o.dst with
                  | none => rfl
                  | some d =>
                    simp only [Act.put]
                    refine vget_ne _ _ fun e => ?_
                    subst e
                    have e2 := disB_get hdis i j o o' _ ho2 ho' hd hd'
                    subst e2
                    rw [hl'] at hj
                    cases hj
              rw [e]
              exact h1
        · rw [hall i hi] at hl'
          cases hl'
      · -- the last
        have e : i = l.length := by
          have := (List.getElem?_eq_some_iff.1 ho).1
          simp at this
          omega
        subst e
        have hoz : o = z := by
          rw [List.getElem?_append_right (Nat.le_refl _), Nat.sub_self] at ho
          simpa using ho.symm
        subst hoz
        rw [if_pos (by unfold Region.wanted; rw [hzg])]
        rcases hJ.2 with ⟨_, hw0, hp0⟩ | ⟨_, h9, _⟩
        · have hall : ∀ j, j < l.length → listed.getD j false = true := fun j hj => by
            obtain ⟨e, he, h1, h2⟩ := waitsB_get hz j hj
            have := hafter e he h2
            rw [h1] at this
            exact this
          refine hlast a W K' hJ.1 hw0 (fun j o' ho' => hp0 j o' ho' (hall j (List.getElem?_eq_some_iff.1 ho').1)) fun W' hf => hK' _ _ ⟨hJ.1, .inr ⟨fun j hj => ?_, ?_, hf⟩⟩
          · rw [Array.getD_eq_getD_getElem?, Array.getElem?_setIfInBounds_ne (by omega), ← Array.getD_eq_getD_getElem?]
            exact hall j hj
          · have h4 := lt_of_unl hl
            simp [Array.getD, h4]
        · rw [h9] at hl'
          cases hl'
    have gen : ∀ (r : List Oper) (k : Nat), (∀ (j : Nat) (o : Oper), r[j]? = some o → StepI P .any (l ++ [z]).toArray (NoPanic Q) (fun listed a W => Off D a0 a ∧ ((listed.getD l.length false = false ∧ Wp W ∧ ∀ (i : Nat) (o : Oper), l[i]? = some o → listed.getD i false = true → Pv i (valOf a o) W) ∨ ((∀ i, i < l.length → listed.getD i false = true) ∧ listed.getD l.length false = true ∧ Fin a W))) (k + j) o) → StepsI P .any (l ++ [z]).toArray (NoPanic Q) (fun listed a W => Off D a0 a ∧ ((listed.getD l.length false = false ∧ Wp W ∧ ∀ (i : Nat) (o : Oper), l[i]? = some o → listed.getD i false = true → Pv i (valOf a o) W) ∨ ((∀ i, i < l.length → listed.getD i false = true) ∧ listed.getD l.length false = true ∧ Fin a W))) k r := by
      intro r
      induction r with
      | nil => intro k _; trivial
      | cons x r ih =>
        intro k h
        refine ⟨by have := h 0 x (by simp); simpa using this, ih (k + 1) fun j o hj => ?_⟩
        have := h (j + 1) o (by simpa using hj)
        rw [show k + 1 + j = k + (j + 1) from by omega]
        exact this
    exact gen (l ++ [z]) 0 fun j o hj => by rw [Nat.zero_add]; exact key j o hj
  · intro listed a W hJ hall
    rcases hJ.2 with ⟨hnl, _, _⟩ | ⟨_, _, hf⟩
    · have := hall l.length (by simp)
      rw [hnl] at this
      cases this
    · exact hend a W hJ.1 hf
/-- The same of a region that is written out. -/
theorem wp_region_dagL {id : Nat} {a0 : Act} {w : World} {L : List Oper} {z : Oper} (D : List Nat) (Gr : World → World → Prop) (Wp : World → Prop) (Pv : Nat → Value → World → Prop) (Fin : Act → World → Prop) (hzl : L.getLast? = some z) (hm : P.follows .mixedOrders = true) (hac : acycB .any 0 L = true) (hdis : disB L.dropLast = true) (hin : inB D a0.tmps.size L.dropLast = true)
    (hz : waitsB L.dropLast.length z = true) (hzd : z.dst = none) (hzg : z.guard = none)
    (stable : ∀ i v W W', Gr W W' → Pv i v W → Pv i v W')
    (h0 : Wp { w with drawn := w.drawn + 1 })
    (hst : StepsD P L.toArray (NoPanic Q) D a0 Gr Wp Pv 0 L.dropLast)
    (hlast : ∀ (a : Act) (W : World) (K : Act → World → Prop), Off D a0 a → Wp W → (∀ (i : Nat) (o : Oper), L.dropLast[i]? = some o → Pv i (valOf a o) W) → (∀ W', Fin a W' → K a W') → Oper.wp P z a W K (NoPanic Q))
    (hend : ∀ (a : Act) (W : World), Off D a0 a → Fin a W → Q .normal a W) : (Code.region id L.toArray true).wp P Q a0 w := by
  have e : L.dropLast ++ [z] = L := by
    rcases List.eq_nil_or_concat L with rfl | ⟨r, x, rfl⟩
    · cases hzl
    · rw [List.concat_eq_append] at hzl ⊢
      rw [List.getLast?_concat] at hzl
      injection hzl with hzl
      subst hzl
      rw [List.dropLast_concat]
  have h := wp_region_dagS (id := id) (l := L.dropLast) (z := z) D Gr Wp Pv Fin hm (by rw [e]; exact hac) hdis hin hz hzd hzg stable h0 (by rw [e]; exact hst) hlast hend
  rw [e] at h
  exact h
end
end Go.Proofs.Ytiblbhppojfdaaa

/-
  Two Bigs laid into two structs, among calls: what stands between two operations, whichever came up. No program's function is named here.
-/
namespace Go.Proofs.Ytiblbhppojfdaaa
open Go.RowKit

section
variable {w W : World} {N : Nat}
theorem big_in {v : Value} {x : Int} (h : BigV W v x N) {b : Nat} (hb : Box2 W b (.bool false) (.slice none 0 0)) (u0 u1 : Value) : BigV ((W.setCell ⟨b, 0, none⟩ u0).setCell ⟨b, 1, none⟩ u1) v x N :=
  (h.setCell hb.1 (fun _ e => by cases e) _).setCell (u := .slice none 0 0) (by rw [World.cell?_setCell_other _ _ _ _ (by simp)]; exact hb.2.1) (fun _ e => by cases e) _
theorem below_in (hB : Below w.heap.size w W) {b : Nat} (l : w.heap.size ≤ b) (u0 u1 : Value) : Below w.heap.size w ((W.setCell ⟨b, 0, none⟩ u0).setCell ⟨b, 1, none⟩ u1) :=
  (hB.setCell (p := ⟨b, 0, none⟩) l _).setCell (p := ⟨b, 1, none⟩) l _
end
/-- What is in a struct that has been made: nothing yet, or the Big that was stored. -/
def InBox (W : World) (p : Value) (stored : Bool) (v : Value) (lo : Nat) : Prop :=
  ∃ b, p = .pointer (some ⟨b, 0, none⟩) ∧ lo ≤ b ∧ (stored = false → Box2 W b (.bool false) (.slice none 0 0)) ∧ (stored = true → ∃ ng A n c, v = .agg #[.bool ng, .slice A n c] ∧ Box2 W b (.bool ng) (.slice A n c))
theorem InBox.below {W W' : World} {p : Value} {st : Bool} {v : Value} {lo : Nat} (h : InBox W p st v lo) (hb : Below W.heap.size W W') : InBox W' p st v lo := by
  obtain ⟨b, e, h1, h2, h3⟩ := h
  refine ⟨b, e, h1, fun hs => (h2 hs).below hb, fun hs => ?_⟩
  obtain ⟨ng, A, n, c, e1, h4⟩ := h3 hs
  exact ⟨ng, A, n, c, e1, h4.below hb⟩
theorem InBox.lt {W : World} {b : Nat} {st : Bool} {v : Value} {lo : Nat} (h : InBox W (.pointer (some ⟨b, 0, none⟩)) st v lo) : b < W.heap.size := by
  obtain ⟨b', e, _, h2, h3⟩ := h
  injection e with e; injection e with e; injection e with e
  subst e
  cases st
  · exact (h2 rfl).lt
  · obtain ⟨_, _, _, _, _, h4⟩ := h3 rfl
    exact h4.lt


def D3 : List Nat := [9, 10, 27, 28, 29, 30]
structure I3 (wr : World) (x y : Int) (av bv : Value) (V : Nat → Value) (L : Nat → Bool) (W : World) : Prop where
  old : Below wr.heap.size wr W
  f0 : L 0 = true → V 27 = av
  f1 : L 1 = true → BigV W (V 28) x 8
  f2 : L 2 = true → V 29 = bv
  f3 : L 3 = true → BigV W (V 30) y 8
  f4 : L 4 = true → InBox W (V 9) (L 6) (V 28) wr.heap.size
  f5 : L 5 = true → InBox W (V 10) (L 7) (V 30) wr.heap.size
  ne : L 4 = true → L 5 = true → V 9 ≠ V 10
  a6 : L 6 = true → L 1 = true ∧ L 4 = true
  a7 : L 7 = true → L 3 = true ∧ L 5 = true
section
variable {wr : World} {x y : Int} {av bv : Value} {V : Nat → Value} {L : Nat → Bool} {W W' : World}
theorem I3.grow (h : I3 wr x y av bv V L W) (hb : Below W.heap.size W W') : I3 wr x y av bv V L W' :=
  ⟨h.old.trans (hb.mono h.old.size), h.f0, fun e => (h.f1 e).below hb, h.f2, fun e => (h.f3 e).below hb, fun e => (h.f4 e).below hb, fun e => (h.f5 e).below hb, h.ne, h.a6, h.a7⟩
theorem I3.start : I3 wr x y av bv V (fun _ => false) wr.drew := by
  constructor
  · exact (Below.refl _ _).drew
  all_goals (intro h; cases h)
variable (h : I3 wr x y av bv V L W)
include h
theorem I3.s0 : I3 wr x y av bv (upd V 27 av) (upd L 0 true) W := ⟨h.old, fun _ => rfl, h.f1, h.f2, h.f3, h.f4, h.f5, h.ne, h.a6, h.a7⟩
theorem I3.s2 : I3 wr x y av bv (upd V 29 bv) (upd L 2 true) W := ⟨h.old, h.f0, h.f1, fun _ => rfl, h.f3, h.f4, h.f5, h.ne, h.a6, h.a7⟩
theorem I3.n6 (hn : L 1 = false) : L 6 = false := by
  cases e : L 6
  · rfl
  · have := (h.a6 e).1; rw [hn] at this; cases this
theorem I3.n6' (hn : L 4 = false) : L 6 = false := by
  cases e : L 6
  · rfl
  · have := (h.a6 e).2; rw [hn] at this; cases this
theorem I3.n7 (hn : L 3 = false) : L 7 = false := by
  cases e : L 7
  · rfl
  · have := (h.a7 e).1; rw [hn] at this; cases this
theorem I3.n7' (hn : L 5 = false) : L 7 = false := by
  cases e : L 7
  · rfl
  · have := (h.a7 e).2; rw [hn] at this; cases this
theorem I3.s1 (hn : L 6 = false) {v : Value} (hv : BigV W v x 8) : I3 wr x y av bv (upd V 28 v) (upd L 1 true) W :=
  ⟨h.old, h.f0, fun _ => hv, h.f2, h.f3, (fun e => by
    have h1 := h.f4 e
    rw [hn] at h1
    obtain ⟨b, e1, e2, e3, _⟩ := h1
    have hn' : upd L 1 true 6 = false := hn
    rw [hn']
    exact ⟨b, e1, e2, e3, (fun hh => by cases hh)⟩), h.f5, h.ne, (fun e => by have e' : L 6 = true := e; rw [hn] at e'; cases e'), h.a7⟩
theorem I3.s3 (hn : L 7 = false) {v : Value} (hv : BigV W v y 8) : I3 wr x y av bv (upd V 30 v) (upd L 3 true) W :=
  ⟨h.old, h.f0, h.f1, h.f2, fun _ => hv, h.f4, (fun e => by
    have h1 := h.f5 e
    rw [hn] at h1
    obtain ⟨b, e1, e2, e3, _⟩ := h1
    have hn' : upd L 3 true 7 = false := hn
    rw [hn']
    exact ⟨b, e1, e2, e3, (fun hh => by cases hh)⟩), h.ne, h.a6, (fun e => by have e' : L 7 = true := e; rw [hn] at e'; cases e')⟩
theorem I3.s4 (hn : L 6 = false) (ty : TypeId) : I3 wr x y av bv (upd V 9 (.pointer (some ⟨W.heap.size, 0, none⟩))) (upd L 4 true) (W.alloc (.cells #[.bool false, .slice none 0 0] ty)) := by
  have g := h.grow (W' := W.alloc (.cells #[.bool false, .slice none 0 0] ty)) ((Below.refl _ _).alloc (Nat.le_refl _) _)
  refine ⟨g.old, g.f0, g.f1, g.f2, g.f3, fun _ => ⟨_, rfl, h.old.size, fun _ => Box2.new W _ _ ty _ rfl, (fun e => by have e' : L 6 = true := e; rw [hn] at e'; cases e')⟩, g.f5, fun _ e5 => ?_, fun e => ⟨(g.a6 e).1, rfl⟩, g.a7⟩
  have e5' : L 5 = true := e5
  intro hh
  have hh' : Value.pointer (some ⟨W.heap.size, 0, none⟩) = V 10 := hh
  have hl := (h.f5 e5')
  rw [← hh'] at hl
  exact Nat.lt_irrefl _ hl.lt
theorem I3.s5 (hn : L 7 = false) (ty : TypeId) : I3 wr x y av bv (upd V 10 (.pointer (some ⟨W.heap.size, 0, none⟩))) (upd L 5 true) (W.alloc (.cells #[.bool false, .slice none 0 0] ty)) := by
  have g := h.grow (W' := W.alloc (.cells #[.bool false, .slice none 0 0] ty)) ((Below.refl _ _).alloc (Nat.le_refl _) _)
  refine ⟨g.old, g.f0, g.f1, g.f2, g.f3, g.f4, fun _ => ⟨_, rfl, h.old.size, fun _ => Box2.new W _ _ ty _ rfl, (fun e => by have e' : L 7 = true := e; rw [hn] at e'; cases e')⟩, fun e4 _ => ?_, g.a6, fun e => ⟨(g.a7 e).1, rfl⟩⟩
  have e4' : L 4 = true := e4
  intro hh
  have hh' : V 9 = Value.pointer (some ⟨W.heap.size, 0, none⟩) := hh
  have hl := (h.f4 e4')
  rw [hh'] at hl
  exact Nat.lt_irrefl _ hl.lt
theorem I3.s6 (h4 : L 4 = true) (h1 : L 1 = true) (hn : L 6 = false) {b : Nat} (e4 : V 9 = .pointer (some ⟨b, 0, none⟩)) {nq : Bool} {Q : Option Addr} {lq cq : Nat} (e28 : V 28 = .agg #[.bool nq, .slice Q lq cq]) :
    I3 wr x y av bv V (upd L 6 true) ((W.setCell ⟨b, 0, none⟩ (.bool nq)).setCell ⟨b, 1, none⟩ (.slice Q lq cq)) := by
  obtain ⟨b', e1, e2, e3, _⟩ := h.f4 h4
  rw [e4] at e1
  injection e1 with e1; injection e1 with e1; injection e1 with e1
  subst e1
  have hb := e3 hn
  refine ⟨below_in h.old e2 _ _, h.f0, fun e => big_in (h.f1 e) hb _ _, h.f2, fun e => big_in (h.f3 e) hb _ _, fun _ => ⟨b, e4, e2, (fun hh => by cases hh), fun _ => ⟨nq, Q, lq, cq, e28, hb.set _ _⟩⟩, fun e => ?_, h.ne, fun _ => ⟨h1, h4⟩, h.a7⟩
  have e' : L 5 = true := e
  have hne := h.ne h4 e'
  obtain ⟨b2, m1, m2, m3, m4⟩ := h.f5 e'
  have hb2 : b ≠ b2 := fun e => hne (by rw [e4, m1, e])
  refine ⟨b2, m1, m2, fun hh => ((m3 hh).other hb2 _ _).other hb2 _ _, fun hh => ?_⟩
  obtain ⟨ng, A, n, c, y1, y2⟩ := m4 hh
  exact ⟨ng, A, n, c, y1, (y2.other hb2 _ _).other hb2 _ _⟩
theorem I3.s7 (h5 : L 5 = true) (h3 : L 3 = true) (hn : L 7 = false) {b : Nat} (e5 : V 10 = .pointer (some ⟨b, 0, none⟩)) {nq : Bool} {Q : Option Addr} {lq cq : Nat} (e30 : V 30 = .agg #[.bool nq, .slice Q lq cq]) :
    I3 wr x y av bv V (upd L 7 true) ((W.setCell ⟨b, 0, none⟩ (.bool nq)).setCell ⟨b, 1, none⟩ (.slice Q lq cq)) := by
  obtain ⟨b', e1, e2, e3, _⟩ := h.f5 h5
  rw [e5] at e1
  injection e1 with e1; injection e1 with e1; injection e1 with e1
  subst e1
  have hb := e3 hn
  refine ⟨below_in h.old e2 _ _, h.f0, fun e => big_in (h.f1 e) hb _ _, h.f2, fun e => big_in (h.f3 e) hb _ _, fun e => ?_, fun _ => ⟨b, e5, e2, (fun hh => by cases hh), fun _ => ⟨nq, Q, lq, cq, e30, hb.set _ _⟩⟩, h.ne, h.a6, fun _ => ⟨h3, h5⟩⟩
  have e' : L 4 = true := e
  have hne := h.ne e' h5
  obtain ⟨b2, m1, m2, m3, m4⟩ := h.f4 e'
  have hb2 : b ≠ b2 := fun e => hne (by rw [e5, m1, e])
  refine ⟨b2, m1, m2, fun hh => ((m3 hh).other hb2 _ _).other hb2 _ _, fun hh => ?_⟩
  obtain ⟨ng, A, n, c, y1, y2⟩ := m4 hh
  exact ⟨ng, A, n, c, y1, (y2.other hb2 _ _).other hb2 _ _⟩
end
/-- Two Bigs in their structs. -/
structure PQ (wr : World) (b1 b2 : Nat) (np : Bool) (P : Option Addr) (lp cp : Nat) (nq : Bool) (Q : Option Addr) (lq cq : Nat) (x y : Int) (W : World) : Prop where
  p : Box2 W b1 (.bool np) (.slice P lp cp)
  q : Box2 W b2 (.bool nq) (.slice Q lq cq)
  vp : BigV W (.agg #[.bool np, .slice P lp cp]) x 8
  vq : BigV W (.agg #[.bool nq, .slice Q lq cq]) y 8
  old : Below wr.heap.size wr W
theorem I3.done {wr : World} {x y : Int} {av bv : Value} {V : Nat → Value} {L : Nat → Bool} {W : World} (h : I3 wr x y av bv V L W) (hL : ∀ j, j < 8 → L j = true) : ∃ (b1 b2 : Nat) (np : Bool) (P : Option Addr) (lp cp : Nat) (nq : Bool) (Q : Option Addr) (lq cq : Nat), V 9 = .pointer (some ⟨b1, 0, none⟩) ∧ V 10 = .pointer (some ⟨b2, 0, none⟩) ∧ PQ wr b1 b2 np P lp cp nq Q lq cq x y W := by
  obtain ⟨b1, e1, l1, _, m1⟩ := h.f4 (hL 4 (by omega))
  obtain ⟨b2, e2, l2, _, m2⟩ := h.f5 (hL 5 (by omega))
  obtain ⟨np, P, lp, cp, y1, z1⟩ := m1 (hL 6 (by omega))
  obtain ⟨nq, Q, lq, cq, y2, z2⟩ := m2 (hL 7 (by omega))
  have g1 := h.f1 (hL 1 (by omega))
  have g2 := h.f3 (hL 3 (by omega))
  rw [y1] at g1
  rw [y2] at g2
  exact ⟨b1, b2, np, P, lp, cp, nq, Q, lq, cq, e1, e2, ⟨z1, z2, g1, g2, h.old⟩⟩
end Go.Proofs.Ytiblbhppojfdaaa

/-
  What is told of an operation's value: it is this one, or it is a Big of that number; guards in a drawn region. No program's function is named here.
-/
namespace Go.Proofs.Ytiblbhppojfdaaa
open Go Go.RowKit

inductive Sp where
  | val (v : Value)
  | big (x : Int) (n : Nat)
  | box (lo : Nat)
def Sp.ok : Sp → Value → World → Prop
  | .val u, v, _ => v = u
  | .big x n, v, W => BigV W v x n
  | .box lo, v, W => ∃ b, v = .pointer (some ⟨b, 0, none⟩) ∧ lo ≤ b ∧ Box2 W b (.bool false) (.slice none 0 0)
theorem Sp.below {s : Sp} {v : Value} {W W' : World} (h : s.ok v W) (hb : Below W.heap.size W W') : s.ok v W' := by
  cases s with
  | val u => exact h
  | big x n => exact BigV.below h hb
  | box lo =>
    obtain ⟨b, e, h1, h2⟩ := h
    exact ⟨b, e, h1, h2.below hb⟩
/-- What is told of the i-th operation. -/
def spOf (l : List Sp) (i : Nat) (v : Value) (W : World) : Prop := (l.getD i (.val undef)).ok v W
theorem wanted_at {ops : Array Oper} {D : List Nat} {a0 a : Act} {o og : Oper} {g d : Nat} {b : Bool} (ho : Off D a0 a) (hg : o.guard = some (g, b)) (hog : ops[g]? = some og) (hd : og.dst = some d) (hs : d < a0.tmps.size) (hv : a.tmps.getD d undef = .bool b) : Region.wanted o (yielded ops a.tmps) = true := by
  have hs' : d < a.tmps.size := by rw [ho.size]; exact hs
  have hv' : a.tmps[d]? = some (.bool b) := by
    rw [Array.getD_eq_getD_getElem?, Array.getElem?_eq_getElem hs'] at hv
    rw [Array.getElem?_eq_getElem hs']
    simpa using hv
  unfold Region.wanted yielded
  simp [hg, hog, hd, hv']
theorem wanted_none {ops : Array Oper} {a : Act} {o : Oper} (hg : o.guard = none) : Region.wanted o (yielded ops a.tmps) = true := by
  unfold Region.wanted
  rw [hg]
end Go.Proofs.Ytiblbhppojfdaaa
