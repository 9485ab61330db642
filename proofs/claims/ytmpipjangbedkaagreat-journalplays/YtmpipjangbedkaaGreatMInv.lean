import Derived.OrdersHeld
import Derived.StillTail
import Derived.Tactics
import Derived.Deep.RegionHeld3
import Derived.Test.YtmpipjangbedkaaGreatMBst
import Derived.Test.YtmpipjangbedkaaGreatMDk1
/-
  A law for regions that draw their order: an invariant that each operation keeps, whichever comes up. No program is named here.
-/
namespace Go.Proofs.YtmpipjangbedkaaGreat
set_option maxRecDepth 8000
open Go

section
variable {P : Program} {ops : Array Oper} {Q : Exit → Act → World → Prop} {md : Region.Mode} {J : Array Bool → Act → World → Prop}

/-- Operation number i keeps the invariant. -/
def StepI (P : Program) (md : Region.Mode) (ops : Array Oper) (Q : Exit → Act → World → Prop) (J : Array Bool → Act → World → Prop) (i : Nat) (o : Oper) : Prop :=
  ∀ listed a w, J listed a w → listed.getD i true = false → (∀ e ∈ o.after, Region.binds md e = true → listed.getD e.on false = true) →
    ∀ K' : Act → World → Prop, (∀ a' w', J (listed.setIfInBounds i true) a' w' → K' a' w') →
      if Region.wanted o (yielded ops a.tmps) = true then Oper.wp P o a w K' Q else K' (a.put o.dst undef) w
def StepsI (P : Program) (md : Region.Mode) (ops : Array Oper) (Q : Exit → Act → World → Prop) (J : Array Bool → Act → World → Prop) : Nat → List Oper → Prop
  | _, [] => True
  | i, o :: r => StepI P md ops Q J i o ∧ StepsI P md ops Q J (i + 1) r
theorem StepsI.get : ∀ {l : List Oper} {k : Nat}, StepsI P md ops Q J k l → ∀ (j : Nat) (o : Oper), l[j]? = some o → StepI P md ops Q J (k + j) o
  | [], _, _, j, o, hj => by simp at hj
  | x :: r, k, h, 0, o, hj => by
    have : x = o := by simpa using hj
    subst this
    exact h.1
  | x :: r, k, h, j + 1, o, hj => by
    have := StepsI.get h.2 j o (by simpa using hj)
    rw [show k + (j + 1) = k + 1 + j from by omega]
    exact this

/-- Each waits for earlier ones alone. -/
def Acyc (md : Region.Mode) (ops : Array Oper) : Prop := ∀ (i : Nat) (o : Oper), ops[i]? = some o → ∀ e ∈ o.after, Region.binds md e = true → e.on < i
def acycB (md : Region.Mode) : Nat → List Oper → Bool
  | _, [] => true
  | i, o :: r => o.after.toList.all (fun e => !Region.binds md e || decide (e.on < i)) && acycB md (i + 1) r
theorem acyc_get : ∀ {l : List Oper} {i : Nat}, acycB md i l = true → ∀ (j : Nat) (o : Oper), l[j]? = some o → ∀ e ∈ o.after, Region.binds md e = true → e.on < i + j
  | [], _, _, j, o, hj, _, _, _ => by simp at hj
  | x :: r, i, h, j, o, hj, e, he, hb => by
    unfold acycB at h
    rw [Bool.and_eq_true] at h
    cases j with
    | zero =>
      have : x = o := by simpa using hj
      subst this
      have h2 := List.all_eq_true.1 h.1 e (Array.mem_toList_iff.2 he)
      rw [hb] at h2
      simpa using h2
    | succ j =>
      have := acyc_get h.2 j o (by simpa using hj) e he hb
      omega
theorem acyc_of {l : List Oper} (h : acycB md 0 l = true) : Acyc md l.toArray := fun i o ho e he hb => by
  have := acyc_get h i o (by simpa using ho) e he hb
  omega
theorem none_ready (hac : Acyc md ops) {listed : Array Bool} (hsz : listed.size = ops.size) (hr : Region.ready md ops listed = []) : ∀ j, j < ops.size → listed.getD j false = true := by
  intro j
  induction j using Nat.strongRecOn with
  | _ j ih =>
    intro hj
    cases hl : listed.getD j false
    · exfalso
      have hl' : listed.getD j true = false := by
        have hlt : j < listed.size := by omega
        simp [Array.getD, hlt] at hl ⊢
        exact hl
      have hm : j ∈ Region.ready md ops listed := by
        refine mem_ready.2 ⟨hl', ops[j], Array.getElem?_eq_getElem hj, fun e he hb => ?_⟩
        have h1 := hac j _ (Array.getElem?_eq_getElem hj) e he hb
        exact ih e.on h1 (by omega)
      rw [hr] at hm
      cases hm
    · rfl
/-- How many have not come up. -/
def unl (ops : Array Oper) (listed : Array Bool) : Nat := (List.range ops.size).countP fun j => !listed.getD j true
theorem unl_set {listed : Array Bool} {i : Nat} (hi : i < ops.size) (hsz : listed.size = ops.size) (hl : listed.getD i true = false) : unl ops (listed.setIfInBounds i true) < unl ops listed := by
  unfold unl
  have hmem : i ∈ List.range ops.size := List.mem_range.2 hi
  revert hmem
  generalize List.range ops.size = r
  have hne : ∀ j, j ≠ i → (listed.setIfInBounds i true).getD j true = listed.getD j true := fun j h => by rw [Array.getD_eq_getD_getElem?, Array.getD_eq_getD_getElem?, Array.getElem?_setIfInBounds_ne (Ne.symm h)]
  have hi2 : (listed.setIfInBounds i true).getD i true = true := by
    have : i < listed.size := by omega
    simp [Array.getD, this]
  have hle : ∀ r : List Nat, r.countP (fun j => !(listed.setIfInBounds i true).getD j true) ≤ r.countP fun j => !listed.getD j true := by
    intro r
    induction r with
    | nil => simp
    | cons x r ih =>
      rw [List.countP_cons, List.countP_cons]
      by_cases h : x = i
      · subst h; rw [hi2, hl]; simp only [Bool.not_true, Bool.not_false, if_true, Bool.false_eq_true, if_false]; omega
      · rw [hne x h]; omega
  induction r with
  | nil => intro h; simp at h
  | cons x r ih =>
    intro hm
    rw [List.countP_cons, List.countP_cons]
    by_cases h : x = i
    · subst h
      have := hle r
      rw [hi2, hl]; simp only [Bool.not_true, Bool.not_false, if_true, Bool.false_eq_true, if_false]; omega
    · have := ih ((List.mem_cons.1 hm).resolve_left (fun e => h e.symm))
      rw [hne x h]; omega

theorem wpAny_inv (hac : Acyc md ops) (hst : ∀ i o, ops[i]? = some o → StepI P md ops Q J i o) (hend : ∀ listed a w, J listed a w → (∀ j, j < ops.size → listed.getD j false = true) → Q .normal a w) :
    ∀ (fuel : Nat) (listed : Array Bool) (a : Act) (w : World), listed.size = ops.size → J listed a w → unl ops listed ≤ fuel → wpAny P md ops Q fuel listed a w := by
  intro fuel
  induction fuel with
  | zero =>
    intro listed a w hsz hJ hu
    have hr : Region.ready md ops listed = [] := by
      rw [List.eq_nil_iff_forall_not_mem]
      intro i hi
      obtain ⟨h1, o, h2, _⟩ := mem_ready.1 hi
      have := unl_set (ops := ops) (Array.getElem?_eq_some_iff.1 h2).1 hsz h1
      omega
    exact ⟨hr, hend _ _ _ hJ (none_ready hac hsz hr)⟩
  | succ fuel ih =>
    intro listed a w hsz hJ hu
    refine ⟨fun hr => hend _ _ _ hJ (none_ready hac hsz hr), fun i hi => ?_⟩
    obtain ⟨h1, o, h2, h3⟩ := mem_ready.1 hi
    have hlt := unl_set (ops := ops) (Array.getElem?_eq_some_iff.1 h2).1 hsz h1
    have hs := hst i o h2 listed a w hJ h1 h3 (wpAny P md ops Q fuel (listed.setIfInBounds i true)) (fun a' w' hJ' => ih _ a' w' (by simpa using hsz) hJ' (by omega))
    unfold wpOp
    simp only [h2]
    split
    · rename_i hw
      rw [if_pos hw] at hs
      exact .inl hs
    · rename_i hw
      rw [if_neg hw] at hs
      exact hs

/-- THE LAW. -/
theorem wp_region_inv {id : Nat} {Q : Exit → Act → World → Prop} {a : Act} {w : World} {l : List Oper} (J : Array Bool → Act → World → Prop) (hm : P.follows .mixedOrders = true) (hac : acycB .any 0 l = true)
    (h0 : J (Array.replicate l.toArray.size false) a { w with drawn := w.drawn + 1 })
    (hst : StepsI P .any l.toArray (NoPanic Q) J 0 l)
    (hend : ∀ listed a w, J listed a w → (∀ j, j < l.length → listed.getD j false = true) → Q .normal a w) : (Code.region id l.toArray true).wp P Q a w := by
  refine wp_region_noPanic (wp_region_any hm ?_)
  refine wpAny_inv (J := J) (acyc_of hac) (fun i o ho => ?_) (fun listed a w hJ hall => NoPanic.normal (hend listed a w hJ (fun j hj => hall j (by simpa using hj)))) _ _ _ _ (by simp) h0 ?_
  · have := hst.get i o (by simpa using ho)
    rwa [Nat.zero_add] at this
  · unfold unl
    exact Nat.le_trans List.countP_le_length (by simp)

/-- A frame that is another one but for the slots D. -/
structure Off (D : List Nat) (a0 a : Act) : Prop where
  defers : a.defers = a0.defers
  size : a.tmps.size = a0.tmps.size
  slot : ∀ d, d ∉ D → a.tmps.getD d undef = a0.tmps.getD d undef
theorem Off.refl (D : List Nat) (a : Act) : Off D a a := ⟨rfl, rfl, fun _ _ => rfl⟩
theorem vget_ne (t : Array Value) {d e : Nat} (v : Value) (h : d ≠ e) : (t.setIfInBounds e v).getD d undef = t.getD d undef := by
  rw [Array.getD_eq_getD_getElem?, Array.getD_eq_getD_getElem?, Array.getElem?_setIfInBounds_ne (Ne.symm h)]
theorem vget_at (t : Array Value) {d : Nat} (v : Value) (h : d < t.size) : (t.setIfInBounds d v).getD d undef = v := by
  rw [Array.getD_eq_getD_getElem?, Array.getElem?_setIfInBounds_self_of_lt h]; rfl
theorem vget_in (t : Array Value) {d : Nat} (h : d < t.size) : t.getD d undef = t[d] := by
  rw [Array.getD_eq_getD_getElem?, Array.getElem?_eq_getElem h]; rfl
theorem getD_put (t : Array Value) (d e : Nat) (v : Value) (he : e < t.size) : (t.setIfInBounds e v).getD d undef = if d = e then v else t.getD d undef := by
  by_cases h : d = e
  · subst h; rw [if_pos rfl, vget_at _ _ he]
  · rw [if_neg h]; exact vget_ne t v h
theorem Off.put {D : List Nat} {a0 a : Act} (h : Off D a0 a) {d : Nat} (hd : d ∈ D) (v : Value) : Off D a0 (a.put (some d) v) := by
  refine ⟨h.defers, by simp only [Act.put]; rw [Array.size_setIfInBounds]; exact h.size, fun e he => ?_⟩
  simp only [Act.put]
  rw [vget_ne _ _ (fun e' => he (by rw [e']; exact hd))]
  exact h.slot e he
/-- What stands in the slots, laid into the elder frame. -/
def putL (a0 : Act) (f : Nat → Value) : List Nat → Act
  | [] => a0
  | d :: D => (putL a0 f D).put (some d) (f d)
theorem putL_spec (a0 : Act) (f : Nat → Value) : ∀ D : List Nat, (putL a0 f D).defers = a0.defers ∧ (putL a0 f D).tmps.size = a0.tmps.size ∧ ∀ d, d < a0.tmps.size → (putL a0 f D).tmps.getD d undef = if d ∈ D then f d else a0.tmps.getD d undef
  | [] => ⟨rfl, rfl, fun d _ => by simp [putL]⟩
  | e :: D => by
    obtain ⟨h1, h2, h3⟩ := putL_spec a0 f D
    refine ⟨h1, by simp only [putL, Act.put]; rw [Array.size_setIfInBounds]; exact h2, fun d hd => ?_⟩
    simp only [putL, Act.put]
    by_cases h : d = e
    · subst h
      rw [getD_put _ _ _ _ (by omega), if_pos rfl, if_pos List.mem_cons_self]
    · rw [vget_ne _ _ h, h3 d hd]
      by_cases hm : d ∈ D
      · rw [if_pos hm, if_pos (List.mem_cons_of_mem _ hm)]
      · rw [if_neg hm, if_neg (fun hh => (List.mem_cons.1 hh).elim h hm)]
theorem Off.eq {D : List Nat} {a0 a : Act} (h : Off D a0 a) : a = putL a0 (fun d => a.tmps.getD d undef) D := by
  obtain ⟨h1, h2, h3⟩ := putL_spec a0 (fun d => a.tmps.getD d undef) D
  have ht : a.tmps = (putL a0 (fun d => a.tmps.getD d undef) D).tmps := by
    apply Array.ext (by rw [h.size, h2])
    intro i hi1 hi2
    have e1 : a.tmps.getD i undef = a.tmps[i] := vget_in _ hi1
    have e2 := h3 i (by rw [← h.size]; exact hi1)
    rw [show (putL a0 (fun d => a.tmps.getD d undef) D).tmps.getD i undef = (putL a0 (fun d => a.tmps.getD d undef) D).tmps[i] from vget_in _ hi2] at e2
    rw [e2, ← e1]
    by_cases hm : i ∈ D
    · rw [if_pos hm]
    · rw [if_neg hm]; exact h.slot i hm
  have hd : a.defers = (putL a0 (fun d => a.tmps.getD d undef) D).defers := h.defers.trans h1.symm
  cases a
  generalize putL a0 _ D = b at *
  cases b
  simp only at ht hd
  rw [ht, hd]

def upd {α : Type} (f : Nat → α) (d : Nat) (v : α) : Nat → α := fun e => if e = d then v else f e
/-- The slots of a frame; what has come up. -/
def slots (a : Act) : Nat → Value := fun d => a.tmps.getD d undef
def ups (l : Array Bool) : Nat → Bool := fun j => l.getD j false
theorem slots_put (a : Act) (d : Nat) (v : Value) (h : d < a.tmps.size) : slots (a.put (some d) v) = upd (slots a) d v := by
  funext e
  unfold slots upd
  simp only [Act.put]
  rw [getD_put _ _ _ _ h]
theorem ups_set (l : Array Bool) (i : Nat) (h : i < l.size) : ups (l.setIfInBounds i true) = upd (ups l) i true := by
  funext j
  unfold ups upd
  by_cases e : j = i
  · subst e; rw [if_pos rfl]; simp [Array.getD, h]
  · rw [if_neg e]
    change _ = l.getD j false
    rw [Array.getD_eq_getD_getElem?, Array.getD_eq_getD_getElem?, Array.getElem?_setIfInBounds_ne (Ne.symm e)]
theorem ups_none (n : Nat) : ups (Array.replicate n false) = fun _ => false := by
  funext j
  unfold ups
  rw [Array.getD_eq_getD_getElem?, Array.getElem?_replicate]
  split <;> rfl
theorem lt_of_unl {l : Array Bool} {i : Nat} (h : l.getD i true = false) : i < l.size := by
  rcases Nat.lt_or_ge i l.size with h1 | h1
  · exact h1
  · rw [Array.getD_eq_getD_getElem?, Array.getElem?_eq_none h1] at h
    cases h
theorem ups_unl {l : Array Bool} {i : Nat} (h : l.getD i true = false) : ups l i = false := by
  have h1 := lt_of_unl h
  unfold ups
  rw [Array.getD_eq_getD_getElem?, Array.getElem?_eq_getElem h1] at h ⊢
  exact h

/-- Operation number i keeps what is told of the slots, of what has come up and of the world. -/
def StepO (P : Program) (Q : Exit → Act → World → Prop) (D : List Nat) (a0 : Act) (I : (Nat → Value) → (Nat → Bool) → World → Prop) (i : Nat) (o : Oper) : Prop :=
  ∀ (a : Act) (W : World) (L : Nat → Bool) (K : Act → World → Prop), Off D a0 a → I (slots a) L W → L i = false → (∀ e ∈ o.after, Region.binds .any e = true → L e.on = true) →
    (∀ a' W', Off D a0 a' → I (slots a') (upd L i true) W' → K a' W') → Oper.wp P o a W K Q
def StepsO (P : Program) (Q : Exit → Act → World → Prop) (D : List Nat) (a0 : Act) (I : (Nat → Value) → (Nat → Bool) → World → Prop) : Nat → List Oper → Prop
  | _, [] => True
  | i, o :: r => StepO P Q D a0 I i o ∧ StepsO P Q D a0 I (i + 1) r
theorem StepsO.to {D : List Nat} {a0 : Act} {I : (Nat → Value) → (Nat → Bool) → World → Prop} : ∀ {l : List Oper} {i : Nat}, l.all (fun o => o.guard.isNone) = true → StepsO P Q D a0 I i l → StepsI P .any ops Q (fun listed a w => Off D a0 a ∧ I (slots a) (ups listed) w) i l
  | [], _, _, _ => trivial
  | o :: r, i, hg, h => by
    rw [List.all_cons, Bool.and_eq_true] at hg
    refine ⟨?_, StepsO.to hg.2 h.2⟩
    intro listed a w hJ hl ha K' hK'
    have hw : Region.wanted o (yielded ops a.tmps) = true := by
      have h1 := hg.1
      unfold Region.wanted
      cases h2 : o.guard
      · rfl
      · rw [h2] at h1; cases h1
    rw [if_pos hw]
    exact h.1 a w (ups listed) K' hJ.1 hJ.2 (ups_unl hl) ha (fun a' W' h1 h2 => hK' a' W' ⟨h1, by rw [ups_set _ _ (lt_of_unl hl)]; exact h2⟩)
theorem Off.next {D : List Nat} {a0 a : Act} {I : (Nat → Value) → (Nat → Bool) → World → Prop} {L' : Nat → Bool} {K : Act → World → Prop} (hK : ∀ a' W', Off D a0 a' → I (slots a') L' W' → K a' W') (ho : Off D a0 a) {d : Nat} (hd : d ∈ D) (hs : d < a0.tmps.size) {v : Value} {W' : World} (hi : I (upd (slots a) d v) L' W') : K (a.put (some d) v) W' :=
  hK _ _ (ho.put hd v) (by rw [slots_put _ _ _ (by rw [ho.size]; exact hs)]; exact hi)
/-- THE LAW, by slots. -/
theorem wp_region_off {id : Nat} {Q : Exit → Act → World → Prop} {a0 : Act} {w : World} {l : List Oper} (D : List Nat) (I : (Nat → Value) → (Nat → Bool) → World → Prop) (hm : P.follows .mixedOrders = true) (hac : acycB .any 0 l = true) (hg : l.all (fun o => o.guard.isNone) = true)
    (h0 : I (slots a0) (fun _ => false) w.drew) (hst : StepsO P (NoPanic Q) D a0 I 0 l)
    (hend : ∀ a W L, Off D a0 a → I (slots a) L W → (∀ j, j < l.length → L j = true) → Q .normal a W) : (Code.region id l.toArray true).wp P Q a0 w :=
  wp_region_inv (fun listed a w => Off D a0 a ∧ I (slots a) (ups listed) w) hm hac ⟨Off.refl _ _, by rw [ups_none]; exact h0⟩ (hst.to hg) (fun listed a w hJ h => hend a w (ups listed) hJ.1 hJ.2 h)
end
end Go.Proofs.YtmpipjangbedkaaGreat

/-
  A law for regions that draw their order, calls among them: of each operation is told what holds of its value, given what holds of those that it waits for; nothing is asked of the order. No program is named here.
-/
namespace Go.Proofs.YtmpipjangbedkaaGreat
set_option maxRecDepth 8000
open Go

section
variable {P : Program} {Q : Exit → Act → World → Prop}
/-- The value of an operation, where it has a slot. -/
def valOf (a : Act) (o : Oper) : Value := match o.dst with
  | some d => a.tmps.getD d undef
  | none => undef
/-- No two operations have the same slot. -/
def disB : List Oper → Bool
  | [] => true
  | o :: r => (match o.dst with | none => true | some d => r.all fun o' => o'.dst != some d) && disB r
theorem disB_get : ∀ {l : List Oper}, disB l = true → ∀ (i j : Nat) (o o' : Oper) (d : Nat), l[i]? = some o → l[j]? = some o' → o.dst = some d → o'.dst = some d → i = j
  | [], _, i, j, o, o', d, h, _, _, _ => by simp at h
  | x :: r, hd, i, j, o, o', d, hi, hj, ho, ho' => by
    unfold disB at hd
    rw [Bool.and_eq_true] at hd
    cases i with
    | zero =>
      have e : x = o := by simpa using hi
      subst e
      cases j with
      | zero => rfl
      | succ j =>
        have h1 := hd.1
        rw [ho] at h1
        have h2 := List.all_eq_true.1 h1 o' (List.mem_of_getElem? (by simpa using hj))
        rw [ho'] at h2
        simp at h2
    | succ i =>
      cases j with
      | zero =>
        have e : x = o' := by simpa using hj
        subst e
        have h1 := hd.1
        rw [ho'] at h1
        have h2 := List.all_eq_true.1 h1 o (List.mem_of_getElem? (by simpa using hi))
        rw [ho] at h2
        simp at h2
      | succ j =>
        have := disB_get hd.2 i j o o' d (by simpa using hi) (by simpa using hj) ho ho'
        omega
/-- The slots are among D, and within the frame. -/
def inB (D : List Nat) (n : Nat) (l : List Oper) : Bool := l.all fun o => match o.dst with | none => true | some d => D.contains d && decide (d < n)
/-- What an operation must do. -/
def StepD (P : Program) (ops : Array Oper) (Q : Exit → Act → World → Prop) (D : List Nat) (a0 : Act) (Gr : World → World → Prop) (Wp : World → Prop) (Pv : Nat → Value → World → Prop) (i : Nat) (o : Oper) : Prop :=
  ∀ (a : Act) (W : World) (K : Act → World → Prop), Off D a0 a → Wp W → (∀ e ∈ o.after, Region.binds .any e = true → ∀ o', ops[e.on]? = some o' → Pv e.on (valOf a o') W) →
    (∀ v W', Gr W W' → Wp W' → Pv i (match o.dst with | some _ => v | none => undef) W' → K (a.put o.dst v) W') →
    if Region.wanted o (yielded ops a.tmps) = true then Oper.wp P o a W K Q else K (a.put o.dst undef) W
def StepsD (P : Program) (ops : Array Oper) (Q : Exit → Act → World → Prop) (D : List Nat) (a0 : Act) (Gr : World → World → Prop) (Wp : World → Prop) (Pv : Nat → Value → World → Prop) : Nat → List Oper → Prop
  | _, [] => True
  | i, o :: r => StepD P ops Q D a0 Gr Wp Pv i o ∧ StepsD P ops Q D a0 Gr Wp Pv (i + 1) r
theorem StepsD.get {ops : Array Oper} {D : List Nat} {a0 : Act} {Gr : World → World → Prop} {Wp : World → Prop} {Pv : Nat → Value → World → Prop} : ∀ {l : List Oper} {k : Nat}, StepsD P ops Q D a0 Gr Wp Pv k l → ∀ (j : Nat) (o : Oper), l[j]? = some o → StepD P ops Q D a0 Gr Wp Pv (k + j) o
  | [], _, _, j, o, hj => by simp at hj
  | x :: r, k, h, 0, o, hj => by
    have : x = o := by simpa using hj
    subst this
    exact h.1
  | x :: r, k, h, j + 1, o, hj => by
    have := StepsD.get h.2 j o (by simpa using hj)
    rw [show k + (j + 1) = k + 1 + j from by omega]
    exact this
theorem getD_set_at {l : Array Bool} {i j : Nat} (h : (l.setIfInBounds i true).getD j false = true) : j = i ∨ l.getD j false = true := by
  by_cases e : j = i
  · exact .inl e
  · right
    rw [Array.getD_eq_getD_getElem?, Array.getElem?_setIfInBounds_ne (Ne.symm e), ← Array.getD_eq_getD_getElem?] at h
    exact h
/-- THE LAW. -/
theorem wp_region_dag {id : Nat} {a0 : Act} {w : World} {l : List Oper} (D : List Nat) (Gr : World → World → Prop) (Wp : World → Prop) (Pv : Nat → Value → World → Prop) (hm : P.follows .mixedOrders = true) (hac : acycB .any 0 l = true) (hdis : disB l = true) (hin : inB D a0.tmps.size l = true)
    (stable : ∀ i v W W', Gr W W' → Pv i v W → Pv i v W')
    (h0 : Wp { w with drawn := w.drawn + 1 })
    (hst : StepsD P l.toArray (NoPanic Q) D a0 Gr Wp Pv 0 l)
    (hend : ∀ (a : Act) (W : World), Off D a0 a → Wp W → (∀ (i : Nat) (o : Oper), l[i]? = some o → Pv i (valOf a o) W) → Q .normal a W) : (Code.region id l.toArray true).wp P Q a0 w := by
  refine wp_region_inv (fun listed a W => Off D a0 a ∧ Wp W ∧ ∀ (i : Nat) (o : Oper), l[i]? = some o → listed.getD i false = true → Pv i (valOf a o) W) hm hac ⟨Off.refl _ _, h0, fun i o _ h => ?_⟩ ?_ (fun listed a W hJ hall => hend a W hJ.1 hJ.2.1 fun i o ho => hJ.2.2 i o ho (hall i (List.getElem?_eq_some_iff.1 ho).1))
  · rw [Array.getD_eq_getD_getElem?, Array.getElem?_replicate] at h
    split at h <;> simp at h
  · have key : ∀ (j : Nat) (o : Oper), l[j]? = some o → StepI P .any l.toArray (NoPanic Q) (fun listed a W => Off D a0 a ∧ Wp W ∧ ∀ (i : Nat) (o : Oper), l[i]? = some o → listed.getD i false = true → Pv i (valOf a o) W) j o := by
      intro i o ho listed a W hJ hl hafter K' hK'
      have hs := hst.get i o ho
      rw [Nat.zero_add] at hs
      refine hs a W K' hJ.1 hJ.2.1 (fun e he hb o' ho' => hJ.2.2 e.on o' (by simpa using ho') (hafter e he hb)) ?_
      intro v W' hg hw hp
      have hi := List.all_eq_true.1 hin o (List.mem_of_getElem? ho)
      refine hK' _ _ ⟨?_, hw, fun j o' ho' hj => ?_⟩
      · cases hd : o.dst with
        | none => exact hJ.1
        | some d =>
          rw [hd] at hi
          simp only [Bool.and_eq_true, List.contains_iff_mem] at hi
          exact hJ.1.put hi.1 v
      · rcases getD_set_at hj with rfl | hj
        · rw [ho] at ho'
          injection ho' with e
          subst e
          unfold valOf
          cases hd : o.dst with
          | none => rw [hd] at hp; exact hp
          | some d =>
            rw [hd] at hp hi
            simp only [Bool.and_eq_true, decide_eq_true_eq] at hi
            simp only [Act.put]
            rw [vget_at _ _ (by rw [hJ.1.size]; exact hi.2)]
            exact hp
        · have h1 := stable _ _ _ _ hg (hJ.2.2 j o' ho' hj)
          have e : valOf (a.put o.dst v) o' = valOf a o' := by
            unfold valOf
            cases hd' : o'.dst with
            | none => rfl
            | some d' =>
              cases hd : o.dst with
              | none => rfl
              | some d =>
                simp only [Act.put]
                refine vget_ne _ _ fun e => ?_
                subst e
                have e2 := disB_get hdis i j o o' _ ho ho' hd hd'
                subst e2
                have h3 : listed.getD i true = false := hl
                have h4 : i < listed.size := lt_of_unl h3
                rw [Array.getD_eq_getD_getElem?, Array.getElem?_eq_getElem h4] at h3 hj
                simp at h3 hj
                rw [h3] at hj
                cases hj
          rw [e]
          exact h1
    exact (by
      have gen : ∀ (r : List Oper) (k : Nat), (∀ (j : Nat) (o : Oper), r[j]? = some o → StepI P .any l.toArray (NoPanic Q) (fun listed a W => Off D a0 a ∧ Wp W ∧ ∀ (i : Nat) (o : Oper), l[i]? = some o → listed.getD i false = true → Pv i (valOf a o) W) (k + j) o) → StepsI P .any l.toArray (NoPanic Q) (fun listed a W => Off D a0 a ∧ Wp W ∧ ∀ (i : Nat) (o : Oper), l[i]? = some o → listed.getD i false = true → Pv i (valOf a o) W) k r := by
        intro r
        induction r with
        | nil => intro k _; trivial
        | cons x r ih =>
          intro k h
          refine ⟨by have := h 0 x (by simp); simpa using this, ih (k + 1) fun j o hj => ?_⟩
          have := h (j + 1) o (by simpa using hj)
          rw [show k + 1 + j = k + (j + 1) from by omega]
          exact this
      exact gen l 0 fun j o hj => by rw [Nat.zero_add]; exact key j o hj)
end
end Go.Proofs.YtmpipjangbedkaaGreat

/-
  What is told of a value in a drawn region (for the law of Dag): that it is this one, or anything that lasts. No program's function is named here, but for bytes as a string.
-/
namespace Go.Proofs.YtmpipjangbedkaaGreat
set_option maxRecDepth 8000
open Go Go.RowKit

/-- Something that is told of a value, and lasts. -/
structure SpP where
  p : Value → World → Prop
  st : ∀ v W W', Below W.heap.size W W' → p v W → p v W'
def SpP.val (u : Value) : SpP := ⟨fun v _ => v = u, fun _ _ _ _ h => h⟩
/-- A slice of these bytes. -/
def SpP.byt (l : List Nat) : SpP := ⟨fun v W => ∃ A n c, v = .slice A n c ∧ n = l.length ∧ Byts W A l, fun _ _ _ hb h => by obtain ⟨A, n, c, e, hn, h⟩ := h; exact ⟨A, n, c, e, hn, h.below hb⟩⟩
/-- What is told of the i-th operation. -/
def spAt (l : List SpP) (i : Nat) (v : Value) (W : World) : Prop := (l.getD i (.val undef)).p v W
theorem spAt_st (l : List SpP) (i : Nat) (v : Value) (W W' : World) (hb : Below W.heap.size W W') (h : spAt l i v W) : spAt l i v W' := (l.getD i (.val undef)).st v W W' hb h
theorem wanted_at {ops : Array Oper} {D : List Nat} {a0 a : Act} {o og : Oper} {g d : Nat} {b : Bool} (ho : Off D a0 a) (hg : o.guard = some (g, b)) (hog : ops[g]? = some og) (hd : og.dst = some d) (hs : d < a0.tmps.size) (hv : a.tmps.getD d undef = .bool b) : Region.wanted o (yielded ops a.tmps) = true := by
  have hs' : d < a.tmps.size := by rw [ho.size]; exact hs
  have hv' : a.tmps[d]? = some (.bool b) := by
    rw [Array.getD_eq_getD_getElem?, Array.getElem?_eq_getElem hs'] at hv
    rw [Array.getElem?_eq_getElem hs']
    simpa using hv
  unfold Region.wanted yielded
  simp [hg, hog, hd, hv']
theorem wanted_none {ops : Array Oper} {a : Act} {o : Oper} (hg : o.guard = none) : Region.wanted o (yielded ops a.tmps) = true := by
  unfold Region.wanted
  rw [hg]
theorem own_byt {w : World} {base : Nat} {v : Value} {l : List Nat} (h : OwnB w base v l) : (SpP.byt l).p v w := by
  obtain ⟨A, c, rfl, hB, _⟩ := h.form
  exact ⟨A, _, c, rfl, rfl, hB⟩
theorem wf_i64 {n : Int} (h : (Lit.int .i64 n).wf = true) : I64 n := by unfold I64; simp [Lit.wf, IntKind.min, IntKind.max, IntKind.bits, IntKind.signed] at h; omega
end Go.Proofs.YtmpipjangbedkaaGreat

/-
  Configs of any numbers, in memory; the walks of the reference's within, RightPlan.
-/
namespace Go.Proofs.YtmpipjangbedkaaGreat
set_option maxRecDepth 8000
open Go Go.RowKit
set_option linter.unusedVariables false

def Ins.zero : Ins := ⟨0, 0, 0, 0⟩
/-- Instruments, one behind the other (nothing is asked of no instruments' address). -/
def InsM (W : World) (A : Option Addr) (l : List Ins) : Prop :=
  0 < l.length → ∃ b off, A = some ⟨b, off, none⟩ ∧ ∀ i, i < l.length → W.cell? ⟨b, off + i * 4, none⟩ = some (.int .i64 (l.getD i Ins.zero).bucket) ∧ W.cell? ⟨b, off + i * 4 + 1, none⟩ = some (.int .i64 (l.getD i Ins.zero).price) ∧ W.cell? ⟨b, off + i * 4 + 2, none⟩ = some (.int .i64 (l.getD i Ins.zero).rate) ∧ W.cell? ⟨b, off + i * 4 + 3, none⟩ = some (.int .i64 (l.getD i Ins.zero).slip)
theorem InsM.below {W W' : World} {A : Option Addr} {l : List Ins} (h : InsM W A l) (hb : Below W.heap.size W W') : InsM W' A l := by
  intro h0
  obtain ⟨b, off, e, hc⟩ := h h0
  refine ⟨b, off, e, fun i hi => ?_⟩
  obtain ⟨c0, c1, c2, c3⟩ := hc i hi
  exact ⟨(hb.cell (p := ⟨b, off + i * 4, none⟩) (block_lt c0)).trans c0, (hb.cell (p := ⟨b, off + i * 4 + 1, none⟩) (block_lt c1)).trans c1, (hb.cell (p := ⟨b, off + i * 4 + 2, none⟩) (block_lt c2)).trans c2, (hb.cell (p := ⟨b, off + i * 4 + 3, none⟩) (block_lt c3)).trans c3⟩
/-- Within bounds. -/
def wIn (n lo hi : Int) : Bool := decide (lo ≤ n) && decide (n ≤ hi)
set_option maxRecDepth 8000 in
set_option maxHeartbeats 1000000 in
theorem within_any (n lo hi : Int) (w : World) : Calls Tryz.prog 66 #[.int .i64 n, .int .i64 lo, .int .i64 hi] w fun e w' => e = .returned (.bool (wIn n lo hi)) ∧ w = w' := by
  unfold wIn
  by_cases h : lo ≤ n
  · by_cases h2 : n ≤ hi
    · rw [decide_eq_true h, decide_eq_true h2]
      go_enter Tryz.func66, Tryz.ntmps66
      go_wp2
      go_ret
      exact ⟨rfl, rfl⟩
    · rw [decide_eq_true h, decide_eq_false h2]
      go_enter Tryz.func66, Tryz.ntmps66
      go_wp2
      go_ret
      exact ⟨rfl, rfl⟩
  · rw [decide_eq_false h]
    go_enter Tryz.func66, Tryz.ntmps66
    go_wp2
    go_ret
    exact ⟨rfl, rfl⟩
def insOk (x : Ins) : Bool := wIn x.bucket 0 3 && (wIn x.price 1 1000000000000 && (wIn x.rate 0 1000000000 && wIn x.slip 0 1000000000))
def restOk (c : Cfg) : Bool := decide (0 ≤ c.skin) && (wIn c.times 0 4 && (wIn c.port 0 1000000 && (wIn c.bid 0 1000000 && (wIn c.lot 1 4611686018427387904 && decide (0 ≤ c.hedge)))))
/-- Is a config right? -/
def planOk (c : Cfg) : Bool := (decide (1 ≤ c.insts.length) && decide (c.insts.length ≤ 6)) && (c.insts.all insOk && restOk c)
theorem plan_len {c : Cfg} (h : ¬ (1 ≤ c.insts.length ∧ c.insts.length ≤ 6)) : planOk c = false := by
  unfold planOk
  by_cases h1 : 1 ≤ c.insts.length
  · rw [decide_eq_true h1, decide_eq_false (fun h2 => h ⟨h1, h2⟩)]; rfl
  · rw [decide_eq_false h1]; rfl
theorem plan_ins {c : Cfg} {i : Nat} (hi : i < c.insts.length) (h : insOk (c.insts.getD i Ins.zero) = false) : planOk c = false := by
  unfold planOk
  have : c.insts.all insOk = false := by
    rw [List.all_eq_false]
    exact ⟨c.insts[i], List.getElem_mem hi, by rw [List.getD_eq_getElem?_getD, List.getElem?_eq_getElem hi] at h; simp at h; simp [h]⟩
  rw [this]
  simp
theorem plan_all {c : Cfg} (h : 1 ≤ c.insts.length ∧ c.insts.length ≤ 6) (hi : ∀ i, i < c.insts.length → insOk (c.insts.getD i Ins.zero) = true) : planOk c = restOk c := by
  unfold planOk
  have : c.insts.all insOk = true := by
    rw [List.all_eq_true]
    intro x hx
    obtain ⟨i, hi', rfl⟩ := List.getElem_of_mem hx
    have := hi i hi'
    rw [List.getD_eq_getElem?_getD, List.getElem?_eq_getElem hi'] at this
    exact this
  rw [this, decide_eq_true h.1, decide_eq_true h.2]
  rfl
end Go.Proofs.YtmpipjangbedkaaGreat
