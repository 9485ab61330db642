import Derived.Test.YtnfoneeplkjhbaaRfSp1
import Derived.OrdersHeld
import Derived.StillTail
import Derived.Tactics
import Derived.Deep.RegionHeld3
/-
  Structs of two fields that a region makes at any time, among calls; Bigs laid into two of them. No program's function is named here.
-/
namespace Go.Proofs.Ytnfoneeplkjhbaa
open Go.RowKit

/-- Structs of two fields, each in its own block, the younger ones first, and all that was there ahead. -/
def Bxs (w : World) : List (Nat × Value × Value) → World → Prop
  | [], W => Below w.heap.size w W
  | x :: r, W => Box2 W x.1 x.2.1 x.2.2 ∧ w.heap.size ≤ x.1 ∧ (∀ y ∈ r, y.1 < x.1) ∧ Bxs w r W
theorem Bxs.below {w W W' : World} : ∀ {l : List (Nat × Value × Value)}, Bxs w l W → Below W.heap.size W W' → Bxs w l W'
  | [], h, hb => Below.trans h (hb.mono (Below.size h))
  | _ :: _, h, hb => ⟨h.1.below hb, h.2.1, h.2.2.1, Bxs.below h.2.2.2 hb⟩
theorem Bxs.old {w W : World} : ∀ {l : List (Nat × Value × Value)}, Bxs w l W → Below w.heap.size w W
  | [], h => h
  | _ :: _, h => Bxs.old h.2.2.2
theorem Bxs.lt {w W : World} : ∀ {l : List (Nat × Value × Value)}, Bxs w l W → ∀ y ∈ l, y.1 < W.heap.size
  | [], _, y, hy => by simp at hy
  | x :: r, h, y, hy => by
    rcases List.mem_cons.1 hy with rfl | hy
    · exact h.1.lt
    · exact Bxs.lt h.2.2.2 y hy
theorem Bxs.alloc {w W : World} {l : List (Nat × Value × Value)} (h : Bxs w l W) (o : Obj) : Bxs w l (W.alloc o) := h.below ((Below.refl _ _).alloc (Nat.le_refl _) _)
theorem Bxs.push {w W : World} {l : List (Nat × Value × Value)} (h : Bxs w l W) (u0 u1 : Value) (t : TypeId) : Bxs w ((W.heap.size, u0, u1) :: l) (W.alloc (.cells #[u0, u1] t)) :=
  ⟨Box2.new W u0 u1 t _ rfl, h.old.size, h.lt, h.alloc _⟩
theorem BigV.hop {W0 W W' : World} {v : Value} {x : Int} {n : Nat} (h : BigV W0 v x n) (h1 : Below W0.heap.size W0 W) (hb : Below W.heap.size W W') : BigV W' v x n := (h.below h1).below hb

/-- Two Bigs, each in its struct, in blocks of their own. -/
def QR (w : World) (b1 b2 : Nat) (nq : Bool) (Q : Option Addr) (lq cq : Nat) (nr : Bool) (R : Option Addr) (lr cr : Nat) (xq xr : Int) (N : Nat) (W : World) : Prop :=
  BigB w b1 nq Q lq cq xq N W ∧ BigB w b2 nr R lr cr xr N W ∧ b1 ≠ b2
theorem QR.below {w W W' : World} {b1 b2 : Nat} {nq : Bool} {Q : Option Addr} {lq cq : Nat} {nr : Bool} {R : Option Addr} {lr cr : Nat} {xq xr : Int} {N : Nat} (h : QR w b1 b2 nq Q lq cq nr R lr cr xq xr N W) (hb : Below W.heap.size W W') : QR w b1 b2 nq Q lq cq nr R lr cr xq xr N W' :=
  ⟨h.1.below hb, h.2.1.below hb, h.2.2⟩
section
variable {w W : World} {nq : Bool} {Q : Option Addr} {lq cq : Nat} {nr : Bool} {R : Option Addr} {lr cr : Nat} {xq xr : Int} {N : Nat}
theorem big_in {v : Value} {x : Int} (h : BigV W v x N) {b : Nat} (hb : Box2 W b (.bool false) (.slice none 0 0)) (u0 u1 : Value) : BigV ((W.setCell ⟨b, 0, none⟩ u0).setCell ⟨b, 1, none⟩ u1) v x N :=
  (h.setCell hb.1 (fun _ e => by cases e) _).setCell (u := .slice none 0 0) (by rw [World.cell?_setCell_other _ _ _ _ (by simp)]; exact hb.2.1) (fun _ e => by cases e) _
theorem below_in (hB : Below w.heap.size w W) {b : Nat} (l : w.heap.size ≤ b) (u0 u1 : Value) : Below w.heap.size w ((W.setCell ⟨b, 0, none⟩ u0).setCell ⟨b, 1, none⟩ u1) :=
  (hB.setCell (p := ⟨b, 0, none⟩) l _).setCell (p := ⟨b, 1, none⟩) l _
theorem QR.both {b1 b2 : Nat} (h1 : Box2 W b1 (.bool false) (.slice none 0 0)) (h2 : Box2 W b2 (.bool false) (.slice none 0 0)) (hne : b1 ≠ b2) (l1 : w.heap.size ≤ b1) (l2 : w.heap.size ≤ b2) (hB : Below w.heap.size w W)
    (vq : BigV W (.agg #[.bool nq, .slice Q lq cq]) xq N) (vr : BigV W (.agg #[.bool nr, .slice R lr cr]) xr N) :
    QR w b1 b2 nq Q lq cq nr R lr cr xq xr N ((((W.setCell ⟨b1, 0, none⟩ (.bool nq)).setCell ⟨b1, 1, none⟩ (.slice Q lq cq)).setCell ⟨b2, 0, none⟩ (.bool nr)).setCell ⟨b2, 1, none⟩ (.slice R lr cr)) := by
  have h2' : Box2 ((W.setCell ⟨b1, 0, none⟩ (.bool nq)).setCell ⟨b1, 1, none⟩ (.slice Q lq cq)) b2 (.bool false) (.slice none 0 0) := (h2.other hne _ _).other hne _ _
  have hb := below_in (below_in hB l1 (.bool nq) (.slice Q lq cq)) l2 (.bool nr) (.slice R lr cr)
  exact ⟨⟨((h1.set _ _).other (Ne.symm hne) _ _).other (Ne.symm hne) _ _, big_in (big_in vq h1 _ _) h2' _ _, l1, hb⟩, ⟨h2'.set _ _, big_in (big_in vr h1 _ _) h2' _ _, l2, hb⟩, hne⟩
theorem QR.one {b1 : Nat} (h1 : Box2 W b1 (.bool false) (.slice none 0 0)) (l1 : w.heap.size ≤ b1) (hB : Below w.heap.size w W)
    (vq : BigV W (.agg #[.bool nq, .slice Q lq cq]) xq N) (vr : BigV W (.agg #[.bool nr, .slice R lr cr]) xr N) (t : TypeId) :
    QR w b1 W.heap.size nq Q lq cq nr R lr cr xq xr N (((W.setCell ⟨b1, 0, none⟩ (.bool nq)).setCell ⟨b1, 1, none⟩ (.slice Q lq cq)).alloc (.cells #[.bool nr, .slice R lr cr] t)) := by
  have hb := below_in hB l1 (.bool nq) (.slice Q lq cq)
  have ha : Below ((W.setCell ⟨b1, 0, none⟩ (.bool nq)).setCell ⟨b1, 1, none⟩ (.slice Q lq cq)).heap.size ((W.setCell ⟨b1, 0, none⟩ (.bool nq)).setCell ⟨b1, 1, none⟩ (.slice Q lq cq)) (((W.setCell ⟨b1, 0, none⟩ (.bool nq)).setCell ⟨b1, 1, none⟩ (.slice Q lq cq)).alloc (.cells #[.bool nr, .slice R lr cr] t)) := (Below.refl _ _).alloc (Nat.le_refl _) _
  have hlt := h1.lt
  exact ⟨⟨(h1.set _ _).below ha, (big_in vq h1 _ _).below ha, l1, grew1 hb _⟩, ⟨Box2.new _ _ _ _ _ (by simp [World.setCell]), (big_in vr h1 _ _).below ha, hB.size, grew1 hb _⟩, by omega⟩
theorem QR.swap {b1 b2 : Nat} {x y : Int} (h : QR w b1 b2 nq Q lq cq nr R lr cr x y N W) : QR w b2 b1 nr R lr cr nq Q lq cq y x N W := ⟨h.2.1, h.1, Ne.symm h.2.2⟩
theorem QR.new (hB : Below w.heap.size w W)
    (vq : BigV W (.agg #[.bool nq, .slice Q lq cq]) xq N) (vr : BigV W (.agg #[.bool nr, .slice R lr cr]) xr N) (t : TypeId) :
    QR w W.heap.size (W.heap.size + 1) nq Q lq cq nr R lr cr xq xr N ((W.alloc (.cells #[.bool nq, .slice Q lq cq] t)).alloc (.cells #[.bool nr, .slice R lr cr] t)) := by
  have h1 := BigB.new vq hB t
  have h2 := BigB.new (vr.below ((Below.refl _ _).alloc (Nat.le_refl _) (.cells #[.bool nq, .slice Q lq cq] t))) (grew1 hB (.cells #[.bool nq, .slice Q lq cq] t)) t
  exact ⟨h1.below ((Below.refl _ _).alloc (Nat.le_refl _) _), by simpa using h2, by omega⟩
end
end Go.Proofs.Ytnfoneeplkjhbaa

/-
  A law for regions that draw their order: an invariant that each operation keeps, whichever comes up. No program is named here.
-/
namespace Go.Proofs.Ytnfoneeplkjhbaa
open Go

section
variable {P : Program} {ops : Array Oper} {Q : Exit → Act → World → Prop} {md : Region.Mode} {J : Array Bool → Act → World → Prop}

/-- Operation number i keeps the invariant. -/
def StepI (P : Program) (md : Region.Mode) (ops : Array Oper) (Q : Exit → Act → World → Prop) (J : Array Bool → Act → World → Prop) (i : Nat) (o : Oper) : Prop :=
  ∀ listed a w, J listed a w → listed.getD i true = false → (∀ e ∈ o.after, Region.binds md e = true → listed.getD e.on false = true) →
    ∀ K' : Act → World → Prop, (∀ a' w', J (listed.setIfInBounds i true) a' w' → K' a' w') →
      if Region.wanted o (yielded ops a.tmps) = true then Oper.wp P o a w K' Q else K' (a.put o.dst undef) w
def StepsI (P : Program) (md : Region.Mode) (ops : Array Oper) (Q : Exit → Act → World → Prop) (J : Array Bool → Act → World → Prop) : Nat → List Oper → Prop
  | _, [] => True
  | i, o :: r => StepI P md ops Q J i o ∧ StepsI P md ops Q J (i + 1) r
theorem StepsI.get : ∀ {l : List Oper} {k : Nat}, StepsI P md ops Q J k l → ∀ (j : Nat) (o : Oper), l[j]? = some o → StepI P md ops Q J (k + j) o
  | [], _, _, j, o, hj => by simp at hj
  | x :: r, k, h, 0, o, hj => by
    have : x = o := by simpa using hj
    subst this
    exact h.1
  | x :: r, k, h, j + 1, o, hj => by
    have := StepsI.get h.2 j o (by simpa using hj)
    rw [show k + (j + 1) = k + 1 + j from by omega]
    exact this

/-- Each waits for earlier ones alone. -/
def Acyc (md : Region.Mode) (ops : Array Oper) : Prop := ∀ (i : Nat) (o : Oper), ops[i]? = some o → ∀ e ∈ o.after, Region.binds md e = true → e.on < i
def acycB (md : Region.Mode) : Nat → List Oper → Bool
  | _, [] => true
  | i, o :: r => o.after.toList.all (fun e => !Region.binds md e || decide (e.on < i)) && acycB md (i + 1) r
theorem acyc_get : ∀ {l : List Oper} {i : Nat}, acycB md i l = true → ∀ (j : Nat) (o : Oper), l[j]? = some o → ∀ e ∈ o.after, Region.binds md e = true → e.on < i + j
  | [], _, _, j, o, hj, _, _, _ => by simp at hj
  | x :: r, i, h, j, o, hj, e, he, hb => by
    unfold acycB at h
    rw [Bool.and_eq_true] at h
    cases j with
    | zero =>
      have : x = o := by simpa using hj
      subst this
      have h2 := List.all_eq_true.1 h.1 e (Array.mem_toList_iff.2 he)
      rw [hb] at h2
      simpa using h2
    | succ j =>
      have := acyc_get h.2 j o (by simpa using hj) e he hb
      omega
theorem acyc_of {l : List Oper} (h : acycB md 0 l = true) : Acyc md l.toArray := fun i o ho e he hb => by
  have := acyc_get h i o (by simpa using ho) e he hb
  omega
theorem none_ready (hac : Acyc md ops) {listed : Array Bool} (hsz : listed.size = ops.size) (hr : Region.ready md ops listed = []) : ∀ j, j < ops.size → listed.getD j false = true := by
  intro j
  induction j using Nat.strongRecOn with
  | _ j ih =>
    intro hj
    cases hl : listed.getD j false
    · exfalso
      have hl' : listed.getD j true = false := by
        have hlt : j < listed.size := by omega
        simp [Array.getD, hlt] at hl ⊢
        exact hl
      have hm : j ∈ Region.ready md ops listed := by
        refine mem_ready.2 ⟨hl', ops[j], Array.getElem?_eq_getElem hj, fun e he hb => ?_⟩
        have h1 := hac j _ (Array.getElem?_eq_getElem hj) e he hb
        exact ih e.on h1 (by omega)
      rw [hr] at hm
      cases hm
    · rfl
/-- How many have not come up. -/
def unl (ops : Array Oper) (listed : Array Bool) : Nat := (List.range ops.size).countP fun j => !listed.getD j true
theorem unl_set {listed : Array Bool} {i : Nat} (hi : i < ops.size) (hsz : listed.size = ops.size) (hl : listed.getD i true = false) : unl ops (listed.setIfInBounds i true) < unl ops listed := by
  unfold unl
  have hmem : i ∈ List.range ops.size := List.mem_range.2 hi
  revert hmem
  generalize List.range ops.size = r
  have hne : ∀ j, j ≠ i → (listed.setIfInBounds i true).getD j true = listed.getD j true := fun j h => by rw [Array.getD_eq_getD_getElem?, Array.getD_eq_getD_getElem?, Array.getElem?_setIfInBounds_ne (Ne.symm h)]
  have hi2 : (listed.setIfInBounds i true).getD i true = true := by
    have : i < listed.size := by omega
    simp [Array.getD, this]
  have hle : ∀ r : List Nat, r.countP (fun j => !(listed.setIfInBounds i true).getD j true) ≤ r.countP fun j => !listed.getD j true := by
    intro r
    induction r with
    | nil => simp
    | cons x r ih =>
      rw [List.countP_cons, List.countP_cons]
      by_cases h : x = i
      · subst h; rw [hi2, hl]; simp only [Bool.not_true, Bool.not_false, if_true, Bool.false_eq_true, if_false]; omega
      · rw [hne x h]; omega
  induction r with
  | nil => intro h; simp at h
  | cons x r ih =>
    intro hm
    rw [List.countP_cons, List.countP_cons]
    by_cases h : x = i
    · subst h
      have := hle r
      rw [hi2, hl]; simp only [Bool.not_true, Bool.not_false, if_true, Bool.false_eq_true, if_false]; omega
    · have := ih ((List.mem_cons.1 hm).resolve_left (fun e => h e.symm))
      rw [hne x h]; omega

theorem wpAny_inv (hac : Acyc md ops) (hst : ∀ i o, ops[i]? = some o → StepI P md ops Q J i o) (hend : ∀ listed a w, J listed a w → (∀ j, j < ops.size → listed.getD j false = true) → Q .normal a w) :
    ∀ (fuel : Nat) (listed : Array Bool) (a : Act) (w : World), listed.size = ops.size → J listed a w → unl ops listed ≤ fuel → wpAny P md ops Q fuel listed a w := by
  intro fuel
  induction fuel with
  | zero =>
    intro listed a w hsz hJ hu
    have hr : Region.ready md ops listed = [] := by
      rw [List.eq_nil_iff_forall_not_mem]
      intro i hi
      obtain ⟨h1, o, h2, _⟩ := mem_ready.1 hi
      have := unl_set (ops := ops) (Array.getElem?_eq_some_iff.1 h2).1 hsz h1
      omega
    exact ⟨hr, hend _ _ _ hJ (none_ready hac hsz hr)⟩
  | succ fuel ih =>
    intro listed a w hsz hJ hu
    refine ⟨fun hr => hend _ _ _ hJ (none_ready hac hsz hr), fun i hi => ?_⟩
    obtain ⟨h1, o, h2, h3⟩ := mem_ready.1 hi
    have hlt := unl_set (ops := ops) (Array.getElem?_eq_some_iff.1 h2).1 hsz h1
    have hs := hst i o h2 listed a w hJ h1 h3 (wpAny P md ops Q fuel (listed.setIfInBounds i true)) (fun a' w' hJ' => ih _ a' w' (by simpa using hsz) hJ' (by omega))
    unfold wpOp
    simp only [h2]
    split
    · rename_i hw
      rw [if_pos hw] at hs
      exact .inl hs
    · rename_i hw
      rw [if_neg hw] at hs
      exact hs

/-- THE LAW. -/
theorem wp_region_inv {id : Nat} {Q : Exit → Act → World → Prop} {a : Act} {w : World} {l : List Oper} (J : Array Bool → Act → World → Prop) (hm : P.follows .mixedOrders = true) (hac : acycB .any 0 l = true)
    (h0 : J (Array.replicate l.toArray.size false) a { w with drawn := w.drawn + 1 })
    (hst : StepsI P .any l.toArray (NoPanic Q) J 0 l)
    (hend : ∀ listed a w, J listed a w → (∀ j, j < l.length → listed.getD j false = true) → Q .normal a w) : (Code.region id l.toArray true).wp P Q a w := by
  refine wp_region_noPanic (wp_region_any hm ?_)
  refine wpAny_inv (J := J) (acyc_of hac) (fun i o ho => ?_) (fun listed a w hJ hall => NoPanic.normal (hend listed a w hJ (fun j hj => hall j (by simpa using hj)))) _ _ _ _ (by simp) h0 ?_
  · have := hst.get i o (by simpa using ho)
    rwa [Nat.zero_add] at this
  · unfold unl
    exact Nat.le_trans List.countP_le_length (by simp)

/-- A frame that is another one but for the slots D. -/
structure Off (D : List Nat) (a0 a : Act) : Prop where
  defers : a.defers = a0.defers
  size : a.tmps.size = a0.tmps.size
  slot : ∀ d, d ∉ D → a.tmps.getD d undef = a0.tmps.getD d undef
theorem Off.refl (D : List Nat) (a : Act) : Off D a a := ⟨rfl, rfl, fun _ _ => rfl⟩
theorem vget_ne (t : Array Value) {d e : Nat} (v : Value) (h : d ≠ e) : (t.setIfInBounds e v).getD d undef = t.getD d undef := by
  rw [Array.getD_eq_getD_getElem?, Array.getD_eq_getD_getElem?, Array.getElem?_setIfInBounds_ne (Ne.symm h)]
theorem vget_at (t : Array Value) {d : Nat} (v : Value) (h : d < t.size) : (t.setIfInBounds d v).getD d undef = v := by
  rw [Array.getD_eq_getD_getElem?, Array.getElem?_setIfInBounds_self_of_lt h]; rfl
theorem vget_in (t : Array Value) {d : Nat} (h : d < t.size) : t.getD d undef = t[d] := by
  rw [Array.getD_eq_getD_getElem?, Array.getElem?_eq_getElem h]; rfl
theorem getD_put (t : Array Value) (d e : Nat) (v : Value) (he : e < t.size) : (t.setIfInBounds e v).getD d undef = if d = e then v else t.getD d undef := by
  by_cases h : d = e
  · subst h; rw [if_pos rfl, vget_at _ _ he]
  · rw [if_neg h]; exact vget_ne t v h
theorem Off.put {D : List Nat} {a0 a : Act} (h : Off D a0 a) {d : Nat} (hd : d ∈ D) (v : Value) : Off D a0 (a.put (some d) v) := by
  refine ⟨h.defers, by simp only [Act.put]; rw [Array.size_setIfInBounds]; exact h.size, fun e he => ?_⟩
  simp only [Act.put]
  rw [vget_ne _ _ (fun e' => he (by rw [e']; exact hd))]
  exact h.slot e he
/-- What stands in the slots, laid into the elder frame. -/
def putL (a0 : Act) (f : Nat → Value) : List Nat → Act
  | [] => a0
  | d :: D => (putL a0 f D).put (some d) (f d)
theorem putL_spec (a0 : Act) (f : Nat → Value) : ∀ D : List Nat, (putL a0 f D).defers = a0.defers ∧ (putL a0 f D).tmps.size = a0.tmps.size ∧ ∀ d, d < a0.tmps.size → (putL a0 f D).tmps.getD d undef = if d ∈ D then f d else a0.tmps.getD d undef
  | [] => ⟨rfl, rfl, fun d _ => by simp [putL]⟩
  | e :: D => by
    obtain ⟨h1, h2, h3⟩ := putL_spec a0 f D
    refine ⟨h1, by simp only [putL, Act.put]; rw [Array.size_setIfInBounds]; exact h2, fun d hd => ?_⟩
    simp only [putL, Act.put]
    by_cases h : d = e
    · subst h
      rw [getD_put _ _ _ _ (by omega), if_pos rfl, if_pos List.mem_cons_self]
    · rw [vget_ne _ _ h, h3 d hd]
      by_cases hm : d ∈ D
      · rw [if_pos hm, if_pos (List.mem_cons_of_mem _ hm)]
      · rw [if_neg hm, if_neg (fun hh => (List.mem_cons.1 hh).elim h hm)]
theorem Off.eq {D : List Nat} {a0 a : Act} (h : Off D a0 a) : a = putL a0 (fun d => a.tmps.getD d undef) D := by
  obtain ⟨h1, h2, h3⟩ := putL_spec a0 (fun d => a.tmps.getD d undef) D
  have ht : a.tmps = (putL a0 (fun d => a.tmps.getD d undef) D).tmps := by
    apply Array.ext (by rw [h.size, h2])
    intro i hi1 hi2
    have e1 : a.tmps.getD i undef = a.tmps[i] := vget_in _ hi1
    have e2 := h3 i (by rw [← h.size]; exact hi1)
    rw [show (putL a0 (fun d => a.tmps.getD d undef) D).tmps.getD i undef = (putL a0 (fun d => a.tmps.getD d undef) D).tmps[i] from vget_in _ hi2] at e2
    rw [e2, ← e1]
    by_cases hm : i ∈ D
    · rw [if_pos hm]
    · rw [if_neg hm]; exact h.slot i hm
  have hd : a.defers = (putL a0 (fun d => a.tmps.getD d undef) D).defers := h.defers.trans h1.symm
  cases a
  generalize putL a0 _ D = b at *
  cases b
  simp only at ht hd
  rw [ht, hd]

def upd {α : Type} (f : Nat → α) (d : Nat) (v : α) : Nat → α := fun e => if e = d then v else f e
/-- The slots of a frame; what has come up. -/
def slots (a : Act) : Nat → Value := fun d => a.tmps.getD d undef
def ups (l : Array Bool) : Nat → Bool := fun j => l.getD j false
theorem slots_put (a : Act) (d : Nat) (v : Value) (h : d < a.tmps.size) : slots (a.put (some d) v) = upd (slots a) d v := by
  funext e
  unfold slots upd
  simp only [Act.put]
  rw [getD_put _ _ _ _ h]
theorem ups_set (l : Array Bool) (i : Nat) (h : i < l.size) : ups (l.setIfInBounds i true) = upd (ups l) i true := by
  funext j
  unfold ups upd
  by_cases e : j = i
  · subst e; rw [if_pos rfl]; simp [Array.getD, h]
  · rw [if_neg e]
    change _ = l.getD j false
    rw [Array.getD_eq_getD_getElem?, Array.getD_eq_getD_getElem?, Array.getElem?_setIfInBounds_ne (Ne.symm e)]
theorem ups_none (n : Nat) : ups (Array.replicate n false) = fun _ => false := by
  funext j
  unfold ups
  rw [Array.getD_eq_getD_getElem?, Array.getElem?_replicate]
  split <;> rfl
theorem lt_of_unl {l : Array Bool} {i : Nat} (h : l.getD i true = false) : i < l.size := by
  rcases Nat.lt_or_ge i l.size with h1 | h1
  · exact h1
  · rw [Array.getD_eq_getD_getElem?, Array.getElem?_eq_none h1] at h
    cases h
theorem ups_unl {l : Array Bool} {i : Nat} (h : l.getD i true = false) : ups l i = false := by
  have h1 := lt_of_unl h
  unfold ups
  rw [Array.getD_eq_getD_getElem?, Array.getElem?_eq_getElem h1] at h ⊢
  exact h

/-- Operation number i keeps what is told of the slots, of what has come up and of the world. -/
def StepO (P : Program) (Q : Exit → Act → World → Prop) (D : List Nat) (a0 : Act) (I : (Nat → Value) → (Nat → Bool) → World → Prop) (i : Nat) (o : Oper) : Prop :=
  ∀ (a : Act) (W : World) (L : Nat → Bool) (K : Act → World → Prop), Off D a0 a → I (slots a) L W → L i = false → (∀ e ∈ o.after, Region.binds .any e = true → L e.on = true) →
    (∀ a' W', Off D a0 a' → I (slots a') (upd L i true) W' → K a' W') → Oper.wp P o a W K Q
def StepsO (P : Program) (Q : Exit → Act → World → Prop) (D : List Nat) (a0 : Act) (I : (Nat → Value) → (Nat → Bool) → World → Prop) : Nat → List Oper → Prop
  | _, [] => True
  | i, o :: r => StepO P Q D a0 I i o ∧ StepsO P Q D a0 I (i + 1) r
theorem StepsO.to {D : List Nat} {a0 : Act} {I : (Nat → Value) → (Nat → Bool) → World → Prop} : ∀ {l : List Oper} {i : Nat}, l.all (fun o => o.guard.isNone) = true → StepsO P Q D a0 I i l → StepsI P .any ops Q (fun listed a w => Off D a0 a ∧ I (slots a) (ups listed) w) i l
  | [], _, _, _ => trivial
  | o :: r, i, hg, h => by
    rw [List.all_cons, Bool.and_eq_true] at hg
    refine ⟨?_, StepsO.to hg.2 h.2⟩
    intro listed a w hJ hl ha K' hK'
    have hw : Region.wanted o (yielded ops a.tmps) = true := by
      have h1 := hg.1
      unfold Region.wanted
      cases h2 : o.guard
      · rfl
      · rw [h2] at h1; cases h1
    rw [if_pos hw]
    exact h.1 a w (ups listed) K' hJ.1 hJ.2 (ups_unl hl) ha (fun a' W' h1 h2 => hK' a' W' ⟨h1, by rw [ups_set _ _ (lt_of_unl hl)]; exact h2⟩)
theorem Off.next {D : List Nat} {a0 a : Act} {I : (Nat → Value) → (Nat → Bool) → World → Prop} {L' : Nat → Bool} {K : Act → World → Prop} (hK : ∀ a' W', Off D a0 a' → I (slots a') L' W' → K a' W') (ho : Off D a0 a) {d : Nat} (hd : d ∈ D) (hs : d < a0.tmps.size) {v : Value} {W' : World} (hi : I (upd (slots a) d v) L' W') : K (a.put (some d) v) W' :=
  hK _ _ (ho.put hd v) (by rw [slots_put _ _ _ (by rw [ho.size]; exact hs)]; exact hi)
/-- THE LAW, by slots. -/
theorem wp_region_off {id : Nat} {Q : Exit → Act → World → Prop} {a0 : Act} {w : World} {l : List Oper} (D : List Nat) (I : (Nat → Value) → (Nat → Bool) → World → Prop) (hm : P.follows .mixedOrders = true) (hac : acycB .any 0 l = true) (hg : l.all (fun o => o.guard.isNone) = true)
    (h0 : I (slots a0) (fun _ => false) w.drew) (hst : StepsO P (NoPanic Q) D a0 I 0 l)
    (hend : ∀ a W L, Off D a0 a → I (slots a) L W → (∀ j, j < l.length → L j = true) → Q .normal a W) : (Code.region id l.toArray true).wp P Q a0 w :=
  wp_region_inv (fun listed a w => Off D a0 a ∧ I (slots a) (ups listed) w) hm hac ⟨Off.refl _ _, by rw [ups_none]; exact h0⟩ (hst.to hg) (fun listed a w hJ h => hend a w (ups listed) hJ.1 hJ.2 h)
end
end Go.Proofs.Ytnfoneeplkjhbaa

/-
  What stands between two operations of the reference's Split, at its quotient and rest, whichever came up.
-/
namespace Go.Proofs.Ytnfoneeplkjhbaa
open Go.RowKit

def D16 : List Nat := [13, 14, 53, 54, 55, 56, 57, 58, 59, 60, 61, 62, 63, 64, 65]

/-- What is in a struct that has been made: nothing yet, or the Big that was stored. -/
def InBox (W : World) (p : Value) (stored : Bool) (v : Value) (lo : Nat) : Prop :=
  ∃ b, p = .pointer (some ⟨b, 0, none⟩) ∧ lo ≤ b ∧ (stored = false → Box2 W b (.bool false) (.slice none 0 0)) ∧ (stored = true → ∃ ng A n c, v = .agg #[.bool ng, .slice A n c] ∧ Box2 W b (.bool ng) (.slice A n c))
theorem InBox.below {W W' : World} {p : Value} {st : Bool} {v : Value} {lo : Nat} (h : InBox W p st v lo) (hb : Below W.heap.size W W') : InBox W' p st v lo := by
  obtain ⟨b, e, h1, h2, h3⟩ := h
  refine ⟨b, e, h1, fun hs => (h2 hs).below hb, fun hs => ?_⟩
  obtain ⟨ng, A, n, c, e1, h4⟩ := h3 hs
  exact ⟨ng, A, n, c, e1, h4.below hb⟩
theorem InBox.lt {W : World} {b : Nat} {st : Bool} {v : Value} {lo : Nat} (h : InBox W (.pointer (some ⟨b, 0, none⟩)) st v lo) : b < W.heap.size := by
  obtain ⟨b', e, _, h2, h3⟩ := h
  injection e with e; injection e with e; injection e with e
  subst e
  cases st
  · exact (h2 rfl).lt
  · obtain ⟨_, _, _, _, _, h4⟩ := h3 rfl
    exact h4.lt

structure I16 (wr : World) (t x s : Int) (sl : Value) (lb lo k : Nat) (ng : Bool) (A1 : Option Addr) (n1 k1 : Nat) (V : Nat → Value) (L : Nat → Bool) (W : World) : Prop where
  old : Below wr.heap.size wr W
  f0 : L 0 = true → V 54 = .int .i64 t
  f1 : L 1 = true → BigV W (V 55) t 2
  f2 : L 2 = true → V 56 = sl
  f3 : L 3 = true → V 57 = .int .i64 k
  f4 : L 4 = true → V 58 = .pointer (some ⟨lb, lo + k, none⟩)
  f5 : L 5 = true → V 59 = .int .i64 x
  f6 : L 6 = true → BigV W (V 60) x 2
  f7 : L 7 = true → BigV W (V 61) (t * x) 5
  f8 : L 8 = true → V 62 = .agg #[.bool ng, .slice A1 n1 k1]
  f9 : L 9 = true → ∃ q r, V 63 = .tuple #[q, r] ∧ BigV W q (t * x / s) 1354 ∧ BigV W r (t * x % s) 1354
  f10 : L 10 = true → L 9 = true ∧ V 53 = V 63
  f11 : L 11 = true → BigV W (V 64) (t * x / s) 1354
  f12 : L 12 = true → BigV W (V 65) (t * x % s) 1354
  f13 : L 13 = true → InBox W (V 13) (L 15) (V 64) wr.heap.size
  f14 : L 14 = true → InBox W (V 14) (L 16) (V 65) wr.heap.size
  ne : L 13 = true → L 14 = true → V 13 ≠ V 14
  a15 : L 15 = true → L 11 = true ∧ L 13 = true
  a16 : L 16 = true → L 12 = true ∧ L 14 = true
section
variable {wr : World} {t x s : Int} {sl : Value} {lb lo k : Nat} {ng : Bool} {A1 : Option Addr} {n1 k1 : Nat} {V : Nat → Value} {L : Nat → Bool} {W W' : World}
theorem I16.grow (h : I16 wr t x s sl lb lo k ng A1 n1 k1 V L W) (hb : Below W.heap.size W W') : I16 wr t x s sl lb lo k ng A1 n1 k1 V L W' :=
  ⟨grew h.old hb, h.f0, fun e => (h.f1 e).below hb, h.f2, h.f3, h.f4, h.f5, fun e => (h.f6 e).below hb, fun e => (h.f7 e).below hb, h.f8, fun e => by
    obtain ⟨q, r, e1, h1, h2⟩ := h.f9 e
    exact ⟨q, r, e1, h1.below hb, h2.below hb⟩, h.f10, fun e => (h.f11 e).below hb, fun e => (h.f12 e).below hb, fun e => (h.f13 e).below hb, fun e => (h.f14 e).below hb, h.ne, h.a15, h.a16⟩
theorem I16.start : I16 wr t x s sl lb lo k ng A1 n1 k1 V (fun _ => false) wr.drew := by
  constructor
  · exact (Below.refl _ _).drew
  all_goals (intro h; cases h)
variable (h : I16 wr t x s sl lb lo k ng A1 n1 k1 V L W)
include h
theorem I16.s0 : I16 wr t x s sl lb lo k ng A1 n1 k1 (upd V 54 (.int .i64 t)) (upd L 0 true) W :=
  ⟨h.old, fun _ => rfl, h.f1, h.f2, h.f3, h.f4, h.f5, h.f6, h.f7, h.f8, h.f9, h.f10, h.f11, h.f12, h.f13, h.f14, h.ne, h.a15, h.a16⟩
theorem I16.s1 {v : Value} (hv : BigV W v t 2) : I16 wr t x s sl lb lo k ng A1 n1 k1 (upd V 55 v) (upd L 1 true) W :=
  ⟨h.old, h.f0, fun _ => hv, h.f2, h.f3, h.f4, h.f5, h.f6, h.f7, h.f8, h.f9, h.f10, h.f11, h.f12, h.f13, h.f14, h.ne, h.a15, h.a16⟩
theorem I16.s2 : I16 wr t x s sl lb lo k ng A1 n1 k1 (upd V 56 sl) (upd L 2 true) W :=
  ⟨h.old, h.f0, h.f1, fun _ => rfl, h.f3, h.f4, h.f5, h.f6, h.f7, h.f8, h.f9, h.f10, h.f11, h.f12, h.f13, h.f14, h.ne, h.a15, h.a16⟩
theorem I16.s3 : I16 wr t x s sl lb lo k ng A1 n1 k1 (upd V 57 (.int .i64 k)) (upd L 3 true) W :=
  ⟨h.old, h.f0, h.f1, h.f2, fun _ => rfl, h.f4, h.f5, h.f6, h.f7, h.f8, h.f9, h.f10, h.f11, h.f12, h.f13, h.f14, h.ne, h.a15, h.a16⟩
theorem I16.s4 : I16 wr t x s sl lb lo k ng A1 n1 k1 (upd V 58 (.pointer (some ⟨lb, lo + k, none⟩))) (upd L 4 true) W :=
  ⟨h.old, h.f0, h.f1, h.f2, h.f3, fun _ => rfl, h.f5, h.f6, h.f7, h.f8, h.f9, h.f10, h.f11, h.f12, h.f13, h.f14, h.ne, h.a15, h.a16⟩
theorem I16.s5 : I16 wr t x s sl lb lo k ng A1 n1 k1 (upd V 59 (.int .i64 x)) (upd L 5 true) W :=
  ⟨h.old, h.f0, h.f1, h.f2, h.f3, h.f4, fun _ => rfl, h.f6, h.f7, h.f8, h.f9, h.f10, h.f11, h.f12, h.f13, h.f14, h.ne, h.a15, h.a16⟩
theorem I16.s6 {v : Value} (hv : BigV W v x 2) : I16 wr t x s sl lb lo k ng A1 n1 k1 (upd V 60 v) (upd L 6 true) W :=
  ⟨h.old, h.f0, h.f1, h.f2, h.f3, h.f4, h.f5, fun _ => hv, h.f7, h.f8, h.f9, h.f10, h.f11, h.f12, h.f13, h.f14, h.ne, h.a15, h.a16⟩
theorem I16.s7 {v : Value} (hv : BigV W v (t * x) 5) : I16 wr t x s sl lb lo k ng A1 n1 k1 (upd V 61 v) (upd L 7 true) W :=
  ⟨h.old, h.f0, h.f1, h.f2, h.f3, h.f4, h.f5, h.f6, fun _ => hv, h.f8, h.f9, h.f10, h.f11, h.f12, h.f13, h.f14, h.ne, h.a15, h.a16⟩
theorem I16.s8 : I16 wr t x s sl lb lo k ng A1 n1 k1 (upd V 62 (.agg #[.bool ng, .slice A1 n1 k1])) (upd L 8 true) W :=
  ⟨h.old, h.f0, h.f1, h.f2, h.f3, h.f4, h.f5, h.f6, h.f7, fun _ => rfl, h.f9, h.f10, h.f11, h.f12, h.f13, h.f14, h.ne, h.a15, h.a16⟩
theorem I16.s9 (hn : L 9 = false) {q r : Value} (h1 : BigV W q (t * x / s) 1354) (h2 : BigV W r (t * x % s) 1354) : I16 wr t x s sl lb lo k ng A1 n1 k1 (upd V 63 (.tuple #[q, r])) (upd L 9 true) W :=
  ⟨h.old, h.f0, h.f1, h.f2, h.f3, h.f4, h.f5, h.f6, h.f7, h.f8, fun _ => ⟨q, r, rfl, h1, h2⟩, (fun e => by have := (h.f10 e).1; rw [hn] at this; cases this), h.f11, h.f12, h.f13, h.f14, h.ne, h.a15, h.a16⟩
theorem I16.s10 (h9 : L 9 = true) : I16 wr t x s sl lb lo k ng A1 n1 k1 (upd V 53 (V 63)) (upd L 10 true) W :=
  ⟨h.old, h.f0, h.f1, h.f2, h.f3, h.f4, h.f5, h.f6, h.f7, h.f8, h.f9, fun _ => ⟨h9, rfl⟩, h.f11, h.f12, h.f13, h.f14, h.ne, h.a15, h.a16⟩
theorem I16.n15 (hn : L 11 = false) : L 15 = false := by
  cases e : L 15
  · rfl
  · have := (h.a15 e).1; rw [hn] at this; cases this
theorem I16.n15' (hn : L 13 = false) : L 15 = false := by
  cases e : L 15
  · rfl
  · have := (h.a15 e).2; rw [hn] at this; cases this
theorem I16.n16 (hn : L 12 = false) : L 16 = false := by
  cases e : L 16
  · rfl
  · have := (h.a16 e).1; rw [hn] at this; cases this
theorem I16.n16' (hn : L 14 = false) : L 16 = false := by
  cases e : L 16
  · rfl
  · have := (h.a16 e).2; rw [hn] at this; cases this
theorem I16.s11 (hn : L 15 = false) {v : Value} (hv : BigV W v (t * x / s) 1354) : I16 wr t x s sl lb lo k ng A1 n1 k1 (upd V 64 v) (upd L 11 true) W :=
  ⟨h.old, h.f0, h.f1, h.f2, h.f3, h.f4, h.f5, h.f6, h.f7, h.f8, h.f9, h.f10, fun _ => hv, h.f12, (fun e => by
    have h1 := h.f13 e
    rw [hn] at h1
    obtain ⟨b, e1, e2, e3, _⟩ := h1
    have hn' : upd L 11 true 15 = false := hn
    rw [hn']
    exact ⟨b, e1, e2, e3, (fun hh => by cases hh)⟩), h.f14, h.ne, (fun e => by have e' : L 15 = true := e; rw [hn] at e'; cases e'), h.a16⟩
theorem I16.s12 (hn : L 16 = false) {v : Value} (hv : BigV W v (t * x % s) 1354) : I16 wr t x s sl lb lo k ng A1 n1 k1 (upd V 65 v) (upd L 12 true) W :=
  ⟨h.old, h.f0, h.f1, h.f2, h.f3, h.f4, h.f5, h.f6, h.f7, h.f8, h.f9, h.f10, h.f11, fun _ => hv, h.f13, (fun e => by
    have h1 := h.f14 e
    rw [hn] at h1
    obtain ⟨b, e1, e2, e3, _⟩ := h1
    have hn' : upd L 12 true 16 = false := hn
    rw [hn']
    exact ⟨b, e1, e2, e3, (fun hh => by cases hh)⟩), h.ne, h.a15, (fun e => by have e' : L 16 = true := e; rw [hn] at e'; cases e')⟩
theorem I16.s13 (hn : L 15 = false) (ty : TypeId) : I16 wr t x s sl lb lo k ng A1 n1 k1 (upd V 13 (.pointer (some ⟨W.heap.size, 0, none⟩))) (upd L 13 true) (W.alloc (.cells #[.bool false, .slice none 0 0] ty)) := by
  have g := h.grow (W' := W.alloc (.cells #[.bool false, .slice none 0 0] ty)) ((Below.refl _ _).alloc (Nat.le_refl _) _)
  refine ⟨g.old, g.f0, g.f1, g.f2, g.f3, g.f4, g.f5, g.f6, g.f7, g.f8, g.f9, g.f10, g.f11, g.f12, fun _ => ⟨_, rfl, h.old.size, fun _ => Box2.new W _ _ ty _ rfl, (fun e => by have e' : L 15 = true := e; rw [hn] at e'; cases e')⟩, g.f14, fun _ e14 => ?_, fun e => ⟨(g.a15 e).1, rfl⟩, g.a16⟩
  have e14' : L 14 = true := e14
  obtain ⟨b, e1, _⟩ := h.f14 e14'
  intro hh
  have hh' : Value.pointer (some ⟨W.heap.size, 0, none⟩) = V 14 := hh
  have hl := (h.f14 e14')
  rw [← hh'] at hl
  exact Nat.lt_irrefl _ hl.lt
theorem I16.s14 (hn : L 16 = false) (ty : TypeId) : I16 wr t x s sl lb lo k ng A1 n1 k1 (upd V 14 (.pointer (some ⟨W.heap.size, 0, none⟩))) (upd L 14 true) (W.alloc (.cells #[.bool false, .slice none 0 0] ty)) := by
  have g := h.grow (W' := W.alloc (.cells #[.bool false, .slice none 0 0] ty)) ((Below.refl _ _).alloc (Nat.le_refl _) _)
  refine ⟨g.old, g.f0, g.f1, g.f2, g.f3, g.f4, g.f5, g.f6, g.f7, g.f8, g.f9, g.f10, g.f11, g.f12, g.f13, fun _ => ⟨_, rfl, h.old.size, fun _ => Box2.new W _ _ ty _ rfl, (fun e => by have e' : L 16 = true := e; rw [hn] at e'; cases e')⟩, fun e13 _ => ?_, g.a15, fun e => ⟨(g.a16 e).1, rfl⟩⟩
  have e13' : L 13 = true := e13
  intro hh
  have hh' : V 13 = Value.pointer (some ⟨W.heap.size, 0, none⟩) := hh
  have hl := (h.f13 e13')
  rw [hh'] at hl
  exact Nat.lt_irrefl _ hl.lt
theorem I16.s15 (h13 : L 13 = true) (h11 : L 11 = true) (hn : L 15 = false) {b : Nat} (e13 : V 13 = .pointer (some ⟨b, 0, none⟩)) {nq : Bool} {Q : Option Addr} {lq cq : Nat} (e64 : V 64 = .agg #[.bool nq, .slice Q lq cq]) :
    I16 wr t x s sl lb lo k ng A1 n1 k1 V (upd L 15 true) ((W.setCell ⟨b, 0, none⟩ (.bool nq)).setCell ⟨b, 1, none⟩ (.slice Q lq cq)) := by
  obtain ⟨b', e1, e2, e3, _⟩ := h.f13 h13
  rw [e13] at e1
  injection e1 with e1; injection e1 with e1; injection e1 with e1
  subst e1
  have hb := e3 hn
  refine ⟨below_in h.old e2 _ _, h.f0, fun e => big_in (h.f1 e) hb _ _, h.f2, h.f3, h.f4, h.f5, fun e => big_in (h.f6 e) hb _ _, fun e => big_in (h.f7 e) hb _ _, h.f8, fun e => ?_, h.f10, fun e => big_in (h.f11 e) hb _ _, fun e => big_in (h.f12 e) hb _ _, fun _ => ⟨b, e13, e2, (fun hh => by cases hh), fun _ => ⟨nq, Q, lq, cq, e64, hb.set _ _⟩⟩, fun e => ?_, h.ne, fun _ => ⟨h11, h13⟩, h.a16⟩
  · obtain ⟨q, r, e1, h1, h2⟩ := h.f9 e
    exact ⟨q, r, e1, big_in h1 hb _ _, big_in h2 hb _ _⟩
  · have e' : L 14 = true := e
    have hne := h.ne h13 e'
    obtain ⟨b2, m1, m2, m3, m4⟩ := h.f14 e'
    have hb2 : b ≠ b2 := fun e => hne (by rw [e13, m1, e])
    refine ⟨b2, m1, m2, fun hh => ((m3 hh).other hb2 _ _).other hb2 _ _, fun hh => ?_⟩
    obtain ⟨ng, A, n, c, y1, y2⟩ := m4 hh
    exact ⟨ng, A, n, c, y1, (y2.other hb2 _ _).other hb2 _ _⟩
theorem I16.s16 (h14 : L 14 = true) (h12 : L 12 = true) (hn : L 16 = false) {b : Nat} (e14 : V 14 = .pointer (some ⟨b, 0, none⟩)) {nq : Bool} {Q : Option Addr} {lq cq : Nat} (e65 : V 65 = .agg #[.bool nq, .slice Q lq cq]) :
    I16 wr t x s sl lb lo k ng A1 n1 k1 V (upd L 16 true) ((W.setCell ⟨b, 0, none⟩ (.bool nq)).setCell ⟨b, 1, none⟩ (.slice Q lq cq)) := by
  obtain ⟨b', e1, e2, e3, _⟩ := h.f14 h14
  rw [e14] at e1
  injection e1 with e1; injection e1 with e1; injection e1 with e1
  subst e1
  have hb := e3 hn
  refine ⟨below_in h.old e2 _ _, h.f0, fun e => big_in (h.f1 e) hb _ _, h.f2, h.f3, h.f4, h.f5, fun e => big_in (h.f6 e) hb _ _, fun e => big_in (h.f7 e) hb _ _, h.f8, fun e => ?_, h.f10, fun e => big_in (h.f11 e) hb _ _, fun e => big_in (h.f12 e) hb _ _, fun e => ?_, fun _ => ⟨b, e14, e2, (fun hh => by cases hh), fun _ => ⟨nq, Q, lq, cq, e65, hb.set _ _⟩⟩, h.ne, h.a15, fun _ => ⟨h12, h14⟩⟩
  · obtain ⟨q, r, e1, h1, h2⟩ := h.f9 e
    exact ⟨q, r, e1, big_in h1 hb _ _, big_in h2 hb _ _⟩
  · have e' : L 13 = true := e
    have hne := h.ne e' h14
    obtain ⟨b2, m1, m2, m3, m4⟩ := h.f13 e'
    have hb2 : b ≠ b2 := fun e => hne (by rw [e14, m1, e])
    refine ⟨b2, m1, m2, fun hh => ((m3 hh).other hb2 _ _).other hb2 _ _, fun hh => ?_⟩
    obtain ⟨ng, A, n, c, y1, y2⟩ := m4 hh
    exact ⟨ng, A, n, c, y1, (y2.other hb2 _ _).other hb2 _ _⟩
theorem I16.done (hL : ∀ j, j < 17 → L j = true) : ∃ (b1 b2 : Nat) (nq : Bool) (Q : Option Addr) (lq cq : Nat) (nr : Bool) (R : Option Addr) (lr cr : Nat), V 13 = .pointer (some ⟨b1, 0, none⟩) ∧ V 14 = .pointer (some ⟨b2, 0, none⟩) ∧ QR wr b1 b2 nq Q lq cq nr R lr cr (t * x / s) (t * x % s) 1354 W := by
  obtain ⟨b1, e1, l1, _, m1⟩ := h.f13 (hL 13 (by omega))
  obtain ⟨b2, e2, l2, _, m2⟩ := h.f14 (hL 14 (by omega))
  obtain ⟨nq, Q, lq, cq, y1, z1⟩ := m1 (hL 15 (by omega))
  obtain ⟨nr, R, lr, cr, y2, z2⟩ := m2 (hL 16 (by omega))
  have g1 := h.f11 (hL 11 (by omega))
  have g2 := h.f12 (hL 12 (by omega))
  rw [y1] at g1
  rw [y2] at g2
  exact ⟨b1, b2, nq, Q, lq, cq, nr, R, lr, cr, e1, e2, ⟨z1, g1, l1, h.old⟩, ⟨z2, g2, l2, h.old⟩, fun e => h.ne (hL 13 (by omega)) (hL 14 (by omega)) (by rw [e1, e2, e])⟩
end
end Go.Proofs.Ytnfoneeplkjhbaa
