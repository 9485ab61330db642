/-
  Lists whose numbers rise: where a number stands, or would.
-/
import Derived.Test.YtjlhmiajklddiaaRo8
namespace Go.Proofs.Ytjlhmiajklddiaa
set_option maxRecDepth 8000
open Go Go.RowKit
set_option linter.unusedVariables false

section
variable {α : Type} (key : α → Int)
def plc (l : List α) (id : Int) : Nat := (l.takeWhile fun x => decide (key x < id)).length
def isAt (l : List α) (id : Int) : Bool := (l.find? fun x => key x == id).isSome
def Rise (l : List α) : Prop := ∀ i j (hj : j < l.length) (hij : i < j), key (l[i]'(by omega)) < key l[j]
variable {key} {l : List α} {id : Int}
theorem plc_le : plc key l id ≤ l.length := by
  induction l with
  | nil => simp [plc]
  | cons x l ih =>
    by_cases h : key x < id
    · simpa [plc, h] using ih
    · simp [plc, h]
theorem plc_lt : ∀ j (hj : j < plc key l id), key (l[j]'(Nat.lt_of_lt_of_le hj plc_le)) < id := by
  induction l with
  | nil => intro j hj; simp [plc] at hj
  | cons x l ih =>
    intro j hj
    by_cases h : key x < id
    · cases j with
      | zero => exact h
      | succ j => exact ih j (by simpa [plc, h] using hj)
    · simp [plc, h] at hj
theorem plc_nlt : ∀ h : plc key l id < l.length, ¬ key l[plc key l id] < id := by
  induction l with
  | nil => intro h; simp [plc] at h
  | cons x l ih =>
    intro h
    by_cases hx : key x < id
    · have e : plc key (x :: l) id = plc key l id + 1 := by simp [plc, hx]
      have h2 : plc key l id < l.length := by rw [e] at h; simpa using h
      have := ih h2
      simpa only [e, List.getElem_cons_succ] using this
    · have e : plc key (x :: l) id = 0 := by simp [plc, hx]
      simpa only [e, List.getElem_cons_zero] using hx
theorem Rise.ge (hr : Rise key l) : ∀ i (hi : i < l.length), plc key l id ≤ i → id ≤ key l[i] := by
  intro i hi hle
  have h1 := plc_nlt (key := key) (l := l) (id := id) (by omega)
  rcases Nat.lt_or_ge (plc key l id) i with h | h
  · have := hr _ i hi h
    omega
  · have e : i = plc key l id := by omega
    subst e
    omega
theorem Rise.gt (hr : Rise key l) : ∀ i (hi : i < l.length), plc key l id < i → id < key l[i] := by
  intro i hi hlt
  have h1 := plc_nlt (key := key) (l := l) (id := id) (by omega)
  have := hr _ i hi hlt
  omega
theorem plc_is {k : Nat} (hk : k ≤ l.length) (ha : ∀ j (hj : j < k), key (l[j]'(by omega)) < id) (hb : ∀ h : k < l.length, ¬ key l[k] < id) : plc key l id = k := by
  unfold plc
  rw [(part_at (l := l) (p := fun x => decide (key x < id)) hk (fun j hj => decide_eq_true (ha j hj)) (fun h => decide_eq_false (hb h))).1, List.length_take]
  omega
theorem isAt_of (hr : Rise key l) (h : plc key l id < l.length) (he : key l[plc key l id] = id) : l.find? (fun x => key x == id) = some l[plc key l id] :=
  find_some h (beq_iff_eq.2 he) (fun j hj => beq_eq_false_iff_ne.2 (by have := plc_lt (key := key) (l := l) (id := id) j hj; omega))
theorem isAt_not (hr : Rise key l) (h : ∀ h : plc key l id < l.length, key l[plc key l id] ≠ id) : l.find? (fun x => key x == id) = none :=
  find_none (fun j hj => beq_eq_false_iff_ne.2 (by
    rcases Nat.lt_trichotomy j (plc key l id) with h1 | h1 | h1
    · have := plc_lt (key := key) (l := l) (id := id) j h1
      omega
    · subst h1
      exact h hj
    · have := hr.gt (id := id) j hj h1
      omega))
theorem isAt_true (hr : Rise key l) (h : isAt key l id = true) : ∃ hp : plc key l id < l.length, key l[plc key l id] = id ∧ l.find? (fun x => key x == id) = some l[plc key l id] := by
  by_cases hp : plc key l id < l.length
  · by_cases he : key l[plc key l id] = id
    · exact ⟨hp, he, isAt_of hr hp he⟩
    · unfold isAt at h
      rw [isAt_not hr (fun _ => he)] at h
      cases h
  · unfold isAt at h
    rw [isAt_not hr (fun h' => absurd h' hp)] at h
    cases h
theorem isAt_false (h : isAt key l id = false) : l.find? (fun x => key x == id) = none := by
  unfold isAt at h
  cases hf : l.find? (fun x => key x == id) with
  | none => rfl
  | some x => rw [hf] at h; cases h
/-- What a search between two ends comes to. -/
theorem place_is (hr : Rise key l) {k : Nat} (hk : k ≤ l.length) (ha : ∀ j (hj : j < k), key (l[j]'(by omega)) < id) (hb : ∀ j (hj : j < l.length), k ≤ j → id ≤ key l[j]) : plc key l id = k ∧ isAt key l id = (if h : k < l.length then decide (key l[k] = id) else false) := by
  have e : plc key l id = k := plc_is hk ha (fun h => by have := hb k h (Nat.le_refl _); omega)
  refine ⟨e, ?_⟩
  subst e
  unfold isAt
  by_cases h : plc key l id < l.length
  · rw [dif_pos h]
    by_cases he : key l[plc key l id] = id
    · rw [isAt_of hr h he, decide_eq_true he]; rfl
    · rw [isAt_not hr (fun _ => he), decide_eq_false he]; rfl
  · rw [dif_neg h, isAt_not hr (fun h' => absurd h' h)]; rfl
/-- Only what has the number is turned. -/
theorem map_at (hr : Rise key l) (hp : plc key l id < l.length) (he : key l[plc key l id] = id) (f : α → α) : l.map (fun x => if (key x == id) = true then f x else x) = l.set (plc key l id) (f l[plc key l id]) := by
  refine List.ext_getElem (by simp) (fun i h1 h2 => ?_)
  rw [List.getElem_map, List.getElem_set]
  have hi : i < l.length := by simpa using h1
  by_cases h : plc key l id = i
  · subst h
    rw [if_pos rfl, if_pos (beq_iff_eq.2 he)]
  · rw [if_neg h]
    have hne : key l[i] ≠ id := by
      rcases Nat.lt_or_gt_of_ne h with h3 | h3
      · have := hr.gt (id := id) i hi h3
        omega
      · have := plc_lt (key := key) (l := l) (id := id) i h3
        omega
    rw [if_neg (by rw [beq_iff_eq]; exact hne)]
/-- Neighbours that rise. -/
theorem rise_of (h : ∀ i (hi : i + 1 < l.length), key (l[i]'(by omega)) < key l[i + 1]) : Rise key l := by
  intro i j hj hij
  obtain ⟨d, rfl⟩ : ∃ d, j = i + 1 + d := ⟨j - (i + 1), by omega⟩
  induction d with
  | zero => exact h i hj
  | succ d ih => exact Int.lt_trans (ih (by omega) (by omega)) (h (i + 1 + d) hj)
end
theorem rise_members {l : List SMember} (h : membersOk l = true) : Rise SMember.id l := by
  refine rise_of (fun i hi => ?_)
  have := allTo_at h (i := i + 1) hi
  unfold memAt at this
  rw [Nat.add_sub_cancel, SMember.at (x := SMember.zero) hi, SMember.at (x := SMember.zero) (show i < l.length by omega)] at this
  simp at this
  omega
theorem status_members {l : List SMember} (h : membersOk l = true) (i : Nat) (hi : i < l.length) : 1 ≤ (l.getD i SMember.zero).status ∧ (l.getD i SMember.zero).status ≤ 4 := by
  have := allTo_at h (i := i) hi
  unfold memAt at this
  generalize l.getD i SMember.zero = x at this ⊢
  simp at this
  omega
theorem memS_at {l : List SMember} {id : Int} (h : membersOk l = true) (hi : isAt SMember.id l id = true) : ∃ hp : plc SMember.id l id < l.length, (l.getD (plc SMember.id l id) SMember.zero).id = id ∧ memS l id = (l.getD (plc SMember.id l id) SMember.zero).status ∧ memS l id ≠ 0 := by
  obtain ⟨hp, he, hf⟩ := isAt_true (rise_members h) hi
  have hs := status_members h _ hp
  have e : memS l id = (l.getD (plc SMember.id l id) SMember.zero).status := by
    unfold memS
    rw [hf, SMember.at (x := SMember.zero) hp]
    rfl
  refine ⟨hp, by rw [SMember.at (x := SMember.zero) hp]; exact he, e, by omega⟩
theorem memS_no {l : List SMember} {id : Int} (hi : isAt SMember.id l id = false) : memS l id = 0 := by
  unfold memS
  rw [isAt_false hi]
  rfl
theorem insMem_eq (l : List SMember) (x : SMember) : insMem l x = l.take (plc SMember.id l x.id) ++ x :: l.drop (plc SMember.id l x.id) := by
  obtain ⟨h1, h2⟩ := part_at (l := l) (p := fun y => decide (y.id < x.id)) (k := plc SMember.id l x.id) plc_le (fun j hj => decide_eq_true (plc_lt j hj)) (fun h => decide_eq_false (plc_nlt h))
  unfold insMem
  rw [h1, h2]
theorem insAcc_eq (l : List SAcc) (x : SAcc) : insAcc l x = l.take (plc SAcc.id l x.id) ++ x :: l.drop (plc SAcc.id l x.id) := by
  obtain ⟨h1, h2⟩ := part_at (l := l) (p := fun y => decide (y.id < x.id)) (k := plc SAcc.id l x.id) plc_le (fun j hj => decide_eq_true (plc_lt j hj)) (fun h => decide_eq_false (plc_nlt h))
  unfold insAcc
  rw [h1, h2]
end Go.Proofs.Ytjlhmiajklddiaa
