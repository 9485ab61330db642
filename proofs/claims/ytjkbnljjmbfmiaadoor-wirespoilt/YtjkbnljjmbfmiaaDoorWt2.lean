/-
  Which event a line is: lines of right events are told apart. (No program is named here.)
-/
import Derived.Test.YtjkbnljjmbfmiaaDoorWt1
namespace Go.Proofs.YtjkbnljjmbfmiaaDoor
open Go Go.RowKit
set_option linter.unusedVariables false

theorem right_kinds {e : Ev} (h : rightE e = true) : 1 ≤ e.kind ∧ e.kind ≤ 22 := by
  unfold rightE at h
  rw [Bool.and_eq_true] at h
  exact of_decide_eq_true h.1
theorem right_bare {e : Ev} (h : rightE e = true) : bareOf e (fieldsOf e.kind) = e := by
  unfold rightE at h
  rw [Bool.and_eq_true, Bool.and_eq_true] at h
  exact of_decide_eq_true h.2.2
theorem right_inF {e : Ev} (h : rightE e = true) {f : Nat} (hf : f ∈ fieldsOf e.kind) : loF e.kind f ≤ e.val f ∧ e.val f ≤ hiF e.kind f := by
  unfold rightE at h
  rw [Bool.and_eq_true, Bool.and_eq_true, List.all_eq_true] at h
  have := h.2.1 f hf
  unfold inF at this
  rw [Bool.and_eq_true] at this
  exact ⟨of_decide_eq_true this.1, of_decide_eq_true this.2⟩
theorem right_side {e : Ev} (h : rightE e = true) (hf : 83 ∈ fieldsOf e.kind) : e.side = 1 ∨ e.side = 2 := by
  have h1 := right_inF h hf
  have h2 : loF e.kind 83 = 1 := rfl
  have h3 : hiF e.kind 83 = 2 := rfl
  have h4 : e.val 83 = e.side := rfl
  omega
theorem sideOf_inj {k a b : Int} (ha : a = 1 ∨ a = 2) (hb : b = 1 ∨ b = 2) (h : sideOf k a = sideOf k b) : a = b := by
  unfold sideOf at h
  rcases ha with rfl | rfl <;> rcases hb with rfl | rfl
  · rfl
  · by_cases hk : k = 2 <;> simp [hk] at h
  · by_cases hk : k = 2 <;> simp [hk] at h
  · rfl
theorem text_inj {x y : Ev} (hx : x.Ok) (hy : y.Ok) (rx : rightE x = true) (ry : rightE y = true) (h : textL x = textL y) : x = y := by
  have h1 := cut_text x
  rw [h, cut_text y] at h1
  injection h1 with h2 h3
  have hk := word_inj (right_kinds ry) (right_kinds rx) h2
  rw [hk] at h3
  have h4 : ∀ f ∈ fieldsOf x.kind, y.val f = x.val f := by
    intro f hf
    have h5 := List.map_inj_left.1 h3 f hf
    unfold fieldL at h5
    by_cases h83 : f = 83
    · subst h83
      rw [if_pos rfl, if_pos rfl, hk] at h5
      exact sideOf_inj (right_side ry (by rw [hk]; exact hf)) (right_side rx hf) h5
    · rw [if_neg h83, if_neg h83] at h5
      exact dec_inj (hy.val f) (hx.val f) h5
  rw [← right_bare rx, ← right_bare ry, hk]
  unfold bareOf
  rw [hk]
  have : ∀ (l : List Nat) (z : Ev), (∀ f ∈ l, y.val f = x.val f) → l.foldl (fun b f => b.with f (x.val f)) z = l.foldl (fun b f => b.with f (y.val f)) z := by
    intro l
    induction l with
    | nil => intro z _; rfl
    | cons f l ih =>
      intro z hl
      rw [List.foldl_cons, List.foldl_cons, hl f (List.mem_cons_self ..)]
      exact ih _ (fun g hg => hl g (List.mem_cons_of_mem _ hg))
  exact this _ _ h4
/-- What Parse answers of these bytes. -/
def Parsed (b : List Nat) (x : Ev) (c : Int) : Prop := (x.Ok ∧ rightE x = true ∧ textL x = b ∧ c = 0) ∨ (x = Ev.zero ∧ c = 1 ∧ ∀ y : Ev, y.Ok → rightE y = true → textL y ≠ b)
theorem parsed_one {b : List Nat} {x y : Ev} {c d : Int} (h1 : Parsed b x c) (h2 : Parsed b y d) : x = y ∧ c = d := by
  rcases h1 with ⟨o1, r1, t1, rfl⟩ | ⟨rfl, rfl, n1⟩ <;> rcases h2 with ⟨o2, r2, t2, rfl⟩ | ⟨rfl, rfl, n2⟩
  · exact ⟨text_inj o1 o2 r1 r2 (t1.trans t2.symm), rfl⟩
  · exact absurd t1 (n2 x o1 r1)
  · exact absurd t2 (n1 y o2 r2)
  · exact ⟨rfl, rfl⟩
/-- These words are the line of this right event. -/
structure IsLine (ws : List (List Nat)) (y : Ev) : Prop where
  ok : y.Ok
  right : rightE y = true
  words : ws = wordOf y.kind :: (fieldsOf y.kind).map (fieldL y)
theorem line_of {b : List Nat} {y : Ev} (ok : y.Ok) (h : rightE y = true) (ht : textL y = b) : IsLine (cutB b) y := ⟨ok, h, by rw [← ht, cut_text]⟩
theorem IsLine.field {ws : List (List Nat)} {y : Ev} (h : IsLine ws y) {k : Nat} (hk : k < (fieldsOf y.kind).length) : ws.getD (k + 1) [] = fieldL y ((fieldsOf y.kind).getD k 0) := by
  rw [h.words, List.getD_cons_succ, List.getD_eq_getElem?_getD, List.getElem?_map, List.getElem?_eq_getElem hk, List.getD_eq_getElem?_getD, List.getElem?_eq_getElem hk]
  rfl
theorem IsLine.count {ws : List (List Nat)} {y : Ev} (h : IsLine ws y) : ws.length = 1 + (fieldsOf y.kind).length := by
  rw [h.words, List.length_cons, List.length_map, Nat.add_comm]
theorem IsLine.first {ws : List (List Nat)} {y : Ev} (h : IsLine ws y) : ws.getD 0 [] = wordOf y.kind := by rw [h.words]; rfl
/-- What a word says of a field. -/
def ValIs (w : List Nat) (f : Nat) (x : Int) (ok : Bool) : Prop := I64 x ∧ ∀ y : Ev, y.Ok → (f = 83 → y.side = 1 ∨ y.side = 2) → w = fieldL y f → ok = true ∧ x = y.val f
/-- An event under way: after k fields. -/
def Half (ws : List (List Nat)) (K : Int) (k : Nat) (x : Ev) : Prop := x.Ok ∧ x.kind = K ∧ ∀ y, IsLine ws y → y.kind = K ∧ x = bareOf y ((fieldsOf K).take k)
theorem Half.more {ws : List (List Nat)} {K : Int} {k : Nat} {x : Ev} (h : Half ws K k x) (hk : k < (fieldsOf K).length) {n : Int} (hn : I64 n) (hv : ∀ y, IsLine ws y → n = y.val ((fieldsOf K).getD k 0)) : Half ws K (k + 1) (x.with ((fieldsOf K).getD k 0) n) := by
  obtain ⟨h1, h2, h3⟩ := h
  refine ⟨h1.with _ _ hn, by rw [kind_with, h2], fun y hy => ?_⟩
  obtain ⟨h4, h5⟩ := h3 y hy
  exact ⟨h4, by rw [bare_take y _ _ hk, ← h5, hv y hy]⟩
theorem Half.all {ws : List (List Nat)} {K : Int} {x : Ev} (h : Half ws K (fieldsOf K).length x) : ∀ y, IsLine ws y → x = y := by
  intro y hy
  obtain ⟨h4, h5⟩ := h.2.2 y hy
  rw [List.take_length] at h5
  rw [h5, ← h4]
  exact right_bare hy.right
theorem Half.val {ws : List (List Nat)} {K : Int} {k : Nat} {x : Ev} (h : Half ws K k x) (hk : k < (fieldsOf K).length) {n : Int} {ok : Bool} (hv : ValIs (ws.getD (k + 1) []) ((fieldsOf K).getD k 0) n ok) : ∀ y, IsLine ws y → ok = true ∧ n = y.val ((fieldsOf K).getD k 0) := by
  intro y hy
  obtain ⟨h4, _⟩ := h.2.2 y hy
  refine hv.2 y hy.ok (fun hf => right_side hy.right ?_) ?_
  · rw [h4, ← hf, List.getD_eq_getElem?_getD, List.getElem?_eq_getElem hk]; exact List.getElem_mem _
  · rw [← h4]; exact hy.field (by rw [h4]; exact hk)
end Go.Proofs.YtjkbnljjmbfmiaaDoor
