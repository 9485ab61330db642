/-
  What is put is read, and nothing else is. (No program is named here.)
-/
import Derived.Test.YtincelegepafcaaEv5
import Derived.Test.YtincelegepafcaaEv8
namespace Go.Proofs.Ytincelegepafcaa
open Go Go.RowKit
set_option linter.unusedVariables false

/-- The letters of fields. -/
def letter (f : Nat) : Prop := f = 77 ∨ f = 65 ∨ f = 73 ∨ f = 83 ∨ f = 68 ∨ f = 81 ∨ f = 80
theorem fields_letters (k : Int) : ∀ f ∈ fieldsOf k, letter f := by
  unfold fieldsOf
  repeat' split
  all_goals (intro f hf; first | exact absurd hf List.not_mem_nil | (simp only [List.mem_cons, List.not_mem_nil, or_false] at hf; unfold letter; omega))
theorem fields_nodup (k : Int) : (fieldsOf k).Nodup := by
  unfold fieldsOf
  repeat' split
  all_goals decide
theorem val_with_same {f : Nat} (e : Ev) (n : Int) (h : letter f) : (e.with f n).val f = n := by
  rcases h with rfl | rfl | rfl | rfl | rfl | rfl | rfl <;> rfl
theorem val_with_other {f g : Nat} (e : Ev) (n : Int) (hf : letter f) (hg : letter g) (h : g ≠ f) : (e.with f n).val g = e.val g := by
  rcases hf with rfl | rfl | rfl | rfl | rfl | rfl | rfl <;> rcases hg with rfl | rfl | rfl | rfl | rfl | rfl | rfl <;> first | rfl | exact absurd rfl h
theorem kind_with (e : Ev) (f : Nat) (n : Int) : (e.with f n).kind = e.kind := by
  unfold Ev.with
  repeat' split
  all_goals rfl
theorem rdFs_put {e : Ev} (ok : e.Ok) {b : List Nat} : ∀ (l : List Nat) (x : Ev) (a : Nat) (r : List Nat), b.drop a = (l.flatMap fun f => numB (e.val f)) ++ r → rdFs b l x a = some (l.foldl (fun y f => y.with f (e.val f)) x, a + (l.flatMap fun f => numB (e.val f)).length) := by
  intro l
  induction l with
  | nil => intro x a r h; simp [rdFs]
  | cons f l ih =>
    intro x a r h
    rw [List.flatMap_cons, List.append_assoc] at h
    have hr := readN_put (ok.val f) h
    have hd : b.drop (a + (numB (e.val f)).length) = (l.flatMap fun f => numB (e.val f)) ++ r := by
      rw [← List.drop_drop, h, List.drop_left]
    rw [rdFs_some hr, ih _ _ r hd, List.foldl_cons, List.flatMap_cons, List.length_append, Nat.add_assoc]
theorem readE_put {e : Ev} (ok : e.Ok) (h : rightE e = true) : readE (putB e (fieldsOf e.kind)) = some e := by
  have hk := right_is h
  have h0 : (putB e (fieldsOf e.kind)).getD 0 0 = e.kind.toNat := rfl
  have hkn : ((e.kind.toNat : Nat) : Int) = e.kind := by omega
  unfold readE
  rw [h0, if_pos ⟨by unfold putB; simp, by omega, by omega⟩, hkn]
  have hd : (putB e (fieldsOf e.kind)).drop 1 = ((fieldsOf e.kind).flatMap fun f => numB (e.val f)) ++ [] := by unfold putB; simp
  rw [rdFs_put ok _ _ 1 [] hd]
  have hb : (fieldsOf e.kind).foldl (fun y f => y.with f (e.val f)) ⟨e.kind, 0, 0, 0, 0, 0, 0, 0⟩ = e := by
    unfold rightE at h
    rw [Bool.and_eq_true, Bool.and_eq_true] at h
    exact of_decide_eq_true h.2.2
  rw [hb]
  simp only
  rw [if_pos ⟨by unfold putB; rw [List.length_cons]; omega, h⟩]
theorem rdFs_is {b : List Nat} (hO : Oct b) : ∀ (l : List Nat) (x e : Ev) (a p : Nat), (∀ f ∈ l, letter f) → l.Nodup → x.Ok → rdFs b l x a = some (e, p) → e.Ok ∧ e.kind = x.kind ∧ (∀ g, letter g → g ∉ l → e.val g = x.val g) ∧ b.drop a = (l.flatMap fun f => numB (e.val f)) ++ b.drop p ∧ (a ≤ b.length → p ≤ b.length) := by
  intro l
  induction l with
  | nil =>
    intro x e a p _ _ hx h
    rw [rdFs] at h
    injection h with h
    injection h with h1 h2
    subst h1; subst h2
    exact ⟨hx, rfl, fun _ _ _ => rfl, by simp, id⟩
  | cons f l ih =>
    intro x e a p hl hn hx h
    cases hr : readN b a with
    | none => rw [rdFs_none hr] at h; cases h
    | some y =>
      obtain ⟨v, q⟩ := y
      rw [rdFs_some hr] at h
      obtain ⟨hv, hd, _, hq⟩ := readN_is hO hr
      have hlf := hl f (List.mem_cons_self ..)
      obtain ⟨hnf, hnl⟩ := List.nodup_cons.1 hn
      obtain ⟨k1, k2, k3, k4, k5⟩ := ih (x.with f v) e q p (fun g hg => hl g (List.mem_cons_of_mem _ hg)) hnl (hx.with f v hv) h
      have hef : e.val f = v := by rw [k3 f hlf hnf, val_with_same x v hlf]
      refine ⟨k1, k2.trans (kind_with x f v), fun g hg hgl => ?_, ?_, fun _ => k5 hq⟩
      · rw [k3 g hg (fun hm => hgl (List.mem_cons_of_mem _ hm)), val_with_other x v hlf hg (fun e => hgl (by rw [e]; exact List.mem_cons_self ..))]
      · rw [List.flatMap_cons, List.append_assoc, ← k4, hef, hd]
theorem readE_is {b : List Nat} (hO : Oct b) {e : Ev} (h : readE b = some e) : e.Ok ∧ rightE e = true ∧ putB e (fieldsOf e.kind) = b := by
  unfold readE at h
  by_cases hc : 0 < b.length ∧ 1 ≤ b.getD 0 0 ∧ b.getD 0 0 ≤ 22
  · rw [if_pos hc] at h
    obtain ⟨h0, h1, h2⟩ := hc
    cases hr : rdFs b (fieldsOf (b.getD 0 0 : Nat)) ⟨(b.getD 0 0 : Nat), 0, 0, 0, 0, 0, 0, 0⟩ 1 with
    | none => rw [hr] at h; cases h
    | some y =>
      obtain ⟨x, a⟩ := y
      rw [hr] at h
      simp only at h
      by_cases hx : a = b.length ∧ rightE x = true
      · rw [if_pos hx] at h
        injection h with h
        subst h
        have hz : I64 0 := by unfold I64; omega
        obtain ⟨k1, k2, _, k4, _⟩ := rdFs_is hO _ _ x 1 a (fields_letters _) (fields_nodup _) ⟨by unfold I64; simp only; omega, hz, hz, hz, hz, hz, hz, hz⟩ hr
        refine ⟨k1, hx.2, ?_⟩
        unfold putB
        rw [k2]
        simp only [Int.toNat_natCast]
        rw [hx.1, List.drop_length, List.append_nil] at k4
        rw [← k4]
        obtain ⟨c, r, rfl⟩ : ∃ c r, b = c :: r := by
          cases b with
          | nil => simp at h0
          | cons c r => exact ⟨c, r, rfl⟩
        simp
      · rw [if_neg hx] at h; cases h
  · rw [if_neg hc] at h; cases h
end Go.Proofs.Ytincelegepafcaa
