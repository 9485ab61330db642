/-
  A law for regions that draw their order and only read, within a round of a range over a function: one walk of the text's order serves. No program is named here.
-/
import Derived.Sort.QuietIn
import Derived.OwnWalkIn
namespace Go.Proofs.Ytmpipjangbedkaa
set_option maxRecDepth 8000
open Go

section
variable {P : Program} {n l : Nat} {ops : Array Oper} {Q : Exit → Act → World → Prop} {md : Region.Mode}
/-- No operation defers. -/
def noDefers : List Oper → Bool
  | [] => true
  | o :: r => (match o.op with | .defer _ => false | _ => true) && noDefers r
theorem noDefers_get : ∀ {r : List Oper}, noDefers r = true → ∀ (i : Nat) (o : Oper), r[i]? = some o → ∀ c, o.op ≠ .defer c
  | [], _, i, o, h, _ => by simp at h
  | x :: r, hd, 0, o, h, c => by
    have : x = o := by simpa using h
    subst this
    intro e
    simp [noDefers, e] at hd
  | x :: r, hd, i + 1, o, h, c => by
    simp only [noDefers, Bool.and_eq_true] at hd
    exact noDefers_get hd.2 i o (by simpa using h) c
theorem uponIn_inRound {o : Oper} {a : Act} {K K' : Act → World → Prop} (hK : ∀ a w, K a w → K' a w) : ∀ {r : Result Next}, Oper.uponIn Fence.wide n P o a K Q r → Oper.uponIn (Fence.wide.inRound l) n P o a K' Q r := by
  intro r h
  unfold Oper.uponIn at h ⊢
  split at h
  · exact hK _ _ h
  · exact hK _ _ h
  · exact hK _ _ h
  · refine ⟨h.1, ?_⟩
    have h2 : CallsIn Fence.wide (n - 1) P _ _ _ _ := h.2
    refine CallsIn.mono (show CallsIn (Fence.wide.inRound l) (n - 1) P _ _ _ _ from h2) ?_
    intro e w' he
    split at he
    · exact hK _ _ he
    · exact he
    · exact he
  · refine ⟨h.1, ?_⟩
    have h2 : RowsIn Fence.wide (n - 1) P _ _ _ _ := h.2
    refine RowsIn.mono (show RowsIn (Fence.wide.inRound l) (n - 1) P _ _ _ _ from h2) ?_
    intro v w' he
    exact hK _ _ he
  all_goals first
    | exact h
    | (refine ⟨h.1, ?_⟩
       have h2 : RoundIn Fence.wide (n - 1) P _ _ _ _ _ _ _ := h.2
       refine RoundIn.mono (show RoundIn (Fence.wide.inRound l) (n - 1) P _ _ _ _ _ _ _ from h2) ?_
       intro e w' he
       split at he
       · exact hK _ _ he
       · exact he
       · exact he)
theorem wpAnyIn_inRound (hd : ∀ (i : Nat) (o : Oper), ops[i]? = some o → ∀ c, o.op ≠ .defer c) : ∀ (fuel : Nat) (listed : Array Bool) (a : Act) (w : World), wpAnyIn Fence.wide n P md ops Q fuel listed a w → wpAnyIn (Fence.wide.inRound l) n P md ops Q fuel listed a w
  | 0, _, _, _, h => h
  | fuel + 1, listed, a, w, h => ⟨h.1, fun i hi => by
      have h2 := h.2 i hi
      unfold wpOpIn at h2 ⊢
      cases ho : ops[i]? with
      | none =>
        simp only [ho] at h2
        exact wpAnyIn_inRound hd fuel _ a w h2
      | some o =>
        simp only [ho] at h2
        by_cases hw : Region.wanted o (yielded ops a.tmps) = true
        · simp only [hw, if_true] at h2 ⊢
          refine ⟨h2.1, ?_⟩
          have h3 := h2.2
          rw [Oper.semAt_plain _ _ _ (hd i o ho)] at h3 ⊢
          exact uponIn_inRound (fun a' w' hh => wpAnyIn_inRound hd fuel _ a' w' hh) h3
        · simp only [hw, Bool.false_eq_true, if_false] at h2 ⊢
          exact ⟨h2.1, wpAnyIn_inRound hd fuel _ _ w h2.2⟩⟩
theorem wpIn_region_quiet_round {id : Nat} {a : Act} {w : World} {r : List Oper} (hm : P.follows .mixedOrders = true) (hB : Region.lexB .any r.toArray = true) (hd : noDefers r = true)
    (h : wpQuietIn Fence.wide n P r.toArray (fun w' => ∃ n, w' = w.drewN n) (fun a' => ∀ w', (∃ n, w' = w.drewN n) → Q .normal a' w') r a) : (Code.region id r.toArray true).wpIn (Fence.wide.inRound l) n P Q a w := by
  simp only [Region.lexB, Bool.and_eq_true] at hB
  refine wpIn_region_any hm (wpAnyIn_inRound (fun i o ho => noDefers_get hd i o (by simpa using ho)) _ _ _ _ (wpAnyIn_of_quiet (C := fun w' => ∃ n, w' = w.drewN n) (Q := fun a' => ∀ w', (∃ n, w' = w.drewN n) → Q .normal a' w') rfl (fun _ w' hw' h => h w' hw') _ _ _ _ ⟨1, rfl⟩ ?_))
  have := wpAnyQIn_lex (F := Fence.wide) (n := n) (C := fun w' => ∃ n, w' = w.drewN n) (md := .any) hB.1 r 0 (Array.replicate r.toArray.size false) a (by simp) (by simpa using hB.2) h
  simpa using this
end
end Go.Proofs.Ytmpipjangbedkaa
