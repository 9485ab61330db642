/-
  A law for regions that draw their order, whose loads may all be taken first, whose calls come in one order, and whose last stores wait for all of them (and may hit what was loaded). No program is named here.
-/
import Derived.OrdersHeld
import Derived.StillTail
import Derived.Tactics
import Derived.Deep.RegionHeld3
namespace Go.Proofs.Ytiblbhppojfdaaa
open Go

section
variable {P : Program} {ops : Array Oper} {Q : Exit → Act → World → Prop} {md : Region.Mode} {S : World → Prop}

/-- Whatever order is picked from here on, and S holds behind each operation ahead of number n. -/
def wpAnyT (P : Program) (md : Region.Mode) (ops : Array Oper) (Q : Exit → Act → World → Prop) (S : World → Prop) (n : Nat) : Nat → Array Bool → Act → World → Prop
  | 0, listed, a, w => Region.ready md ops listed = [] ∧ Q .normal a w
  | fuel + 1, listed, a, w =>
    (Region.ready md ops listed = [] → Q .normal a w) ∧
    ∀ i ∈ Region.ready md ops listed, wpOp P ops Q i (fun a' w' => (i < n → S w') ∧ wpAnyT P md ops Q S n fuel (listed.setIfInBounds i true) a' w') a w
theorem wpAny_of_T {n : Nat} : ∀ (fuel : Nat) (listed : Array Bool) (a : Act) (w : World), wpAnyT P md ops Q S n fuel listed a w → wpAny P md ops Q fuel listed a w
  | 0, _, _, _, h => h
  | fuel + 1, _, _, _, h => ⟨h.1, fun i hi => wpOp_mono (fun a' w' h' => wpAny_of_T fuel _ a' w' h'.2) (h.2 i hi)⟩

/-- What has come up has come up behind what it waits for. -/
def Closed (md : Region.Mode) (ops : Array Oper) (listed : Array Bool) : Prop :=
  ∀ k o, ops[k]? = some o → listed.getD k false = true → ∀ e ∈ o.after, Region.binds md e = true → listed.getD e.on false = true
theorem Closed.set {listed : Array Bool} (h : Closed md ops listed) {j : Nat} (hj : j ∈ Region.ready md ops listed) : Closed md ops (listed.setIfInBounds j true) := by
  intro k o hk hl e he hb
  obtain ⟨_, oj, hoj, hall⟩ := mem_ready.1 hj
  by_cases hjk : j = k
  · subst hjk
    have : oj = o := Option.some.inj (hoj.symm.trans hk)
    subst this
    exact getD_set_true (hall e he hb)
  · rw [getD_set_ne false hjk] at hl
    exact getD_set_true (h k o hk hl e he hb)
/-- Number j waits for number i, straight or by one between. -/
def waits2 (md : Region.Mode) (ops : Array Oper) (j i : Nat) : Bool :=
  Region.waitsFor md ops j i || (List.range ops.size).any fun k => Region.waitsFor md ops j k && Region.waitsFor md ops k i
theorem waits2_not {listed : Array Bool} (hc : Closed md ops listed) {i j : Nat} (h : waits2 md ops j i = true) (hi : listed.getD i true = false) (hj : j ∈ Region.ready md ops listed) : False := by
  obtain ⟨_, oj, hoj, hall⟩ := mem_ready.1 hj
  have hi' := getD_both hi
  simp only [waits2, Bool.or_eq_true, List.any_eq_true, Bool.and_eq_true] at h
  rcases h with h | ⟨k, _, h1, h2⟩
  · obtain ⟨o', ho', e, he, hb, hon⟩ := Region.waitsFor_spec h
    have : o' = oj := Option.some.inj (ho'.symm.trans hoj)
    subst this
    have := hall e he hb
    rw [hon, hi'] at this
    cases this
  · obtain ⟨o', ho', e, he, hb, hon⟩ := Region.waitsFor_spec h1
    have : o' = oj := Option.some.inj (ho'.symm.trans hoj)
    subst this
    have hk := hall e he hb
    rw [hon] at hk
    obtain ⟨o2, ho2, e2, he2, hb2, hon2⟩ := Region.waitsFor_spec h2
    have := hc k o2 ho2 hk e2 he2 hb2
    rw [hon2, hi'] at this
    cases this

/-- An operation that those from number n on wait for may be taken first. -/
theorem wpAnyT_first {n i : Nat} {oi : Oper} {v : Value} (hi : ops[i]? = some oi) (hw : ∀ j, n ≤ j → ∀ oj, ops[j]? = some oj → waits2 md ops j i = true)
    (hsel : ∀ (j : Nat) (o : Oper) cs b, ops[j]? = some o → o.op ≠ .select cs b) (hQ : ∀ c a w, Q (.panic c) (a.put oi.dst v) w → Q (.panic c) a w) :
    ∀ (fuel : Nat) (listed : Array Bool) (a : Act) (w : World), Closed md ops listed →
      (∀ j oj, ops[j]? = some oj → j ≠ i → listed.getD j true = false → (∀ e ∈ oj.after, Region.binds md e = true → e.on ≠ i) → oi.apart ops oj = true) →
      i ∈ Region.ready md ops listed → YieldsIf P ops S oi v a → S w →
      wpAnyT P md ops Q S n fuel (listed.setIfInBounds i true) (a.put oi.dst v) w → wpAnyT P md ops Q S n (fuel + 1) listed a w := by
  intro fuel
  induction fuel with
  | zero =>
    intro listed a w _ _ hr hy hS H
    refine ⟨fun h => (by rw [h] at hr; cases hr), fun j hj => ?_⟩
    by_cases hji : j = i
    · subst hji; exact hy.wpOp hi hS ⟨fun _ => hS, H⟩
    · have := ready_mono hj hji
      rw [H.1] at this
      cases this
  | succ fuel ih =>
    intro listed a w hcl hfree hr hy hS H
    refine ⟨fun h => (by rw [h] at hr; cases hr), fun j hj => ?_⟩
    by_cases hji : j = i
    · subst hji; exact hy.wpOp hi hS ⟨fun _ => hS, H⟩
    · have h1 := H.2 j (ready_mono hj hji)
      obtain ⟨hjun, oj, hoj, hall⟩ := mem_ready.1 hj
      have hnot : ∀ e ∈ oj.after, Region.binds md e = true → e.on ≠ i := fun e he hb heq => by
        have h1 := hall e he hb
        rw [heq, getD_both (mem_ready.1 hr).1] at h1
        cases h1
      have hjn : j < n := by
        rcases Nat.lt_or_ge j n with h | h
        · exact h
        · exact (waits2_not hcl (hw j h oj hoj) (mem_ready.1 hr).1 hj).elim
      have h2 := wpOp_putIf hoj (hfree j oj hoj hji hjun hnot) (fun cs b => hsel i oi cs b hi) (fun cs b => hsel j oj cs b hoj) hQ hy h1
      have hfree' : ∀ k ok, ops[k]? = some ok → k ≠ i → (listed.setIfInBounds j true).getD k true = false →
          (∀ e ∈ ok.after, Region.binds md e = true → e.on ≠ i) → oi.apart ops ok = true := fun k ok hk hki hun hno => by
        refine hfree k ok hk hki ?_ hno
        by_cases hjk : j = k
        · subst hjk; exact hjun
        · rw [getD_set_ne true hjk] at hun; exact hun
      refine wpOp_mono (fun a' w' h3 => ⟨h3.2.1, ih (listed.setIfInBounds j true) a' w' (hcl.set hj) hfree' (ready_mono hr (Ne.symm hji)) h3.1 (h3.2.1 hjn) ?_⟩) h2
      rw [Array.setIfInBounds_comm _ _ hji]
      exact h3.2.2

/-- Behind a call: S, and what follows. -/
def segQ (Q : Exit → Act → World → Prop) (S : World → Prop) (K : Act → World → Prop) : Exit → Act → World → Prop
  | .normal, a, w => S w ∧ K a w
  | e, a, w => Q e a w
/-- The calls one behind the other, then the rest of the list. -/
def wpCallsL (P : Program) (ops : Array Oper) (Q : Exit → Act → World → Prop) (S : World → Prop) (tail : List Oper) : List Oper → Act → World → Prop
  | [], a, w => wpList P ops Q tail a w
  | o :: r, a, w => wpList P ops (segQ Q S (wpCallsL P ops Q S tail r)) [o] a w
/-- The loads taken first. -/
def wpLoads (P : Program) (ops : Array Oper) (S : World → Prop) (K : Act → World → Prop) : List Oper → Act → World → Prop
  | [], a, w => K a w
  | o :: r, a, w => ∃ v, YieldsIf P ops S o v a ∧ wpLoads P ops S K r (a.put o.dst v) w

def callsB (md : Region.Mode) (ops : Array Oper) (n : Nat) : List Nat → Array Bool → Bool
  | [], listed => Region.seqB md ops (ops.size - n) n listed
  | c :: r, listed => decide (Region.ready md ops listed = [c]) && callsB md ops n r (listed.setIfInBounds c true)
def loadsB (md : Region.Mode) (ops : Array Oper) (n : Nat) (cs : List Nat) : List Nat → Array Bool → Bool
  | [], listed => callsB md ops n cs listed
  | i :: r, listed => (Region.ready md ops listed).contains i && Region.free md ops listed i && (List.range ops.size).all (fun j => decide (j < n) || waits2 md ops j i) && loadsB md ops n cs r (listed.setIfInBounds i true)

theorem wpAnyT_seq {n : Nat} : ∀ (l : List Oper) (k : Nat) (listed : Array Bool) (a : Act) (w : World), n ≤ k → (∀ j, l[j]? = ops[k + j]?) →
    Region.seqB md ops l.length k listed = true → wpList P ops Q l a w → wpAnyT P md ops Q S n l.length listed a w
  | [], _, _, _, _, _, _, hB, h => ⟨by simpa [Region.seqB] using hB, h⟩
  | o :: l, k, listed, a, w, hk, hl, hB, h => by
    have h0 : ops[k]? = some o := by simpa using (hl 0).symm
    simp only [List.length_cons, Region.seqB, Bool.and_eq_true, decide_eq_true_eq] at hB
    refine ⟨fun h1 => (by rw [hB.1] at h1; cases h1), fun i hi => ?_⟩
    rw [hB.1] at hi
    have hik : i = k := by simpa using hi
    subst hik
    have hw : wpOp P ops Q i (wpList P ops Q l) a w := by unfold wpOp; simp only [h0]; exact h
    exact wpOp_mono (fun a' w' h' => ⟨fun hlt => absurd hlt (by omega), wpAnyT_seq l (i + 1) _ a' w' (by omega) (fun j => by have := hl (j + 1); simpa [Nat.add_assoc, Nat.add_comm 1 j] using this) hB.2 h'⟩) hw

theorem seg_op {o : Oper} {c : Nat} (h0 : ops[c]? = some o) {K : Act → World → Prop} {a : Act} {w : World} (h : wpList P ops (segQ Q S K) [o] a w) : wpOp P ops Q c (fun a' w' => S w' ∧ K a' w') a w := by
  have hl : LetsOut (segQ Q S K) → LetsOut Q := fun h => h
  unfold wpOp
  simp only [h0]
  unfold wpList at h
  split
  · rename_i hw
    simp only [hw, if_true] at h
    rcases h with h | ⟨h1, h2⟩
    · refine .inl ?_
      unfold Oper.wp at *
      generalize (execOp a.eval o).run P w = r at *
      cases r with
      | ok n w' =>
        cases n <;> simp only [Oper.upon] at h ⊢ <;>
          first
            | exact h
            | exact Calls.mono h (fun e w'' he => by cases e <;> first | exact he | exact hl he)
            | exact Rows.mono h (fun _ _ he => he)
      | halt x w' => cases x <;> simp only [Oper.upon] at h ⊢ <;> first | exact h | exact hl h
    · exact .inr ⟨h1, hl h2⟩
  · rename_i hw
    simp only [hw] at h
    exact h

theorem wpAnyT_calls {n : Nat} {tail : List Oper} (hn : n ≤ ops.size) (hlen : tail.length = ops.size - n) (htl : ∀ j, tail[j]? = ops[n + j]?) : ∀ (cs : List Nat) (os : List Oper) (listed : Array Bool) (a : Act) (w : World), cs.map (ops[·]?) = os.map some →
    callsB md ops n cs listed = true → wpCallsL P ops Q S tail os a w → wpAnyT P md ops Q S n (cs.length + tail.length) listed a w
  | [], [], listed, a, w, _, hB, h => by
    have := wpAnyT_seq (S := S) (n := n) tail n listed a w (Nat.le_refl _) htl (by rw [hlen]; exact hB) h
    simpa using this
  | c :: cs, o :: os, listed, a, w, hm, hB, h => by
    simp only [List.map_cons, List.cons.injEq] at hm
    simp only [callsB, Bool.and_eq_true, decide_eq_true_eq] at hB
    rw [show (c :: cs).length + tail.length = (cs.length + tail.length) + 1 by simp; omega]
    refine ⟨fun h1 => (by rw [hB.1] at h1; cases h1), fun i hi => ?_⟩
    rw [hB.1] at hi
    have hik : i = c := by simpa using hi
    subst hik
    exact wpOp_mono (fun a' w' h' => ⟨fun _ => h'.1, wpAnyT_calls hn hlen htl cs os _ a' w' hm.2 hB.2 h'.2⟩) (seg_op hm.1 h)
  | [], _ :: _, _, _, _, hm, _, _ => by simp at hm
  | _ :: _, [], _, _, _, hm, _, _ => by simp at hm

theorem wpAnyT_loads {n : Nat} {tail : List Oper} (hn : n ≤ ops.size) (hlen : tail.length = ops.size - n) (htl : ∀ j, tail[j]? = ops[n + j]?) (hsel : Region.noSelect ops = true) (hQ : ∀ c a a' w, Q (.panic c) a w → Q (.panic c) a' w) (cs : List Nat) (os : List Oper) (hm : cs.map (ops[·]?) = os.map some) :
    ∀ (tk : List Nat) (ts : List Oper) (listed : Array Bool) (a : Act) (w : World), tk.map (ops[·]?) = ts.map some → Closed md ops listed → loadsB md ops n cs tk listed = true → S w →
      wpLoads P ops S (wpCallsL P ops Q S tail os) ts a w → wpAnyT P md ops Q S n (tk.length + (cs.length + tail.length)) listed a w
  | [], [], listed, a, w, _, _, hB, _, h => by
    have := wpAnyT_calls hn hlen htl cs os listed a w hm hB h
    simpa using this
  | i :: tk, o :: ts, listed, a, w, hk, hcl, hB, hS, h => by
    simp only [List.map_cons, List.cons.injEq] at hk
    simp only [loadsB, Bool.and_eq_true] at hB
    obtain ⟨⟨⟨hr, hf⟩, hw⟩, hB'⟩ := hB
    obtain ⟨v, hy, h'⟩ := h
    rw [show (i :: tk).length + (cs.length + tail.length) = (tk.length + (cs.length + tail.length)) + 1 by simp; omega]
    refine wpAnyT_first hk.1 (fun j hj oj hoj => ?_) (Region.noSelect_spec hsel) (fun c a w h => hQ c _ _ w h) _ listed a w hcl (Region.free_spec hk.1 hf) (by simpa using hr) hy hS (wpAnyT_loads hn hlen htl hsel hQ cs os hm tk ts _ _ w hk.2 (hcl.set (by simpa using hr)) hB' hS h')
    have hlt : j < ops.size := (Array.getElem?_eq_some_iff.1 hoj).1
    have := (List.all_eq_true.1 hw) j (List.mem_range.2 hlt)
    simp only [Bool.or_eq_true, decide_eq_true_eq] at this
    exact this.resolve_left (by omega)
  | [], _ :: _, _, _, _, hk, _, _, _, _ => by simp at hk
  | _ :: _, [], _, _, _, hk, _, _, _, _ => by simp at hk

/-- THE LAW: the loads 'tk' first, the calls 'cs' in their order, then the operations from number n on. -/
theorem wp_region_loads {id : Nat} {Q : Exit → Act → World → Prop} {a : Act} {w : World} {l : List Oper} (S : World → Prop) (tk cs : List Nat) (n : Nat) (hm : P.follows .mixedOrders = true) (ts os : List Oper) (hts : tk.map (l.toArray[·]?) = ts.map some) (hos : cs.map (l.toArray[·]?) = os.map some)
    (hB : (Region.noSelect l.toArray && decide (n ≤ l.length) && decide (tk.length + (cs.length + (l.length - n)) = l.length) && loadsB .any l.toArray n cs tk (Array.replicate l.toArray.size false)) = true) (hS : S { w with drawn := w.drawn + 1 })
    (h : wpLoads P l.toArray S (wpCallsL P l.toArray (NoPanic Q) S (l.drop n) os) ts a { w with drawn := w.drawn + 1 }) : (Code.region id l.toArray true).wp P Q a w := by
  simp only [Bool.and_eq_true, decide_eq_true_eq] at hB
  obtain ⟨⟨⟨hsel, hn⟩, hlen⟩, hB'⟩ := hB
  refine wp_region_noPanic (wp_region_any hm (wpAny_of_T (S := S) (n := n) _ _ _ _ ?_))
  have := wpAnyT_loads (md := .any) (P := P) (Q := NoPanic Q) (S := S) (tail := l.drop n) (by simpa using hn) (by simp) (fun j => by simp [List.getElem?_drop]) hsel (fun c a a' w h => h) cs os hos tk ts (Array.replicate l.toArray.size false) a { w with drawn := w.drawn + 1 } hts (fun k o _ hl => by rw [getD_replicate_false] at hl; cases hl) hB' hS h
  rw [List.length_drop, hlen] at this
  simpa using this
end
end Go.Proofs.Ytiblbhppojfdaaa
