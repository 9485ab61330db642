import Derived.Test.YtmpipjangbedkaaGreatMPl6
import Derived.Test.YtmpipjangbedkaaGreatMEv5
import Derived.Test.YtmpipjangbedkaaGreatMDag3
import Derived.Test.YtmpipjangbedkaaGreatMDk1
/-
  Reading a config: the numbers behind one another; what is put is read and nothing else is.
-/
namespace Go.Proofs.YtmpipjangbedkaaGreat
set_option maxRecDepth 8000
open Go Go.RowKit
set_option linter.unusedVariables false

/-- So many numbers, from a place on. -/
def rdL (b : List Nat) : Nat → Nat → Option (List Int × Nat)
  | 0, a => some ([], a)
  | k + 1, a => match readN b a with
    | none => none
    | some (v, p) => (rdL b k p).map fun x => (v :: x.1, x.2)
theorem rdL_none {b : List Nat} {k a : Nat} (h : readN b a = none) : rdL b (k + 1) a = none := by rw [rdL, h]
theorem rdL_some {b : List Nat} {k a p : Nat} {v : Int} (h : readN b a = some (v, p)) : rdL b (k + 1) a = (rdL b k p).map fun x => (v :: x.1, x.2) := by rw [rdL, h]
/-- Some numbers read ahead. -/
def preL (l : List Int) (o : Option (List Int × Nat)) : Option (List Int × Nat) := o.map fun x => (l ++ x.1, x.2)
theorem preL_nil (o : Option (List Int × Nat)) : preL [] o = o := by cases o <;> rfl
theorem preL_some {b : List Nat} {k a p : Nat} {v : Int} (l : List Int) (h : readN b a = some (v, p)) : preL l (rdL b (k + 1) a) = preL (l ++ [v]) (rdL b k p) := by
  rw [rdL_some h]
  unfold preL
  rw [Option.map_map]
  congr 1
  funext x
  simp
theorem rdL_put {b : List Nat} : ∀ (l : List Int) (a : Nat) (r : List Nat), (∀ x ∈ l, I64 x) → b.drop a = l.flatMap numB ++ r → rdL b l.length a = some (l, a + (l.flatMap numB).length) := by
  intro l
  induction l with
  | nil => intro a r _ _; rfl
  | cons x l ih =>
    intro a r hx h
    rw [List.flatMap_cons, List.append_assoc] at h
    have h1 := readN_put (hx x (List.mem_cons_self ..)) h
    have h2 : b.drop (a + (numB x).length) = l.flatMap numB ++ r := by
      rw [← List.drop_drop, h, List.drop_left]
    rw [List.length_cons, rdL_some h1, ih _ r (fun y hy => hx y (List.mem_cons_of_mem _ hy)) h2, List.flatMap_cons, List.length_append, ← Nat.add_assoc]
    rfl
theorem rdL_is {b : List Nat} (hO : Oct b) : ∀ (k a p : Nat) (l : List Int), rdL b k a = some (l, p) → l.length = k ∧ (∀ x ∈ l, I64 x) ∧ b.drop a = l.flatMap numB ++ b.drop p ∧ (a ≤ b.length → p ≤ b.length) := by
  intro k
  induction k with
  | zero =>
    intro a p l h
    rw [rdL] at h
    injection h with h
    injection h with h1 h2
    subst h1; subst h2
    exact ⟨rfl, fun _ h => (List.not_mem_nil h).elim, rfl, id⟩
  | succ k ih =>
    intro a p l h
    cases hr : readN b a with
    | none => rw [rdL_none hr] at h; cases h
    | some y =>
      obtain ⟨v, q⟩ := y
      rw [rdL_some hr] at h
      cases hq : rdL b k q with
      | none => rw [hq] at h; cases h
      | some z =>
        obtain ⟨l', p'⟩ := z
        rw [hq] at h
        injection h with h
        injection h with h1 h2
        subst h1; subst h2
        obtain ⟨i1, i2, i3, i4⟩ := ih _ _ _ hq
        obtain ⟨j1, j2, j3, j4⟩ := readN_is hO hr
        refine ⟨by simp [i1], ?_, ?_, fun _ => i4 j4⟩
        · intro x hx
          rcases List.mem_cons.1 hx with rfl | hx
          · exact j1
          · exact i2 x hx
        · rw [j2, i3, List.flatMap_cons, List.append_assoc]
/-- An instrument's numbers; a config's. -/
def four (x : Ins) : List Int := [x.bucket, x.price, x.rate, x.slip]
def numsC (c : Cfg) : List Int := c.insts.flatMap four ++ restL c
/-- The i-th instrument of such numbers; the first n; the config. -/
def insAt (l : List Int) (i : Nat) : Ins := ⟨l.getD (4 * i) 0, l.getD (4 * i + 1) 0, l.getD (4 * i + 2) 0, l.getD (4 * i + 3) 0⟩
def insL (l : List Int) (n : Nat) : List Ins := (List.range n).map (insAt l)
def cfgL (l : List Int) (n : Nat) : Cfg := { insts := insL l n, skin := l.getD (4 * n) 0, times := l.getD (4 * n + 1) 0, port := l.getD (4 * n + 2) 0, bid := l.getD (4 * n + 3) 0, lot := l.getD (4 * n + 4) 0, hedge := l.getD (4 * n + 5) 0 }
theorem insL_succ (l : List Int) (n : Nat) : insL l (n + 1) = insL l n ++ [insAt l n] := by
  unfold insL
  rw [List.range_succ, List.map_append]
  rfl
theorem insL_len (l : List Int) (n : Nat) : (insL l n).length = n := by unfold insL; simp
theorem flat_four : ∀ l : List Ins, (l.flatMap four).flatMap numB = l.flatMap insB := by
  intro l
  induction l with
  | nil => rfl
  | cons x l ih =>
    rw [List.flatMap_cons, List.flatMap_append, ih, List.flatMap_cons]
    congr 1
    unfold four insB
    simp
theorem planB_nums (c : Cfg) : planB c 6 = numB (c.insts.length : Int) ++ (numsC c).flatMap numB := by
  unfold planB frontB numsC
  rw [List.flatMap_append, flat_four, List.take_length, List.append_assoc]
  rfl
theorem four_len : ∀ l : List Ins, (l.flatMap four).length = 4 * l.length := by
  intro l
  induction l with
  | nil => rfl
  | cons x l ih => rw [List.flatMap_cons, List.length_append, ih, List.length_cons]; show 4 + _ = _; omega
theorem numsC_len (c : Cfg) : (numsC c).length = 4 * c.insts.length + 6 := by
  unfold numsC
  rw [List.length_append, four_len]
  rfl
theorem four_at : ∀ (l : List Ins) (r : List Int) (i : Nat), i < l.length → insAt (l.flatMap four ++ r) i = l.getD i Ins.zero := by
  intro l
  induction l with
  | nil => intro r i h; simp at h
  | cons x l ih =>
    intro r i h
    rw [List.flatMap_cons, List.append_assoc]
    cases i with
    | zero => rfl
    | succ i =>
      have := ih r i (by simpa using h)
      rw [List.getD_cons_succ, ← this]
      unfold insAt
      rw [show 4 * (i + 1) = 4 * i + 4 from by omega]
      unfold four
      rfl
theorem cfgL_nums (c : Cfg) : cfgL (numsC c) c.insts.length = c := by
  have h0 : insL (numsC c) c.insts.length = c.insts := by
    refine List.ext_getElem (insL_len _ _) fun i h1 h2 => ?_
    have := four_at c.insts (restL c) i h2
    rw [List.getD_eq_getElem?_getD, List.getElem?_eq_getElem h2] at this
    have e : (insL (numsC c) c.insts.length)[i] = insAt (numsC c) i := by simp only [insL, List.getElem_map, List.getElem_range]
    rw [e]
    exact this
  have hr : ∀ j, (numsC c).getD (4 * c.insts.length + j) 0 = (restL c).getD j 0 := fun j => by
    unfold numsC
    rw [List.getD_eq_getElem?_getD, List.getElem?_append_right (by rw [four_len]; omega), four_len, Nat.add_sub_cancel_left, ← List.getD_eq_getElem?_getD]
  have h00 := hr 0
  rw [Nat.add_zero] at h00
  unfold cfgL
  rw [h0, h00, hr 1, hr 2, hr 3, hr 4, hr 5]
  rfl
theorem getD_at {l : List Int} {i : Nat} (h : i < l.length) : l.getD i 0 = l[i] := by rw [List.getD_eq_getElem?_getD, List.getElem?_eq_getElem h]; rfl
theorem insL_four (l : List Int) : ∀ n, 4 * n ≤ l.length → (insL l n).flatMap four = l.take (4 * n) := by
  intro n
  induction n with
  | zero => intro _; rfl
  | succ n ih =>
    intro h
    rw [insL_succ, List.flatMap_append, ih (by omega), show 4 * (n + 1) = 4 * n + 1 + 1 + 1 + 1 from by omega]
    rw [List.take_succ_eq_append_getElem (i := 4 * n + 1 + 1 + 1) (by omega), List.take_succ_eq_append_getElem (i := 4 * n + 1 + 1) (by omega), List.take_succ_eq_append_getElem (i := 4 * n + 1) (by omega), List.take_succ_eq_append_getElem (i := 4 * n) (by omega)]
    simp only [List.append_assoc]
    congr 1
    unfold insAt four
    simp only [List.flatMap_cons, List.flatMap_nil]
    rw [getD_at (i := 4 * n) (by omega), getD_at (i := 4 * n + 1) (by omega), getD_at (i := 4 * n + 2) (by omega), getD_at (i := 4 * n + 3) (by omega)]
    rfl
theorem numsC_cfgL {l : List Int} {n : Nat} (h : l.length = 4 * n + 6) : numsC (cfgL l n) = l := by
  show (insL l n).flatMap four ++ restL (cfgL l n) = l
  rw [insL_four l n (by omega)]
  have h2 : restL (cfgL l n) = l.drop (4 * n) := by
    refine ints_all (by rw [List.length_drop, h]; show 6 = _; omega) fun i hi => ?_
    have hi6 : i < 6 := hi
    rw [show (l.drop (4 * n)).getD i 0 = l.getD (4 * n + i) 0 from by rw [List.getD_eq_getElem?_getD, List.getElem?_drop, ← List.getD_eq_getElem?_getD]]
    rcases (by omega : i = 0 ∨ i = 1 ∨ i = 2 ∨ i = 3 ∨ i = 4 ∨ i = 5) with rfl | rfl | rfl | rfl | rfl | rfl <;> rfl
  rw [h2, List.take_append_drop]
/-- What ReadPlan tells. -/
def readP (b : List Nat) : Option Cfg := match readN b 0 with
  | none => none
  | some (n, a) => if 1 ≤ n ∧ n ≤ 6 then (match rdL b (4 * n.toNat + 6) a with
    | none => none
    | some (l, p) => if p = b.length ∧ planOk (cfgL l n.toNat) = true then some (cfgL l n.toNat) else none) else none
theorem nums_i64 {c : Cfg} (h : CfgI c) : ∀ x ∈ numsC c, I64 x := by
  intro x hx
  rcases List.mem_append.1 hx with hx | hx
  · obtain ⟨y, hy, hx⟩ := List.mem_flatMap.1 hx
    obtain ⟨a0, a1, a2, a3⟩ := h.insts y hy
    unfold four at hx
    simp only [List.mem_cons, List.not_mem_nil, or_false] at hx
    rcases hx with rfl | rfl | rfl | rfl <;> assumption
  · exact restL_i64 h x hx
theorem readP_put {c : Cfg} (ok : CfgI c) (h : planOk c = true) : readP (planB c 6) = some c := by
  have hn : 1 ≤ c.insts.length ∧ c.insts.length ≤ 6 := Decidable.byContradiction fun hc => by rw [plan_len hc] at h; cases h
  have h1 : readN (planB c 6) 0 = some ((c.insts.length : Int), 0 + (numB (c.insts.length : Int)).length) := readN_put (r := (numsC c).flatMap numB) (by unfold I64; omega) (by rw [List.drop_zero, planB_nums])
  have h2 := rdL_put (b := planB c 6) (numsC c) (0 + (numB (c.insts.length : Int)).length) [] (nums_i64 ok) (by rw [planB_nums, Nat.zero_add, List.drop_left, List.append_nil])
  unfold readP
  rw [h1]
  simp only
  rw [if_pos ⟨by omega, by omega⟩, Int.toNat_natCast, ← numsC_len, h2]
  simp only
  rw [cfgL_nums, if_pos ⟨by rw [planB_nums, List.length_append]; omega, h⟩]
theorem readP_is {b : List Nat} (hO : Oct b) {c : Cfg} (h : readP b = some c) : CfgI c ∧ planOk c = true ∧ planB c 6 = b := by
  unfold readP at h
  cases hr : readN b 0 with
  | none => rw [hr] at h; cases h
  | some y =>
    obtain ⟨n, a⟩ := y
    rw [hr] at h
    simp only at h
    by_cases hn : 1 ≤ n ∧ n ≤ 6
    · rw [if_pos hn] at h
      cases hl : rdL b (4 * n.toNat + 6) a with
      | none => rw [hl] at h; cases h
      | some z =>
        obtain ⟨l, p⟩ := z
        rw [hl] at h
        simp only at h
        by_cases hp : p = b.length ∧ planOk (cfgL l n.toNat) = true
        · rw [if_pos hp] at h
          injection h with h
          obtain ⟨i1, i2, i3, i4⟩ := rdL_is hO _ _ _ _ hl
          obtain ⟨j1, j2, j3, j4⟩ := readN_is hO hr
          have hnc : numsC c = l := by rw [← h]; exact numsC_cfgL i1
          have hlen : c.insts.length = n.toNat := by rw [← h]; exact insL_len _ _
          have hg : ∀ i, I64 (l.getD i 0) := fun i => by
            by_cases hi : i < l.length
            · rw [getD_at hi]; exact i2 _ (List.getElem_mem hi)
            · rw [List.getD_eq_getElem?_getD, List.getElem?_eq_none (by omega)]; unfold I64; simp
          refine ⟨?_, h ▸ hp.2, ?_⟩
          · subst h
            refine ⟨fun x hx => ?_, hg _, hg _, hg _, hg _, hg _, hg _⟩
            obtain ⟨i, _, rfl⟩ := List.mem_map.1 hx
            exact ⟨hg _, hg _, hg _, hg _⟩
          · rw [planB_nums, hnc, hlen, show ((n.toNat : Nat) : Int) = n from by omega]
            rw [List.drop_zero] at j2
            rw [i3, hp.1, List.drop_length, List.append_nil] at j2
            exact j2.symm
        · rw [if_neg hp] at h; cases h
    · rw [if_neg hn] at h; cases h
end Go.Proofs.YtmpipjangbedkaaGreat

/-
  The law of drawn regions by what holds of each value, where what holds of the world may hang on which operations have come up. No program is named here.
-/
namespace Go.Proofs.YtmpipjangbedkaaGreat
set_option maxRecDepth 8000
open Go

section
variable {P : Program} {Q : Exit → Act → World → Prop}
/-- What an operation must do; L: which have come up. -/
def StepF (P : Program) (ops : Array Oper) (Q : Exit → Act → World → Prop) (D : List Nat) (a0 : Act) (Gr : World → World → Prop) (Wp : (Nat → Bool) → World → Prop) (Pv : Nat → Value → World → Prop) (i : Nat) (o : Oper) : Prop :=
  ∀ (a : Act) (W : World) (K : Act → World → Prop) (L : Nat → Bool), Off D a0 a → Wp L W → L i = false → (∀ e ∈ o.after, Region.binds .any e = true → L e.on = true) → (∀ e ∈ o.after, Region.binds .any e = true → ∀ o', ops[e.on]? = some o' → Pv e.on (valOf a o') W) →
    (∀ v W', Gr W W' → Wp (upd L i true) W' → Pv i (match o.dst with | some _ => v | none => undef) W' → K (a.put o.dst v) W') →
    if Region.wanted o (yielded ops a.tmps) = true then Oper.wp P o a W K Q else K (a.put o.dst undef) W
def StepsF (P : Program) (ops : Array Oper) (Q : Exit → Act → World → Prop) (D : List Nat) (a0 : Act) (Gr : World → World → Prop) (Wp : (Nat → Bool) → World → Prop) (Pv : Nat → Value → World → Prop) : Nat → List Oper → Prop
  | _, [] => True
  | i, o :: r => StepF P ops Q D a0 Gr Wp Pv i o ∧ StepsF P ops Q D a0 Gr Wp Pv (i + 1) r
theorem StepsF.get {ops : Array Oper} {D : List Nat} {a0 : Act} {Gr : World → World → Prop} {Wp : (Nat → Bool) → World → Prop} {Pv : Nat → Value → World → Prop} : ∀ {l : List Oper} {k : Nat}, StepsF P ops Q D a0 Gr Wp Pv k l → ∀ (j : Nat) (o : Oper), l[j]? = some o → StepF P ops Q D a0 Gr Wp Pv (k + j) o
  | [], _, _, j, o, hj => by simp at hj
  | x :: r, k, h, 0, o, hj => by
    have : x = o := by simpa using hj
    subst this
    exact h.1
  | x :: r, k, h, j + 1, o, hj => by
    have := StepsF.get h.2 j o (by simpa using hj)
    rw [show k + (j + 1) = k + 1 + j from by omega]
    exact this
/-- THE LAW. -/
theorem wp_region_dagF {id : Nat} {a0 : Act} {w : World} {l : List Oper} (D : List Nat) (Gr : World → World → Prop) (Wp : (Nat → Bool) → World → Prop) (Pv : Nat → Value → World → Prop) (hm : P.follows .mixedOrders = true) (hac : acycB .any 0 l = true) (hdis : disB l = true) (hin : inB D a0.tmps.size l = true)
    (stable : ∀ i v W W', Gr W W' → Pv i v W → Pv i v W')
    (h0 : Wp (fun _ => false) { w with drawn := w.drawn + 1 })
    (hst : StepsF P l.toArray (NoPanic Q) D a0 Gr Wp Pv 0 l)
    (hend : ∀ (a : Act) (W : World) (L : Nat → Bool), Off D a0 a → Wp L W → (∀ j, j < l.length → L j = true) → (∀ (i : Nat) (o : Oper), l[i]? = some o → Pv i (valOf a o) W) → Q .normal a W) : (Code.region id l.toArray true).wp P Q a0 w := by
  refine wp_region_inv (fun listed a W => Off D a0 a ∧ listed.size = l.toArray.size ∧ Wp (ups listed) W ∧ ∀ (i : Nat) (o : Oper), l[i]? = some o → listed.getD i false = true → Pv i (valOf a o) W) hm hac ⟨Off.refl _ _, by simp, by rw [ups_none]; exact h0, fun i o _ h => ?_⟩ ?_ (fun listed a W hJ hall => hend a W (ups listed) hJ.1 hJ.2.2.1 hall fun i o ho => hJ.2.2.2 i o ho (hall i (List.getElem?_eq_some_iff.1 ho).1))
  · rw [Array.getD_eq_getD_getElem?, Array.getElem?_replicate] at h
    split at h <;> simp at h
  · have key : ∀ (j : Nat) (o : Oper), l[j]? = some o → StepI P .any l.toArray (NoPanic Q) (fun listed a W => Off D a0 a ∧ listed.size = l.toArray.size ∧ Wp (ups listed) W ∧ ∀ (i : Nat) (o : Oper), l[i]? = some o → listed.getD i false = true → Pv i (valOf a o) W) j o := by
      intro i o ho listed a W hJ hl hafter K' hK'
      have hs := hst.get i o ho
      rw [Nat.zero_add] at hs
      have hlt := lt_of_unl hl
      refine hs a W K' (ups listed) hJ.1 hJ.2.2.1 (ups_unl hl) hafter (fun e he hb o' ho' => hJ.2.2.2 e.on o' (by simpa using ho') (hafter e he hb)) ?_
      intro v W' hg hw hp
      have hi := List.all_eq_true.1 hin o (List.mem_of_getElem? ho)
      refine hK' _ _ ⟨?_, by simpa using hJ.2.1, by rw [ups_set _ _ hlt]; exact hw, fun j o' ho' hj => ?_⟩
      · cases hd : o.dst with
        | none => exact hJ.1
        | some d =>
          rw [hd] at hi
          simp only [Bool.and_eq_true, List.contains_iff_mem] at hi
          exact hJ.1.put hi.1 v
      · rcases getD_set_at hj with rfl | hj
        · rw [ho] at ho'
          injection ho' with e
          subst e
          unfold valOf
          cases hd : o.dst with
          | none => rw [hd] at hp; exact hp
          | some d =>
            rw [hd] at hp hi
            simp only [Bool.and_eq_true, decide_eq_true_eq] at hi
            simp only [Act.put]
            rw [vget_at _ _ (by rw [hJ.1.size]; exact hi.2)]
            exact hp
        · have h1 := stable _ _ _ _ hg (hJ.2.2.2 j o' ho' hj)
          have e : valOf (a.put o.dst v) o' = valOf a o' := by
            unfold valOf
            cases hd' : o'.dst with
            | none => rfl
            | some d' =>
              cases hd : o.dst with
              | none => rfl
              | some d =>
                simp only [Act.put]
                refine vget_ne _ _ fun e => ?_
                subst e
                have e2 := disB_get hdis i j o o' _ ho ho' hd hd'
                subst e2
                have h3 : listed.getD i true = false := hl
                have h4 : i < listed.size := lt_of_unl h3
                rw [Array.getD_eq_getD_getElem?, Array.getElem?_eq_getElem h4] at h3 hj
                simp at h3 hj
                rw [h3] at hj
                cases hj
          rw [e]
          exact h1
    exact (by
      have gen : ∀ (r : List Oper) (k : Nat), (∀ (j : Nat) (o : Oper), r[j]? = some o → StepI P .any l.toArray (NoPanic Q) (fun listed a W => Off D a0 a ∧ listed.size = l.toArray.size ∧ Wp (ups listed) W ∧ ∀ (i : Nat) (o : Oper), l[i]? = some o → listed.getD i false = true → Pv i (valOf a o) W) (k + j) o) → StepsI P .any l.toArray (NoPanic Q) (fun listed a W => Off D a0 a ∧ listed.size = l.toArray.size ∧ Wp (ups listed) W ∧ ∀ (i : Nat) (o : Oper), l[i]? = some o → listed.getD i false = true → Pv i (valOf a o) W) k r := by
        intro r
        induction r with
        | nil => intro k _; trivial
        | cons x r ih =>
          intro k h
          refine ⟨by have := h 0 x (by simp); simpa using this, ih (k + 1) fun j o hj => ?_⟩
          have := h (j + 1) o (by simpa using hj)
          rw [show k + 1 + j = k + (j + 1) from by omega]
          exact this
      exact gen l 0 fun j o hj => by rw [Nat.zero_add]; exact key j o hj)
end
end Go.Proofs.YtmpipjangbedkaaGreat

/-
  Slices of int64s of the call's own; a config stored; what a reader of configs answers; reading no config.
-/
namespace Go.Proofs.YtmpipjangbedkaaGreat
set_option maxRecDepth 8000
open Go Go.RowKit
set_option linter.unusedVariables false

theorem out_some {b : List Nat} {a p : Nat} {v : Int} (h : readN b a = some (v, p)) : rdOut (rdn b a 10 0 0) = (v, (p : Int)) := by rw [rdOut_read, h]
theorem out_none {b : List Nat} {a : Nat} (h : readN b a = none) : rdOut (rdn b a 10 0 0) = (0, -1) := by rw [rdOut_read, h]
/-- A number in a slice of int64s. -/
def enc64 (i : Int) : List Value := [.int .i64 i]
theorem lay_64 : Lay enc64 83 2 1 8 := by
  refine ⟨Tryz.underlying83, ?_, by omega, fun _ => rfl, fun x u hu => ?_⟩
  · have h : (Tryz.prog.info? 2).map (fun i => (i.zero, i.size, i.bytes)) = some (some (.int .i64 0), 1, 8) := by kernel_rfl
    obtain ⟨i, h1, h2, h3, h4⟩ := parts_of h
    exact ⟨i, _, h1, h2, h3, h4, rfl⟩
  · simp [enc64] at hu
    subst hu; rfl
def Own64 (w : World) (base : Nat) (v : Value) (l : List Int) : Prop := OwnL enc64 2 1 w base v l
/-- A config is stored. -/
def putC (w : World) (b : Nat) (v : Value) (c : Cfg) : World := ((((((w.setCell ⟨b, 0, none⟩ v).setCell ⟨b, 1, none⟩ (.int .i64 c.skin)).setCell ⟨b, 2, none⟩ (.int .i64 c.times)).setCell ⟨b, 3, none⟩ (.int .i64 c.port)).setCell ⟨b, 4, none⟩ (.int .i64 c.bid)).setCell ⟨b, 5, none⟩ (.int .i64 c.lot)).setCell ⟨b, 6, none⟩ (.int .i64 c.hedge)
theorem putC_at {w : World} {b : Nat} {x : Cfg} {u : Value} (h : CfAt w b x u) (v : Value) (y : Cfg) : CfAt (putC w b v y) b y v := by
  have := ((((((Rec.set h 0 v).set 1 (.int .i64 y.skin)).set 2 (.int .i64 y.times)).set 3 (.int .i64 y.port)).set 4 (.int .i64 y.bid)).set 5 (.int .i64 y.lot)).set 6 (.int .i64 y.hedge)
  exact this
theorem putC_touch (w : World) (b : Nat) (v : Value) (y : Cfg) : Touch (fun k => k = b) w (putC w b v y) := by
  unfold putC
  refine (((((((Touch.setCell w ⟨b, 0, none⟩ _).trans (Touch.setCell _ ⟨b, 1, none⟩ _) ?_).trans (Touch.setCell _ ⟨b, 2, none⟩ _) ?_).trans (Touch.setCell _ ⟨b, 3, none⟩ _) ?_).trans (Touch.setCell _ ⟨b, 4, none⟩ _) ?_).trans (Touch.setCell _ ⟨b, 5, none⟩ _) ?_).trans (Touch.setCell _ ⟨b, 6, none⟩ _) ?_) <;> exact fun _ _ h => h
theorem putC_size (w : World) (b : Nat) (v : Value) (y : Cfg) : (putC w b v y).heap.size = w.heap.size := by simp [putC, World.setCell]
theorem touch_below {w0 w w' : World} {B b : Nat} (h : Below B w0 w) (hB : B ≤ b) (ht : Touch (fun k => k = b) w w') (hs : w'.heap.size = w.heap.size) : Below B w0 w' :=
  ⟨ht.os.trans h.os, ht.tape.trans h.tape, ht.output.trans h.output, Nat.le_trans h.size ht.size, fun k hk => by
    rcases Nat.lt_or_ge k w.heap.size with h1 | h1
    · rw [ht.block k h1 (fun e => by omega)]; exact h.block k hk
    · have : ¬ k < w0.heap.size := by have := h.size; omega
      rw [Array.getElem?_eq_none (by omega), ← h.block k hk, Array.getElem?_eq_none h1]⟩
theorem putC_below {w0 w : World} {B b : Nat} (h : Below B w0 w) (hB : B ≤ b) (v : Value) (y : Cfg) : Below B w0 (putC w b v y) := touch_below h hB (putC_touch w b v y) (putC_size w b v y)
/-- What a reader of configs answers. -/
def PlanK (w : World) (o : Option Cfg) (e : Ending) (w' : World) : Prop :=
  ∃ v, e = .returned (.tuple #[(o.getD Cfg.zero).v v, .int .i64 (if o.isSome then 0 else 13)]) ∧ OwnI w' w.heap.size v (o.getD Cfg.zero).insts ∧ Below w.heap.size w w'
theorem planK_none {w w' : World} (h : Below w.heap.size w w') : PlanK w none (.returned (.tuple #[.agg #[.slice none 0 0, .int .i64 0, .int .i64 0, .int .i64 0, .int .i64 0, .int .i64 0, .int .i64 0], .int .i64 13])) w' := ⟨_, rfl, ownL_nil _ _, h⟩
set_option maxRecDepth 8000 in
set_option maxHeartbeats 1000000 in
/-- No count, or none that a config has. -/
theorem rreadplan_count (A : Option Addr) (b : List Nat) (c : Nat) (w : World) (hB : Byts w A b) (hO : Oct b) (hl : b.length ≤ 1000000000000) (hn : match readN b 0 with | none => True | some (n, _) => ¬ (1 ≤ n ∧ n ≤ 6)) : Calls Tryz.prog 71 #[.slice A b.length c] w (PlanK w none) := by
  have CN := Lib.hid (fun W (h : Below w.heap.size w W) => rnum_any A b c 0 W (hB.below h) hO hl (by omega))
  have HB0 : Hid (Below w.heap.size w (w.alloc (.cells (Cfg.zero.cells (.slice none 0 0)).toArray 31))) := Lib.hid ((Below.refl _ _).alloc (Nat.le_refl _) _)
  have CN1 := Lib.hid (CN.out _ HB0.out)
  rw [show ((0 : Nat) : Int) = 0 from rfl] at CN1
  simp only [Cfg.cells, Cfg.zero] at CN1
  generalize b.length = n at *
  cases hr : readN b 0 with
  | none =>
    rw [out_none hr] at CN1
    dsimp only at CN1
    clear hn hr hB hO CN
    go_enter Tryz.func71, Tryz.ntmps71
    go_wp2_with (go_at_call 89; (with_reducible refine CN1.out.mono ?_); rintro r _ ⟨rfl, rfl⟩)
    refine bodyPost_ret (v := .tuple #[.agg #[.slice none 0 0, .int .i64 0, .int .i64 0, .int .i64 0, .int .i64 0, .int .i64 0, .int .i64 0], .int .i64 13]) (by simp [results, Tryz.results71, go_sem]) rfl ?_
    exact planK_none ((Below.refl _ _).alloc (Nat.le_refl _) _)
  | some y =>
    obtain ⟨v, p⟩ := y
    rw [hr] at hn
    dsimp only at hn
    rw [out_some hr] at CN1
    dsimp only at CN1
    have hpp : decide ((p : Int) < 0) = false := by simp
    have hi := (readN_is hO hr).1
    clear hr hB hO CN
    by_cases h1 : v < 1
    · have d1 : decide (v < 1) = true := decide_eq_true h1
      go_enter Tryz.func71, Tryz.ntmps71
      go_wp2_with (go_at_call 89; (with_reducible refine CN1.out.mono ?_); rintro r _ ⟨rfl, rfl⟩)
      refine bodyPost_ret (v := .tuple #[.agg #[.slice none 0 0, .int .i64 0, .int .i64 0, .int .i64 0, .int .i64 0, .int .i64 0, .int .i64 0], .int .i64 13]) (by simp [results, Tryz.results71, go_sem]) rfl ?_
      exact planK_none ((Below.refl _ _).alloc (Nat.le_refl _) _)
    · have d1 : decide (v < 1) = false := decide_eq_false h1
      have d2 : decide (6 < v) = true := decide_eq_true (by omega)
      go_enter Tryz.func71, Tryz.ntmps71
      go_wp2_with (go_at_call 89; (with_reducible refine CN1.out.mono ?_); rintro r _ ⟨rfl, rfl⟩)
      refine bodyPost_ret (v := .tuple #[.agg #[.slice none 0 0, .int .i64 0, .int .i64 0, .int .i64 0, .int .i64 0, .int .i64 0, .int .i64 0], .int .i64 13]) (by simp [results, Tryz.results71, go_sem]) rfl ?_
      exact planK_none ((Below.refl _ _).alloc (Nat.le_refl _) _)
end Go.Proofs.YtmpipjangbedkaaGreat

/-
  Slices of structs of the call's own: append of several, literals of several.
-/
namespace Go.Proofs.YtmpipjangbedkaaGreat
set_option maxRecDepth 8000
open Go Go.RowKit
set_option linter.unusedVariables false

section
variable {α : Type} {enc : α → List Value} {t e : TypeId} {sz bts : Nat} {w w' : World} {base base' : Nat} {v v' : Value} {l : List α} {X : Nat → Prop}
theorem Lay.flat (hL : Lay enc t e sz bts) : ∀ ys : List α, (ys.flatMap enc).length = ys.length * sz := by
  intro ys
  induction ys with
  | nil => simp
  | cons y ys ih => rw [List.flatMap_cons, List.length_append, ih, hL.len, List.length_cons, Nat.succ_mul, Nat.add_comm]
/-- A literal of several. -/
theorem ownL_lit (hL : Lay enc t e sz bts) (w : World) (base : Nat) (cs : Array Value) (ys : List α) (hb : base ≤ w.heap.size) (hm : ys.length ≤ 1000000000) (hs : cs.toList = ys.flatMap enc) (n : Nat) (hn : n = w.heap.size) (k : Nat) (hk : k = ys.length) : OwnL enc e sz (w.alloc (.cells cs e)) base (.slice (some ⟨n, 0, none⟩) k k) ys := by
  subst hn; subst hk
  unfold OwnL
  rw [← hs]
  exact World.ownsRow_lit w cs ys.length hb (by unfold maxLen; omega) (by rw [← Array.length_toList, hs, hL.flat])
/-- The run of an append of several. -/
theorem run_appLs (hL : Lay enc t e sz bts) (w : World) (ty : TypeId) (base : Nat) (v : Value) (l : List α) (hown : OwnL enc e sz w base v l) (a : Addr) (m c : Nat) (ys : List α) (hm : m = ys.length) (hx : ∀ j u, (ys.flatMap enc)[j]? = some u → w.cell? (a.add j) = some u) (hb : (l.length + ys.length) * bts ≤ 140737488355328) (hl : l.length + ys.length ≤ 140737488355328) (hbase : base ≤ w.heap.size) :
    ∃ v' w', (Builtin.append_ #[t, t] ty #[v, .slice (some a) m c]).run Tryz.prog w = .ok v' w' ∧ OwnL enc e sz w' base v' (l ++ ys) ∧ w.grownBy w' v.ownBlock ∧ Moved w v v' := by
  subst hm
  obtain ⟨i, z, hi, hz, hs, hby, hzs⟩ := hL.info
  obtain ⟨v', w', h1, h2, h3, _, h5⟩ := run_append_own_at (P := Tryz.prog) w base t ty e i z sz bts hL.und hi hz hs hby hzs hL.pos v _ _ hown a ys.length c (ys.flatMap enc) (hL.flat ys) hx (fun u hu => by obtain ⟨y, _, hy⟩ := List.mem_flatMap.1 hu; exact hL.one y u hy) (by unfold maxLen; omega) hb hbase
  refine ⟨v', w', h1, ?_, h3, h5⟩
  unfold OwnL
  rw [List.length_append, List.flatMap_append]
  exact h2
theorem wpList_appLs (hL : Lay enc t e sz bts) {w : World} {ops : Array Oper} {rest : List Oper} {o : Oper} {a : Act} {Q : Exit → Act → World → Prop} (hgd : o.guard = none) (s x : Operand)
    (ho : o.op = .call { callee := .builtin .append, args := #[s, x], argTypes := #[t, t] }) (base : Nat) (v : Value) (l : List α) (hs : a.eval s = v) (hown : OwnL enc e sz w base v l)
    (ad : Addr) (m c : Nat) (ys : List α) (hm : m = ys.length) (hx : a.eval x = .slice (some ad) m c) (hy : ∀ j u, (ys.flatMap enc)[j]? = some u → w.cell? (ad.add j) = some u) (hb : (l.length + ys.length) * bts ≤ 140737488355328) (hl : l.length + ys.length ≤ 140737488355328) (hbase : base ≤ w.heap.size)
    (h : ∀ v' w', OwnL enc e sz w' base v' (l ++ ys) → w.grownBy w' v.ownBlock → Moved w v v' → wpList Tryz.prog ops Q rest (a.put o.dst v') w') : wpList Tryz.prog ops Q (o :: rest) a w := by
  refine wpList_plain hgd fun _ hK => ?_
  obtain ⟨v', w', hr, h2, h3, h4⟩ := run_appLs hL w o.type base v l hown ad m c ys hm hy hb hl hbase
  unfold Oper.wp execOp
  simp only [ho, resolve, invoke, builtin, Sem.run_bind, Sem.run_pure, Result.andThen_ok, List.map_toArray, List.map_cons, List.map_nil, hs, hx, hr]
  exact hK _ _ (h v' w' h2 h3 h4)
end
end Go.Proofs.YtmpipjangbedkaaGreat
