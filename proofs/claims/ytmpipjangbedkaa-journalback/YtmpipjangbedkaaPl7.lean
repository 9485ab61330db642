/-
  Reading a config: the numbers behind one another; what is put is read and nothing else is.
-/
import Derived.Test.YtmpipjangbedkaaMDag4
import Derived.Test.YtmpipjangbedkaaMEv6
namespace Go.Proofs.Ytmpipjangbedkaa
set_option maxRecDepth 8000
open Go Go.RowKit
set_option linter.unusedVariables false

/-- So many numbers, from a place on. -/
def rdL (b : List Nat) : Nat → Nat → Option (List Int × Nat)
  | 0, a => some ([], a)
  | k + 1, a => match readN b a with
    | none => none
    | some (v, p) => (rdL b k p).map fun x => (v :: x.1, x.2)
theorem rdL_none {b : List Nat} {k a : Nat} (h : readN b a = none) : rdL b (k + 1) a = none := by rw [rdL, h]
theorem rdL_some {b : List Nat} {k a p : Nat} {v : Int} (h : readN b a = some (v, p)) : rdL b (k + 1) a = (rdL b k p).map fun x => (v :: x.1, x.2) := by rw [rdL, h]
/-- Some numbers read ahead. -/
def preL (l : List Int) (o : Option (List Int × Nat)) : Option (List Int × Nat) := o.map fun x => (l ++ x.1, x.2)
theorem preL_nil (o : Option (List Int × Nat)) : preL [] o = o := by cases o <;> rfl
theorem preL_some {b : List Nat} {k a p : Nat} {v : Int} (l : List Int) (h : readN b a = some (v, p)) : preL l (rdL b (k + 1) a) = preL (l ++ [v]) (rdL b k p) := by
  rw [rdL_some h]
  unfold preL
  rw [Option.map_map]
  congr 1
  funext x
  simp
theorem rdL_put {b : List Nat} : ∀ (l : List Int) (a : Nat) (r : List Nat), (∀ x ∈ l, I64 x) → b.drop a = l.flatMap numB ++ r → rdL b l.length a = some (l, a + (l.flatMap numB).length) := by
  intro l
  induction l with
  | nil => intro a r _ _; rfl
  | cons x l ih =>
    intro a r hx h
    rw [List.flatMap_cons, List.append_assoc] at h
    have h1 := readN_put (hx x (List.mem_cons_self ..)) h
    have h2 : b.drop (a + (numB x).length) = l.flatMap numB ++ r := by
      rw [← List.drop_drop, h, List.drop_left]
    rw [List.length_cons, rdL_some h1, ih _ r (fun y hy => hx y (List.mem_cons_of_mem _ hy)) h2, List.flatMap_cons, List.length_append, ← Nat.add_assoc]
    rfl
theorem rdL_is {b : List Nat} (hO : Oct b) : ∀ (k a p : Nat) (l : List Int), rdL b k a = some (l, p) → l.length = k ∧ (∀ x ∈ l, I64 x) ∧ b.drop a = l.flatMap numB ++ b.drop p ∧ (a ≤ b.length → p ≤ b.length) := by
  intro k
  induction k with
  | zero =>
    intro a p l h
    rw [rdL] at h
    injection h with h
    injection h with h1 h2
    subst h1; subst h2
    exact ⟨rfl, fun _ h => (List.not_mem_nil h).elim, rfl, id⟩
  | succ k ih =>
    intro a p l h
    cases hr : readN b a with
    | none => rw [rdL_none hr] at h; cases h
    | some y =>
      obtain ⟨v, q⟩ := y
      rw [rdL_some hr] at h
      cases hq : rdL b k q with
      | none => rw [hq] at h; cases h
      | some z =>
        obtain ⟨l', p'⟩ := z
        rw [hq] at h
        injection h with h
        injection h with h1 h2
        subst h1; subst h2
        obtain ⟨i1, i2, i3, i4⟩ := ih _ _ _ hq
        obtain ⟨j1, j2, j3, j4⟩ := readN_is hO hr
        refine ⟨by simp [i1], ?_, ?_, fun _ => i4 j4⟩
        · intro x hx
          rcases List.mem_cons.1 hx with rfl | hx
          · exact j1
          · exact i2 x hx
        · rw [j2, i3, List.flatMap_cons, List.append_assoc]
/-- An instrument's numbers; a config's. -/
def four (x : Ins) : List Int := [x.bucket, x.price, x.rate, x.slip]
def numsC (c : Cfg) : List Int := c.insts.flatMap four ++ restL c
/-- The i-th instrument of such numbers; the first n; the config. -/
def insAt (l : List Int) (i : Nat) : Ins := ⟨l.getD (4 * i) 0, l.getD (4 * i + 1) 0, l.getD (4 * i + 2) 0, l.getD (4 * i + 3) 0⟩
def insL (l : List Int) (n : Nat) : List Ins := (List.range n).map (insAt l)
def cfgL (l : List Int) (n : Nat) : Cfg := { insts := insL l n, skin := l.getD (4 * n) 0, times := l.getD (4 * n + 1) 0, port := l.getD (4 * n + 2) 0, bid := l.getD (4 * n + 3) 0, lot := l.getD (4 * n + 4) 0, hedge := l.getD (4 * n + 5) 0 }
theorem insL_succ (l : List Int) (n : Nat) : insL l (n + 1) = insL l n ++ [insAt l n] := by
  unfold insL
  rw [List.range_succ, List.map_append]
  rfl
theorem insL_len (l : List Int) (n : Nat) : (insL l n).length = n := by unfold insL; simp
theorem flat_four : ∀ l : List Ins, (l.flatMap four).flatMap numB = l.flatMap insB := by
  intro l
  induction l with
  | nil => rfl
  | cons x l ih =>
    rw [List.flatMap_cons, List.flatMap_append, ih, List.flatMap_cons]
    congr 1
    unfold four insB
    simp
theorem planB_nums (c : Cfg) : planB c 6 = numB (c.insts.length : Int) ++ (numsC c).flatMap numB := by
  unfold planB frontB numsC
  rw [List.flatMap_append, flat_four, List.take_length, List.append_assoc]
  rfl
theorem four_len : ∀ l : List Ins, (l.flatMap four).length = 4 * l.length := by
  intro l
  induction l with
  | nil => rfl
  | cons x l ih => rw [List.flatMap_cons, List.length_append, ih, List.length_cons]; show 4 + _ = _; omega
theorem numsC_len (c : Cfg) : (numsC c).length = 4 * c.insts.length + 6 := by
  unfold numsC
  rw [List.length_append, four_len]
  rfl
theorem four_at : ∀ (l : List Ins) (r : List Int) (i : Nat), i < l.length → insAt (l.flatMap four ++ r) i = l.getD i Ins.zero := by
  intro l
  induction l with
  | nil => intro r i h; simp at h
  | cons x l ih =>
    intro r i h
    rw [List.flatMap_cons, List.append_assoc]
    cases i with
    | zero => rfl
    | succ i =>
      have := ih r i (by simpa using h)
      rw [List.getD_cons_succ, ← this]
      unfold insAt
      rw [show 4 * (i + 1) = 4 * i + 4 from by omega]
      unfold four
      rfl
theorem cfgL_nums (c : Cfg) : cfgL (numsC c) c.insts.length = c := by
  have h0 : insL (numsC c) c.insts.length = c.insts := by
    refine List.ext_getElem (insL_len _ _) fun i h1 h2 => ?_
    have := four_at c.insts (restL c) i h2
    rw [List.getD_eq_getElem?_getD, List.getElem?_eq_getElem h2] at this
    have e : (insL (numsC c) c.insts.length)[i] = insAt (numsC c) i := by simp only [insL, List.getElem_map, List.getElem_range]
    rw [e]
    exact this
  have hr : ∀ j, (numsC c).getD (4 * c.insts.length + j) 0 = (restL c).getD j 0 := fun j => by
    unfold numsC
    rw [List.getD_eq_getElem?_getD, List.getElem?_append_right (by rw [four_len]; omega), four_len, Nat.add_sub_cancel_left, ← List.getD_eq_getElem?_getD]
  have h00 := hr 0
  rw [Nat.add_zero] at h00
  unfold cfgL
  rw [h0, h00, hr 1, hr 2, hr 3, hr 4, hr 5]
  rfl
theorem getD_at {l : List Int} {i : Nat} (h : i < l.length) : l.getD i 0 = l[i] := by rw [List.getD_eq_getElem?_getD, List.getElem?_eq_getElem h]; rfl
theorem insL_four (l : List Int) : ∀ n, 4 * n ≤ l.length → (insL l n).flatMap four = l.take (4 * n) := by
  intro n
  induction n with
  | zero => intro _; rfl
  | succ n ih =>
    intro h
    rw [insL_succ, List.flatMap_append, ih (by omega), show 4 * (n + 1) = 4 * n + 1 + 1 + 1 + 1 from by omega]
    rw [List.take_succ_eq_append_getElem (i := 4 * n + 1 + 1 + 1) (by omega), List.take_succ_eq_append_getElem (i := 4 * n + 1 + 1) (by omega), List.take_succ_eq_append_getElem (i := 4 * n + 1) (by omega), List.take_succ_eq_append_getElem (i := 4 * n) (by omega)]
    simp only [List.append_assoc]
    congr 1
    unfold insAt four
    simp only [List.flatMap_cons, List.flatMap_nil]
    rw [getD_at (i := 4 * n) (by omega), getD_at (i := 4 * n + 1) (by omega), getD_at (i := 4 * n + 2) (by omega), getD_at (i := 4 * n + 3) (by omega)]
    rfl
theorem numsC_cfgL {l : List Int} {n : Nat} (h : l.length = 4 * n + 6) : numsC (cfgL l n) = l := by
  show (insL l n).flatMap four ++ restL (cfgL l n) = l
  rw [insL_four l n (by omega)]
  have h2 : restL (cfgL l n) = l.drop (4 * n) := by
    refine ints_all (by rw [List.length_drop, h]; show 6 = _; omega) fun i hi => ?_
    have hi6 : i < 6 := hi
    rw [show (l.drop (4 * n)).getD i 0 = l.getD (4 * n + i) 0 from by rw [List.getD_eq_getElem?_getD, List.getElem?_drop, ← List.getD_eq_getElem?_getD]]
    rcases (by omega : i = 0 ∨ i = 1 ∨ i = 2 ∨ i = 3 ∨ i = 4 ∨ i = 5) with rfl | rfl | rfl | rfl | rfl | rfl <;> rfl
  rw [h2, List.take_append_drop]
/-- What ReadPlan tells. -/
def readP (b : List Nat) : Option Cfg := match readN b 0 with
  | none => none
  | some (n, a) => if 1 ≤ n ∧ n ≤ 6 then (match rdL b (4 * n.toNat + 6) a with
    | none => none
    | some (l, p) => if p = b.length ∧ planOk (cfgL l n.toNat) = true then some (cfgL l n.toNat) else none) else none
theorem nums_i64 {c : Cfg} (h : CfgI c) : ∀ x ∈ numsC c, I64 x := by
  intro x hx
  rcases List.mem_append.1 hx with hx | hx
  · obtain ⟨y, hy, hx⟩ := List.mem_flatMap.1 hx
    obtain ⟨a0, a1, a2, a3⟩ := h.insts y hy
    unfold four at hx
    simp only [List.mem_cons, List.not_mem_nil, or_false] at hx
    rcases hx with rfl | rfl | rfl | rfl <;> assumption
  · exact restL_i64 h x hx
theorem readP_put {c : Cfg} (ok : CfgI c) (h : planOk c = true) : readP (planB c 6) = some c := by
  have hn : 1 ≤ c.insts.length ∧ c.insts.length ≤ 6 := Decidable.byContradiction fun hc => by rw [plan_len hc] at h; cases h
  have h1 : readN (planB c 6) 0 = some ((c.insts.length : Int), 0 + (numB (c.insts.length : Int)).length) := readN_put (r := (numsC c).flatMap numB) (by unfold I64; omega) (by rw [List.drop_zero, planB_nums])
  have h2 := rdL_put (b := planB c 6) (numsC c) (0 + (numB (c.insts.length : Int)).length) [] (nums_i64 ok) (by rw [planB_nums, Nat.zero_add, List.drop_left, List.append_nil])
  unfold readP
  rw [h1]
  simp only
  rw [if_pos ⟨by omega, by omega⟩, Int.toNat_natCast, ← numsC_len, h2]
  simp only
  rw [cfgL_nums, if_pos ⟨by rw [planB_nums, List.length_append]; omega, h⟩]
theorem readP_is {b : List Nat} (hO : Oct b) {c : Cfg} (h : readP b = some c) : CfgI c ∧ planOk c = true ∧ planB c 6 = b := by
  unfold readP at h
  cases hr : readN b 0 with
  | none => rw [hr] at h; cases h
  | some y =>
    obtain ⟨n, a⟩ := y
    rw [hr] at h
    simp only at h
    by_cases hn : 1 ≤ n ∧ n ≤ 6
    · rw [if_pos hn] at h
      cases hl : rdL b (4 * n.toNat + 6) a with
      | none => rw [hl] at h; cases h
      | some z =>
        obtain ⟨l, p⟩ := z
        rw [hl] at h
        simp only at h
        by_cases hp : p = b.length ∧ planOk (cfgL l n.toNat) = true
        · rw [if_pos hp] at h
          injection h with h
          obtain ⟨i1, i2, i3, i4⟩ := rdL_is hO _ _ _ _ hl
          obtain ⟨j1, j2, j3, j4⟩ := readN_is hO hr
          have hnc : numsC c = l := by rw [← h]; exact numsC_cfgL i1
          have hlen : c.insts.length = n.toNat := by rw [← h]; exact insL_len _ _
          have hg : ∀ i, I64 (l.getD i 0) := fun i => by
            by_cases hi : i < l.length
            · rw [getD_at hi]; exact i2 _ (List.getElem_mem hi)
            · rw [List.getD_eq_getElem?_getD, List.getElem?_eq_none (by omega)]; unfold I64; simp
          refine ⟨?_, h ▸ hp.2, ?_⟩
          · subst h
            refine ⟨fun x hx => ?_, hg _, hg _, hg _, hg _, hg _, hg _⟩
            obtain ⟨i, _, rfl⟩ := List.mem_map.1 hx
            exact ⟨hg _, hg _, hg _, hg _⟩
          · rw [planB_nums, hnc, hlen, show ((n.toNat : Nat) : Int) = n from by omega]
            rw [List.drop_zero] at j2
            rw [i3, hp.1, List.drop_length, List.append_nil] at j2
            exact j2.symm
        · rw [if_neg hp] at h; cases h
    · rw [if_neg hn] at h; cases h
end Go.Proofs.Ytmpipjangbedkaa
