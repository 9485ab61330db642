import Derived.Test.YtmpipjangbedkaaInv
import Derived.Test.YtmpipjangbedkaaMBst
import Derived.Test.YtmpipjangbedkaaMDk1
/-
  A law for regions that draw their order, calls among them: of each operation is told what holds of its value, given what holds of those that it waits for; nothing is asked of the order. No program is named here.
-/
namespace Go.Proofs.Ytmpipjangbedkaa
set_option maxRecDepth 8000
open Go

section
variable {P : Program} {Q : Exit → Act → World → Prop}
/-- The value of an operation, where it has a slot. -/
def valOf (a : Act) (o : Oper) : Value := match o.dst with
  | some d => a.tmps.getD d undef
  | none => undef
/-- No two operations have the same slot. -/
def disB : List Oper → Bool
  | [] => true
  | o :: r => (match o.dst with | none => true | some d => r.all fun o' => o'.dst != some d) && disB r
theorem disB_get : ∀ {l : List Oper}, disB l = true → ∀ (i j : Nat) (o o' : Oper) (d : Nat), l[i]? = some o → l[j]? = some o' → o.dst = some d → o'.dst = some d → i = j
  | [], _, i, j, o, o', d, h, _, _, _ => by simp at h
  | x :: r, hd, i, j, o, o', d, hi, hj, ho, ho' => by
    unfold disB at hd
    rw [Bool.and_eq_true] at hd
    cases i with
    | zero =>
      have e : x = o := by simpa using hi
      subst e
      cases j with
      | zero => rfl
      | succ j =>
        have h1 := hd.1
        rw [ho] at h1
        have h2 := List.all_eq_true.1 h1 o' (List.mem_of_getElem? (by simpa using hj))
        rw [ho'] at h2
        simp at h2
    | succ i =>
      cases j with
      | zero =>
        have e : x = o' := by simpa using hj
        subst e
        have h1 := hd.1
        rw [ho'] at h1
        have h2 := List.all_eq_true.1 h1 o (List.mem_of_getElem? (by simpa using hi))
        rw [ho] at h2
        simp at h2
      | succ j =>
        have := disB_get hd.2 i j o o' d (by simpa using hi) (by simpa using hj) ho ho'
        omega
/-- The slots are among D, and within the frame. -/
def inB (D : List Nat) (n : Nat) (l : List Oper) : Bool := l.all fun o => match o.dst with | none => true | some d => D.contains d && decide (d < n)
/-- What an operation must do. -/
def StepD (P : Program) (ops : Array Oper) (Q : Exit → Act → World → Prop) (D : List Nat) (a0 : Act) (Gr : World → World → Prop) (Wp : World → Prop) (Pv : Nat → Value → World → Prop) (i : Nat) (o : Oper) : Prop :=
  ∀ (a : Act) (W : World) (K : Act → World → Prop), Off D a0 a → Wp W → (∀ e ∈ o.after, Region.binds .any e = true → ∀ o', ops[e.on]? = some o' → Pv e.on (valOf a o') W) →
    (∀ v W', Gr W W' → Wp W' → Pv i (match o.dst with | some _ => v | none => undef) W' → K (a.put o.dst v) W') →
    if Region.wanted o (yielded ops a.tmps) = true then Oper.wp P o a W K Q else K (a.put o.dst undef) W
def StepsD (P : Program) (ops : Array Oper) (Q : Exit → Act → World → Prop) (D : List Nat) (a0 : Act) (Gr : World → World → Prop) (Wp : World → Prop) (Pv : Nat → Value → World → Prop) : Nat → List Oper → Prop
  | _, [] => True
  | i, o :: r => StepD P ops Q D a0 Gr Wp Pv i o ∧ StepsD P ops Q D a0 Gr Wp Pv (i + 1) r
theorem StepsD.get {ops : Array Oper} {D : List Nat} {a0 : Act} {Gr : World → World → Prop} {Wp : World → Prop} {Pv : Nat → Value → World → Prop} : ∀ {l : List Oper} {k : Nat}, StepsD P ops Q D a0 Gr Wp Pv k l → ∀ (j : Nat) (o : Oper), l[j]? = some o → StepD P ops Q D a0 Gr Wp Pv (k + j) o
  | [], _, _, j, o, hj => by simp at hj
  | x :: r, k, h, 0, o, hj => by
    have : x = o := by simpa using hj
    subst this
    exact h.1
  | x :: r, k, h, j + 1, o, hj => by
    have := StepsD.get h.2 j o (by simpa using hj)
    rw [show k + (j + 1) = k + 1 + j from by omega]
    exact this
theorem getD_set_at {l : Array Bool} {i j : Nat} (h : (l.setIfInBounds i true).getD j false = true) : j = i ∨ l.getD j false = true := by
  by_cases e : j = i
  · exact .inl e
  · right
    rw [Array.getD_eq_getD_getElem?, Array.getElem?_setIfInBounds_ne (Ne.symm e), ← Array.getD_eq_getD_getElem?] at h
    exact h
/-- THE LAW. -/
theorem wp_region_dag {id : Nat} {a0 : Act} {w : World} {l : List Oper} (D : List Nat) (Gr : World → World → Prop) (Wp : World → Prop) (Pv : Nat → Value → World → Prop) (hm : P.follows .mixedOrders = true) (hac : acycB .any 0 l = true) (hdis : disB l = true) (hin : inB D a0.tmps.size l = true)
    (stable : ∀ i v W W', Gr W W' → Pv i v W → Pv i v W')
    (h0 : Wp { w with drawn := w.drawn + 1 })
    (hst : StepsD P l.toArray (NoPanic Q) D a0 Gr Wp Pv 0 l)
    (hend : ∀ (a : Act) (W : World), Off D a0 a → Wp W → (∀ (i : Nat) (o : Oper), l[i]? = some o → Pv i (valOf a o) W) → Q .normal a W) : (Code.region id l.toArray true).wp P Q a0 w := by
  refine wp_region_inv (fun listed a W => Off D a0 a ∧ Wp W ∧ ∀ (i : Nat) (o : Oper), l[i]? = some o → listed.getD i false = true → Pv i (valOf a o) W) hm hac ⟨Off.refl _ _, h0, fun i o _ h => ?_⟩ ?_ (fun listed a W hJ hall => hend a W hJ.1 hJ.2.1 fun i o ho => hJ.2.2 i o ho (hall i (List.getElem?_eq_some_iff.1 ho).1))
  · rw [Array.getD_eq_getD_getElem?, Array.getElem?_replicate] at h
    split at h <;> simp at h
  · have key : ∀ (j : Nat) (o : Oper), l[j]? = some o → StepI P .any l.toArray (NoPanic Q) (fun listed a W => Off D a0 a ∧ Wp W ∧ ∀ (i : Nat) (o : Oper), l[i]? = some o → listed.getD i false = true → Pv i (valOf a o) W) j o := by
      intro i o ho listed a W hJ hl hafter K' hK'
      have hs := hst.get i o ho
      rw [Nat.zero_add] at hs
      refine hs a W K' hJ.1 hJ.2.1 (fun e he hb o' ho' => hJ.2.2 e.on o' (by simpa using ho') (hafter e he hb)) ?_
      intro v W' hg hw hp
      have hi := List.all_eq_true.1 hin o (List.mem_of_getElem? ho)
      refine hK' _ _ ⟨?_, hw, fun j o' ho' hj => ?_⟩
      · cases hd : o.dst with
        | none => exact hJ.1
        | some d =>
          rw [hd] at hi
          simp only [Bool.and_eq_true, List.contains_iff_mem] at hi
          exact hJ.1.put hi.1 v
      · rcases getD_set_at hj with rfl | hj
        · rw [ho] at ho'
          injection ho' with e
          subst e
          unfold valOf
          cases hd : o.dst with
          | none => rw [hd] at hp; exact hp
          | some d =>
            rw [hd] at hp hi
            simp only [Bool.and_eq_true, decide_eq_true_eq] at hi
            simp only [Act.put]
            rw [vget_at _ _ (by rw [hJ.1.size]; exact hi.2)]
            exact hp
        · have h1 := stable _ _ _ _ hg (hJ.2.2 j o' ho' hj)
          have e : valOf (a.put o.dst v) o' = valOf a o' := by
            unfold valOf
            cases hd' : o'.dst with
            | none => rfl
            | some d' =>
              cases hd : o.dst with
              | none => rfl
              | some d =>
                simp only [Act.put]
                refine vget_ne _ _ fun e => ?_
                subst e
                have e2 := disB_get hdis i j o o' _ ho ho' hd hd'
                subst e2
                have h3 : listed.getD i true = false := hl
                have h4 : i < listed.size := lt_of_unl h3
                rw [Array.getD_eq_getD_getElem?, Array.getElem?_eq_getElem h4] at h3 hj
                simp at h3 hj
                rw [h3] at hj
                cases hj
          rw [e]
          exact h1
    exact (by
      have gen : ∀ (r : List Oper) (k : Nat), (∀ (j : Nat) (o : Oper), r[j]? = some o → StepI P .any l.toArray (NoPanic Q) (fun listed a W => Off D a0 a ∧ Wp W ∧ ∀ (i : Nat) (o : Oper), l[i]? = some o → listed.getD i false = true → Pv i (valOf a o) W) (k + j) o) → StepsI P .any l.toArray (NoPanic Q) (fun listed a W => Off D a0 a ∧ Wp W ∧ ∀ (i : Nat) (o : Oper), l[i]? = some o → listed.getD i false = true → Pv i (valOf a o) W) k r := by
        intro r
        induction r with
        | nil => intro k _; trivial
        | cons x r ih =>
          intro k h
          refine ⟨by have := h 0 x (by simp); simpa using this, ih (k + 1) fun j o hj => ?_⟩
          have := h (j + 1) o (by simpa using hj)
          rw [show k + 1 + j = k + (j + 1) from by omega]
          exact this
      exact gen l 0 fun j o hj => by rw [Nat.zero_add]; exact key j o hj)
end
end Go.Proofs.Ytmpipjangbedkaa

/-
  What is told of a value in a drawn region (for the law of Dag): that it is this one, or anything that lasts. No program's function is named here, but for bytes as a string.
-/
namespace Go.Proofs.Ytmpipjangbedkaa
set_option maxRecDepth 8000
open Go Go.RowKit

/-- Something that is told of a value, and lasts. -/
structure SpP where
  p : Value → World → Prop
  st : ∀ v W W', Below W.heap.size W W' → p v W → p v W'
def SpP.val (u : Value) : SpP := ⟨fun v _ => v = u, fun _ _ _ _ h => h⟩
/-- A slice of these bytes. -/
def SpP.byt (l : List Nat) : SpP := ⟨fun v W => ∃ A n c, v = .slice A n c ∧ n = l.length ∧ Byts W A l, fun _ _ _ hb h => by obtain ⟨A, n, c, e, hn, h⟩ := h; exact ⟨A, n, c, e, hn, h.below hb⟩⟩
/-- What is told of the i-th operation. -/
def spAt (l : List SpP) (i : Nat) (v : Value) (W : World) : Prop := (l.getD i (.val undef)).p v W
theorem spAt_st (l : List SpP) (i : Nat) (v : Value) (W W' : World) (hb : Below W.heap.size W W') (h : spAt l i v W) : spAt l i v W' := (l.getD i (.val undef)).st v W W' hb h
theorem wanted_at {ops : Array Oper} {D : List Nat} {a0 a : Act} {o og : Oper} {g d : Nat} {b : Bool} (ho : Off D a0 a) (hg : o.guard = some (g, b)) (hog : ops[g]? = some og) (hd : og.dst = some d) (hs : d < a0.tmps.size) (hv : a.tmps.getD d undef = .bool b) : Region.wanted o (yielded ops a.tmps) = true := by
  have hs' : d < a.tmps.size := by rw [ho.size]; exact hs
  have hv' : a.tmps[d]? = some (.bool b) := by
    rw [Array.getD_eq_getD_getElem?, Array.getElem?_eq_getElem hs'] at hv
    rw [Array.getElem?_eq_getElem hs']
    simpa using hv
  unfold Region.wanted yielded
  simp [hg, hog, hd, hv']
theorem wanted_none {ops : Array Oper} {a : Act} {o : Oper} (hg : o.guard = none) : Region.wanted o (yielded ops a.tmps) = true := by
  unfold Region.wanted
  rw [hg]
theorem own_byt {w : World} {base : Nat} {v : Value} {l : List Nat} (h : OwnB w base v l) : (SpP.byt l).p v w := by
  obtain ⟨A, c, rfl, hB, _⟩ := h.form
  exact ⟨A, _, c, rfl, rfl, hB⟩
theorem wf_i64 {n : Int} (h : (Lit.int .i64 n).wf = true) : I64 n := by unfold I64; simp [Lit.wf, IntKind.min, IntKind.max, IntKind.bits, IntKind.signed] at h; omega
end Go.Proofs.Ytmpipjangbedkaa

/-
  Configs of any numbers, in memory; the walks of the reference's within, RightPlan.
-/
namespace Go.Proofs.Ytmpipjangbedkaa
set_option maxRecDepth 8000
open Go Go.RowKit
set_option linter.unusedVariables false

def Ins.zero : Ins := ⟨0, 0, 0, 0⟩
/-- Instruments, one behind the other (nothing is asked of no instruments' address). -/
def InsM (W : World) (A : Option Addr) (l : List Ins) : Prop :=
  0 < l.length → ∃ b off, A = some ⟨b, off, none⟩ ∧ ∀ i, i < l.length → W.cell? ⟨b, off + i * 4, none⟩ = some (.int .i64 (l.getD i Ins.zero).bucket) ∧ W.cell? ⟨b, off + i * 4 + 1, none⟩ = some (.int .i64 (l.getD i Ins.zero).price) ∧ W.cell? ⟨b, off + i * 4 + 2, none⟩ = some (.int .i64 (l.getD i Ins.zero).rate) ∧ W.cell? ⟨b, off + i * 4 + 3, none⟩ = some (.int .i64 (l.getD i Ins.zero).slip)
theorem InsM.below {W W' : World} {A : Option Addr} {l : List Ins} (h : InsM W A l) (hb : Below W.heap.size W W') : InsM W' A l := by
  intro h0
  obtain ⟨b, off, e, hc⟩ := h h0
  refine ⟨b, off, e, fun i hi => ?_⟩
  obtain ⟨c0, c1, c2, c3⟩ := hc i hi
  exact ⟨(hb.cell (p := ⟨b, off + i * 4, none⟩) (block_lt c0)).trans c0, (hb.cell (p := ⟨b, off + i * 4 + 1, none⟩) (block_lt c1)).trans c1, (hb.cell (p := ⟨b, off + i * 4 + 2, none⟩) (block_lt c2)).trans c2, (hb.cell (p := ⟨b, off + i * 4 + 3, none⟩) (block_lt c3)).trans c3⟩
/-- Within bounds. -/
def wIn (n lo hi : Int) : Bool := decide (lo ≤ n) && decide (n ≤ hi)
def insOk (x : Ins) : Bool := wIn x.bucket 0 3 && (wIn x.price 1 1000000000000 && (wIn x.rate 0 1000000000 && wIn x.slip 0 1000000000))
def restOk (c : Cfg) : Bool := decide (0 ≤ c.skin) && (wIn c.times 0 4 && (wIn c.port 0 1000000 && (wIn c.bid 0 1000000 && (wIn c.lot 1 4611686018427387904 && decide (0 ≤ c.hedge)))))
/-- Is a config right? -/
def planOk (c : Cfg) : Bool := (decide (1 ≤ c.insts.length) && decide (c.insts.length ≤ 6)) && (c.insts.all insOk && restOk c)
theorem plan_len {c : Cfg} (h : ¬ (1 ≤ c.insts.length ∧ c.insts.length ≤ 6)) : planOk c = false := by
  unfold planOk
  by_cases h1 : 1 ≤ c.insts.length
  · rw [decide_eq_true h1, decide_eq_false (fun h2 => h ⟨h1, h2⟩)]; rfl
  · rw [decide_eq_false h1]; rfl
theorem plan_ins {c : Cfg} {i : Nat} (hi : i < c.insts.length) (h : insOk (c.insts.getD i Ins.zero) = false) : planOk c = false := by
  unfold planOk
  have : c.insts.all insOk = false := by
    rw [List.all_eq_false]
    exact ⟨c.insts[i], List.getElem_mem hi, by rw [List.getD_eq_getElem?_getD, List.getElem?_eq_getElem hi] at h; simp at h; simp [h]⟩
  rw [this]
  simp
theorem plan_all {c : Cfg} (h : 1 ≤ c.insts.length ∧ c.insts.length ≤ 6) (hi : ∀ i, i < c.insts.length → insOk (c.insts.getD i Ins.zero) = true) : planOk c = restOk c := by
  unfold planOk
  have : c.insts.all insOk = true := by
    rw [List.all_eq_true]
    intro x hx
    obtain ⟨i, hi', rfl⟩ := List.getElem_of_mem hx
    have := hi i hi'
    rw [List.getD_eq_getElem?_getD, List.getElem?_eq_getElem hi'] at this
    exact this
  rw [this, decide_eq_true h.1, decide_eq_true h.2]
  rfl
end Go.Proofs.Ytmpipjangbedkaa

/-
  The walk of the reference's RightPlan.
-/
namespace Go.Proofs.Ytmpipjangbedkaa
set_option maxRecDepth 8000
open Go Go.RowKit
set_option linter.unusedVariables false

/-- A config in a block of its own. -/
def CfAt (W : World) (b : Nat) (cf : Cfg) (v : Value) : Prop := Rec W b 28 (cf.cells v)
theorem CfAt.reads {W : World} {b : Nat} {cf : Cfg} {v : Value} (h : CfAt W b cf v) : W.cell? ⟨b, 0, none⟩ = some v ∧ W.cell? ⟨b, 1, none⟩ = some (.int .i64 cf.skin) ∧ W.cell? ⟨b, 2, none⟩ = some (.int .i64 cf.times) ∧ W.cell? ⟨b, 3, none⟩ = some (.int .i64 cf.port) ∧ W.cell? ⟨b, 4, none⟩ = some (.int .i64 cf.bid) ∧ W.cell? ⟨b, 5, none⟩ = some (.int .i64 cf.lot) ∧ W.cell? ⟨b, 6, none⟩ = some (.int .i64 cf.hedge) :=
  ⟨Rec.cell h 0 rfl, Rec.cell h 1 rfl, Rec.cell h 2 rfl, Rec.cell h 3 rfl, Rec.cell h 4 rfl, Rec.cell h 5 rfl, Rec.cell h 6 rfl⟩
theorem CfAt.keep {W W' : World} {b : Nat} {cf : Cfg} {v : Value} (h : CfAt W b cf v) (hb : Below W.heap.size W W') : CfAt W' b cf v := Rec.keep h hb
/-- Which of the instrument's bounds is broken first. -/
theorem ins_cases (x : Ins) : (wIn x.bucket 0 3 = false ∧ insOk x = false) ∨ (wIn x.bucket 0 3 = true ∧ wIn x.price 1 1000000000000 = false ∧ insOk x = false) ∨ (wIn x.bucket 0 3 = true ∧ wIn x.price 1 1000000000000 = true ∧ wIn x.rate 0 1000000000 = false ∧ insOk x = false) ∨ (wIn x.bucket 0 3 = true ∧ wIn x.price 1 1000000000000 = true ∧ wIn x.rate 0 1000000000 = true ∧ wIn x.slip 0 1000000000 = false ∧ insOk x = false) ∨ (wIn x.bucket 0 3 = true ∧ wIn x.price 1 1000000000000 = true ∧ wIn x.rate 0 1000000000 = true ∧ wIn x.slip 0 1000000000 = true ∧ insOk x = true) := by
  unfold insOk
  generalize wIn x.bucket 0 3 = a
  generalize wIn x.price 1 1000000000000 = b
  generalize wIn x.rate 0 1000000000 = c
  generalize wIn x.slip 0 1000000000 = d
  revert a b c d
  decide
theorem rest_cases (c : Cfg) : (¬ 0 ≤ c.skin ∧ restOk c = false) ∨ (0 ≤ c.skin ∧ wIn c.times 0 4 = false ∧ restOk c = false) ∨ (0 ≤ c.skin ∧ wIn c.times 0 4 = true ∧ wIn c.port 0 1000000 = false ∧ restOk c = false) ∨ (0 ≤ c.skin ∧ wIn c.times 0 4 = true ∧ wIn c.port 0 1000000 = true ∧ wIn c.bid 0 1000000 = false ∧ restOk c = false) ∨ (0 ≤ c.skin ∧ wIn c.times 0 4 = true ∧ wIn c.port 0 1000000 = true ∧ wIn c.bid 0 1000000 = true ∧ wIn c.lot 1 4611686018427387904 = false ∧ restOk c = false) ∨
    (0 ≤ c.skin ∧ wIn c.times 0 4 = true ∧ wIn c.port 0 1000000 = true ∧ wIn c.bid 0 1000000 = true ∧ wIn c.lot 1 4611686018427387904 = true ∧ ¬ 0 ≤ c.hedge ∧ restOk c = false) ∨ (0 ≤ c.skin ∧ wIn c.times 0 4 = true ∧ wIn c.port 0 1000000 = true ∧ wIn c.bid 0 1000000 = true ∧ wIn c.lot 1 4611686018427387904 = true ∧ 0 ≤ c.hedge ∧ restOk c = true) := by
  unfold restOk
  by_cases h1 : 0 ≤ c.skin <;> by_cases h2 : 0 ≤ c.hedge <;> simp only [h1, h2, decide_true, decide_false, not_true, not_false_iff, true_and, false_and] <;> generalize wIn c.times 0 4 = a <;> generalize wIn c.port 0 1000000 = b <;> generalize wIn c.bid 0 1000000 = d <;> generalize wIn c.lot 1 4611686018427387904 = e <;> revert a b d e <;> decide
end Go.Proofs.Ytmpipjangbedkaa
