import Derived.Test.YtmpipjangbedkaaDag3
import Derived.Test.YtmpipjangbedkaaPl7
import Derived.Test.YtmpipjangbedkaaMDk1
/-
  The law of drawn regions by what holds of each value, where what holds of the world may hang on which operations have come up. No program is named here.
-/
namespace Go.Proofs.Ytmpipjangbedkaa
set_option maxRecDepth 8000
open Go

section
variable {P : Program} {Q : Exit → Act → World → Prop}
/-- What an operation must do; L: which have come up. -/
def StepF (P : Program) (ops : Array Oper) (Q : Exit → Act → World → Prop) (D : List Nat) (a0 : Act) (Gr : World → World → Prop) (Wp : (Nat → Bool) → World → Prop) (Pv : Nat → Value → World → Prop) (i : Nat) (o : Oper) : Prop :=
  ∀ (a : Act) (W : World) (K : Act → World → Prop) (L : Nat → Bool), Off D a0 a → Wp L W → L i = false → (∀ e ∈ o.after, Region.binds .any e = true → L e.on = true) → (∀ e ∈ o.after, Region.binds .any e = true → ∀ o', ops[e.on]? = some o' → Pv e.on (valOf a o') W) →
    (∀ v W', Gr W W' → Wp (upd L i true) W' → Pv i (match o.dst with | some _ => v | none => undef) W' → K (a.put o.dst v) W') →
    if Region.wanted o (yielded ops a.tmps) = true then Oper.wp P o a W K Q else K (a.put o.dst undef) W
def StepsF (P : Program) (ops : Array Oper) (Q : Exit → Act → World → Prop) (D : List Nat) (a0 : Act) (Gr : World → World → Prop) (Wp : (Nat → Bool) → World → Prop) (Pv : Nat → Value → World → Prop) : Nat → List Oper → Prop
  | _, [] => True
  | i, o :: r => StepF P ops Q D a0 Gr Wp Pv i o ∧ StepsF P ops Q D a0 Gr Wp Pv (i + 1) r
theorem StepsF.get {ops : Array Oper} {D : List Nat} {a0 : Act} {Gr : World → World → Prop} {Wp : (Nat → Bool) → World → Prop} {Pv : Nat → Value → World → Prop} : ∀ {l : List Oper} {k : Nat}, StepsF P ops Q D a0 Gr Wp Pv k l → ∀ (j : Nat) (o : Oper), l[j]? = some o → StepF P ops Q D a0 Gr Wp Pv (k + j) o
  | [], _, _, j, o, hj => by simp at hj
  | x :: r, k, h, 0, o, hj => by
    have : x = o := by simpa using hj
    subst this
    exact h.1
  | x :: r, k, h, j + 1, o, hj => by
    have := StepsF.get h.2 j o (by simpa using hj)
    rw [show k + (j + 1) = k + 1 + j from by omega]
    exact this
/-- THE LAW. -/
theorem wp_region_dagF {id : Nat} {a0 : Act} {w : World} {l : List Oper} (D : List Nat) (Gr : World → World → Prop) (Wp : (Nat → Bool) → World → Prop) (Pv : Nat → Value → World → Prop) (hm : P.follows .mixedOrders = true) (hac : acycB .any 0 l = true) (hdis : disB l = true) (hin : inB D a0.tmps.size l = true)
    (stable : ∀ i v W W', Gr W W' → Pv i v W → Pv i v W')
    (h0 : Wp (fun _ => false) { w with drawn := w.drawn + 1 })
    (hst : StepsF P l.toArray (NoPanic Q) D a0 Gr Wp Pv 0 l)
    (hend : ∀ (a : Act) (W : World) (L : Nat → Bool), Off D a0 a → Wp L W → (∀ j, j < l.length → L j = true) → (∀ (i : Nat) (o : Oper), l[i]? = some o → Pv i (valOf a o) W) → Q .normal a W) : (Code.region id l.toArray true).wp P Q a0 w := by
  refine wp_region_inv (fun listed a W => Off D a0 a ∧ listed.size = l.toArray.size ∧ Wp (ups listed) W ∧ ∀ (i : Nat) (o : Oper), l[i]? = some o → listed.getD i false = true → Pv i (valOf a o) W) hm hac ⟨Off.refl _ _, by simp, by rw [ups_none]; exact h0, fun i o _ h => ?_⟩ ?_ (fun listed a W hJ hall => hend a W (ups listed) hJ.1 hJ.2.2.1 hall fun i o ho => hJ.2.2.2 i o ho (hall i (List.getElem?_eq_some_iff.1 ho).1))
  · rw [Array.getD_eq_getD_getElem?, Array.getElem?_replicate] at h
    split at h <;> simp at h
  · have key : ∀ (j : Nat) (o : Oper), l[j]? = some o → StepI P .any l.toArray (NoPanic Q) (fun listed a W => Off D a0 a ∧ listed.size = l.toArray.size ∧ Wp (ups listed) W ∧ ∀ (i : Nat) (o : Oper), l[i]? = some o → listed.getD i false = true → Pv i (valOf a o) W) j o := by
      intro i o ho listed a W hJ hl hafter K' hK'
      have hs := hst.get i o ho
      rw [Nat.zero_add] at hs
      have hlt := lt_of_unl hl
      refine hs a W K' (ups listed) hJ.1 hJ.2.2.1 (ups_unl hl) hafter (fun e he hb o' ho' => hJ.2.2.2 e.on o' (by simpa using ho') (hafter e he hb)) ?_
      intro v W' hg hw hp
      have hi := List.all_eq_true.1 hin o (List.mem_of_getElem? ho)
      refine hK' _ _ ⟨?_, by simpa using hJ.2.1, by rw [ups_set _ _ hlt]; exact hw, fun j o' ho' hj => ?_⟩
      · cases hd : o.dst with
        | none => exact hJ.1
        | some d =>
          rw [hd] at hi
          simp only [Bool.and_eq_true, List.contains_iff_mem] at hi
          exact hJ.1.put hi.1 v
      · rcases getD_set_at hj with rfl | hj
        · rw [ho] at ho'
          injection ho' with e
          subst e
          unfold valOf
          cases hd : o.dst with
          | none => rw [hd] at hp; exact hp
          | some d =>
            rw [hd] at hp hi
            simp only [Bool.and_eq_true, decide_eq_true_eq] at hi
            simp only [Act.put]
            rw [vget_at _ _ (by rw [hJ.1.size]; exact hi.2)]
            exact hp
        · have h1 := stable _ _ _ _ hg (hJ.2.2.2 j o' ho' hj)
          have e : valOf (a.put o.dst v) o' = valOf a o' := by
            unfold valOf
            cases hd' : o'.dst with
            | none => rfl
            | some d' =>
              cases hd : o.dst with
              | none => rfl
              | some d =>
                simp only [Act.put]
                refine vget_ne _ _ fun e => ?_
                subst e
                have e2 := disB_get hdis i j o o' _ ho ho' hd hd'
                subst e2
                have h3 : listed.getD i true = false := hl
                have h4 : i < listed.size := lt_of_unl h3
                rw [Array.getD_eq_getD_getElem?, Array.getElem?_eq_getElem h4] at h3 hj
                simp at h3 hj
                rw [h3] at hj
                cases hj
          rw [e]
          exact h1
    exact (by
      have gen : ∀ (r : List Oper) (k : Nat), (∀ (j : Nat) (o : Oper), r[j]? = some o → StepI P .any l.toArray (NoPanic Q) (fun listed a W => Off D a0 a ∧ listed.size = l.toArray.size ∧ Wp (ups listed) W ∧ ∀ (i : Nat) (o : Oper), l[i]? = some o → listed.getD i false = true → Pv i (valOf a o) W) (k + j) o) → StepsI P .any l.toArray (NoPanic Q) (fun listed a W => Off D a0 a ∧ listed.size = l.toArray.size ∧ Wp (ups listed) W ∧ ∀ (i : Nat) (o : Oper), l[i]? = some o → listed.getD i false = true → Pv i (valOf a o) W) k r := by
        intro r
        induction r with
        | nil => intro k _; trivial
        | cons x r ih =>
          intro k h
          refine ⟨by have := h 0 x (by simp); simpa using this, ih (k + 1) fun j o hj => ?_⟩
          have := h (j + 1) o (by simpa using hj)
          rw [show k + 1 + j = k + (j + 1) from by omega]
          exact this
      exact gen l 0 fun j o hj => by rw [Nat.zero_add]; exact key j o hj)
end
end Go.Proofs.Ytmpipjangbedkaa

/-
  Slices of int64s of the call's own; a config stored; what a reader of configs answers; reading no config.
-/
namespace Go.Proofs.Ytmpipjangbedkaa
set_option maxRecDepth 8000
open Go Go.RowKit
set_option linter.unusedVariables false

theorem out_some {b : List Nat} {a p : Nat} {v : Int} (h : readN b a = some (v, p)) : rdOut (rdn b a 10 0 0) = (v, (p : Int)) := by rw [rdOut_read, h]
theorem out_none {b : List Nat} {a : Nat} (h : readN b a = none) : rdOut (rdn b a 10 0 0) = (0, -1) := by rw [rdOut_read, h]
/-- A number in a slice of int64s. -/
def enc64 (i : Int) : List Value := [.int .i64 i]
theorem lay_64 : Lay enc64 88 2 1 8 := by
  refine ⟨Try.underlying88, ?_, by omega, fun _ => rfl, fun x u hu => ?_⟩
  · have h : (Try.prog.info? 2).map (fun i => (i.zero, i.size, i.bytes)) = some (some (.int .i64 0), 1, 8) := by kernel_rfl
    obtain ⟨i, h1, h2, h3, h4⟩ := parts_of h
    exact ⟨i, _, h1, h2, h3, h4, rfl⟩
  · simp [enc64] at hu
    subst hu; rfl
def Own64 (w : World) (base : Nat) (v : Value) (l : List Int) : Prop := OwnL enc64 2 1 w base v l
/-- A config is stored. -/
def putC (w : World) (b : Nat) (v : Value) (c : Cfg) : World := ((((((w.setCell ⟨b, 0, none⟩ v).setCell ⟨b, 1, none⟩ (.int .i64 c.skin)).setCell ⟨b, 2, none⟩ (.int .i64 c.times)).setCell ⟨b, 3, none⟩ (.int .i64 c.port)).setCell ⟨b, 4, none⟩ (.int .i64 c.bid)).setCell ⟨b, 5, none⟩ (.int .i64 c.lot)).setCell ⟨b, 6, none⟩ (.int .i64 c.hedge)
theorem putC_at {w : World} {b : Nat} {x : Cfg} {u : Value} (h : CfAt w b x u) (v : Value) (y : Cfg) : CfAt (putC w b v y) b y v := by
  have := ((((((Rec.set h 0 v).set 1 (.int .i64 y.skin)).set 2 (.int .i64 y.times)).set 3 (.int .i64 y.port)).set 4 (.int .i64 y.bid)).set 5 (.int .i64 y.lot)).set 6 (.int .i64 y.hedge)
  exact this
theorem putC_touch (w : World) (b : Nat) (v : Value) (y : Cfg) : Touch (fun k => k = b) w (putC w b v y) := by
  unfold putC
  refine (((((((Touch.setCell w ⟨b, 0, none⟩ _).trans (Touch.setCell _ ⟨b, 1, none⟩ _) ?_).trans (Touch.setCell _ ⟨b, 2, none⟩ _) ?_).trans (Touch.setCell _ ⟨b, 3, none⟩ _) ?_).trans (Touch.setCell _ ⟨b, 4, none⟩ _) ?_).trans (Touch.setCell _ ⟨b, 5, none⟩ _) ?_).trans (Touch.setCell _ ⟨b, 6, none⟩ _) ?_) <;> exact fun _ _ h => h
theorem putC_size (w : World) (b : Nat) (v : Value) (y : Cfg) : (putC w b v y).heap.size = w.heap.size := by simp [putC, World.setCell]
theorem touch_below {w0 w w' : World} {B b : Nat} (h : Below B w0 w) (hB : B ≤ b) (ht : Touch (fun k => k = b) w w') (hs : w'.heap.size = w.heap.size) : Below B w0 w' :=
  ⟨ht.os.trans h.os, ht.tape.trans h.tape, ht.output.trans h.output, Nat.le_trans h.size ht.size, fun k hk => by
    rcases Nat.lt_or_ge k w.heap.size with h1 | h1
    · rw [ht.block k h1 (fun e => by omega)]; exact h.block k hk
    · have : ¬ k < w0.heap.size := by have := h.size; omega
      rw [Array.getElem?_eq_none (by omega), ← h.block k hk, Array.getElem?_eq_none h1]⟩
theorem putC_below {w0 w : World} {B b : Nat} (h : Below B w0 w) (hB : B ≤ b) (v : Value) (y : Cfg) : Below B w0 (putC w b v y) := touch_below h hB (putC_touch w b v y) (putC_size w b v y)
/-- What a reader of configs answers. -/
def PlanK (w : World) (o : Option Cfg) (e : Ending) (w' : World) : Prop :=
  ∃ v, e = .returned (.tuple #[(o.getD Cfg.zero).v v, .int .i64 (if o.isSome then 0 else 13)]) ∧ OwnI w' w.heap.size v (o.getD Cfg.zero).insts ∧ Below w.heap.size w w'
theorem planK_none {w w' : World} (h : Below w.heap.size w w') : PlanK w none (.returned (.tuple #[.agg #[.slice none 0 0, .int .i64 0, .int .i64 0, .int .i64 0, .int .i64 0, .int .i64 0, .int .i64 0], .int .i64 13])) w' := ⟨_, rfl, ownL_nil _ _, h⟩
end Go.Proofs.Ytmpipjangbedkaa

/-
  Slices of structs of the call's own: append of several, literals of several.
-/
namespace Go.Proofs.Ytmpipjangbedkaa
set_option maxRecDepth 8000
open Go Go.RowKit
set_option linter.unusedVariables false

section
variable {α : Type} {enc : α → List Value} {t e : TypeId} {sz bts : Nat} {w w' : World} {base base' : Nat} {v v' : Value} {l : List α} {X : Nat → Prop}
theorem Lay.flat (hL : Lay enc t e sz bts) : ∀ ys : List α, (ys.flatMap enc).length = ys.length * sz := by
  intro ys
  induction ys with
  | nil => simp
  | cons y ys ih => rw [List.flatMap_cons, List.length_append, ih, hL.len, List.length_cons, Nat.succ_mul, Nat.add_comm]
/-- A literal of several. -/
theorem ownL_lit (hL : Lay enc t e sz bts) (w : World) (base : Nat) (cs : Array Value) (ys : List α) (hb : base ≤ w.heap.size) (hm : ys.length ≤ 1000000000) (hs : cs.toList = ys.flatMap enc) (n : Nat) (hn : n = w.heap.size) (k : Nat) (hk : k = ys.length) : OwnL enc e sz (w.alloc (.cells cs e)) base (.slice (some ⟨n, 0, none⟩) k k) ys := by
  subst hn; subst hk
  unfold OwnL
  rw [← hs]
  exact World.ownsRow_lit w cs ys.length hb (by unfold maxLen; omega) (by rw [← Array.length_toList, hs, hL.flat])
/-- The run of an append of several. -/
theorem run_appLs (hL : Lay enc t e sz bts) (w : World) (ty : TypeId) (base : Nat) (v : Value) (l : List α) (hown : OwnL enc e sz w base v l) (a : Addr) (m c : Nat) (ys : List α) (hm : m = ys.length) (hx : ∀ j u, (ys.flatMap enc)[j]? = some u → w.cell? (a.add j) = some u) (hb : (l.length + ys.length) * bts ≤ 140737488355328) (hl : l.length + ys.length ≤ 140737488355328) (hbase : base ≤ w.heap.size) :
    ∃ v' w', (Builtin.append_ #[t, t] ty #[v, .slice (some a) m c]).run Try.prog w = .ok v' w' ∧ OwnL enc e sz w' base v' (l ++ ys) ∧ w.grownBy w' v.ownBlock ∧ Moved w v v' := by
  subst hm
  obtain ⟨i, z, hi, hz, hs, hby, hzs⟩ := hL.info
  obtain ⟨v', w', h1, h2, h3, _, h5⟩ := run_append_own_at (P := Try.prog) w base t ty e i z sz bts hL.und hi hz hs hby hzs hL.pos v _ _ hown a ys.length c (ys.flatMap enc) (hL.flat ys) hx (fun u hu => by obtain ⟨y, _, hy⟩ := List.mem_flatMap.1 hu; exact hL.one y u hy) (by unfold maxLen; omega) hb hbase
  refine ⟨v', w', h1, ?_, h3, h5⟩
  unfold OwnL
  rw [List.length_append, List.flatMap_append]
  exact h2
theorem wpList_appLs (hL : Lay enc t e sz bts) {w : World} {ops : Array Oper} {rest : List Oper} {o : Oper} {a : Act} {Q : Exit → Act → World → Prop} (hgd : o.guard = none) (s x : Operand)
    (ho : o.op = .call { callee := .builtin .append, args := #[s, x], argTypes := #[t, t] }) (base : Nat) (v : Value) (l : List α) (hs : a.eval s = v) (hown : OwnL enc e sz w base v l)
    (ad : Addr) (m c : Nat) (ys : List α) (hm : m = ys.length) (hx : a.eval x = .slice (some ad) m c) (hy : ∀ j u, (ys.flatMap enc)[j]? = some u → w.cell? (ad.add j) = some u) (hb : (l.length + ys.length) * bts ≤ 140737488355328) (hl : l.length + ys.length ≤ 140737488355328) (hbase : base ≤ w.heap.size)
    (h : ∀ v' w', OwnL enc e sz w' base v' (l ++ ys) → w.grownBy w' v.ownBlock → Moved w v v' → wpList Try.prog ops Q rest (a.put o.dst v') w') : wpList Try.prog ops Q (o :: rest) a w := by
  refine wpList_plain hgd fun _ hK => ?_
  obtain ⟨v', w', hr, h2, h3, h4⟩ := run_appLs hL w o.type base v l hown ad m c ys hm hy hb hl hbase
  unfold Oper.wp execOp
  simp only [ho, resolve, invoke, builtin, Sem.run_bind, Sem.run_pure, Result.andThen_ok, List.map_toArray, List.map_cons, List.map_nil, hs, hx, hr]
  exact hK _ _ (h v' w' h2 h3 h4)
end
end Go.Proofs.Ytmpipjangbedkaa
