import Derived.Test.YtmpipjangbedkaaMJw2
import Derived.Test.YtmpipjangbedkaaRngY
/-
  The walk of the program's journal.contents: whole records, as a config and events.
-/
namespace Go.Proofs.Ytmpipjangbedkaa
set_option maxRecDepth 8000
open Go Go.RowKit Go.Shelf
attribute [local go_sem] Oper.semAt_some
set_option linter.unusedVariables false

/-- What bytes hold, the first record a config, the others events. -/
def contL (L : List Nat) : Cfg × List Ev × Int := match (recs L).map (·.2) with
  | [] => (Cfg.zero, [], 0)
  | b :: bs => match readP b with
    | none => (Cfg.zero, [], 13)
    | some cf => if (evs bs).2 = 0 then (cf, (evs bs).1, 0) else (Cfg.zero, [], 13)
theorem cont_open {L : List Nat} (h : recs L ≠ []) : contL L = openL L := by
  unfold contL openL jour
  rw [if_neg h]
  cases hr : (recs L).map (·.2) with
  | nil => simp at hr; exact absurd hr h
  | cons b bs =>
    unfold jourL
    dsimp only
    cases hp : readP b with
    | none => rfl
    | some cf =>
      rcases hk : evs bs with ⟨es, k⟩
      rw [Option.map_some]
      dsimp only
      cases k with
      | zero => rfl
      | succ k => rfl
/-- What has come so far. -/
def PreJ (pre : List Elem) (cf : Cfg) (es : List Ev) : Prop := (pre = [] ∧ cf = Cfg.zero ∧ es = []) ∨ ∃ x rest, pre = x :: rest ∧ readP x.2.2 = some cf ∧ evs (rest.map (·.2.2)) = (es, 0)
theorem evs_app (ls ms : List (List Nat)) (es : List Ev) (h : evs ls = (es, 0)) : evs (ls ++ ms) = preE es (evs ms) := by
  induction ls generalizing es with
  | nil => cases h; rfl
  | cons b ls ih =>
    cases hr : readE b with
    | none => rw [evs_none hr] at h; injection h with _ h; omega
    | some e =>
      rw [evs_some hr] at h
      injection h with h1 h2
      subst h1
      rw [List.cons_append, evs_some hr, ih (evs ls).1 (by rw [← h2])]
      rfl
theorem preJ_first {x : Elem} {cf : Cfg} (h : readP x.2.2 = some cf) : PreJ ([] ++ [x]) cf [] := .inr ⟨x, [], rfl, h, rfl⟩
theorem preJ_next {pre : List Elem} {x : Elem} {cf : Cfg} {es : List Ev} {e : Ev} (h : PreJ pre cf es) (h0 : pre ≠ []) (hr : readE x.2.2 = some e) : PreJ (pre ++ [x]) cf (es ++ [e]) := by
  rcases h with ⟨h1, _⟩ | ⟨y, rest, rfl, h1, h2⟩
  · exact absurd h1 h0
  · refine .inr ⟨y, rest ++ [x], rfl, h1, ?_⟩
    rw [List.map_append, evs_app _ _ _ h2]
    show preE es (evs [x.2.2]) = _
    rw [evs_some hr]
    rfl
theorem snd_elem (xs : List Elem) : (xs.map elemOf).map (·.2) = xs.map (·.2.2) := by rw [List.map_map]; rfl
theorem preJ_done {xs : List Elem} {cf : Cfg} {es : List Ev} {L : List Nat} (h : PreJ xs cf es) (hL : xs.map elemOf = recs L) : contL L = (cf, es, 0) := by
  unfold contL
  rw [← hL, snd_elem]
  rcases h with ⟨rfl, rfl, rfl⟩ | ⟨x, rest, rfl, h1, h2⟩
  · rfl
  · show (match readP x.2.2 with | none => _ | some cf => _) = _
    rw [h1]
    show (if (evs (rest.map (·.2.2))).2 = 0 then _ else _) = _
    rw [h2]; rfl
theorem preJ_bad0 {x : Elem} {L : List Nat} (hL : ([] ++ [x]).map elemOf <+: recs L) (h : readP x.2.2 = none) : contL L = (Cfg.zero, [], 13) := by
  obtain ⟨t, ht⟩ := hL
  unfold contL
  rw [← ht]
  show (match readP x.2.2 with | none => _ | some cf => _) = _
  rw [h]
theorem preJ_bad {pre : List Elem} {x : Elem} {cf : Cfg} {es : List Ev} {L : List Nat} (hp : PreJ pre cf es) (h0 : pre ≠ []) (hL : (pre ++ [x]).map elemOf <+: recs L) (h : readE x.2.2 = none) : contL L = (Cfg.zero, [], 13) := by
  obtain ⟨t, ht⟩ := hL
  rcases hp with ⟨h1, _⟩ | ⟨y, rest, rfl, h1, h2⟩
  · exact absurd h1 h0
  · unfold contL
    rw [← ht, List.map_append, snd_elem]
    show (match readP y.2.2 with | none => _ | some cf => _) = _
    rw [h1]
    show (if (evs (((rest ++ [x]).map (·.2.2)) ++ t.map (·.2))).2 = 0 then _ else _) = _
    rw [List.map_append, List.append_assoc, evs_app _ _ _ h2]
    show (if (preE es (evs (x.2.2 :: t.map (·.2)))).2 = 0 then _ else _) = _
    rw [evs_none h]
    simp [preE]
theorem recF_low (f : Nat) : ∀ (p : Nat) (l : List Nat), ∀ e ∈ recF f p l, p ≤ e.1 := by
  induction f with
  | zero => intro p l e he; simp [recF] at he
  | succ f ih =>
    intro p l e he
    by_cases h : (nextL l).2.2 = 0
    · rw [recF_more h] at he
      rcases List.mem_cons.1 he with rfl | he
      · exact Nat.le_refl _
      · exact Nat.le_trans (Nat.le_add_right _ _) (ih _ _ e he)
    · rw [recF_end h] at he; cases he
/-- The first record alone stands at 0. -/
theorem first_place {pre : List Elem} {x : Elem} {L : List Nat} (h : (pre ++ [x]).map elemOf <+: recs L) : (pre = [] → x.1 = 0) ∧ (pre ≠ [] → 0 < x.1) := by
  obtain ⟨t, ht⟩ := h
  unfold recs at ht
  by_cases h0 : (nextL L).2.2 = 0
  · rw [recF_more h0] at ht
    have hn := (next_fact L h0).1
    cases pre with
    | nil =>
      simp only [List.nil_append, List.map_cons, List.map_nil, List.cons_append, List.cons.injEq] at ht
      exact ⟨fun _ => congrArg Prod.fst ht.1, fun h => absurd rfl h⟩
    | cons y pre =>
      refine ⟨fun h => (by cases h), fun _ => ?_⟩
      simp only [List.cons_append, List.map_cons, List.cons.injEq] at ht
      have hm : elemOf x ∈ recF L.length (0 + (nextL L).2.1) (L.drop (nextL L).2.1) := by rw [← ht.2]; simp
      have := recF_low _ _ _ _ hm
      simp only [elemOf] at this
      omega
  · rw [recF_end h0] at ht
    simp at ht
theorem elem_fact {pre : List Elem} {x : Elem} {L : List Nat} (hl : Oct L) (h : (pre ++ [x]).map elemOf <+: recs L) : Oct x.2.2 ∧ x.2.2.length ≤ 400 := by
  have hm : (elemOf x).2 ∈ (recs L).map (·.2) := List.mem_map_of_mem (next_in h)
  exact recs_oct hl _ hm

theorem rec_kept {W W' : World} {row : Option Nat} {b : Nat} {t : TypeId} {cs : List Value} (h : Rec W b t cs) (hg : W.grownBy W' row) (hr : ∀ r, row = some r → ∃ o : Obj, W.heap[r]? = some o ∧ o.isCells = false) : Rec W' b t cs :=
  (hg.block b h.lt (fun e => by obtain ⟨o, ho, hc⟩ := hr b e.symm; rw [show W.heap[b]? = _ from h] at ho; cases ho; cases hc)).trans h
theorem ownL_kept {α : Type} {enc : α → List Value} {e sz : Nat} {W W' : World} {base : Nat} {v : Value} {l : List α} {row : Option Nat} (h : OwnL enc e sz W base v l) (hg : W.grownBy W' row) (hr : ∀ r, row = some r → ∃ o : Obj, W.heap[r]? = some o ∧ o.isCells = false) : OwnL enc e sz W' base v l := by
  refine OwnL.touch h (Touch.grown hg) (fun k hk hrow => ?_)
  obtain ⟨o, ho, hc⟩ := hr k hrow
  rcases h.2 with ⟨rfl, _⟩ | ⟨g, cap, cur, rfl, _, hgb, _⟩
  · simp [Value.ownBlock] at hk
  · obtain rfl : g = k := by simpa [Value.ownBlock] using hk
    rw [hgb] at ho
    cases ho
    cases hc
/-- The three cells of the answer. -/
structure Res (s : Nat) (cf : Cfg) (v X : Value) (k : Int) (W : World) : Prop where
  c : CfAt W s cf v
  x : Rec W (s + 1) 30 [X]
  k : Rec W (s + 2) 34 [.int .i64 k]
def putR (W : World) (s : Nat) (cf : Cfg) (v X : Value) (k : Int) : World := ((putC W s v cf).setCell ⟨s + 1, 0, none⟩ X).setCell ⟨s + 2, 0, none⟩ (.int .i64 k)
section
variable {s : Nat} {cf cf' : Cfg} {v v' X X' : Value} {k k' : Int} {W W' : World} {row : Option Nat} {Y : Nat → Prop}
theorem Res.touch (h : Res s cf v X k W) (ht : Touch Y W W') (hy : ∀ i, i < 3 → ¬ Y (s + i)) : Res s cf v X k W' := ⟨Rec.touch h.c ht (hy 0 (by omega)), h.x.touch ht (hy 1 (by omega)), h.k.touch ht (hy 2 (by omega))⟩
theorem Res.keep (h : Res s cf v X k W) (hb : Below W.heap.size W W') : Res s cf v X k W' := ⟨CfAt.keep h.c hb, h.x.keep hb, h.k.keep hb⟩
theorem Res.kept (h : Res s cf v X k W) (hg : W.grownBy W' row) (hr : ∀ r, row = some r → ∃ o : Obj, W.heap[r]? = some o ∧ o.isCells = false) : Res s cf v X k W' := ⟨rec_kept h.c hg hr, rec_kept h.x hg hr, rec_kept h.k hg hr⟩
theorem Res.store (h : Res s cf v X k W) (cf' : Cfg) (v' X' : Value) (k' : Int) : Res s cf' v' X' k' (putR W s cf' v' X' k') := by
  have h1 := putC_at h.c v' cf'
  have t1 := putC_touch W s v' cf'
  have x1 := h.x.touch t1 (by omega)
  have k1 := h.k.touch t1 (by omega)
  have t2 := Touch.setCell (putC W s v' cf') ⟨s + 1, 0, none⟩ X'
  have x2 := x1.set 0 X'
  have t3 := Touch.setCell ((putC W s v' cf').setCell ⟨s + 1, 0, none⟩ X') ⟨s + 2, 0, none⟩ (.int .i64 k')
  exact ⟨Rec.touch (Rec.touch h1 t2 (by simp)) t3 (by simp), x2.touch t3 (by simp), (k1.touch t2 (by simp)).set 0 _⟩
theorem putR_touch (W : World) (s : Nat) (cf : Cfg) (v X : Value) (k : Int) : Touch (fun i => s ≤ i ∧ i < s + 3) W (putR W s cf v X k) :=
  (((putC_touch W s v cf).mono (fun i h => by have h' : i = s := h; omega)).trans (Touch.setCell _ ⟨s + 1, 0, none⟩ X) (fun i _ h => by have h' : i = s + 1 := h; omega)).trans (Touch.setCell _ ⟨s + 2, 0, none⟩ _) (fun i _ h => by have h' : i = s + 2 := h; omega)
end
theorem keeps_touch {Y : Nat → Prop} {W W' : World} (ht : Touch Y W W') (hy : ∀ i o, Y i → W.heap[i]? = some o → o.isCells = true) : KeepsOthers W W' :=
  ⟨ht.size, fun k o hk ho => (ht.block k (Array.getElem?_eq_some_iff.1 hk).1 (fun h => by rw [hy k o h hk] at ho; cases ho)).trans hk⟩
theorem rec_cells {W : World} {b : Nat} {t : TypeId} {cs : List Value} (h : Rec W b t cs) : ∀ o, W.heap[b]? = some o → o.isCells = true := by
  intro o ho
  rw [show W.heap[b]? = _ from h] at ho
  cases ho
  rfl
theorem kept_touch {Y : Nat → Prop} {W W' : World} {lo hi : Nat} (ht : Touch Y W W') (hhi : hi ≤ W.heap.size) (hy : ∀ i, lo ≤ i → i < hi → ¬ Y i) : Kept lo hi W W' :=
  ⟨ht.size, fun k h1 h2 => ht.block k (by omega) (hy k h1 h2)⟩
theorem lt_of_kept {lo hi : Nat} {W W' : World} (h : Kept lo hi W W') : W.heap.size ≤ W'.heap.size := h.size
end Go.Proofs.Ytmpipjangbedkaa

/-
  The walk of the program's journal.contents.
-/
namespace Go.Proofs.Ytmpipjangbedkaa
set_option maxRecDepth 8000
open Go Go.RowKit Go.Shelf
attribute [local go_sem] Oper.semAt_some
set_option linter.unusedVariables false

/-- What contents answers. -/
def ContC (w : World) (x : Cfg × List Ev × Int) (e : Ending) (w' : World) : Prop :=
  ∃ V X, e = .returned (.tuple #[x.1.v V, X, .int .i64 x.2.2]) ∧ OwnI w' w.heap.size V x.1.insts ∧ OwnE w' w.heap.size X x.2.1 ∧ Below w.heap.size w w'
/-- Under way: the answer's cells, the config and the events that have come. -/
structure ConB (s base : Nat) (cf : Cfg) (v X : Value) (es : List Ev) (W : World) : Prop where
  res : Res s Cfg.zero (.slice none 0 0) (.slice none 0 0) 0 W
  m : CfAt W (s + 3) cf v
  e : Rec W (s + 4) 30 [X]
  ov : OwnI W base v cf.insts
  oe : OwnE W base X es
  sb : s + 5 ≤ base
  sz : base ≤ W.heap.size
section
variable {s base : Nat} {cf cf' : Cfg} {v v' X X' : Value} {es : List Ev} {W W' : World} {row : Option Nat} {e : Ev}
theorem ConB.keep (h : ConB s base cf v X es W) (hb : Below W.heap.size W W') : ConB s base cf v X es W' := ⟨h.res.keep hb, CfAt.keep h.m hb, h.e.keep hb, OwnL.keep h.ov hb, OwnL.keep h.oe hb, h.sb, Nat.le_trans h.sz hb.size⟩
theorem ConB.kept (h : ConB s base cf v X es W) (hg : W.grownBy W' row) (hr : ∀ r, row = some r → ∃ o : Obj, W.heap[r]? = some o ∧ o.isCells = false) : ConB s base cf v X es W' :=
  ⟨h.res.kept hg hr, rec_kept h.m hg hr, rec_kept h.e hg hr, ownL_kept h.ov hg hr, ownL_kept h.oe hg hr, h.sb, Nat.le_trans h.sz hg.size⟩
theorem ConB.ltv (h : ConB s base cf v X es W) : ∀ k, v.ownBlock = some k → s + 5 ≤ k := fun k hk => Nat.le_trans h.sb (OwnL.lt h.ov k hk).1
theorem ConB.ltx (h : ConB s base cf v X es W) : ∀ k, X.ownBlock = some k → s + 5 ≤ k := fun k hk => Nat.le_trans h.sb (OwnL.lt h.oe k hk).1
/-- The config is stored. -/
theorem ConB.setM (h : ConB s base cf v X es W) (ho : OwnI W base v' cf'.insts) : ConB s base cf' v' X es (putC W (s + 3) v' cf') := by
  have t := putC_touch W (s + 3) v' cf'
  exact ⟨h.res.touch t (fun i hi e => by omega), putC_at h.m v' cf', h.e.touch t (fun e => by omega), OwnL.touch ho t (fun k hk e => by have h1 := (OwnL.lt ho k hk).1; have := h.sb; omega), OwnL.touch h.oe t (fun k hk e => by have := h.ltx k hk; omega), h.sb, by rw [putC_size]; exact h.sz⟩
/-- The events' slice has grown, and is stored. -/
theorem ConB.addE (h : ConB s base cf v X es W) (ho : OwnE W' base X' (es ++ [e])) (hg : W.grownBy W' X.ownBlock) : ConB s base cf v X' (es ++ [e]) (W'.setCell ⟨s + 4, 0, none⟩ X') := by
  have t := Touch.grown hg
  have hv : ∀ k, v.ownBlock = some k → ¬ X.ownBlock = some k := fun k hk hx => by
    rcases h.ov.2 with ⟨rfl, _⟩ | ⟨g, cap, cur, rfl, _, hgb, _⟩
    · simp [Value.ownBlock] at hk
    · obtain rfl : g = k := by simpa [Value.ownBlock] using hk
      exact Rec.not_rowL (cs := cur.toList) (t := 61) (by simpa [Rec] using hgb) (by decide) h.oe hx
  have t2 := Touch.setCell W' ⟨s + 4, 0, none⟩ X'
  have nb : ∀ j, j < 5 → ¬ X.ownBlock = some (s + j) := fun j hj e => by have := h.ltx _ e; omega
  exact ⟨(h.res.touch t (fun i hi => nb i (by omega))).touch t2 (fun i hi e => by simp at e; omega), Rec.touch (Rec.touch h.m t (nb 3 (by omega))) t2 (by simp), (h.e.touch t (nb 4 (by omega))).set 0 X', OwnL.touch (OwnL.touch h.ov t hv) t2 (fun k hk e => by have := h.ltv k hk; simp at e; omega), OwnL.touch ho t2 (fun k hk e => by have h1 := (OwnL.lt ho k hk).1; have := h.sb; simp at e; omega), h.sb, by simp; exact Nat.le_trans h.sz hg.size⟩
end
theorem wpListIn_appL {α : Type} {enc : α → List Value} {t e : TypeId} {sz bts : Nat} (hL : Lay enc t e sz bts) {F : Fence} {n' : Nat} {w : World} {ops : Array Oper} {rest : List Oper} {o : Oper} {a : Act} {Q : Exit → Act → World → Prop} (hgd : o.guard = none) (s x : Operand)
    (ho : o.op = .call { callee := .builtin .append, args := #[s, x], argTypes := #[t, t] }) (base : Nat) (v : Value) (l : List α) (hs : a.eval s = v) (hown : OwnL enc e sz w base v l)
    (ad : Addr) (c : Nat) (y : α) (hx : a.eval x = .slice (some ad) 1 c) (hy : ∀ j u, (enc y)[j]? = some u → w.cell? (ad.add j) = some u) (hb : (l.length + 1) * bts ≤ 140737488355328) (hl : l.length + 1 ≤ 140737488355328) (hbase : base ≤ w.heap.size)
    (h : ∀ v' w', OwnL enc e sz w' base v' (l ++ [y]) → w.grownBy w' v.ownBlock → Moved w v v' → wpListIn F n' Try.prog ops Q rest (a.put o.dst v') w') : wpListIn F n' Try.prog ops Q (o :: rest) a w := by
  refine wpListIn_plain hgd fun _ hK => ?_
  obtain ⟨v', w', hr, h2, h3, h4⟩ := run_appL hL w o.type base v l hown ad c y hy hb hl hbase
  unfold Oper.wpIn
  refine ⟨?_, ?_⟩
  · simp [Oper.about, ho, resolve, Target.leads, Sem.run_pure]
  · rw [Oper.semAt_plain F _ _ (by rw [ho]; intro c hc'; cases hc')]
    simp [execOp, ho, resolve, invoke, builtin, hs, hx, hr, Result.andThen]
    exact hK _ _ (h v' w' h2 h3 h4)
end Go.Proofs.Ytmpipjangbedkaa
