/-
  Lists of things that lie in memory as cells, one behind the other, wherever they lie; fronts, tails, lists of the call's own.
-/
import Derived.Test.YtjlhmiajklddiaaOwnM
import Derived.Deep.Slices
import Derived.Lib.SmallJoins
import Derived.Deep.Fields
namespace Go.Proofs.Ytjlhmiajklddiaa
set_option maxRecDepth 8000
open Go Go.RowKit
set_option linter.unusedVariables false

/-- A slice's places read as these things (nothing is asked of an empty one's address). -/
def MemL {α : Type} (enc : α → List Value) (sz : Nat) (w : World) (A : Option Addr) (l : List α) : Prop :=
  0 < l.length → ∃ b off, A = some ⟨b, off, none⟩ ∧ ∀ i (hi : i < l.length) j, j < sz → w.cell? ⟨b, off + i * sz + j, none⟩ = (enc l[i])[j]?
/-- A slice value that reads as these things. -/
def LstV {α : Type} (enc : α → List Value) (sz : Nat) (w : World) (v : Value) (l : List α) : Prop :=
  ∃ A c, v = .slice A l.length c ∧ MemL enc sz w A l ∧ (A = none → c = 0) ∧ l.length ≤ c ∧ c ≤ 9223372036854775807 ∧ (c = 0 ∨ ∃ b off, A = some ⟨b, off, none⟩)
section
variable {α : Type} {enc : α → List Value} {t e : TypeId} {sz bts : Nat} {w w' : World} {base : Nat} {v v' : Value} {l : List α} {A : Option Addr}
theorem MemL.below (h : MemL enc sz w A l) (hb : Below w.heap.size w w') (hlen : ∀ x, (enc x).length = sz) : MemL enc sz w' A l := by
  intro h0
  obtain ⟨b, off, e, hc⟩ := h h0
  refine ⟨b, off, e, fun i hi j hj => ?_⟩
  have hc := hc i hi j hj
  obtain ⟨u, hu⟩ : ∃ u, (enc l[i])[j]? = some u := ⟨_, List.getElem?_eq_getElem (by rw [hlen l[i]]; exact hj)⟩
  rw [hu] at hc ⊢
  exact (hb.cell (p := ⟨b, off + i * sz + j, none⟩) (block_lt hc)).trans hc
theorem LstV.below (h : LstV enc sz w v l) (hb : Below w.heap.size w w') (hlen : ∀ x, (enc x).length = sz) : LstV enc sz w' v l := by
  obtain ⟨A, c, e, h1, h2⟩ := h
  exact ⟨A, c, e, h1.below hb hlen, h2⟩
theorem memL_nil (w : World) (A : Option Addr) : MemL enc sz w A ([] : List α) := fun h => absurd h (Nat.lt_irrefl 0)
theorem lstV_nil (w : World) : LstV enc sz w (.slice none 0 0) ([] : List α) := ⟨none, 0, rfl, memL_nil w _, fun _ => rfl, Nat.le_refl _, by omega, .inl rfl⟩
theorem OwnL.mem (h : OwnL enc e sz w base v l) (hL : Lay enc t e sz bts) : LstV enc sz w v l := by
  obtain ⟨A, c, e1, h1, h2, h3, h4⟩ := h.form hL
  refine ⟨A, c, e1, fun h0 => ?_, h3, h1, h2, ?_⟩
  · obtain ⟨g, e2, _, _, hc⟩ := h4 h0
    exact ⟨g, 0, e2, fun i hi j hj => by rw [Nat.zero_add]; exact (hc i hi j hj).1⟩
  · rcases h.2 with ⟨e2, _⟩ | ⟨g, cap, cur, e2, _⟩
    · rw [e1] at e2; injection e2 with _ _ e2; exact .inl e2
    · rw [e1] at e2; injection e2 with e2; exact .inr ⟨g, 0, e2⟩
/-- A literal's places. -/
theorem memL_lit (hL : Lay enc t e sz bts) (w : World) (cs : Array Value) (ys : List α) (hm : ys.length ≤ 1000000000) (hs : cs.toList = ys.flatMap enc) : MemL enc sz (w.alloc (.cells cs e)) (some ⟨w.heap.size, 0, none⟩) ys := by
  obtain ⟨A, c, e1, h1, _⟩ := (ownL_lit hL w w.heap.size cs ys (Nat.le_refl _) hm hs _ rfl _ rfl).mem hL
  injection e1 with e1
  rw [e1]
  exact h1
/-- The cells of all of them, one behind the other. -/
theorem MemL.cells (h : MemL enc sz w A l) (hlen : ∀ x, (enc x).length = sz) : ∀ a, A = some a → ∀ j u, (l.flatMap enc)[j]? = some u → w.cell? (a.add j) = some u := by
  intro a ha j u hu
  have hfl : ∀ (l : List α), (l.flatMap enc).length = l.length * sz := by
    intro l
    induction l with
    | nil => simp
    | cons x l ih => rw [List.flatMap_cons, List.length_append, ih, hlen, List.length_cons, Nat.succ_mul, Nat.add_comm]
  have hj : j < l.length * sz := by
    have := (List.getElem?_eq_some_iff.1 hu).1
    rw [hfl] at this
    exact this
  have h0 : 0 < l.length := by
    rcases Nat.eq_zero_or_pos l.length with h | h
    · rw [h, Nat.zero_mul] at hj; omega
    · exact h
  have hsz : 0 < sz := by
    rcases Nat.eq_zero_or_pos sz with h | h
    · rw [h, Nat.mul_zero] at hj; omega
    · exact h
  obtain ⟨b, off, e1, hc⟩ := h h0
  obtain rfl : a = ⟨b, off, none⟩ := Option.some.inj (ha.symm.trans e1)
  have hi : j / sz < l.length := (Nat.div_lt_iff_lt_mul hsz).2 hj
  have hr : j % sz < sz := Nat.mod_lt _ hsz
  have hdm : off + j / sz * sz + j % sz = off + j := by rw [Nat.add_assoc, Nat.mul_comm, Nat.div_add_mod]
  have h1 := hc (j / sz) hi (j % sz) hr
  rw [hdm] at h1
  rw [Go.WideShapes.add_plain, h1, ← hu]
  clear h1 hc h hu ha e1 h0 hj hdm
  generalize hq : j / sz = q at *
  have hjq : j = q * sz + j % sz := by rw [← hq, Nat.mul_comm, Nat.div_add_mod]
  generalize j % sz = r at *
  subst hjq
  clear hq
  induction l generalizing q with
  | nil => simp at hi
  | cons x l ih =>
    rw [List.flatMap_cons]
    cases q with
    | zero => rw [Nat.zero_mul, Nat.zero_add, List.getElem?_append_left (by rw [hlen]; exact hr)]; rfl
    | succ q =>
      rw [List.getElem?_append_right (by rw [hlen, Nat.add_mul]; omega), hlen, show (q + 1) * sz + r - sz = q * sz + r by rw [Nat.add_mul]; omega]
      exact ih q (by simpa using hi)
/-- A front. -/
theorem MemL.front (h : MemL enc sz w A l) (k : Nat) : MemL enc sz w A (l.take k) := by
  intro h0
  rw [List.length_take] at h0
  obtain ⟨b, off, e, hc⟩ := h (by omega)
  refine ⟨b, off, e, fun i hi j hj => ?_⟩
  rw [List.length_take] at hi
  rw [hc i (by omega) j hj, List.getElem_take]
/-- What is behind a place. -/
theorem MemL.back {b off : Nat} (h : MemL enc sz w (some ⟨b, off, none⟩) l) (k : Nat) : MemL enc sz w (some ⟨b, off + k * sz, none⟩) (l.drop k) := by
  intro h0
  rw [List.length_drop] at h0
  obtain ⟨b', off', e, hc⟩ := h (by omega)
  injection e with e; injection e with e1 e2; subst e1; subst e2
  refine ⟨b, off + k * sz, rfl, fun i hi j hj => ?_⟩
  rw [List.length_drop] at hi
  have := hc (k + i) (by omega) j hj
  rw [show off + k * sz + i * sz + j = off + (k + i) * sz + j by rw [Nat.add_mul]; omega, this, List.getElem_drop]
/-- The run of an append of whatever slice. -/
theorem run_appV (hL : Lay enc t e sz bts) (w : World) (ty : TypeId) (base : Nat) (v : Value) (l : List α) (hown : OwnL enc e sz w base v l) (A : Option Addr) (m c : Nat) (ys : List α) (hm : m = ys.length) (hA : A = none → c = 0) (hM : MemL enc sz w A ys) (hb : (l.length + ys.length) * bts ≤ 140737488355328) (hl : l.length + ys.length ≤ 140737488355328) (hbase : base ≤ w.heap.size) :
    ∃ v' w', (Builtin.append_ #[t, t] ty #[v, .slice A m c]).run Try.prog w = .ok v' w' ∧ OwnL enc e sz w' base v' (l ++ ys) ∧ w.grownBy w' v.ownBlock ∧ Moved w v v' := by
  obtain ⟨i, z, hi, hz, hs, hby, hzs⟩ := hL.info
  cases A with
  | none =>
    obtain rfl := hA rfl
    obtain rfl : ys = [] := by
      cases ys with
      | nil => rfl
      | cons x ys => obtain ⟨b, off, e, _⟩ := hM (by simp); cases e
    subst hm
    exact ⟨v, w, run_append_owned_none w base t ty e i sz hL.und hi v _ _ hown, by rw [List.append_nil]; exact hown, ⟨rfl, rfl, rfl, Nat.le_refl _, fun _ _ _ => rfl⟩, .inl rfl⟩
  | some a => exact run_appLs hL w ty base v l hown a m c ys hm (hM.cells hL.len a rfl) hb hl hbase
theorem wpList_appV (hL : Lay enc t e sz bts) {w : World} {ops : Array Oper} {rest : List Oper} {o : Oper} {a : Act} {Q : Exit → Act → World → Prop} (hgd : o.guard = none) (s x : Operand)
    (ho : o.op = .call { callee := .builtin .append, args := #[s, x], argTypes := #[t, t] }) (base : Nat) (v : Value) (l : List α) (hs : a.eval s = v) (hown : OwnL enc e sz w base v l)
    (A : Option Addr) (m c : Nat) (ys : List α) (hm : m = ys.length) (hx : a.eval x = .slice A m c) (hA : A = none → c = 0) (hM : MemL enc sz w A ys) (hb : (l.length + ys.length) * bts ≤ 140737488355328) (hl : l.length + ys.length ≤ 140737488355328) (hbase : base ≤ w.heap.size)
    (h : ∀ v' w', OwnL enc e sz w' base v' (l ++ ys) → Below base w w' → w.grownBy w' v.ownBlock → wpList Try.prog ops Q rest (a.put o.dst v') w') : wpList Try.prog ops Q (o :: rest) a w := by
  refine wpList_plain hgd fun _ hK => ?_
  obtain ⟨v', w', hr, h2, h3, _⟩ := run_appV hL w o.type base v l hown A m c ys hm hA hM hb hl hbase
  unfold Oper.wp execOp
  simp only [ho, resolve, invoke, builtin, Sem.run_bind, Sem.run_pure, Result.andThen_ok, List.map_toArray, List.map_cons, List.map_nil, hs, hx, hr]
  exact hK _ _ (h v' w' h2 (hown.below h3 hbase) h3)
end
/-- Lists of one length that are alike place by place. -/
theorem lists_all {α : Type} (z : α) {a b : List α} (hl : a.length = b.length) (h : ∀ i, i < a.length → a.getD i z = b.getD i z) : a = b := by
  refine List.ext_getElem hl fun i h1 h2 => ?_
  have := h i h1
  rw [List.getD_eq_getElem?_getD, List.getElem?_eq_getElem h1, List.getD_eq_getElem?_getD, List.getElem?_eq_getElem h2] at this
  exact this
theorem i64_of_wf {n : Int} (h : (Lit.int .i64 n).wf = true) : I64 n := by unfold I64; simp [Lit.wf, IntKind.min, IntKind.max, IntKind.bits, IntKind.signed] at h; omega
section
open Go.ChangeShapes Go.WideShapes Go.Deep
variable {H : Type} {enc : TypeId × Value → H} {w : World} {base : Nat} {spare : Nat → Bool} {held : Bool}
/-- A field of one cell of a struct that came in. -/
theorem fieldV_any {fs : Array Field} {cs : List Value} {n i : Nat} {f : Field} {c : Value} {xs : List (DataW H × List MemPlace)} (hf : ∀ (i : Nat) (f : Field), fs[i]? = some f → DataW.trod enc Try.prog w base spare held n f.type ((cs.drop f.offset).take (Try.prog.cellsOf f.type)) = xs[i]?) (hlen : xs.length = fs.size)
    (hone : oneCellFields Try.prog fs = true) (hi : fs[i]? = some f) (hc : cs[i]? = some c) : ∃ x, DataW.trod enc Try.prog w base spare held n f.type [c] = some x := by
  obtain ⟨ho, hk⟩ := hone_of hone i f hi
  have h := hf i f hi
  have hlt : i < xs.length := by rw [hlen]; exact (Array.getElem?_eq_some_iff.1 hi).1
  have hd : (cs.drop i).take 1 = [c] := by
    obtain ⟨h1, h2⟩ := List.getElem?_eq_some_iff.1 hc
    rw [List.drop_eq_getElem_cons h1, h2]
    rfl
  rw [ho, hk, hd, List.getElem?_eq_getElem hlt] at h
  exact ⟨_, h⟩
theorem fieldV_int {fs : Array Field} {cs : List Value} {n i : Nat} {f : Field} {c : Value} {xs : List (DataW H × List MemPlace)} (hf : ∀ (i : Nat) (f : Field), fs[i]? = some f → DataW.trod enc Try.prog w base spare held n f.type ((cs.drop f.offset).take (Try.prog.cellsOf f.type)) = xs[i]?) (hlen : xs.length = fs.size)
    (hone : oneCellFields Try.prog fs = true) (hi : fs[i]? = some f) (ht : Try.prog.underlying f.type = some (.int .i64)) (hc : cs[i]? = some c) : ∃ x, c = .int .i64 x ∧ I64 x := by
  obtain ⟨y, h⟩ := fieldV_any hf hlen hone hi hc
  obtain ⟨x, e, _, hw⟩ := DataW.trod_int ht h
  injection e with e
  exact ⟨x, e, i64_of_wf hw⟩
/-- A slice of things of one layout that came in: each of them may be told. -/
theorem open_lst {α : Type} {enc' : α → List Value} {t e : TypeId} {sz : Nat} (ht : Try.prog.underlying t = some (.slice e)) (hce : Try.prog.cellsOf e = sz) (hsz : 0 < sz) (Ok : α → Prop) (z : α)
    (one : ∀ fuel cs x, cs.length = sz → DataW.trod enc Try.prog w base (fun _ => true) held fuel e cs = some x → ∃ q : α, cs = enc' q ∧ Ok q)
    {fuel : Nat} {c : Value} {x : DataW H × List MemPlace} (h : DataW.trod enc Try.prog w base (fun _ => true) held fuel t [c] = some x) :
    ∃ l : List α, LstV enc' sz w c l ∧ (∀ y ∈ l, Ok y) := by
  rcases open_slice ht h with ⟨hcs, _⟩ | ⟨ad, len, cap, m, n, D, Pl, hcs, _, hl, hm, hmm, _, hx⟩
  · simp at hcs
    subst hcs
    exact ⟨[], lstV_nil w, fun y hy => (List.not_mem_nil hy).elim⟩
  · simp at hcs
    subst hcs
    simp at hmm
    subst hmm
    unfold maxLen at hm
    rw [hce] at hx
    have hsp : 0 < m → ad.spot = none := by
      intro h0
      obtain ⟨cs', h1, _⟩ := hx 0 h0
      obtain ⟨_, hlen, hcell⟩ := World.cells?_some h1
      have e0 := hcell 0 hsz
      rw [add_add] at e0
      obtain ⟨u, hu⟩ : ∃ u, cs'[0]? = some u := ⟨_, List.getElem?_eq_getElem (by rw [hlen]; exact hsz)⟩
      rw [hu] at e0
      obtain ⟨b1, off1, s1⟩ := ad
      simpa [Addr.add] using World.cell?_spot e0
    have each : ∀ i, ∃ q : α, i < len → (∀ j, j < sz → w.cell? ⟨ad.block, ad.off + i * sz + j, none⟩ = (enc' q)[j]?) ∧ Ok q := by
      intro i
      by_cases hi : i < len
      · have hs := hsp (by omega)
        obtain ⟨cs', h1, h2⟩ := hx i (by omega)
        obtain ⟨_, hlen, hcell⟩ := World.cells?_some h1
        obtain ⟨q, rfl, hq⟩ := one _ _ _ hlen h2
        obtain ⟨b1, off1, s1⟩ := ad
        simp only at hs
        subst hs
        refine ⟨q, fun _ => ⟨fun j hj => ?_, hq⟩⟩
        have e0 := hcell j hj
        rw [add_add, add_plain] at e0
        simpa [Nat.add_assoc] using e0
      · exact ⟨z, fun h' => absurd h' hi⟩
    obtain ⟨q, hq⟩ := Classical.axiomOfChoice each
    have hlr : ((List.range len).map q).length = len := by simp
    refine ⟨(List.range len).map q, ⟨some ad, m, by rw [hlr], fun h0 => ?_, fun h => (by cases h), by rw [hlr]; exact hl, hm, ?_⟩, fun y hy => ?_⟩
    · rw [hlr] at h0
      have hs := hsp (by omega)
      obtain ⟨b1, off1, s1⟩ := ad
      simp only at hs
      subst hs
      refine ⟨b1, off1, rfl, fun i hi j hj => ?_⟩
      rw [hlr] at hi
      rw [(hq i hi).1 j hj, List.getElem_map, List.getElem_range]
    · rcases Nat.eq_zero_or_pos m with h0 | h0
      · exact .inl h0
      · have hs := hsp h0
        obtain ⟨b1, off1, s1⟩ := ad
        simp only at hs
        subst hs
        exact .inr ⟨b1, off1, rfl⟩
    · obtain ⟨i, hi, rfl⟩ := List.mem_map.1 hy
      exact (hq i (List.mem_range.1 hi)).2
end
end Go.Proofs.Ytjlhmiajklddiaa
