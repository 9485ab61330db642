import Derived.Test.YtmpipjangbedkaaMTp5
import Derived.Test.YtmpipjangbedkaaPv7
import Derived.Test.YtmpipjangbedkaaMPq6
import Derived.Test.YtmpipjangbedkaaMDkO
import Derived.Test.YtmpipjangbedkaaMFr6
import Derived.Test.YtmpipjangbedkaaMFr2
import Derived.Test.YtmpipjangbedkaaMBst
import Derived.Test.YtmpipjangbedkaaMDk1
import Derived.WalkSmall
import Derived.Deep.QuietTactic
import Derived.BigQuiet
/-
  The walks of the reference's Append and Cut.
-/
namespace Go.Proofs.Ytmpipjangbedkaa
set_option maxRecDepth 8000
open Go.RowKit
set_option linter.unusedVariables false

/-- The reference's Append, and its code. -/
def Tp.rappend (t : Tp) (x : List Nat) : Tp × Int :=
  if t.down then (t, 15) else if t.room < t.all.length + x.length then (t, 14) else
  if t.rgoes.2 then ({ t.rgoes.1 with all := t.all ++ x.take (frontN t.keep x.length) }, 15) else ({ t.rgoes.1 with all := t.all ++ x }, 0)
def Tp.rcut (t : Tp) (n : Int) : Tp × Int :=
  if t.down then (t, 15) else if n < 0 ∨ (t.all.length : Int) < n then (t, 1) else
  if t.rgoes.2 then (if 0 < t.keep then ({ t.rgoes.1 with all := t.all.take n.toNat }, 15) else (t.rgoes.1, 15)) else ({ t.rgoes.1 with all := t.all.take n.toNat }, 0)
theorem Byts.front {w : World} {A : Option Addr} {l : List Nat} (h : Byts w A l) (f : Nat) : Byts w A (l.take f) := by
  intro h0
  rw [List.length_take] at h0
  obtain ⟨b1, off, e, hc⟩ := h (by omega)
  refine ⟨b1, off, e, fun i hi => ?_⟩
  rw [List.length_take] at hi
  rw [hc i (by omega), List.getD_eq_getElem?_getD, List.getD_eq_getElem?_getD, List.getElem?_take_of_lt (by omega)]
/-- The store of new bytes. -/
theorem put_new {r : Bool} {w w2 : World} {base b : Nat} {v v2 : Value} {t t2 : Tp} (h : TapeAt r w base b v t) (ho : OwnB w2 w.heap.size v2 t2.all) (hb : Below w.heap.size w w2) (hc : (cellsOf r t v).set 0 v2 = cellsOf r t2 v2) (ok : t2.Ok) :
    Went r w base b v t2 (w2.setCell ⟨b, 0, none⟩ v2) := by
  have h2 := h.keep hb
  have hs : base ≤ w.heap.size := by have := h.low; have := h.box.lt; omega
  exact ⟨v2, h2.put (ho.base hs) hc ok, (Touch.of_below _ hb).set 0 v2, fun k hk => .inr (ho.lt k hk).1⟩
end Go.Proofs.Ytmpipjangbedkaa

/-
  The walk of the reference's Cut.
-/
namespace Go.Proofs.Ytmpipjangbedkaa
set_option maxRecDepth 8000
open Go.RowKit
set_option linter.unusedVariables false

end Go.Proofs.Ytmpipjangbedkaa

/-
  The journal's layers in one seat: frame, tape, event, plan and their references.
-/
namespace Go.Proofs.Ytmpipjangbedkaa
set_option maxRecDepth 8000
open Go.RowKit
end Go.Proofs.Ytmpipjangbedkaa

/-
  Lists of events in memory and of the call's own; the walk of novationhelp.Events.
-/
namespace Go.Proofs.Ytmpipjangbedkaa
set_option maxRecDepth 8000
open Go Go.RowKit
set_option linter.unusedVariables false

/-- A list of events in memory. -/
def EvM (W : World) (A : Option Addr) (l : List Ev) : Prop :=
  0 < l.length → ∃ b off, A = some ⟨b, off, none⟩ ∧ ∀ i, i < l.length → W.cell? ⟨b, off + i * 8, none⟩ = some (.int .i64 (l.getD i Ev.zero).kind) ∧ W.cell? ⟨b, off + i * 8 + 1, none⟩ = some (.int .i64 (l.getD i Ev.zero).member) ∧ W.cell? ⟨b, off + i * 8 + 2, none⟩ = some (.int .i64 (l.getD i Ev.zero).acc) ∧ W.cell? ⟨b, off + i * 8 + 3, none⟩ = some (.int .i64 (l.getD i Ev.zero).inst) ∧ W.cell? ⟨b, off + i * 8 + 4, none⟩ = some (.int .i64 (l.getD i Ev.zero).side) ∧ W.cell? ⟨b, off + i * 8 + 5, none⟩ = some (.int .i64 (l.getD i Ev.zero).id) ∧ W.cell? ⟨b, off + i * 8 + 6, none⟩ = some (.int .i64 (l.getD i Ev.zero).q) ∧ W.cell? ⟨b, off + i * 8 + 7, none⟩ = some (.int .i64 (l.getD i Ev.zero).p)
theorem EvM.below {W W' : World} {A : Option Addr} {l : List Ev} (h : EvM W A l) (hb : Below W.heap.size W W') : EvM W' A l := by
  intro h0
  obtain ⟨b, off, e, hc⟩ := h h0
  refine ⟨b, off, e, fun i hi => ?_⟩
  obtain ⟨c0, c1, c2, c3, c4, c5, c6, c7⟩ := hc i hi
  exact ⟨(hb.cell (p := ⟨b, off + i * 8, none⟩) (block_lt c0)).trans c0, (hb.cell (p := ⟨b, off + i * 8 + 1, none⟩) (block_lt c1)).trans c1, (hb.cell (p := ⟨b, off + i * 8 + 2, none⟩) (block_lt c2)).trans c2, (hb.cell (p := ⟨b, off + i * 8 + 3, none⟩) (block_lt c3)).trans c3, (hb.cell (p := ⟨b, off + i * 8 + 4, none⟩) (block_lt c4)).trans c4, (hb.cell (p := ⟨b, off + i * 8 + 5, none⟩) (block_lt c5)).trans c5, (hb.cell (p := ⟨b, off + i * 8 + 6, none⟩) (block_lt c6)).trans c6, (hb.cell (p := ⟨b, off + i * 8 + 7, none⟩) (block_lt c7)).trans c7⟩
theorem lay_ev : Lay Ev.cells 30 38 8 64 := by
  refine ⟨Try.underlying30, ?_, by omega, fun _ => rfl, fun x u hu => ?_⟩
  · have h : (Try.prog.info? 38).map (fun i => (i.zero, i.size, i.bytes)) = some (some (.agg #[.int .i64 0, .int .i64 0, .int .i64 0, .int .i64 0, .int .i64 0, .int .i64 0, .int .i64 0, .int .i64 0]), 8, 64) := by kernel_rfl
    obtain ⟨i, h1, h2, h3, h4⟩ := parts_of h
    exact ⟨i, _, h1, h2, h3, h4, rfl⟩
  · simp [Ev.cells] at hu
    rcases hu with rfl | rfl | rfl | rfl | rfl | rfl | rfl | rfl <;> rfl
/-- A list of events of the call's own. -/
def OwnE (w : World) (base : Nat) (v : Value) (l : List Ev) : Prop := OwnL Ev.cells 38 8 w base v l
theorem ownE_form {w : World} {base : Nat} {v : Value} {l : List Ev} (h : OwnE w base v l) : ∃ A c, v = .slice A l.length c ∧ l.length ≤ c ∧ EvM w A l := by
  obtain ⟨A, c, e, h1, _, _, h2⟩ := OwnL.form h lay_ev
  refine ⟨A, c, e, h1, fun h0 => ?_⟩
  obtain ⟨g, eA, _, _, hc⟩ := h2 h0
  refine ⟨g, 0, eA, fun i hi => ?_⟩
  have hg : l.getD i Ev.zero = l[i] := by rw [List.getD_eq_getElem?_getD, List.getElem?_eq_getElem hi]; rfl
  have k : ∀ j, j < 8 → w.cell? ⟨g, i * 8 + j, none⟩ = (l[i]).cells[j]? := fun j hj => (hc i hi j hj).1
  rw [hg]
  simp only [Nat.zero_add]
  exact ⟨k 0 (by omega), k 1 (by omega), k 2 (by omega), k 3 (by omega), k 4 (by omega), k 5 (by omega), k 6 (by omega), k 7 (by omega)⟩
set_option maxRecDepth 8000 in
set_option maxHeartbeats 1000000 in
theorem run_ev_ne (x y : Ev) (W : World) : (binOp .neq 38 x.v y.v).run Try.prog W = .ok (.bool (!decide (x = y))) W := by
  rw [ev_eq]
  unfold Ev.v
  simp [go_sem]
  repeat' split
  all_goals simp_all
theorem evs_all {a b : List Ev} (hl : a.length = b.length) (h : ∀ i, i < a.length → a.getD i Ev.zero = b.getD i Ev.zero) : a = b := by
  refine List.ext_getElem hl fun i h1 h2 => ?_
  have := h i h1
  rw [List.getD_eq_getElem?_getD, List.getElem?_eq_getElem h1, List.getD_eq_getElem?_getD, List.getElem?_eq_getElem h2] at this
  exact this
set_option maxRecDepth 8000 in
set_option maxHeartbeats 8000000 in
theorem events_any (A B : Option Addr) (p q : List Ev) (n m c d : Nat) (w : World) (hn : n = p.length) (hm : m = q.length) (hI : EvM w A p) (hJ : EvM w B q) (hl : n ≤ 1000000000) : Calls Try.prog 17 #[.slice A n c, .slice B m d] w fun r w' => r = .returned (.bool (decide (p = q))) ∧ Below w.heap.size w w' := by
  have HN := Lib.hid hn
  have HM := Lib.hid hm
  have HI := Lib.hid hI
  have HJ := Lib.hid hJ
  by_cases hlen : n ≠ m
  · have HP : Hid (decide (p = q) = false) := Lib.hid (decide_eq_false (fun e => hlen (by rw [hn, hm, e])))
    rw [HP.out]
    have hne : ((n : Int) != (m : Int)) = true := by rw [bne_iff_ne]; omega
    clear hn hm hI hJ hlen
    go_enter Try.func17, Try.ntmps17
    go_wp2
    go_ret
    exact ⟨rfl, Below.refl _ _⟩
  have hlen := Classical.not_not.1 hlen
  subst hlen
  clear hn hm hI hJ
  go_enter Try.func17, Try.ntmps17
  go_wp2
  go_loopw [5] (fun i wr => ∃ k : Nat, k ≤ n ∧ i = .int .i64 (k : Int) ∧ Hid (Below w.heap.size w wr) ∧ Hid (∀ j, j < k → p.getD j Ev.zero = q.getD j Ev.zero)) (fun i _ => n - (intOf i).toNat)
  case atStart => exact ⟨0, Nat.zero_le _, rfl, Lib.hid (Below.refl _ _), Lib.hid (fun j hj => absurd hj (Nat.not_lt_zero j))⟩
  case round =>
    obtain ⟨k, hk, rfl, HB, HA⟩ := hrel
    by_cases hlt : k < n
    · have hkl : k < p.length := by rw [← HN.out]; exact hlt
      have hkm : k < q.length := by rw [← HM.out]; exact hlt
      obtain ⟨b, off, rfl, hcells⟩ := (HI.out.below HB.out) (by omega)
      obtain ⟨b', off', rfl, hcells'⟩ := (HJ.out.below HB.out) (by omega)
      obtain ⟨g0, g1, g2, g3, g4, g5, g6, g7⟩ := hcells k hkl
      obtain ⟨h0, h1, h2, h3, h4, h5, h6, h7⟩ := hcells' k hkm
      obtain ⟨x, hx⟩ : ∃ x, x = p.getD k Ev.zero := ⟨_, rfl⟩
      obtain ⟨y, hy⟩ : ∃ y, y = q.getD k Ev.zero := ⟨_, rfl⟩
      rw [← hx] at g0 g1 g2 g3 g4 g5 g6 g7
      rw [← hy] at h0 h1 h2 h3 h4 h5 h6 h7
      have HX := Lib.hid hx
      have HY := Lib.hid hy
      have heq : ∀ W : World, (binOp .neq 38 x.v y.v).run Try.prog W = .ok (.bool (!decide (x = y))) W := fun W => run_ev_ne x y W
      unfold Ev.v at heq
      clear hx hy hkl hkm hcells hcells'
      by_cases hxy : x = y
      · have HXY := Lib.hid hxy
        rw [decide_eq_true hxy] at heq
        clear hxy
        go_wp2
        go_quiet (fail)
        go_wp2
        go_roundw
        case rel => exact ⟨k + 1, by omega, by go_num, Lib.hid (below_drewN HB.out _), Lib.hid (fun j hj => by
          rcases Nat.lt_or_ge j k with h | h
          · exact HA.out j h
          · obtain rfl : j = k := by omega
            rw [← HX.out, ← HY.out]; exact HXY.out)⟩
        case measure => simp [intOf]; omega
      · have HXY := Lib.hid hxy
        rw [decide_eq_false hxy] at heq
        clear hxy
        go_wp2
        go_quiet (fail)
        go_wp2
        go_ret
        exact ⟨by rw [decide_eq_false (fun e : p = q => HXY.out (by rw [HX.out, HY.out, e]))]; rfl, below_drewN HB.out _⟩
    · obtain rfl : k = n := by omega
      have HE : Hid (decide (p = q) = true) := Lib.hid (decide_eq_true (evs_all (by rw [← HN.out, ← HM.out]) (fun i hi => HA.out i (by rw [HN.out]; exact hi))))
      go_wp2
      go_ret
      exact ⟨by rw [HE.out]; rfl, HB.out⟩
end Go.Proofs.Ytmpipjangbedkaa

/-
  A journal's records: the config and the events, as lists; rows of bytes as the reference's Records answers them.
-/
namespace Go.Proofs.Ytmpipjangbedkaa
set_option maxRecDepth 8000
open Go Go.RowKit
set_option linter.unusedVariables false

/-- The events of the records up to the first that is none, and how many records follow. -/
def evs : List (List Nat) → List Ev × Nat
  | [] => ([], 0)
  | b :: ls => match readE b with
    | none => ([], ls.length + 1)
    | some e => (e :: (evs ls).1, (evs ls).2)
theorem evs_none {b : List Nat} {ls : List (List Nat)} (h : readE b = none) : evs (b :: ls) = ([], ls.length + 1) := by
  show (match readE b with | none => ([], ls.length + 1) | some e => (e :: (evs ls).1, (evs ls).2)) = _
  rw [h]
theorem evs_some {b : List Nat} {ls : List (List Nat)} {e : Ev} (h : readE b = some e) : evs (b :: ls) = (e :: (evs ls).1, (evs ls).2) := by
  show (match readE b with | none => ([], ls.length + 1) | some e => (e :: (evs ls).1, (evs ls).2)) = _
  rw [h]
/-- Those behind some that are. -/
def preE (es : List Ev) (x : List Ev × Nat) : List Ev × Nat := (es ++ x.1, x.2)
theorem preE_nil (x : List Ev × Nat) : preE [] x = x := rfl
theorem preE_some {es : List Ev} {b : List Nat} {ls : List (List Nat)} {e : Ev} (h : readE b = some e) : preE (es ++ [e]) (evs ls) = preE es (evs (b :: ls)) := by
  rw [evs_some h]
  simp [preE]
/-- What a journal's bytes are: nothing, or a config, its events, how many records follow. -/
def jourL : List (List Nat) → Option (Cfg × List Ev × Nat)
  | [] => none
  | r :: rs => (readP r).map fun cf => (cf, evs rs)
def jour (L : List Nat) : Option (Cfg × List Ev × Nat) := jourL ((recs L).map (·.2))
def jOut (o : Option (Cfg × List Ev × Nat)) : Cfg × List Ev × Nat := o.getD (Cfg.zero, [], 0)
/-- The bytes of every record are octets, and few. -/
theorem oct_next {l : List Nat} (h : Oct l) : Oct (nextL l).1 := by
  unfold nextL
  repeat' split
  · exact fun x hx => by cases hx
  · exact fun x hx => by cases hx
  · exact fun x hx => by cases hx
  · exact (h.drop 2).take _
  · exact fun x hx => by cases hx
theorem recF_oct (f : Nat) : ∀ (p : Nat) (l : List Nat), Oct l → ∀ e ∈ recF f p l, Oct e.2 ∧ e.2.length ≤ 400 := by
  induction f with
  | zero => intro p l _ e he; simp [recF] at he
  | succ f ih =>
    intro p l hl e he
    by_cases h : (nextL l).2.2 = 0
    · rw [recF_more h] at he
      rcases List.mem_cons.1 he with rfl | he
      · exact ⟨oct_next hl, (next_fact l h).2.2⟩
      · exact ih _ _ (hl.drop _) e he
    · rw [recF_end h] at he; cases he
theorem recs_oct {L : List Nat} (h : Oct L) : ∀ b ∈ (recs L).map (·.2), Oct b ∧ b.length ≤ 400 := by
  intro b hb
  obtain ⟨e, he, rfl⟩ := List.mem_map.1 hb
  exact recF_oct _ _ _ h e he
/-- Rows of bytes in memory. -/
def RowsM (W : World) (A : Option Addr) (ls : List (List Nat)) : Prop :=
  0 < ls.length → ∃ g, A = some ⟨g, 0, none⟩ ∧ ∀ i, i < ls.length → ∃ A' c', W.cell? ⟨g, i, none⟩ = some (.slice A' (ls.getD i []).length c') ∧ Byts W A' (ls.getD i []) ∧ (ls.getD i []).length ≤ c' ∧ c' ≤ 9223372036854775807 ∧ (A' = none → c' = 0)
theorem RowsM.below {w w' : World} {A : Option Addr} {ls : List (List Nat)} (h : RowsM w A ls) (hb : Below w.heap.size w w') : RowsM w' A ls := by
  intro h0
  obtain ⟨g, e, hc⟩ := h h0
  refine ⟨g, e, fun i hi => ?_⟩
  obtain ⟨A', c', h1, h2, h3⟩ := hc i hi
  exact ⟨A', c', (hb.cell (p := ⟨g, i, none⟩) (block_lt h1)).trans h1, h2.below hb, h3⟩
theorem recs_rows {B : Nat} {W : World} {v1 v2 : Value} {R : List (Nat × List Nat)} (h : RecS B W v1 v2 R) : ∃ A c, v2 = .slice A R.length c ∧ RowsM W A (R.map (·.2)) := by
  obtain ⟨vs, h1, h2, h3⟩ := h.l
  rcases h2.2 with ⟨rfl, h0⟩ | ⟨g, cap, cur, rfl, hg, hgg, k1, k2, k3, k4⟩
  · exact ⟨none, 0, by rw [h0], fun h => by simp at h; omega⟩
  · refine ⟨_, cap, rfl, fun _ => ⟨g, rfl, fun i hi => ?_⟩⟩
    rw [List.length_map] at hi
    have hv : vs[i]? = some vs[i] := List.getElem?_eq_getElem (by omega)
    obtain ⟨A', c', e1, e2, e3, e4, e5, _⟩ := (h3 i _ hv).form
    have eg : (R.map (·.2)).getD i [] = (R.getD i (0, [])).2 := by
      rw [List.getD_eq_getElem?_getD, List.getD_eq_getElem?_getD, List.getElem?_map]
      cases R[i]? <;> rfl
    refine ⟨A', c', ?_, by rw [eg]; exact e2, by rw [eg]; exact e3, e4, e5⟩
    rw [eg, ← e1, ← hv]
    have e6 : W.cell? ⟨g, i, none⟩ = cur.toList[i]? := by simp [World.cell?, hgg]
    rw [e6, ← k4, List.getElem?_take_of_lt (by omega)]
/-- What the reference's Events answers. -/
def JourC (w : World) (o : Option (Cfg × List Ev × Nat)) (e : Ending) (w' : World) : Prop :=
  ∃ v V, e = .returned (.tuple #[(jOut o).1.v v, V, .int .i64 ((jOut o).2.2 : Int), .bool o.isSome]) ∧ OwnI w' w.heap.size v (jOut o).1.insts ∧ OwnE w' w.heap.size V (jOut o).2.1 ∧ Below w.heap.size w w'
theorem jourC_none {w w' : World} (h : Below w.heap.size w w') : JourC w none (.returned (.tuple #[.agg #[.slice none 0 0, .int .i64 0, .int .i64 0, .int .i64 0, .int .i64 0, .int .i64 0, .int .i64 0], .slice none 0 0, .int .i64 0, .bool false])) w' := ⟨_, _, rfl, ownL_nil _ _, ownL_nil _ _, h⟩
theorem recF_len (f : Nat) : ∀ (p : Nat) (l : List Nat), (recF f p l).length ≤ f := by
  induction f with
  | zero => intro p l; simp [recF]
  | succ f ih =>
    intro p l
    by_cases h : (nextL l).2.2 = 0
    · rw [recF_more h, List.length_cons]
      have := ih (p + (nextL l).2.1) (l.drop (nextL l).2.1)
      omega
    · rw [recF_end h]; simp
theorem recs_len (L : List Nat) : (recs L).length ≤ L.length + 1 := recF_len _ _ _
theorem planK_bad {w w' : World} {e : Ending} (h : PlanK w none e w') : ∃ V k, e = .returned (.tuple #[.agg #[.slice V 0 k, .int .i64 0, .int .i64 0, .int .i64 0, .int .i64 0, .int .i64 0, .int .i64 0], .int .i64 13]) ∧ Below w.heap.size w w' := by
  obtain ⟨v, e1, h1, h2⟩ := h
  obtain ⟨V, k, rfl, _⟩ := OwnL.form h1 lay_ins
  exact ⟨V, k, e1, h2⟩
theorem planK_good {w w' : World} {e : Ending} {cf : Cfg} (h : PlanK w (some cf) e w') : ∃ V k, e = .returned (.tuple #[.agg #[.slice V cf.insts.length k, .int .i64 cf.skin, .int .i64 cf.times, .int .i64 cf.port, .int .i64 cf.bid, .int .i64 cf.lot, .int .i64 cf.hedge], .int .i64 0]) ∧ OwnI w' w.heap.size (.slice V cf.insts.length k) cf.insts ∧ Below w.heap.size w w' := by
  obtain ⟨v, e1, h1, h2⟩ := h
  obtain ⟨V, k, rfl, _⟩ := OwnL.form h1 lay_ins
  exact ⟨V, k, e1, h1, h2⟩
end Go.Proofs.Ytmpipjangbedkaa
