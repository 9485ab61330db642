import Derived.Test.YtmpipjangbedkaaGreatMPv7
import Derived.Test.YtmpipjangbedkaaGreatMPq6
import Derived.Test.YtmpipjangbedkaaGreatMPqr
import Derived.Test.YtmpipjangbedkaaGreatMDkO
import Derived.Test.YtmpipjangbedkaaGreatMFr6
import Derived.Test.YtmpipjangbedkaaGreatMFr5
import Derived.Test.YtmpipjangbedkaaGreatMTp6
import Derived.Test.YtmpipjangbedkaaGreatMEv3
import Derived.Test.YtmpipjangbedkaaGreatMDk1
import Derived.WalkSmall
import Derived.Deep.QuietTactic
import Derived.BigQuiet
/-
  The journal's layers in one seat: frame, tape, event, plan and their references.
-/
namespace Go.Proofs.YtmpipjangbedkaaGreat
set_option maxRecDepth 8000
open Go.RowKit
end Go.Proofs.YtmpipjangbedkaaGreat

/-
  Lists of events in memory and of the call's own; the walk of novationhelp.Events.
-/
namespace Go.Proofs.YtmpipjangbedkaaGreat
set_option maxRecDepth 8000
open Go Go.RowKit
set_option linter.unusedVariables false

/-- A list of events in memory. -/
def EvM (W : World) (A : Option Addr) (l : List Ev) : Prop :=
  0 < l.length → ∃ b off, A = some ⟨b, off, none⟩ ∧ ∀ i, i < l.length → W.cell? ⟨b, off + i * 8, none⟩ = some (.int .i64 (l.getD i Ev.zero).kind) ∧ W.cell? ⟨b, off + i * 8 + 1, none⟩ = some (.int .i64 (l.getD i Ev.zero).member) ∧ W.cell? ⟨b, off + i * 8 + 2, none⟩ = some (.int .i64 (l.getD i Ev.zero).acc) ∧ W.cell? ⟨b, off + i * 8 + 3, none⟩ = some (.int .i64 (l.getD i Ev.zero).inst) ∧ W.cell? ⟨b, off + i * 8 + 4, none⟩ = some (.int .i64 (l.getD i Ev.zero).side) ∧ W.cell? ⟨b, off + i * 8 + 5, none⟩ = some (.int .i64 (l.getD i Ev.zero).id) ∧ W.cell? ⟨b, off + i * 8 + 6, none⟩ = some (.int .i64 (l.getD i Ev.zero).q) ∧ W.cell? ⟨b, off + i * 8 + 7, none⟩ = some (.int .i64 (l.getD i Ev.zero).p)
theorem EvM.below {W W' : World} {A : Option Addr} {l : List Ev} (h : EvM W A l) (hb : Below W.heap.size W W') : EvM W' A l := by
  intro h0
  obtain ⟨b, off, e, hc⟩ := h h0
  refine ⟨b, off, e, fun i hi => ?_⟩
  obtain ⟨c0, c1, c2, c3, c4, c5, c6, c7⟩ := hc i hi
  exact ⟨(hb.cell (p := ⟨b, off + i * 8, none⟩) (block_lt c0)).trans c0, (hb.cell (p := ⟨b, off + i * 8 + 1, none⟩) (block_lt c1)).trans c1, (hb.cell (p := ⟨b, off + i * 8 + 2, none⟩) (block_lt c2)).trans c2, (hb.cell (p := ⟨b, off + i * 8 + 3, none⟩) (block_lt c3)).trans c3, (hb.cell (p := ⟨b, off + i * 8 + 4, none⟩) (block_lt c4)).trans c4, (hb.cell (p := ⟨b, off + i * 8 + 5, none⟩) (block_lt c5)).trans c5, (hb.cell (p := ⟨b, off + i * 8 + 6, none⟩) (block_lt c6)).trans c6, (hb.cell (p := ⟨b, off + i * 8 + 7, none⟩) (block_lt c7)).trans c7⟩
theorem lay_ev : Lay Ev.cells 54 51 8 64 := by
  refine ⟨Tryz.underlying54, ?_, by omega, fun _ => rfl, fun x u hu => ?_⟩
  · have h : (Tryz.prog.info? 51).map (fun i => (i.zero, i.size, i.bytes)) = some (some (.agg #[.int .i64 0, .int .i64 0, .int .i64 0, .int .i64 0, .int .i64 0, .int .i64 0, .int .i64 0, .int .i64 0]), 8, 64) := by kernel_rfl
    obtain ⟨i, h1, h2, h3, h4⟩ := parts_of h
    exact ⟨i, _, h1, h2, h3, h4, rfl⟩
  · simp [Ev.cells] at hu
    rcases hu with rfl | rfl | rfl | rfl | rfl | rfl | rfl | rfl <;> rfl
/-- A list of events of the call's own. -/
def OwnE (w : World) (base : Nat) (v : Value) (l : List Ev) : Prop := OwnL Ev.cells 51 8 w base v l
theorem ownE_form {w : World} {base : Nat} {v : Value} {l : List Ev} (h : OwnE w base v l) : ∃ A c, v = .slice A l.length c ∧ l.length ≤ c ∧ EvM w A l := by
  obtain ⟨A, c, e, h1, _, _, h2⟩ := OwnL.form h lay_ev
  refine ⟨A, c, e, h1, fun h0 => ?_⟩
  obtain ⟨g, eA, _, _, hc⟩ := h2 h0
  refine ⟨g, 0, eA, fun i hi => ?_⟩
  have hg : l.getD i Ev.zero = l[i] := by rw [List.getD_eq_getElem?_getD, List.getElem?_eq_getElem hi]; rfl
  have k : ∀ j, j < 8 → w.cell? ⟨g, i * 8 + j, none⟩ = (l[i]).cells[j]? := fun j hj => (hc i hi j hj).1
  rw [hg]
  simp only [Nat.zero_add]
  exact ⟨k 0 (by omega), k 1 (by omega), k 2 (by omega), k 3 (by omega), k 4 (by omega), k 5 (by omega), k 6 (by omega), k 7 (by omega)⟩
set_option maxRecDepth 8000 in
set_option maxHeartbeats 1000000 in
theorem run_ev_ne (x y : Ev) (W : World) : (binOp .neq 51 x.v y.v).run Tryz.prog W = .ok (.bool (!decide (x = y))) W := by
  rw [ev_eq]
  unfold Ev.v
  simp [go_sem]
  repeat' split
  all_goals simp_all
theorem evs_all {a b : List Ev} (hl : a.length = b.length) (h : ∀ i, i < a.length → a.getD i Ev.zero = b.getD i Ev.zero) : a = b := by
  refine List.ext_getElem hl fun i h1 h2 => ?_
  have := h i h1
  rw [List.getD_eq_getElem?_getD, List.getElem?_eq_getElem h1, List.getD_eq_getElem?_getD, List.getElem?_eq_getElem h2] at this
  exact this
set_option maxRecDepth 8000 in
set_option maxHeartbeats 8000000 in
theorem events_any (A B : Option Addr) (p q : List Ev) (n m c d : Nat) (w : World) (hn : n = p.length) (hm : m = q.length) (hI : EvM w A p) (hJ : EvM w B q) (hl : n ≤ 1000000000) : Calls Tryz.prog 23 #[.slice A n c, .slice B m d] w fun r w' => r = .returned (.bool (decide (p = q))) ∧ Below w.heap.size w w' := by
  have HN := Lib.hid hn
  have HM := Lib.hid hm
  have HI := Lib.hid hI
  have HJ := Lib.hid hJ
  by_cases hlen : n ≠ m
  · have HP : Hid (decide (p = q) = false) := Lib.hid (decide_eq_false (fun e => hlen (by rw [hn, hm, e])))
    rw [HP.out]
    have hne : ((n : Int) != (m : Int)) = true := by rw [bne_iff_ne]; omega
    clear hn hm hI hJ hlen
    go_enter Tryz.func23, Tryz.ntmps23
    go_wp2
    go_ret
    exact ⟨rfl, Below.refl _ _⟩
  have hlen := Classical.not_not.1 hlen
  subst hlen
  clear hn hm hI hJ
  go_enter Tryz.func23, Tryz.ntmps23
  go_wp2
  go_loopw [5] (fun i wr => ∃ k : Nat, k ≤ n ∧ i = .int .i64 (k : Int) ∧ Hid (Below w.heap.size w wr) ∧ Hid (∀ j, j < k → p.getD j Ev.zero = q.getD j Ev.zero)) (fun i _ => n - (intOf i).toNat)
  case atStart => exact ⟨0, Nat.zero_le _, rfl, Lib.hid (Below.refl _ _), Lib.hid (fun j hj => absurd hj (Nat.not_lt_zero j))⟩
  case round =>
    obtain ⟨k, hk, rfl, HB, HA⟩ := hrel
    by_cases hlt : k < n
    · have hkl : k < p.length := by rw [← HN.out]; exact hlt
      have hkm : k < q.length := by rw [← HM.out]; exact hlt
      obtain ⟨b, off, rfl, hcells⟩ := (HI.out.below HB.out) (by omega)
      obtain ⟨b', off', rfl, hcells'⟩ := (HJ.out.below HB.out) (by omega)
      obtain ⟨g0, g1, g2, g3, g4, g5, g6, g7⟩ := hcells k hkl
      obtain ⟨h0, h1, h2, h3, h4, h5, h6, h7⟩ := hcells' k hkm
      obtain ⟨x, hx⟩ : ∃ x, x = p.getD k Ev.zero := ⟨_, rfl⟩
      obtain ⟨y, hy⟩ : ∃ y, y = q.getD k Ev.zero := ⟨_, rfl⟩
      rw [← hx] at g0 g1 g2 g3 g4 g5 g6 g7
      rw [← hy] at h0 h1 h2 h3 h4 h5 h6 h7
      have HX := Lib.hid hx
      have HY := Lib.hid hy
      have heq : ∀ W : World, (binOp .neq 51 x.v y.v).run Tryz.prog W = .ok (.bool (!decide (x = y))) W := fun W => run_ev_ne x y W
      unfold Ev.v at heq
      clear hx hy hkl hkm hcells hcells'
      by_cases hxy : x = y
      · have HXY := Lib.hid hxy
        rw [decide_eq_true hxy] at heq
        clear hxy
        go_wp2
        go_quiet (fail)
        go_wp2
        go_roundw
        case rel => exact ⟨k + 1, by omega, by go_num, Lib.hid (below_drewN HB.out _), Lib.hid (fun j hj => by
          rcases Nat.lt_or_ge j k with h | h
          · exact HA.out j h
          · obtain rfl : j = k := by omega
            rw [← HX.out, ← HY.out]; exact HXY.out)⟩
        case measure => simp [intOf]; omega
      · have HXY := Lib.hid hxy
        rw [decide_eq_false hxy] at heq
        clear hxy
        go_wp2
        go_quiet (fail)
        go_wp2
        go_ret
        exact ⟨by rw [decide_eq_false (fun e : p = q => HXY.out (by rw [HX.out, HY.out, e]))]; rfl, below_drewN HB.out _⟩
    · obtain rfl : k = n := by omega
      have HE : Hid (decide (p = q) = true) := Lib.hid (decide_eq_true (evs_all (by rw [← HN.out, ← HM.out]) (fun i hi => HA.out i (by rw [HN.out]; exact hi))))
      go_wp2
      go_ret
      exact ⟨by rw [HE.out]; rfl, HB.out⟩
end Go.Proofs.YtmpipjangbedkaaGreat

/-
  A journal's records: the config and the events, as lists; rows of bytes as the reference's Records answers them.
-/
namespace Go.Proofs.YtmpipjangbedkaaGreat
set_option maxRecDepth 8000
open Go Go.RowKit
set_option linter.unusedVariables false

/-- The events of the records up to the first that is none, and how many records follow. -/
def evs : List (List Nat) → List Ev × Nat
  | [] => ([], 0)
  | b :: ls => match readE b with
    | none => ([], ls.length + 1)
    | some e => (e :: (evs ls).1, (evs ls).2)
theorem evs_none {b : List Nat} {ls : List (List Nat)} (h : readE b = none) : evs (b :: ls) = ([], ls.length + 1) := by
  show (match readE b with | none => ([], ls.length + 1) | some e => (e :: (evs ls).1, (evs ls).2)) = _
  rw [h]
theorem evs_some {b : List Nat} {ls : List (List Nat)} {e : Ev} (h : readE b = some e) : evs (b :: ls) = (e :: (evs ls).1, (evs ls).2) := by
  show (match readE b with | none => ([], ls.length + 1) | some e => (e :: (evs ls).1, (evs ls).2)) = _
  rw [h]
/-- Those behind some that are. -/
def preE (es : List Ev) (x : List Ev × Nat) : List Ev × Nat := (es ++ x.1, x.2)
theorem preE_nil (x : List Ev × Nat) : preE [] x = x := rfl
theorem preE_some {es : List Ev} {b : List Nat} {ls : List (List Nat)} {e : Ev} (h : readE b = some e) : preE (es ++ [e]) (evs ls) = preE es (evs (b :: ls)) := by
  rw [evs_some h]
  simp [preE]
/-- What a journal's bytes are: nothing, or a config, its events, how many records follow. -/
def jourL : List (List Nat) → Option (Cfg × List Ev × Nat)
  | [] => none
  | r :: rs => (readP r).map fun cf => (cf, evs rs)
def jour (L : List Nat) : Option (Cfg × List Ev × Nat) := jourL ((recs L).map (·.2))
def jOut (o : Option (Cfg × List Ev × Nat)) : Cfg × List Ev × Nat := o.getD (Cfg.zero, [], 0)
/-- The bytes of every record are octets, and few. -/
theorem oct_next {l : List Nat} (h : Oct l) : Oct (nextL l).1 := by
  unfold nextL
  repeat' split
  · exact fun x hx => by cases hx
  · exact fun x hx => by cases hx
  · exact fun x hx => by cases hx
  · exact (h.drop 2).take _
  · exact fun x hx => by cases hx
theorem recF_oct (f : Nat) : ∀ (p : Nat) (l : List Nat), Oct l → ∀ e ∈ recF f p l, Oct e.2 ∧ e.2.length ≤ 400 := by
  induction f with
  | zero => intro p l _ e he; simp [recF] at he
  | succ f ih =>
    intro p l hl e he
    by_cases h : (nextL l).2.2 = 0
    · rw [recF_more h] at he
      rcases List.mem_cons.1 he with rfl | he
      · exact ⟨oct_next hl, (next_fact l h).2.2⟩
      · exact ih _ _ (hl.drop _) e he
    · rw [recF_end h] at he; cases he
theorem recs_oct {L : List Nat} (h : Oct L) : ∀ b ∈ (recs L).map (·.2), Oct b ∧ b.length ≤ 400 := by
  intro b hb
  obtain ⟨e, he, rfl⟩ := List.mem_map.1 hb
  exact recF_oct _ _ _ h e he
/-- Rows of bytes in memory. -/
def RowsM (W : World) (A : Option Addr) (ls : List (List Nat)) : Prop :=
  0 < ls.length → ∃ g, A = some ⟨g, 0, none⟩ ∧ ∀ i, i < ls.length → ∃ A' c', W.cell? ⟨g, i, none⟩ = some (.slice A' (ls.getD i []).length c') ∧ Byts W A' (ls.getD i []) ∧ (ls.getD i []).length ≤ c' ∧ c' ≤ 9223372036854775807 ∧ (A' = none → c' = 0)
theorem RowsM.below {w w' : World} {A : Option Addr} {ls : List (List Nat)} (h : RowsM w A ls) (hb : Below w.heap.size w w') : RowsM w' A ls := by
  intro h0
  obtain ⟨g, e, hc⟩ := h h0
  refine ⟨g, e, fun i hi => ?_⟩
  obtain ⟨A', c', h1, h2, h3⟩ := hc i hi
  exact ⟨A', c', (hb.cell (p := ⟨g, i, none⟩) (block_lt h1)).trans h1, h2.below hb, h3⟩
theorem recs_rows {B : Nat} {W : World} {v1 v2 : Value} {R : List (Nat × List Nat)} (h : RecS B W v1 v2 R) : ∃ A c, v2 = .slice A R.length c ∧ RowsM W A (R.map (·.2)) := by
  obtain ⟨vs, h1, h2, h3⟩ := h.l
  rcases h2.2 with ⟨rfl, h0⟩ | ⟨g, cap, cur, rfl, hg, hgg, k1, k2, k3, k4⟩
  · exact ⟨none, 0, by rw [h0], fun h => by simp at h; omega⟩
  · refine ⟨_, cap, rfl, fun _ => ⟨g, rfl, fun i hi => ?_⟩⟩
    rw [List.length_map] at hi
    have hv : vs[i]? = some vs[i] := List.getElem?_eq_getElem (by omega)
    obtain ⟨A', c', e1, e2, e3, e4, e5, _⟩ := (h3 i _ hv).form
    have eg : (R.map (·.2)).getD i [] = (R.getD i (0, [])).2 := by
      rw [List.getD_eq_getElem?_getD, List.getD_eq_getElem?_getD, List.getElem?_map]
      cases R[i]? <;> rfl
    refine ⟨A', c', ?_, by rw [eg]; exact e2, by rw [eg]; exact e3, e4, e5⟩
    rw [eg, ← e1, ← hv]
    have e6 : W.cell? ⟨g, i, none⟩ = cur.toList[i]? := by simp [World.cell?, hgg]
    rw [e6, ← k4, List.getElem?_take_of_lt (by omega)]
/-- What the reference's Events answers. -/
def JourC (w : World) (o : Option (Cfg × List Ev × Nat)) (e : Ending) (w' : World) : Prop :=
  ∃ v V, e = .returned (.tuple #[(jOut o).1.v v, V, .int .i64 ((jOut o).2.2 : Int), .bool o.isSome]) ∧ OwnI w' w.heap.size v (jOut o).1.insts ∧ OwnE w' w.heap.size V (jOut o).2.1 ∧ Below w.heap.size w w'
theorem jourC_none {w w' : World} (h : Below w.heap.size w w') : JourC w none (.returned (.tuple #[.agg #[.slice none 0 0, .int .i64 0, .int .i64 0, .int .i64 0, .int .i64 0, .int .i64 0, .int .i64 0], .slice none 0 0, .int .i64 0, .bool false])) w' := ⟨_, _, rfl, ownL_nil _ _, ownL_nil _ _, h⟩
theorem recF_len (f : Nat) : ∀ (p : Nat) (l : List Nat), (recF f p l).length ≤ f := by
  induction f with
  | zero => intro p l; simp [recF]
  | succ f ih =>
    intro p l
    by_cases h : (nextL l).2.2 = 0
    · rw [recF_more h, List.length_cons]
      have := ih (p + (nextL l).2.1) (l.drop (nextL l).2.1)
      omega
    · rw [recF_end h]; simp
theorem recs_len (L : List Nat) : (recs L).length ≤ L.length + 1 := recF_len _ _ _
theorem planK_bad {w w' : World} {e : Ending} (h : PlanK w none e w') : ∃ V k, e = .returned (.tuple #[.agg #[.slice V 0 k, .int .i64 0, .int .i64 0, .int .i64 0, .int .i64 0, .int .i64 0, .int .i64 0], .int .i64 13]) ∧ Below w.heap.size w w' := by
  obtain ⟨v, e1, h1, h2⟩ := h
  obtain ⟨V, k, rfl, _⟩ := OwnL.form h1 lay_ins
  exact ⟨V, k, e1, h2⟩
theorem planK_good {w w' : World} {e : Ending} {cf : Cfg} (h : PlanK w (some cf) e w') : ∃ V k, e = .returned (.tuple #[.agg #[.slice V cf.insts.length k, .int .i64 cf.skin, .int .i64 cf.times, .int .i64 cf.port, .int .i64 cf.bid, .int .i64 cf.lot, .int .i64 cf.hedge], .int .i64 0]) ∧ OwnI w' w.heap.size (.slice V cf.insts.length k) cf.insts ∧ Below w.heap.size w w' := by
  obtain ⟨v, e1, h1, h2⟩ := h
  obtain ⟨V, k, rfl, _⟩ := OwnL.form h1 lay_ins
  exact ⟨V, k, e1, h1, h2⟩
end Go.Proofs.YtmpipjangbedkaaGreat

/-
  A journal's bytes, whole or cut off, as lists. No program is named here.
-/
namespace Go.Proofs.YtmpipjangbedkaaGreat
set_option maxRecDepth 8000
open Go Go.RowKit
set_option linter.unusedVariables false

/-- All records, one behind the other. -/
def catJ (ls : List (List Nat)) : List Nat := (ls.map recL).flatten
theorem catJ_take (ls : List (List Nat)) (k : Nat) (h : k < ls.length) : catJ (ls.take (k + 1)) = catJ (ls.take k) ++ recL (ls.getD k []) := by
  unfold catJ
  rw [List.take_succ_eq_append_getElem h, List.map_append, List.flatten_append, List.getD_eq_getElem?_getD, List.getElem?_eq_getElem h]
  simp
theorem stored_app (s : Nat) (r : List Nat) (h : s < 4294967296) : stored (le4 s ++ r) = s := by simp [stored, le4]; omega
theorem size_app (x r : List Nat) : sizeL (recL x ++ r) = x.length := by
  unfold sizeL recL headL
  simp
  omega
theorem size_rec (x : List Nat) : sizeL (recL x) = x.length := by have := size_app x []; rwa [List.append_nil] at this
theorem next_rec (x r : List Nat) (h : x.length ≤ 400) : nextL (recL x ++ r) = (x, x.length + 6, 0) := by
  have hs := size_app x r
  have hl : (recL x ++ r).length = x.length + 6 + r.length := by rw [List.length_append, recL_length]
  have hd : (recL x ++ r).drop 2 = x ++ (le4 (crc (headL x)) ++ r) := by simp [recL, headL]
  have h3 : crc ((recL x ++ r).take (sizeL (recL x ++ r) + 2)) = stored ((recL x ++ r).drop (sizeL (recL x ++ r) + 2)) := by
    rw [hs]
    unfold recL
    rw [List.append_assoc, ← headL_length x, List.take_left, List.drop_left, stored_app _ _ (crc_lt _)]
  rw [next_ok (by omega) (by omega) (by omega) h3, hs, hd, List.take_left]
theorem next_cut (x : List Nat) (h : x.length ≤ 400) (m : Nat) (hm : m < x.length + 6) : nextL ((recL x).take m) = ([], 0, 12) := by
  have hl : ((recL x).take m).length = m := by rw [List.length_take, recL_length]; omega
  by_cases h2 : m < 2
  · exact next_short0 (by omega)
  · have hs : sizeL ((recL x).take m) = x.length := by
      rw [← size_rec x]
      unfold sizeL
      rw [List.getD_eq_getElem?_getD, List.getD_eq_getElem?_getD, List.getElem?_take_of_lt (by omega), List.getElem?_take_of_lt (by omega), List.getD_eq_getElem?_getD, List.getD_eq_getElem?_getD]
    exact next_short1 (by omega) (by omega) (by omega)
/-- Where texts stand as records, and they. -/
def placesJ : Nat → List (List Nat) → List (Nat × List Nat)
  | _, [] => []
  | p, x :: xs => (p, x) :: placesJ (p + (x.length + 6)) xs
theorem catJ_cons (x : List Nat) (xs : List (List Nat)) : catJ (x :: xs) = recL x ++ catJ xs := by simp [catJ]
theorem catJ_append (a b : List (List Nat)) : catJ (a ++ b) = catJ a ++ catJ b := by simp [catJ]
theorem placesJ_append (p : Nat) (a b : List (List Nat)) : placesJ p (a ++ b) = placesJ p a ++ placesJ (p + (catJ a).length) b := by
  induction a generalizing p with
  | nil => simp [placesJ, catJ]
  | cons x a ih =>
    simp only [List.cons_append, placesJ, ih, catJ_cons, List.length_append, recL_length]
    rw [Nat.add_assoc]
theorem placesJ_length (p : Nat) (a : List (List Nat)) : (placesJ p a).length = a.length := by
  induction a generalizing p with
  | nil => rfl
  | cons x a ih => simp [placesJ, ih]
theorem placesJ_get (ls : List (List Nat)) (i : Nat) (hi : i < ls.length) : (placesJ 0 ls)[i]? = some ((catJ (ls.take i)).length, ls.getD i []) := by
  have h : ls = ls.take i ++ (ls.getD i [] :: ls.drop (i + 1)) := by
    rw [List.getD_eq_getElem?_getD, List.getElem?_eq_getElem hi]
    simp
  have hlen : (placesJ 0 (ls.take i)).length = i := by rw [placesJ_length, List.length_take]; omega
  generalize ls.getD i [] = x at *
  generalize hr : ls.drop (i + 1) = r at *
  generalize ht : ls.take i = t at *
  rw [h, placesJ_append, Nat.zero_add, placesJ, List.getElem?_append_right (by omega), hlen, Nat.sub_self]
  rfl
theorem recF_catJ (ls : List (List Nat)) (hF : ∀ x ∈ ls, x.length ≤ 400) (r : List Nat) (f p : Nat) (hf : ls.length ≤ f) : recF f p (catJ ls ++ r) = placesJ p ls ++ recF (f - ls.length) (p + (catJ ls).length) r := by
  induction ls generalizing f p with
  | nil => simp [placesJ, catJ]
  | cons x ls ih =>
    obtain ⟨f', rfl⟩ : ∃ f', f = f' + 1 := ⟨f - 1, by simp at hf; omega⟩
    have hn := next_rec x (catJ ls ++ r) (hF x List.mem_cons_self)
    rw [catJ_cons, List.append_assoc, recF_more (by rw [hn]), hn]
    simp only
    have hd : (recL x ++ (catJ ls ++ r)).drop (x.length + 6) = catJ ls ++ r := by rw [← recL_length x, List.drop_left]
    rw [hd, ih (fun y hy => hF y (List.mem_cons_of_mem _ hy)) f' _ (by simp at hf; omega)]
    simp only [placesJ, List.cons_append, List.length_append, recL_length, List.length_cons, Nat.add_sub_add_right]
    rw [Nat.add_assoc p]
theorem recF_short (f p : Nat) (r : List Nat) (h : ¬ (nextL r).2.2 = 0) : recF f p r = [] := by
  cases f with
  | zero => rfl
  | succ f => exact recF_end h
theorem catJ_long (ls : List (List Nat)) : 6 * ls.length ≤ (catJ ls).length := by
  induction ls with
  | nil => simp
  | cons x ls ih => rw [catJ_cons, List.length_append, recL_length, List.length_cons]; omega
theorem recs_catJ (ls : List (List Nat)) (hF : ∀ x ∈ ls, x.length ≤ 400) (r : List Nat) (h : ¬ (nextL r).2.2 = 0) : recs (catJ ls ++ r) = placesJ 0 ls := by
  unfold recs
  rw [recF_catJ ls hF r _ 0 (by have := catJ_long ls; rw [List.length_append]; omega), recF_short _ _ r h, List.append_nil]
theorem whole_catJ (ls : List (List Nat)) : wholeOf (placesJ 0 ls) = (catJ ls).length := by
  rcases List.eq_nil_or_concat ls with rfl | ⟨a, x, rfl⟩
  · rfl
  · rw [List.concat_eq_append, placesJ_append, Nat.zero_add]
    simp only [placesJ]
    rw [wholeOf_snoc, catJ_append, List.length_append, catJ_cons, List.length_append, recL_length]
    simp [catJ]
    omega
theorem next_nil : ¬ (nextL []).2.2 = 0 := by rw [next_short0 (by simp)]; simp
/-- What is left of records that are cut off: the whole ones, and a front of one. -/
theorem cut_catJ (ls : List (List Nat)) (h : ∀ x ∈ ls, x.length ≤ 400) (n k : Nat) (hn : n ≤ (catJ ls).length) (hk : k ≤ ls.length) (h1 : (catJ (ls.take k)).length ≤ n) (h2 : k < ls.length → n < (catJ (ls.take k)).length + (ls.getD k []).length + 6) :
    ∃ r, (catJ ls).take n = catJ (ls.take k) ++ r ∧ ((catJ ls).take n).drop (catJ (ls.take k)).length = r ∧ r.length = n - (catJ (ls.take k)).length ∧ (nextL r).2.2 = 12 := by
  have e : catJ ls = catJ (ls.take k) ++ catJ (ls.drop k) := by rw [← catJ_append, List.take_append_drop]
  have e2 : (catJ ls).take n = catJ (ls.take k) ++ (catJ (ls.drop k)).take (n - (catJ (ls.take k)).length) := by
    rw [e, List.take_append, List.take_of_length_le h1]
  have hlen : (catJ ls).length = (catJ (ls.take k)).length + (catJ (ls.drop k)).length := by rw [e, List.length_append]
  refine ⟨_, e2, by rw [e2, List.drop_left], by rw [List.length_take]; omega, ?_⟩
  by_cases hlt : k < ls.length
  · have hd : ls.drop k = ls.getD k [] :: ls.drop (k + 1) := by
      rw [List.getD_eq_getElem?_getD, List.getElem?_eq_getElem hlt]
      simp
    have h3 := h2 hlt
    have h4 : (ls.getD k []).length ≤ 400 := by
      rw [List.getD_eq_getElem?_getD, List.getElem?_eq_getElem hlt]; exact h _ (List.getElem_mem hlt)
    generalize ls.getD k [] = x at *
    rw [hd, catJ_cons, List.take_append_of_le_length (by rw [recL_length]; omega), next_cut x h4 _ (by omega)]
  · have h0 : ls.drop k = [] := List.drop_eq_nil_of_le (by omega)
    rw [h0, show catJ [] = [] from rfl, List.take_nil, next_short0 (by simp)]

/-- An event's text, a journal's texts. -/
def textE (e : Ev) : List Nat := putB e (fieldsOf e.kind)
def jls (cf : Cfg) (es : List Ev) : List (List Nat) := planB cf 6 :: es.map textE
theorem textE_len {e : Ev} (h : Good e) : (textE e).length ≤ 400 := by
  have h1 := putB_len h.1 (fieldsOf e.kind)
  have h2 := fields_len e.kind
  unfold textE; omega
theorem textE_oct {e : Ev} (h : Good e) : Oct (textE e) := putB_oct (right_is h.2) _
theorem plan_small {cf : Cfg} (hp : planOk cf = true) : cf.insts.length ≤ 6 := by
  unfold planOk at hp
  rw [Bool.and_eq_true, Bool.and_eq_true] at hp
  exact of_decide_eq_true hp.1.2
theorem planB_400 {cf : Cfg} (ok : CfgI cf) (hp : planOk cf = true) : (planB cf 6).length ≤ 400 := by
  have h1 := plan_small hp
  have := planB_len ok (by omega) 6; omega
theorem jls_len {cf : Cfg} {es : List Ev} (ok : CfgI cf) (hp : planOk cf = true) (hg : ∀ x ∈ es, Good x) : ∀ x ∈ jls cf es, x.length ≤ 400 := by
  intro x hx
  rcases List.mem_cons.1 hx with rfl | hx
  · exact planB_400 ok hp
  · obtain ⟨e, he, rfl⟩ := List.mem_map.1 hx
    exact textE_len (hg e he)
theorem evs_text {es : List Ev} (hg : ∀ x ∈ es, Good x) : evs (es.map textE) = (es, 0) := by
  induction es with
  | nil => rfl
  | cons e es ih =>
    have h := hg e List.mem_cons_self
    rw [List.map_cons, evs_some (show readE (textE e) = some e from readE_put h.1 h.2), ih (fun x hx => hg x (List.mem_cons_of_mem _ hx))]
theorem jourL_jls {cf : Cfg} {es : List Ev} (ok : CfgI cf) (hp : planOk cf = true) (hg : ∀ x ∈ es, Good x) : jourL (jls cf es) = some (cf, es, 0) := by
  show (readP (planB cf 6)).map _ = _
  rw [readP_put ok hp, evs_text hg]
  rfl
theorem placesJ_snd (p : Nat) (ls : List (List Nat)) : (placesJ p ls).map (·.2) = ls := by
  induction ls generalizing p with
  | nil => rfl
  | cons x ls ih => simp [placesJ, ih]
/-- What a journal's bytes are, with something behind that is no record. -/
theorem jour_jls {cf : Cfg} {es : List Ev} (ok : CfgI cf) (hp : planOk cf = true) (hg : ∀ x ∈ es, Good x) (r : List Nat) (h : ¬ (nextL r).2.2 = 0) :
    jour (catJ (jls cf es) ++ r) = some (cf, es, 0) ∧ wholeOf (recs (catJ (jls cf es) ++ r)) = (catJ (jls cf es)).length ∧ recs (catJ (jls cf es) ++ r) ≠ [] := by
  have e := recs_catJ (jls cf es) (jls_len ok hp hg) r h
  refine ⟨?_, ?_, ?_⟩
  · unfold jour; rw [e, placesJ_snd, jourL_jls ok hp hg]
  · rw [e, whole_catJ]
  · rw [e]; simp [jls, placesJ]
theorem jls_add (cf : Cfg) (es : List Ev) (e : Ev) : catJ (jls cf (es ++ [e])) = catJ (jls cf es) ++ recL (textE e) := by
  unfold jls
  rw [List.map_append, ← List.cons_append, catJ_append]
  simp [catJ]
theorem jls_one (cf : Cfg) : catJ (jls cf []) = recL (planB cf 6) := by simp [jls, catJ]
theorem catJ_bound (ls : List (List Nat)) (h : ∀ x ∈ ls, x.length ≤ 400) : (catJ ls).length ≤ 406 * ls.length := by
  induction ls with
  | nil => simp [catJ]
  | cons x ls ih =>
    rw [catJ_cons, List.length_append, recL_length, List.length_cons]
    have := ih (fun y hy => h y (List.mem_cons_of_mem _ hy))
    have := h x List.mem_cons_self
    omega
theorem jls_long {cf : Cfg} {es : List Ev} (ok : CfgI cf) (hp : planOk cf = true) (hg : ∀ x ∈ es, Good x) : (catJ (jls cf es)).length ≤ 406 * (es.length + 1) := by
  have := catJ_bound _ (jls_len ok hp hg)
  simpa [jls] using this
/-- What Next finds is a record. -/
theorem next_is {L : List Nat} (hO : Oct L) (h : (nextL L).2.2 = 0) : ∃ r, L = recL (nextL L).1 ++ r ∧ (nextL L).1.length ≤ 400 := by
  have hf := (next_fact L h).2.2
  unfold nextL at h
  split at h
  · simp at h
  rename_i h1
  split at h
  · simp at h
  rename_i h2
  split at h
  · simp at h
  rename_i h3
  split at h
  · rename_i h4
    rw [next_ok h1 h2 h3 h4] at hf ⊢
    clear h
    match L, h1, h2, h3, h4, hO, hf with
    | [], h1, _, _, _, _, _ => exact absurd (by simp) h1
    | [_], h1, _, _, _, _, _ => exact absurd (by simp) h1
    | a :: b :: T, h1, h2, h3, h4, hO, hf =>
      have ha := hO a (by simp)
      have hb := hO b (by simp)
      have hs : sizeL (a :: b :: T) = 256 * a + b := rfl
      generalize hS : sizeL (a :: b :: T) = S at *
      have hT : S + 4 ≤ T.length := by simp at h3; omega
      have hd : (a :: b :: T).drop (S + 2) = T.drop S := rfl
      have htk : (a :: b :: T).take (S + 2) = a :: b :: T.take S := rfl
      rw [hd, htk] at h4
      have hlen : (T.take S).length = S := by rw [List.length_take]; omega
      have hd2 : (a :: b :: T).drop 2 = T := rfl
      rw [hd2] at hf ⊢
      have h5 : headL (T.take S) = a :: b :: T.take S := by
        unfold headL
        rw [hlen, show S / 256 = a by omega, show S % 256 = b by omega]
        rfl
      obtain ⟨c0, c1, c2, c3, r, hr⟩ : ∃ c0 c1 c2 c3 r, T.drop S = c0 :: c1 :: c2 :: c3 :: r := by
        have : 4 ≤ (T.drop S).length := by rw [List.length_drop]; omega
        match hq : T.drop S, this with
        | c0 :: c1 :: c2 :: c3 :: r, _ => exact ⟨c0, c1, c2, c3, r, rfl⟩
      have hO2 : Oct (T.drop S) := fun x hx => hO x (by simp [List.mem_of_mem_drop hx])
      rw [hr] at h4 hO2
      have g0 := hO2 c0 (by simp)
      have g1 := hO2 c1 (by simp)
      have g2 := hO2 c2 (by simp)
      have g3 := hO2 c3 (by simp)
      refine ⟨r, ?_, hf⟩
      unfold recL
      rw [h5, h4]
      have hst : stored (c0 :: c1 :: c2 :: c3 :: r) = c0 + 256 * c1 + 65536 * c2 + 16777216 * c3 := rfl
      rw [hst]
      unfold le4
      rw [show (c0 + 256 * c1 + 65536 * c2 + 16777216 * c3) % 256 = c0 by omega, show (c0 + 256 * c1 + 65536 * c2 + 16777216 * c3) / 256 % 256 = c1 by omega, show (c0 + 256 * c1 + 65536 * c2 + 16777216 * c3) / 65536 % 256 = c2 by omega, show (c0 + 256 * c1 + 65536 * c2 + 16777216 * c3) / 16777216 % 256 = c3 by omega]
      have : T = T.take S ++ (c0 :: c1 :: c2 :: c3 :: r) := by rw [← hr, List.take_append_drop]
      simp only [List.cons_append, List.append_assoc, List.nil_append]
      rw [← this]
  · simp at h
/-- Any bytes are records, and something behind that begins with none. -/
theorem split_recs (n : Nat) : ∀ L : List Nat, L.length ≤ n → Oct L → ∃ ls r, L = catJ ls ++ r ∧ (∀ x ∈ ls, x.length ≤ 400) ∧ ¬ (nextL r).2.2 = 0 := by
  induction n with
  | zero =>
    intro L hL _
    obtain rfl := List.eq_nil_of_length_eq_zero (Nat.le_zero.1 hL)
    exact ⟨[], [], rfl, fun x hx => (List.not_mem_nil hx).elim, next_nil⟩
  | succ n ih =>
    intro L hL hO
    by_cases h : (nextL L).2.2 = 0
    · obtain ⟨r, e, hx⟩ := next_is hO h
      generalize (nextL L).1 = x at *
      have hl : L.length = x.length + 6 + r.length := by rw [e, List.length_append, recL_length]
      obtain ⟨ls, q, e2, h2, h3⟩ := ih r (by omega) (fun y hy => hO y (by rw [e]; exact List.mem_append_right _ hy))
      refine ⟨x :: ls, q, by rw [e, e2, catJ_cons, List.append_assoc], fun y hy => ?_, h3⟩
      rcases List.mem_cons.1 hy with rfl | hy
      · exact hx
      · exact h2 y hy
    · exact ⟨[], L, rfl, fun x hx => (List.not_mem_nil hx).elim, h⟩
/-- The bytes of whole records alone are those records. -/
theorem recs_whole {L : List Nat} (hO : Oct L) : recs (L.take (wholeOf (recs L))) = recs L ∧ wholeOf (recs L) ≤ L.length := by
  obtain ⟨ls, r, e, h2, h3⟩ := split_recs L.length L (Nat.le_refl _) hO
  have h4 := recs_catJ ls h2 r h3
  have h5 := recs_catJ ls h2 [] next_nil
  rw [List.append_nil] at h5
  rw [e, h4, whole_catJ, List.take_left, h5]
  exact ⟨rfl, by rw [List.length_append]; omega⟩
theorem whole_zero {L : List Nat} : wholeOf (recs L) = 0 ↔ recs L = [] := by
  constructor
  · intro h
    unfold wholeOf at h
    split at h
    · rename_i h1; exact List.getLast?_eq_none_iff.1 h1
    · omega
  · intro h; rw [h]; rfl
end Go.Proofs.YtmpipjangbedkaaGreat
