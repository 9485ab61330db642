/-
  The walk of novationlaw4's scans.
-/
import Derived.Test.YtmopipclheohcaaRecs
import Derived.Test.YtmopipclheohcaaKnown4
import Derived.Test.YtmopipclheohcaaLPuts
import Derived.Test.YtmopipclheohcaaQRound
namespace Go.Proofs.Ytmopipclheohcaa
open Go Go.RowKit Go.Shelf
attribute [local go_sem] Oper.semAt_some

/-- A row of the call's own, as a slice value and its cells. -/
theorem row_form {w : World} {B e n : Nat} {v : Value} {xs : List Value} (h : w.ownsRow B e 1 v n xs) : ∃ A c, v = .slice A n c ∧ n ≤ 9223372036854775807 ∧ ∀ i u, xs[i]? = some u → ∃ g, A = some ⟨g, 0, none⟩ ∧ w.cell? ⟨g, i, none⟩ = some u := by
  rcases h.2 with ⟨rfl, rfl⟩ | ⟨g, cap, cur, rfl, hg, hgg, h1, h2, _⟩
  · refine ⟨none, 0, rfl, by omega, fun i u hu => ?_⟩
    have := h.1
    have hx : xs = [] := List.eq_nil_of_length_eq_zero (by simpa using this)
    subst hx
    simp at hu
  · refine ⟨some ⟨g, 0, none⟩, cap, rfl, by unfold maxLen at h2; omega, fun i u hu => ⟨g, rfl, ?_⟩⟩
    have hc := h.cells (g := g) rfl i u hu
    rw [Go.WideShapes.add_plain, Nat.zero_add] at hc
    exact hc
theorem next_of_pre {R : List (Nat × List Nat)} {pre : List Elem} {x : Elem} (h : (pre ++ [x]).map elemOf <+: R) : pre.length < R.length ∧ R[pre.length]? = some (x.1, x.2.2) := by
  obtain ⟨t, ht⟩ := h
  have h2 : R[pre.length]? = some (x.1, x.2.2) := by
    rw [← ht, List.map_append, List.append_assoc, List.getElem?_append_right (by simp)]
    simp [elemOf]
  exact ⟨(List.getElem?_eq_some_iff.1 h2).1, h2⟩
/-- What lies there ahead of the loop: the answer's box, the boxes of places and texts, and they. -/
structure ScI (w : World) (s B : Nat) (Ap Al : Option Addr) (cp cl : Nat) (R : List (Nat × List Nat)) (vs : List Value) (W : World) : Prop where
  res : W.cell? ⟨w.heap.size, 0, none⟩ = some (.bool false)
  frz : W.frozen? ⟨w.heap.size, 0, none⟩ = false
  pb : W.cell? ⟨s, 0, none⟩ = some (.slice Ap R.length cp)
  lb : W.cell? ⟨s + 1, 0, none⟩ = some (.slice Al R.length cl)
  ps : ∀ i u, (R.map fun x => Value.int .i64 (x.1 : Int))[i]? = some u → ∃ g, Ap = some ⟨g, 0, none⟩ ∧ W.cell? ⟨g, i, none⟩ = some u
  ls : ∀ i u, vs[i]? = some u → ∃ g, Al = some ⟨g, 0, none⟩ ∧ W.cell? ⟨g, i, none⟩ = some u
  os : ∀ i v, vs[i]? = some v → OwnB W B v (R.getD i (0, [])).2
  len : vs.length = R.length
  bel : Below w.heap.size w W
theorem ScI.below {w : World} {s B : Nat} {Ap Al : Option Addr} {cp cl : Nat} {R : List (Nat × List Nat)} {vs : List Value} {W W' : World} (h : ScI w s B Ap Al cp cl R vs W) (hb : Below W.heap.size W W') : ScI w s B Ap Al cp cl R vs W' := by
  refine ⟨(hb.cell (p := ⟨w.heap.size, 0, none⟩) (block_lt h.res)).trans h.res, (hb.frozen (p := ⟨w.heap.size, 0, none⟩) (block_lt h.res)).trans h.frz, (hb.cell (p := ⟨s, 0, none⟩) (block_lt h.pb)).trans h.pb, (hb.cell (p := ⟨s + 1, 0, none⟩) (block_lt h.lb)).trans h.lb, fun i u hu => ?_, fun i u hu => ?_, fun i v hv => own_below (h.os i v hv) hb, h.len, h.bel.trans (hb.mono h.bel.size)⟩
  · obtain ⟨g, e, hc⟩ := h.ps i u hu
    exact ⟨g, e, (hb.cell (p := ⟨g, i, none⟩) (block_lt hc)).trans hc⟩
  · obtain ⟨g, e, hc⟩ := h.ls i u hu
    exact ⟨g, e, (hb.cell (p := ⟨g, i, none⟩) (block_lt hc)).trans hc⟩
theorem ScI.new {w w3 : World} {B : Nat} {Ap Al : Option Addr} {cp cl : Nat} {R : List (Nat × List Nat)} {vs : List Value} (t t' : TypeId) (hb0 : Boxed w3 w.heap.size 4 (.bool false)) (hB : Below w.heap.size w w3)
    (hp : w3.ownsRow B 3 1 (.slice Ap R.length cp) R.length (R.map fun x => Value.int .i64 (x.1 : Int))) (hv0 : vs.length = R.length) (hvl : w3.ownsRow B 22 1 (.slice Al R.length cl) R.length vs) (hvs : ∀ i v, vs[i]? = some v → OwnB w3 B v (R.getD i (0, [])).2) :
    ScI w w3.heap.size B Ap Al cp cl R vs ((w3.alloc (.cells #[.slice Ap R.length cp] t)).alloc (.cells #[.slice Al R.length cl] t')) ∧ Below w3.heap.size w3 ((w3.alloc (.cells #[.slice Ap R.length cp] t)).alloc (.cells #[.slice Al R.length cl] t')) := by
  have b1 := Boxed.new w3 t (.slice Ap R.length cp)
  have b2 := Boxed.new (w3.alloc (.cells #[.slice Ap R.length cp] t)) t' (.slice Al R.length cl)
  have e1 : (w3.alloc (.cells #[.slice Ap R.length cp] t)).heap.size = w3.heap.size + 1 := by simp
  rw [e1] at b2
  have b3 : Boxed ((w3.alloc (.cells #[.slice Ap R.length cp] t)).alloc (.cells #[.slice Al R.length cl] t')) w3.heap.size t (.slice Ap R.length cp) := (Below.heap_alloc _ _ _ (by rw [e1]; omega)).trans b1
  have hb : Below w3.heap.size w3 ((w3.alloc (.cells #[.slice Ap R.length cp] t)).alloc (.cells #[.slice Al R.length cl] t')) := ((Below.refl _ _).alloc (Nat.le_refl _) _).alloc (by simp) _
  refine ⟨⟨(hb.cell (p := ⟨w.heap.size, 0, none⟩) (block_lt hb0.cell)).trans hb0.cell, (hb.frozen (p := ⟨w.heap.size, 0, none⟩) (block_lt hb0.cell)).trans hb0.frozen, b3.cell, b2.cell, fun i u hu => ?_, fun i u hu => ?_, fun i v hv => own_below (hvs i v hv) hb, hv0, hB.trans (hb.mono hB.size)⟩, hb⟩
  · obtain ⟨A', c', e, _, hc⟩ := row_form hp
    injection e with e2 _ _
    subst e2
    obtain ⟨g, e, hcc⟩ := hc i u hu
    exact ⟨g, e, (hb.cell (p := ⟨g, i, none⟩) (block_lt hcc)).trans hcc⟩
  · obtain ⟨A', c', e, _, hc⟩ := row_form hvl
    injection e with e2 _ _
    subst e2
    obtain ⟨g, e, hcc⟩ := hc i u hu
    exact ⟨g, e, (hb.cell (p := ⟨g, i, none⟩) (block_lt hcc)).trans hcc⟩

set_option maxRecDepth 100000 in
set_option maxHeartbeats 4000000 in
theorem scans_any (A : Option Addr) (L : List Nat) (c : Nat) (w : World) (hr : Byts w A L) (hl : Oct L) (hn : L.length ≤ 1000000) (hcap : L.length ≤ c) (hc2 : c ≤ 9223372036854775807) (hA : c = 0 ∨ ∃ b off, A = some ⟨b, off, none⟩) :
    Calls Try.prog 15 #[.slice A L.length c] w fun e w' => e = .returned (.bool true) ∧ Below w.heap.size w w' := by
  have C1 : Hid (∀ W, Below w.heap.size w W → Calls Try.prog 18 #[.slice A L.length c] W (NextX W (nextL L))) := Lib.hid fun W hb => next_any A L c W (hr.below hb) hl (by omega) hcap
  have C2 : Hid (∀ W, Below w.heap.size w W → Calls Try.prog 19 #[.slice A L.length c] W (NextX W (nextL L))) := Lib.hid fun W hb => rnext_any A L c W (hr.below hb) hl (by omega) hcap
  have C3 := Lib.hid fun W (hb : Below w.heap.size w W) => records_any A L c W (hr.below hb) hl (by omega) hcap hc2 hA
  have C4 := Lib.hid fun W (hb : Below w.heap.size w W) => whole_any A L c W (hr.below hb) hl (by omega)
  have C5 := Lib.hid fun W (hb : Below w.heap.size w W) => walk_any A L c W (hr.below hb) (by omega)
  have HO := Lib.hid hl
  have H0 : Hid (Below w.heap.size w (w.alloc (.cells #[.bool false] 4))) := Lib.hid ((Below.refl _ _).alloc (Nat.le_refl _) _)
  have b0 := Boxed.new w 4 (.bool false)
  clear hr hl hA
  generalize nextL L = X at *
  obtain ⟨xb, xn, xc⟩ := X
  refine (callsIn_wide (n := 4)).1 ?_
  refine callsIn_of_wp_marks Try.func15 rfl trivial ?_ rfl
  simp only [Try.ntmps15, List.size_toArray, List.length_cons, List.length_nil, Nat.reduceAdd, Nat.reduceSub, Array.replicate_succ, Array.replicate_zero, List.push_toArray, List.append_toArray, List.nil_append, List.cons_append]
  gi_wp2_with (first
    | (refine ⟨trivial, ?_⟩; gi_at_call 18; refine (callsIn_wide.2 (C1.out _ H0.out)).mono ?_; rintro e w1 ⟨v1, rfl, hv1, hb1⟩; have hs1 := hb1.size; have HB1 := Lib.hid (H0.out.trans (hb1.mono H0.out.size)))
    | (refine ⟨trivial, ?_⟩; gi_at_call 19; refine (callsIn_wide.2 (C2.out _ HB1.out)).mono ?_; rintro e w2 ⟨v2, rfl, hv2, hb2⟩; have HB2 := Lib.hid (HB1.out.trans (hb2.mono HB1.out.size)))
    | (refine ⟨trivial, ?_⟩; gi_at_call 20; refine (callsIn_wide.2 (C3.out _ HB2.out)).mono ?_; rintro e w3 ⟨p3, l3, rfl, hS3, hb3⟩; obtain ⟨vs, hv0, hvl, hvs⟩ := hS3.l; obtain ⟨Ap, cp, rfl, hpn, _⟩ := row_form hS3.p; obtain ⟨Al, cl, rfl, hln, _⟩ := row_form hvl; have HB3 := Lib.hid (HB2.out.trans (hb3.mono HB2.out.size)); have hb23 := hb2.trans (hb3.mono hb2.size); have bx3 : Boxed w3 w.heap.size 4 (.bool false) := (hb23.block w.heap.size (by simp at hs1; omega)).trans ((hb1.block w.heap.size (by simp)).trans b0); have HN := Lib.hid (ScI.new 47 30 bx3 HB3.out hS3.p hv0 hvl hvs); have k1 := str_run hv1 (hb23.trans (HN.out.2.mono hb23.size)); have k2 := str_run hv2 (hb3.trans (HN.out.2.mono hb3.size)); have HI3 := Lib.hid HN.out.1; clear HN hS3 hv0 hvl hvs hv1 hv2 hb1 hb2 hb3 hb23 b0 bx3 HB1 HB2 C1 C2 C3 H0)
    | (refine ⟨trivial, ?_⟩; gi_at_call 16; refine (callsIn_wide.2 (C4.out _ HI3.out.bel)).mono ?_; rintro e w4 ⟨rfl, hb4⟩; have HI4 := Lib.hid (HI3.out.below hb4); clear C4 hb4)
    | (refine ⟨trivial, ?_⟩; gi_at_call 17; refine (callsIn_wide.2 (C5.out _ (HI4.out.bel.alloc HI4.out.bel.size _))).mono ?_; rintro e w5 ⟨Bs, v5, rfl, hBs, hBx, hv5, hb5⟩))
  have bS := Boxed.new w4 3 (.int .i64 0)
  simp only [World.size_alloc] at hBs hv5 hb5
  have bS5 : Boxed w5 w4.heap.size 3 (.int .i64 0) := (hb5.block w4.heap.size (by omega)).trans bS
  have hB5 : Below w4.heap.size w4 w5 := below_one (hb5.mono (by omega))
  have hsz := hBx.lt
  have hw4 := HI4.out.bel.size
  have HW := Lib.hid (walk_seq Bs (w4.heap.size + 1) v5 _ w5 hBs hBx hv5 HO.out (by omega))
  clear C5 bS hb5 HI3 HB3
  generalize recs L = R at *
  refine wpIn_rangeX rfl (by omega) (gf := 22) (lb := #[.pointer (some ⟨Bs, 0, none⟩)]) rfl trivial (enters_of Try.func22 (by kernel_rfl) rfl) HW.out nextE_put (fun h k => Kept.trans h k) (fun W l o o' h _ _ _ => Kept.putObj o' h) (Below.refl _ _) (fun _ => rfl)
    (fun pre W => (W.cell? ⟨w4.heap.size, 0, none⟩ = some (.int .i64 ((pre.length : Nat) : Int)) ∧ W.frozen? ⟨w4.heap.size, 0, none⟩ = false) ∧ Below w4.heap.size w4 W)
    (fun _ _ _ => False)
    (OwnFrom.and (Own.from (fun s A B row hs hg hr => ⟨cell_kept hs.1 hg hr, (frozen_kept hs.1 hg hr).trans hs.2⟩) _) (ownFrom_below (Nat.le_refl _) (by omega)))
    (fun _ _ _ _ _ hs _ _ => hs)
    ⟨⟨bS5.cell, bS5.frozen⟩, hB5⟩
    ?frm ?assign ?body ?done ?stop
  case assign =>
    intro l x W K hK
    simp only [encE]
    gi_wp2
    exact hK
  case stop =>
    rintro D c pre W _ _ h _
    exact h.elim
  case body =>
    rintro l pre ⟨p, u, bs⟩ W ⟨⟨hc, hf⟩, hB⟩ ⟨hpre, hu⟩
    change OwnB W _ u bs at hu
    obtain ⟨hp1, hp2⟩ := next_of_pre hpre
    simp only at hp2
    have HS := Lib.hid (HI4.out.below hB)
    have hpb := HS.out.pb
    have hlb := HS.out.lb
    obtain ⟨g1, rfl, hpc⟩ := HS.out.ps pre.length (.int .i64 (p : Int)) (by rw [List.getElem?_map, hp2]; rfl)
    obtain ⟨y, hy⟩ : ∃ y, vs[pre.length]? = some y := ⟨_, List.getElem?_eq_getElem (by rw [HI4.out.len]; exact hp1)⟩
    obtain ⟨g2, rfl, hlc⟩ := HS.out.ls pre.length y hy
    have hoy := HS.out.os pre.length y hy
    rw [List.getD_eq_getElem?_getD, hp2] at hoy
    simp only [Option.getD_some] at hoy
    obtain ⟨A8, c8, rfl, hB8, _⟩ := OwnB.form hoy
    obtain ⟨A9, c9, rfl, hB9, _⟩ := OwnB.form hu
    have hs1 : ∀ m, (convert 22 9 (.slice A9 bs.length c9)).run Try.prog (W.drewN m) = .ok (.string (bstr bs)) (W.drewN m) := fun m => run_bstr (W.drewN m) A9 bs _ c9 rfl (hB9.drewN m)
    have hs2 : ∀ m, (convert 22 9 (.slice A8 bs.length c8)).run Try.prog (W.drewN m) = .ok (.string (bstr bs)) (W.drewN m) := fun m => run_bstr (W.drewN m) A8 bs _ c8 rfl (hB8.drewN m)
    have HL : Hid ((pre ++ [(p, Value.slice A9 bs.length c9, bs)]).length = pre.length + 1) := Lib.hid (by simp)
    have HBW := Lib.hid hB
    clear hpre hp2 hy hoy hB8 hB9 hu HW HI4 HS hB
    generalize R.length = m at *
    generalize pre.length = k at *
    have hd : decide ((m : Int) ≤ (k : Int)) = false := decide_eq_false (by omega)
    have hd2 : decide (m ≤ k) = false := decide_eq_false (by omega)
    have hd3 : decide ((k : Int) ≥ (m : Int)) = false := decide_eq_false (by omega)
    gi_wp2
    refine wpIn_region_quiet_round (by kernel_rfl) (by kernel_rfl) (by kernel_rfl) ?_
    repeat (gi_big_quiet_step (fail))
    refine wpQuietIn_nil ?_
    intro _ hw'
    obtain ⟨nq, hw''⟩ := hw'
    subst hw''
    have HK1 : Hid (KeepsOthers W (W.drewN nq)) := Lib.hid ⟨Nat.le_refl _, fun _ _ h _ => h⟩
    have HK2 : Hid (Kept (w4.heap.size + 1) w5.heap.size W (W.drewN nq)) := Lib.hid ⟨Nat.le_refl _, fun _ _ _ => rfl⟩
    have HBQ := Lib.hid (below_drewN HBW.out nq)
    have gc : (W.drewN nq).cell? ⟨w4.heap.size, 0, none⟩ = some (.int .i64 (k : Int)) := hc
    have gf : (W.drewN nq).frozen? ⟨w4.heap.size, 0, none⟩ = false := hf
    generalize W.drewN nq = Wq at *
    clear hs1 hs2 hc hf hpb hlb hpc hlc
    gi_wp2
    refine ⟨(HK1.out.trans (KeepsOthers.setCell _ _ _)).from _, HK2.out.trans (Kept.setCell (.inl (by omega)) _ _), ⟨?_, by rw [World.frozen?_setCell]; exact gf⟩, HBQ.out.setCell (p := ⟨w4.heap.size, 0, none⟩) (Nat.le_refl _) _⟩
    rw [HL.out]
    exact World.cell?_setCell_same' _ _ _ (by rw [gc]; rfl)
  case done =>
    rintro D ys W hD hS ⟨⟨hc, hf⟩, hB⟩ hK
    have hlen : ys.length = R.length := by
      have h1 := congrArg List.length hS
      simpa using h1
    rw [hlen] at hc
    have HS := Lib.hid (HI4.out.below hB)
    have hlb := HS.out.lb
    have hrs := HS.out.res
    have hfz := HS.out.frz
    have HK := Lib.hid hK
    clear hK hS HW HI4 hB
    generalize R.length = m at *
    gi_wp2
    have hK' := (KeepsOthers.setCell W ⟨w.heap.size, 0, none⟩ (.bool true)).same D _ HK.out rfl
    refine ⟨by simp, .inl ⟨_, _, rfl, run_takeDeferred hK', ?_⟩⟩
    have hc11 := cell_kept (World.cell?_setCell_same' W ⟨w.heap.size, 0, none⟩ (.bool true) (by rw [hrs]; rfl)) (grownBy_putObj' _ D (.deferred none)) (fun r e => by cases e; exact ⟨_, hK', rfl⟩)
    refine ⟨.bool true, ?_, rfl, (HS.out.bel.setCell (p := ⟨w.heap.size, 0, none⟩) (Nat.le_refl _) _).trans (belowK_b (w := w) (Nat.le_refl _) _ D _ _ (by omega) hK' rfl rfl)⟩
    simp [results, Try.f15, go_sem, hc11]
end Go.Proofs.Ytmopipclheohcaa
