/-
  The walk of frame.Whole.
-/
import Derived.Test.YtmopipclheohcaaFr7
namespace Go.Proofs.Ytmopipclheohcaa
open Go Go.RowKit Go.Shelf
attribute [local go_sem] Oper.semAt_some

/-- How many bytes the records have together. -/
def wholeOf (R : List (Nat × List Nat)) : Nat := match R.getLast? with
  | none => 0
  | some (p, b) => p + 2 + b.length + 4
theorem wholeOf_snoc (R : List (Nat × List Nat)) (p : Nat) (b : List Nat) : wholeOf (R ++ [(p, b)]) = p + 2 + b.length + 4 := by
  unfold wholeOf
  rw [List.getLast?_concat]
theorem recF_bound (f : Nat) : ∀ (p : Nat) (l : List Nat), ∀ e ∈ recF f p l, e.1 + e.2.length + 6 ≤ p + l.length := by
  induction f with
  | zero => intro p l e he; simp [recF] at he
  | succ f ih =>
    intro p l e he
    by_cases h : (nextL l).2.2 = 0
    · rw [recF_more h] at he
      obtain ⟨h1, h2, h3⟩ := next_fact l h
      rcases List.mem_cons.1 he with rfl | he
      · simp only; omega
      · have := ih _ _ e he
        rw [List.length_drop] at this
        omega
    · rw [recF_end h] at he; cases he
theorem recs_bound (L : List Nat) : ∀ e ∈ recs L, e.1 + e.2.length + 6 ≤ L.length := fun e he => by have := recF_bound _ _ _ e he; omega
theorem next_in {R : List (Nat × List Nat)} {pre : List Elem} {x : Elem} (h : (pre ++ [x]).map elemOf <+: R) : elemOf x ∈ R := by
  refine h.subset ?_
  rw [List.map_append]
  exact List.mem_append_right _ (by simp)

set_option maxRecDepth 100000 in
set_option maxHeartbeats 2000000 in
theorem whole_any (A : Option Addr) (L : List Nat) (c : Nat) (w : World) (hr : Byts w A L) (hl : Oct L) (hn : L.length ≤ 1000000000) :
    Calls Try.prog 16 #[.slice A L.length c] w fun e W' => e = .returned (.int .i64 ((wholeOf (recs L) : Nat) : Int)) ∧ Below w.heap.size w W' := by
  have C := Lib.hid (walk_any A L c (w.alloc (.cells #[.int .i64 0] 3)) (hr.below ((Below.refl _ _).alloc (Nat.le_refl _) _)) hn)
  have HO := Lib.hid hl
  clear hr hl
  refine (callsIn_wide (n := 4)).1 ?_
  refine callsIn_of_wp_marks Try.func16 rfl trivial ?_ rfl
  simp only [Try.ntmps16, List.size_toArray, List.length_cons, List.length_nil, Nat.reduceAdd, Nat.reduceSub, Array.replicate_succ, Array.replicate_zero, List.push_toArray, List.append_toArray, List.nil_append, List.cons_append]
  gi_wp2_with (refine ⟨trivial, ?_⟩; gi_at_call 17; refine (callsIn_wide.2 C.out).mono ?_; rintro e w1 ⟨Bs, v, rfl, hBs, hBx, hv, hb⟩)
  have bS := Boxed.new w 3 (.int .i64 0)
  simp only [World.size_alloc] at hBs hv hb
  have bS1 : Boxed w1 w.heap.size 3 (.int .i64 0) := (hb.block w.heap.size (by omega)).trans bS
  have hB1 : Below w.heap.size w w1 := below_one (hb.mono (by omega))
  have hsz := hBx.lt
  have HW := Lib.hid (walk_seq Bs (w.heap.size + 1) v L w1 hBs hBx hv HO.out hn)
  clear C HO
  refine wpIn_rangeX rfl (by omega) (gf := 22) (lb := #[.pointer (some ⟨Bs, 0, none⟩)]) rfl trivial (enters_of Try.func22 (by kernel_rfl) rfl) HW.out nextE_put (fun h k => Kept.trans h k) (fun W l o o' h _ _ _ => Kept.putObj o' h) (Below.refl _ _) (fun _ => rfl)
    (fun pre W => (W.cell? ⟨w.heap.size, 0, none⟩ = some (.int .i64 ((wholeOf (pre.map elemOf) : Nat) : Int)) ∧ W.frozen? ⟨w.heap.size, 0, none⟩ = false) ∧ Below w.heap.size w W)
    (fun _ _ _ => False)
    (OwnFrom.and (Own.from (fun s A B row hs hg hr => ⟨cell_kept hs.1 hg hr, (frozen_kept hs.1 hg hr).trans hs.2⟩) _) (ownFrom_below (Nat.le_refl _) (by omega)))
    (fun _ _ _ _ _ hs _ _ => hs)
    ⟨⟨bS1.cell, bS1.frozen⟩, hB1⟩
    (fun x => { tmps := #[.slice A L.length c, undef, .int .i64 0, .pointer (some ⟨w.heap.size, 0, none⟩), .int .i64 (x.1 : Int), x.2.1, .slice A L.length c, .func (.func 22) #[] #[.pointer (some ⟨Bs, 0, none⟩)], .int .i64 (x.1 : Int), x.2.1, undef, undef, undef, undef, undef, undef, undef], defers := [] }) ?assign ?body ?done ?stop
  case assign =>
    intro l x W K hK
    simp only [encE]
    gi_wp2
    exact hK
  case body =>
    rintro l pre ⟨p, u, bs⟩ W ⟨⟨hc, hf⟩, hB⟩ ⟨hpre, hu⟩
    change OwnB W _ u bs at hu
    obtain ⟨A1, c1, rfl, _⟩ := OwnB.form hu
    have hbd := recs_bound L _ (next_in hpre)
    simp only [elemOf] at hbd
    have HS := Lib.hid (wholeOf_snoc (pre.map elemOf) p bs)
    clear hpre hu HW
    gi_wp2
    refine ⟨(KeepsOthers.setCell _ _ _).from _, Kept.setCell (.inl (by omega)) _ _, ⟨?_, by rw [World.frozen?_setCell]; exact hf⟩, hB.setCell (p := ⟨w.heap.size, 0, none⟩) (Nat.le_refl _) _⟩
    rw [List.map_append]
    rw [show List.map elemOf [(p, Value.slice A1 bs.length c1, bs)] = [(p, bs)] from rfl, HS.out]
    exact World.cell?_setCell_same' _ _ _ (by rw [hc]; rfl)
  case done =>
    rintro D ys W hD hS ⟨⟨hc, _⟩, hB⟩ hK
    gi_wp2
    refine ⟨by simp, .inl ⟨_, _, rfl, run_takeDeferred hK, ?_⟩⟩
    rw [← hS]
    exact ⟨_, results_tmp rfl _ _ _, rfl, hB.trans (belowK_b (w := w) (Nat.le_refl _) W D _ _ (by omega) hK rfl rfl)⟩
  case stop =>
    rintro D c pre W _ _ h _
    exact h.elim
end Go.Proofs.Ytmopipclheohcaa
