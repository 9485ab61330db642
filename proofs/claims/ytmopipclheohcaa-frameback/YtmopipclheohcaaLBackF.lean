/-
  The walk of novationlaw4.FrameBack.
-/
import Derived.Test.YtmopipclheohcaaKnown4
import Derived.Test.YtmopipclheohcaaCat
import Derived.Test.YtmopipclheohcaaLPuts
import Derived.Test.YtmopipclheohcaaQRound
namespace Go.Proofs.Ytmopipclheohcaa
open Go Go.RowKit Go.Shelf
attribute [local go_sem] Oper.semAt_some

/-- The two boxes that the law lays first. -/
structure Two (w : World) (B : Nat) (v : Value) (W : World) : Prop where
  l : W.cell? ⟨B, 0, none⟩ = some v
  r : W.cell? ⟨B + 1, 0, none⟩ = some (.bool false)
  f : W.frozen? ⟨B + 1, 0, none⟩ = false
  b : Below w.heap.size w W
theorem Two.new (w : World) (v : Value) (t u : TypeId) (B : Nat) (hB : B = w.heap.size) : Two w B v ((w.alloc (.cells #[v] t)).alloc (.cells #[.bool false] u)) := by
  subst hB
  have h1 := Boxed.new w t v
  have h2 := Boxed.new (w.alloc (.cells #[v] t)) u (.bool false)
  have h3 : Boxed ((w.alloc (.cells #[v] t)).alloc (.cells #[.bool false] u)) w.heap.size t v := (Below.heap_alloc _ _ _ (by simp)).trans h1
  have e : (w.alloc (.cells #[v] t)).heap.size = w.heap.size + 1 := by simp
  rw [e] at h2
  exact ⟨h3.cell, h2.cell, h2.frozen, ((Below.refl _ _).alloc (Nat.le_refl _) _).alloc (by simp) _⟩
theorem Two.below {w W W' : World} {B : Nat} {v : Value} (h : Two w B v W) (hb : Below W.heap.size W W') : Two w B v W' :=
  ⟨(hb.cell (p := ⟨B, 0, none⟩) (block_lt h.l)).trans h.l, (hb.cell (p := ⟨B + 1, 0, none⟩) (block_lt h.r)).trans h.r, (hb.frozen (p := ⟨B + 1, 0, none⟩) (block_lt h.r)).trans h.f, h.b.trans (hb.mono h.b.size)⟩

set_option maxRecDepth 8000 in
set_option maxHeartbeats 2000000 in
theorem fback_out (A : Option Addr) (ls : List (List Nat)) (c : Nat) (most : Int) (w : World) (hr : Rws w A ls) (hn : ls.length ≤ 9223372036854775807) (hf : ¬ Fits ls) :
    Calls Try.prog 5 #[.slice A ls.length c, .int .u8 most] w fun e w' => e = .returned (.bool true) ∧ Below w.heap.size w w' := by
  have C := Lib.hid (fun W => known_any W)
  have C2 := Lib.hid (fun W (hb : Below w.heap.size w W) => fit_no A ls c W (hr.below hb) hn hf)
  have T0 := Lib.hid (Two.new w (.slice A ls.length c) 30 4 _ rfl)
  clear hr hf
  go_enter Try.func5, Try.ntmps5
  go_wp2_with (first
    | (go_at_call 8; refine (C.out _).mono ?_; rintro e w1 ⟨rfl, hb1⟩; have hT := T0.out.below hb1; have hT1 := hT.l; have hT2 := hT.r; have hT3 := hT.f; have HTB := Lib.hid hT.b; clear hT)
    | (go_at_call 13; refine (C2.out _ HTB.out).mono ?_; rintro e w2 ⟨rfl, rfl⟩))
  have hc9 := World.cell?_setCell_same' w1 ⟨w.heap.size + 1, 0, none⟩ (.bool true) (by rw [hT2]; rfl)
  refine bodyPost_ret (v := .bool true) ?_ rfl ⟨rfl, HTB.out.setCell (p := ⟨w.heap.size + 1, 0, none⟩) (by simp) _⟩
  simp [results, Try.f5, go_sem, hc9]
/-- The boxes of the law's loop: what is wanted, how many came, where the next one stands; the slice; the answer. -/
def BkC (s B : Nat) (v : Value) (X k q : Nat) (W : World) : Prop :=
  W.cell? ⟨s, 0, none⟩ = some (.int .i64 (X : Int)) ∧ (W.cell? ⟨s + 1, 0, none⟩ = some (.int .i64 (k : Int)) ∧ W.frozen? ⟨s + 1, 0, none⟩ = false) ∧ (W.cell? ⟨s + 1 + 1, 0, none⟩ = some (.int .i64 (q : Int)) ∧ W.frozen? ⟨s + 1 + 1, 0, none⟩ = false) ∧ W.cell? ⟨B, 0, none⟩ = some v ∧ (W.cell? ⟨B + 1, 0, none⟩ = some (.bool false) ∧ W.frozen? ⟨B + 1, 0, none⟩ = false)
theorem BkC.kept {s B : Nat} {v : Value} {X k q : Nat} {W W' : World} {row : Option Nat} (h : BkC s B v X k q W) (hg : W.grownBy W' row) (hr : ∀ r, row = some r → ∃ o : Obj, W.heap[r]? = some o ∧ o.isCells = false) : BkC s B v X k q W' :=
  ⟨cell_kept h.1 hg hr, ⟨cell_kept h.2.1.1 hg hr, (frozen_kept h.2.1.1 hg hr).trans h.2.1.2⟩, ⟨cell_kept h.2.2.1.1 hg hr, (frozen_kept h.2.2.1.1 hg hr).trans h.2.2.1.2⟩, cell_kept h.2.2.2.1 hg hr, cell_kept h.2.2.2.2.1 hg hr, (frozen_kept h.2.2.2.2.1 hg hr).trans h.2.2.2.2.2⟩
theorem BkC.new {w w4 w5 : World} {v : Value} (t : TypeId) (X : Nat) (hT : Two w w.heap.size v w4) (hb : Below ((((w4.alloc (.cells #[.int .i64 (X : Int)] t)).alloc (.cells #[.int .i64 0] t)).alloc (.cells #[.int .i64 0] t))).heap.size (((w4.alloc (.cells #[.int .i64 (X : Int)] t)).alloc (.cells #[.int .i64 0] t)).alloc (.cells #[.int .i64 0] t)) w5) : BkC w4.heap.size w.heap.size v X 0 0 w5 ∧ Below w.heap.size w w5 ∧ Below w4.heap.size w4 w5 := by
  have b0 := Boxed.new w4 t (.int .i64 (X : Int))
  have b1 := Boxed.new (w4.alloc (.cells #[.int .i64 (X : Int)] t)) t (.int .i64 0)
  have b2 := Boxed.new ((w4.alloc (.cells #[.int .i64 (X : Int)] t)).alloc (.cells #[.int .i64 0] t)) t (.int .i64 0)
  have e1 : (w4.alloc (.cells #[.int .i64 (X : Int)] t)).heap.size = w4.heap.size + 1 := by simp
  have e2 : ((w4.alloc (.cells #[.int .i64 (X : Int)] t)).alloc (.cells #[.int .i64 0] t)).heap.size = w4.heap.size + 1 + 1 := by simp
  have e3 : (((w4.alloc (.cells #[.int .i64 (X : Int)] t)).alloc (.cells #[.int .i64 0] t)).alloc (.cells #[.int .i64 0] t)).heap.size = w4.heap.size + 1 + 1 + 1 := by simp
  rw [e1] at b1
  rw [e2] at b2
  rw [e3] at hb
  have c0 : Boxed w5 w4.heap.size t (.int .i64 (X : Int)) := (hb.block _ (by omega)).trans ((Below.heap_alloc _ _ _ (by rw [e2]; omega)).trans ((Below.heap_alloc _ _ _ (by rw [e1]; omega)).trans b0))
  have c1 : Boxed w5 (w4.heap.size + 1) t (.int .i64 0) := (hb.block _ (by omega)).trans ((Below.heap_alloc _ _ _ (by simp)).trans b1)
  have c2 : Boxed w5 (w4.heap.size + 1 + 1) t (.int .i64 0) := (hb.block _ (by omega)).trans b2
  have hB : Below w4.heap.size w4 w5 := ((((Below.refl _ w4).alloc (Nat.le_refl _) _).alloc (by simp) _).alloc (by simp; omega) _).trans (hb.mono (by omega))
  have hT5 := hT.below hB
  exact ⟨⟨c0.cell, ⟨c1.cell, c1.frozen⟩, ⟨c2.cell, c2.frozen⟩, hT5.l, hT5.r, hT5.f⟩, hT5.b, hB⟩
theorem BkC.step {s B : Nat} {v : Value} {X k q k1 q1 : Nat} {k' q' : Int} {W : World} (h : BkC s B v X k q W) (hB : B + 1 < s) (hk : k' = (k1 : Int)) (hq : q' = (q1 : Int)) :
    BkC s B v X k1 q1 ((W.setCell ⟨s + 1 + 1, 0, none⟩ (.int .i64 q')).setCell ⟨s + 1, 0, none⟩ (.int .i64 k')) := by
  subst hk
  subst hq
  obtain ⟨h0, ⟨h1, f1⟩, ⟨h2, f2⟩, h3, h4, f4⟩ := h
  have ne : ∀ a b : Nat, a ≠ b → (⟨a, 0, none⟩ : Addr) ≠ ⟨b, 0, none⟩ := fun a b h e => by injection e with e; exact h e
  refine ⟨?_, ⟨?_, ?_⟩, ⟨?_, ?_⟩, ?_, ?_, ?_⟩
  · rw [World.cell?_setCell_other _ _ _ _ (ne _ _ (by omega)), World.cell?_setCell_other _ _ _ _ (ne _ _ (by omega))]; exact h0
  · exact World.cell?_setCell_same' _ _ _ (by rw [World.cell?_setCell_other _ _ _ _ (ne _ _ (by omega))]; rw [show W.cell? ⟨s + 1, 0, none⟩ = _ from h1]; rfl)
  · rw [World.frozen?_setCell, World.frozen?_setCell]; exact f1
  · rw [World.cell?_setCell_other _ _ _ _ (ne _ _ (by omega))]
    exact World.cell?_setCell_same' _ _ _ (by rw [show W.cell? ⟨s + 1 + 1, 0, none⟩ = _ from h2]; rfl)
  · rw [World.frozen?_setCell, World.frozen?_setCell]; exact f2
  · rw [World.cell?_setCell_other _ _ _ _ (ne _ _ (by omega)), World.cell?_setCell_other _ _ _ _ (ne _ _ (by omega))]; exact h3
  · rw [World.cell?_setCell_other _ _ _ _ (ne _ _ (by omega)), World.cell?_setCell_other _ _ _ _ (ne _ _ (by omega))]; exact h4
  · rw [World.frozen?_setCell, World.frozen?_setCell]; exact f4
theorem Kept.two {lo hi a b : Nat} {W Wq : World} (h : Kept lo hi W Wq) (ha : a < lo) (hb : b < lo) (u v : Value) : Kept lo hi W ((Wq.setCell ⟨a, 0, none⟩ u).setCell ⟨b, 0, none⟩ v) :=
  h.trans ((Kept.setCell (.inl ha) _ _).trans (Kept.setCell (.inl hb) _ _))
theorem keeps_drewN (W : World) (n : Nat) : KeepsOthers W (W.drewN n) := ⟨Nat.le_refl _, fun _ _ h _ => h⟩
theorem kept_drewN {lo hi : Nat} (W : World) (n : Nat) : Kept lo hi W (W.drewN n) := ⟨Nat.le_refl _, fun _ _ _ => rfl⟩
theorem BkC.drewN {s B : Nat} {v : Value} {X k q : Nat} {W : World} (h : BkC s B v X k q W) (n : Nat) : BkC s B v X k q (W.drewN n) := h
theorem places_next {ls : List (List Nat)} {pre : List Elem} {x : Elem} (h : (pre ++ [x]).map elemOf <+: placesF 0 ls) : pre.length < ls.length ∧ x.1 = (catL (ls.take pre.length)).length ∧ x.2.2 = ls.getD pre.length [] := by
  have h1 := h.length_le
  rw [placesF_length] at h1
  simp at h1
  have h2 := placesF_get ls pre.length (by omega)
  obtain ⟨t, ht⟩ := h
  rw [← ht, List.map_append, List.append_assoc, List.getElem?_append_right (by simp)] at h2
  simp [elemOf] at h2
  exact ⟨by omega, h2.1, h2.2⟩
set_option maxRecDepth 100000 in
set_option maxHeartbeats 4000000 in
theorem fback_walk (A : Option Addr) (ls : List (List Nat)) (c : Nat) (most : Nat) (w : World) (hr : Rws w A ls) (hn : ls.length ≤ 9223372036854775807) (hmost : most ≤ 255) :
    Calls Try.prog 5 #[.slice A ls.length c, .int .u8 (most : Int)] w fun e w' => e = .returned (.bool true) ∧ Below w.heap.size w w' := by
  by_cases hnf : ¬ Fits ls
  · exact fback_out A ls c most w hr hn hnf
  have hf : Fits ls := Classical.not_not.1 hnf
  clear hnf
  have C := Lib.hid (fun W => known_any W)
  have C2 := Lib.hid (fun W (hb : Below w.heap.size w W) => fit_yes A ls c W (hr.below hb) hf)
  have C3 := Lib.hid (fun W (hb : Below w.heap.size w W) => all_any A ls c W (hr.below hb) hf)
  have HR := Lib.hid hr
  have HF := Lib.hid hf
  have h20 := hf.1
  have hT : (catL ls).length ≤ 8120 := by have := catL_bound ls hf ls.length (Nat.le_refl _); rw [List.take_length] at this; omega
  have HRA := Lib.hid (recs_all ls hf)
  have HO : Hid (Oct (catL ls)) := Lib.hid (by
    have := oct_cat ls hf (fun i hi => by obtain ⟨b, off, _, hc⟩ := hr (by omega); obtain ⟨_, _, _, _, h, _⟩ := hc i hi; exact h) ls.length (Nat.le_refl _)
    rwa [List.take_length] at this)
  have T0 := Lib.hid (Two.new w (.slice A ls.length c) 30 4 _ rfl)
  obtain ⟨n, hnn⟩ : ∃ n : Nat, n = min most ls.length := ⟨_, rfl⟩
  have hnl : n ≤ ls.length := by omega
  have hmi : (if ls.length < most then (ls.length : Int) else (most : Int)) = (n : Int) := by split <;> omega
  clear hr hf hnn
  refine (callsIn_wide (n := 4)).1 ?_
  refine callsIn_of_wp_marks Try.func5 rfl trivial ?_ rfl
  simp only [Try.ntmps5, List.size_toArray, List.length_cons, List.length_nil, Nat.reduceAdd, Nat.reduceSub, Array.replicate_succ, Array.replicate_zero, List.push_toArray, List.append_toArray, List.nil_append, List.cons_append]
  gi_wp2_with (first
    | (refine ⟨trivial, ?_⟩; gi_at_call 8; refine (callsIn_wide.2 (C.out _)).mono ?_; rintro e w1 ⟨rfl, hb1⟩; have T1 := Lib.hid (T0.out.below hb1); have hT1 := T1.out.l)
    | (refine ⟨trivial, ?_⟩; gi_at_call 13; refine (callsIn_wide.2 (C2.out _ T1.out.b)).mono ?_; rintro e w2 ⟨rfl, rfl⟩)
    | (refine ⟨trivial, ?_⟩; gi_at_call 14; refine (callsIn_wide.2 (C3.out _ T1.out.b)).mono ?_; rintro e w3 ⟨v3, rfl, hv3, hb3⟩; obtain ⟨A3, c3, rfl, hB3, hc3, hc4, hA3, _⟩ := OwnB.form hv3; have T3 := Lib.hid (T1.out.below hb3); have C4 : Hid (Calls Try.prog 16 #[.slice A3 (catL ls).length c3] w3 fun e w' => e = .returned (.int .i64 (((catL ls).length : Nat) : Int)) ∧ Below w3.heap.size w3 w') := Lib.hid (by have h := whole_any A3 (catL ls) c3 w3 hB3 HO.out (by omega); rwa [HRA.out, whole_cat] at h))
    | (refine ⟨trivial, ?_⟩; gi_at_call 16; refine (callsIn_wide.2 C4.out).mono ?_; rintro e w4 ⟨rfl, hb4⟩; have T4 := Lib.hid (T3.out.below hb4); have hT4 := T4.out.l; have C5 : Hid (∀ W, Below w4.heap.size w4 W → Calls Try.prog 17 #[.slice A3 (catL ls).length c3] W (WalkC W (catL ls))) := Lib.hid fun W hb => walk_any A3 (catL ls) c3 W ((hB3.below hb4).below hb) (by omega))
    | (refine ⟨trivial, ?_⟩; gi_at_call 17; refine (callsIn_wide.2 (C5.out _ ((((Below.refl _ _).alloc (Nat.le_refl _) _).alloc (by simp) _).alloc (by simp; omega) _))).mono ?_; rintro e w5 ⟨Bs, v5, rfl, hBs, hBx, hv5, hb5⟩))
  obtain ⟨hBK, hB5, hB45⟩ := BkC.new 3 n T4.out hb5
  simp only [World.size_alloc] at hBs hv5 hb5
  have hsz := hBx.lt
  have hw4 := T4.out.b.size
  have hw45 := hB45.size
  have hwB : w.heap.size + 1 < w4.heap.size := block_lt T4.out.r
  have hw53 : w4.heap.size + 1 + 1 + 1 ≤ w5.heap.size := by have := hb5.size; simp at this; omega
  have HW := Lib.hid (walk_seq Bs _ v5 _ w5 hBs hBx hv5 HO.out (by omega))
  clear C C2 C3 C4 C5 T0 T1 T3 T4 hT1 hT4 hB3 hv3 hb1 hb3 hb4 hb5 hBx hv5 hmi
  refine wpIn_rangeX rfl (by omega) (gf := 22) (lb := #[.pointer (some ⟨Bs, 0, none⟩)]) rfl trivial (enters_of Try.func22 (by kernel_rfl) rfl) HW.out nextE_put (fun h k => Kept.trans h k) (fun W l o o' h _ _ _ => Kept.putObj o' h) (Below.refl _ _) (fun _ => rfl)
    (fun pre W => (BkC w4.heap.size w.heap.size (.slice A ls.length c) n pre.length (catL (ls.take pre.length)).length W ∧ pre.length ≤ n) ∧ Below w.heap.size w W)
    (fun cd _ W => (cd = Code.exit 0 ∧ BkC w4.heap.size w.heap.size (.slice A ls.length c) n n (catL (ls.take n)).length W) ∧ Below w.heap.size w W)
    (OwnFrom.and (Own.from (fun s A B row hs hg hr => ⟨hs.1.kept hg hr, hs.2⟩) _) (ownFrom_below (Nat.le_refl _) (by omega)))
    (fun cd => OwnFrom.and (Own.from (fun s A B row hs hg hr => ⟨hs.1, hs.2.kept hg hr⟩) _) (ownFrom_below (Nat.le_refl _) (by omega)))
    ⟨⟨hBK, Nat.zero_le _⟩, hB5⟩
    ?frm ?assign ?body ?done ?stop
  case assign =>
    intro l x W K hK
    simp only [encE]
    gi_wp2
    exact hK
  case body =>
    rintro l pre ⟨p, u, bs⟩ W ⟨⟨⟨hc0, ⟨hc1, hf1⟩, ⟨hc2, hf2⟩, hc3, hc4, hf4⟩, hle⟩, hB⟩ ⟨hpre, hu⟩
    change OwnB W _ u bs at hu
    rw [HRA.out] at hpre
    obtain ⟨hp1, hp2, hp3⟩ := places_next hpre
    simp only at hp2 hp3
    subst hp2
    clear hpre HW hBK
    by_cases hk : pre.length = n
    · rw [hk] at hc1 hc2
      have HI : Hid (BkC w4.heap.size w.heap.size (.slice A ls.length c) n n (catL (ls.take n)).length W ∧ Below w.heap.size w W) := Lib.hid ⟨⟨hc0, ⟨hc1, hf1⟩, ⟨hc2, hf2⟩, hc3, hc4, hf4⟩, hB⟩
      gi_wp2
      exact ⟨KeepsFrom.refl _ _, ⟨rfl, HI.out.1⟩, HI.out.2⟩
    · obtain ⟨A9, c9, rfl, hBu, _⟩ := OwnB.form hu
      obtain ⟨b, off, rfl, hcc⟩ := (HR.out.below hB) (by omega)
      obtain ⟨A', c', hcell, hBy, _⟩ := hcc pre.length hp1
      have hs1 : ∀ m, (convert 22 9 (.slice A9 bs.length c9)).run Try.prog (W.drewN m) = .ok (.string (bstr bs)) (W.drewN m) := fun m => run_bstr (W.drewN m) A9 bs _ c9 rfl (hBu.drewN m)
      have hs2 : ∀ m, (convert 22 9 (.slice A' (ls.getD pre.length []).length c')).run Try.prog (W.drewN m) = .ok (.string (bstr (ls.getD pre.length []))) (W.drewN m) := fun m => run_bstr (W.drewN m) A' _ _ c' rfl (hBy.drewN m)
      rw [← hp3] at hs2 hcell
      have hq := HF.out.2 _ hp1
      rw [← hp3] at hq
      have HN : Hid ((catL (ls.take (pre.length + 1))).length = (catL (ls.take pre.length)).length + (bs.length + 6)) := Lib.hid (by rw [catL_take ls _ hp1, List.length_append, recL_length, ← hp3])
      have hqb := catL_bound ls HF.out pre.length (by omega)
      have HL : Hid ((pre ++ [((catL (ls.take pre.length)).length, Value.slice A9 bs.length c9, bs)]).length = pre.length + 1) := Lib.hid (by simp)
      have HBW := Lib.hid hB
      have HBK : Hid (BkC w4.heap.size w.heap.size (.slice (some ⟨b, off, none⟩) ls.length c) n pre.length (catL (ls.take pre.length)).length W) := Lib.hid ⟨hc0, ⟨hc1, hf1⟩, ⟨hc2, hf2⟩, hc3, hc4, hf4⟩
      clear hp3 hBu hBy hcc hu hB
      have hkn : ((pre.length : Int) == (n : Int)) = false := by rw [beq_eq_false_iff_ne]; omega
      generalize (catL (ls.take pre.length)).length = q at *
      gi_wp2
      refine wpIn_region_quiet_round (by kernel_rfl) (by kernel_rfl) (by kernel_rfl) ?_
      repeat (gi_big_quiet_step (fail))
      refine wpQuietIn_nil ?_
      intro _ hw'
      obtain ⟨nq, hw''⟩ := hw'
      subst hw''
      have HK1 := Lib.hid (keeps_drewN W nq)
      have HK2 := Lib.hid (kept_drewN (lo := w4.heap.size + 1 + 1 + 1) (hi := w5.heap.size) W nq)
      have HBQ := Lib.hid (HBK.out.drewN nq)
      have HBQ2 := Lib.hid (below_drewN HBW.out nq)
      obtain ⟨gc0, ⟨gc1, gf1⟩, ⟨gc2, gf2⟩, gc3, gc4, gf4⟩ := HBQ.out
      generalize W.drewN nq = Wq at *
      clear hs1 hs2 hcell hc0 hc1 hf1 hc2 hf2 hc3 hc4 hf4
      gi_wp2
      refine ⟨(HK1.out.trans ((KeepsOthers.setCell _ _ _).trans (KeepsOthers.setCell _ _ _))).from _, Kept.two HK2.out (by omega) (by omega) _ _, ⟨?_, ?_⟩, (HBQ2.out.setCell (p := ⟨w4.heap.size + 1 + 1, 0, none⟩) (by simp only; omega) _).setCell (p := ⟨w4.heap.size + 1, 0, none⟩) (by simp only; omega) _⟩
      · rw [HL.out]
        exact BkC.step (k1 := pre.length + 1) HBQ.out hwB (by omega) (by rw [HN.out]; omega)
      · rw [HL.out]; omega
  case stop =>
    rintro D cd pre W hD _ ⟨⟨rfl, hbk⟩, hB⟩ hK
    obtain ⟨hc0, ⟨hc1, hf1⟩, ⟨hc2, hf2⟩, hc3, hc4, hf4⟩ := hbk
    have HB := Lib.hid hB
    have HK := Lib.hid hK
    clear hK hB HW hBK hc2 hf2 hc3
    gi_wp2
    have hK' := (KeepsOthers.setCell W ⟨w.heap.size + 1, 0, none⟩ (.bool true)).same D _ HK.out rfl
    refine ⟨by simp, .inl ⟨_, _, rfl, run_takeDeferred hK', ?_⟩⟩
    have hc11 := cell_kept (World.cell?_setCell_same' W ⟨w.heap.size + 1, 0, none⟩ (.bool true) (by rw [hc4]; rfl)) (grownBy_putObj' _ D (.deferred none)) (fun r e => by cases e; exact ⟨_, hK', rfl⟩)
    refine ⟨.bool true, ?_, rfl, (HB.out.setCell (p := ⟨w.heap.size + 1, 0, none⟩) (by simp) _).trans (belowK_b (w := w) (Nat.le_refl _) _ D _ _ (by omega) hK' rfl rfl)⟩
    simp [results, Try.f5, go_sem, hc11]
  case done =>
    rintro D ys W hD hS ⟨⟨hbk, hle⟩, hB⟩ hK
    have hlen : ys.length = ls.length := by
      have h1 := congrArg List.length hS
      rw [HRA.out, placesF_length] at h1
      simpa using h1
    obtain ⟨hc0, ⟨hc1, hf1⟩, ⟨hc2, hf2⟩, hc3, hc4, hf4⟩ := hbk
    rw [show ys.length = n from by omega] at hc1
    have HB := Lib.hid hB
    have HK := Lib.hid hK
    clear hK hB HW hBK hc2 hf2 hc3 hS
    gi_wp2
    have hK' := (KeepsOthers.setCell W ⟨w.heap.size + 1, 0, none⟩ (.bool true)).same D _ HK.out rfl
    refine ⟨by simp, .inl ⟨_, _, rfl, run_takeDeferred hK', ?_⟩⟩
    have hc11 := cell_kept (World.cell?_setCell_same' W ⟨w.heap.size + 1, 0, none⟩ (.bool true) (by rw [hc4]; rfl)) (grownBy_putObj' _ D (.deferred none)) (fun r e => by cases e; exact ⟨_, hK', rfl⟩)
    refine ⟨.bool true, ?_, rfl, (HB.out.setCell (p := ⟨w.heap.size + 1, 0, none⟩) (by simp) _).trans (belowK_b (w := w) (Nat.le_refl _) _ D _ _ (by omega) hK' rfl rfl)⟩
    simp [results, Try.f5, go_sem, hc11]
end Go.Proofs.Ytmopipclheohcaa
