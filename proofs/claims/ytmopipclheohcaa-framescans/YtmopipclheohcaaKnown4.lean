/-
  The walk of novationlaw4.known.
-/
import Derived.Test.YtmopipclheohcaaStr
import Derived.Lib.SmallJoins
namespace Go.Proofs.Ytmopipclheohcaa
open Go Go.RowKit Go.Shelf
attribute [local go_sem] Oper.semAt_some

abbrev rec0 : List Nat := [0, 0, 255, 18, 217, 65]
theorem oct0 : Oct rec0 := by unfold Oct; decide
theorem oct00 : Oct (rec0 ++ rec0) := oct0.append oct0
theorem oct09 : Oct (rec0 ++ [9]) := oct0.append (by unfold Oct; decide)

theorem byts_mark (w : World) (t : TypeId) (fr : Nat × Nat) (cs : Array Value) (l : List Nat) (h : cs.toList = l.map byteV) (n : Nat) (hn : n = w.heap.size) : Byts (w.alloc (.cells cs t fr)) (some ⟨n, 0, none⟩) l := by
  intro _
  refine ⟨_, _, rfl, fun i hi => ?_⟩
  rw [Nat.zero_add, Go.Joins.cell_alloc_mark_at w cs t fr n i hn, ← Array.getElem?_toList, h, List.getElem?_map, List.getD_eq_getElem?_getD, List.getElem?_eq_getElem hi]
  rfl
theorem own_byts {β : Type} (A : Option Addr) (l : List Nat) : Own (fun (_ : β) W => Byts W A l) := by
  intro s X Y row h hg hr h0
  obtain ⟨b, off, e, hc⟩ := h h0
  exact ⟨b, off, e, fun i hi => cell_kept (hc i hi) hg hr⟩
theorem Byts.set_ne {W : World} {b off : Nat} {l : List Nat} (h : Byts W (some ⟨b, off, none⟩) l) {b' o : Nat} (hb : b' ≠ b) (v : Value) : Byts (W.setCell ⟨b', o, none⟩ v) (some ⟨b, off, none⟩) l := by
  intro h0
  obtain ⟨b2, off2, e, hc⟩ := h h0
  injection e with e; injection e with e1 e2; subst e1; subst e2
  refine ⟨b, off, rfl, fun i hi => ?_⟩
  rw [World.cell?_setCell_other _ _ _ _ (by intro e; injection e with e; exact hb e)]
  exact hc i hi
theorem two_next {pre : List Elem} {x : Elem} (h : (pre ++ [x]).map elemOf <+: [(0, []), (6, [])]) : x.1 = 6 * pre.length ∧ x.2.2 = [] ∧ pre.length ≤ 1 := by
  obtain ⟨t, ht⟩ := h
  have h1 := congrArg (fun l => l[pre.length]?) ht
  simp only [List.map_append, List.append_assoc] at h1
  rw [List.getElem?_append_right (by simp)] at h1
  simp at h1
  rcases hk : pre.length with _ | _ | k
  · rw [hk] at h1; simp [elemOf] at h1; exact ⟨by simp [h1.1], h1.2, by omega⟩
  · rw [hk] at h1; simp [elemOf] at h1; exact ⟨by simp [h1.1], h1.2, by omega⟩
  · rw [hk] at h1; simp at h1
set_option maxRecDepth 100000 in
set_option maxHeartbeats 4000000 in
theorem known_any (w : World) : Calls Try.prog 8 #[] w fun e W' => e = .returned (.bool true) ∧ Below w.heap.size w W' := by
  have C1 : Hid (∀ W, Calls Try.prog 9 #[.slice none 0 0] W (BytesC W rec0 0)) := Lib.hid fun W => by
    have := put_any none [] 0 W (Byts.nil _ _) (fun x hx => by cases hx) (fun _ => rfl) (by simp)
    rw [rec_nil] at this
    exact this
  have C3 : Hid (∀ W, Calls Try.prog 18 #[.slice none 0 0] W fun e W' => ∃ v, e = .returned (.tuple #[v, .int .i64 0, .int .i64 12]) ∧ Below W.heap.size W W') := Lib.hid fun W => (next_tiny none [] 0 W (by simp)).mono (by
    rintro e w' ⟨v, rfl, hv, hb⟩; exact ⟨v, rfl, hb⟩)
  refine (callsIn_wide (n := 4)).1 ?_
  refine callsIn_of_wp_marks Try.func8 rfl trivial ?_ rfl
  simp only [Try.ntmps8, List.size_toArray, List.length_nil, Nat.reduceSub, Array.replicate_succ, Array.replicate_zero, List.push_toArray, List.append_toArray, List.nil_append, List.cons_append]
  have b0 := Boxed.new w 4 (.bool false)
  gi_wp2_with (first
    | (refine ⟨trivial, ?_⟩; gi_at_call 9; refine (callsIn_wide.2 (C1.out _)).mono ?_; rintro e w1 ⟨v1, rfl, hv1, hb1⟩; obtain ⟨A1, c1, rfl, hB1, _, _, hA1, hN1⟩ := OwnB.form hv1)
    | (gi_at_builtin; refine wpListIn_app rfl (.tmp 18) (.tmp 19) rfl w1.heap.size _ [] rfl (ownB_lit w1 _ _ [] (Nat.le_refl _) ?a1 rfl _ rfl _ rfl) _ _ _ rec0 rfl rfl (hB1.below ?a2) hA1 ?a3 ?a4 ?_))
  case a1 => simp
  case a2 => exact (Below.refl _ _).alloc (Nat.le_refl _) _
  case a3 => decide
  case a4 => simp
  intro v2 w2 ho2 hb2 _
  obtain ⟨A2, c2, rfl, _⟩ := OwnB.form ho2
  have HB2 := Lib.hid (below_one hb2)
  have HO2 := Lib.hid ho2
  clear ho2 hb2
  gi_wp2_with (gi_at_builtin; refine wpListIn_app rfl (.tmp 20) (.tmp 21) rfl w1.heap.size _ rec0 rfl (HO2.out.alloc _) _ _ _ [9] rfl rfl (byts_new _ _ _ [9] rfl _ rfl) ?a1 ?a2 ?a3 ?_)
  case a1 => intro e; cases e
  case a2 => decide
  case a3 => have := HB2.out.size; simp; omega
  intro v3 w3 ho3 hb3 _
  obtain ⟨A3, c3, rfl, hB3, hc3, _⟩ := OwnB.form ho3
  have HB3 := Lib.hid ((HB2.out.alloc HB2.out.size _).trans hb3)
  have C2 : Hid (Calls Try.prog 18 #[.slice A3 7 c3] w3 fun e W' => ∃ v, e = .returned (.tuple #[v, .int .i64 6, .int .i64 0]) ∧ OwnB W' w3.heap.size v [] ∧ Below w3.heap.size w3 W') := Lib.hid ((next_any A3 (rec0 ++ [9]) c3 w3 hB3 oct09 (by decide) hc3).mono (by
    rintro e w' ⟨v, rfl, hv, hb⟩
    rw [next_nine] at hv ⊢
    exact ⟨v, rfl, hv, hb⟩))
  clear ho3 hb3 hB3 HO2 C1
  gi_wp2_with (first
    | (refine ⟨trivial, ?_⟩; gi_at_call 18; (with_reducible refine (callsIn_wide.2 C2.out).mono ?_); rintro e w4 ⟨v4, rfl, hv4, hb4⟩; obtain ⟨A4, c4, rfl, _⟩ := OwnB.form hv4)
    | (refine ⟨trivial, ?_⟩; gi_at_call 18; (with_reducible refine (callsIn_wide.2 (C3.out _)).mono ?_); rintro e w5 ⟨v5, rfl, hb5⟩)
    | (gi_at_builtin; refine wpListIn_app rfl (.tmp 32) (.tmp 33) rfl (w5.heap.size + 1) _ [] rfl (ownB_lit _ _ _ [] ?b1 ?b2 rfl _ ?b6 _ rfl) _ _ _ rec0 rfl rfl ?b3 hA1 ?b4 ?b5 ?_))
  case b1 => simp
  case b2 => simp
  case b3 =>
    refine hB1.below ?_
    have h1 := HB3.out.trans (hb4.mono HB3.out.size)
    have h2 := h1.trans (hb5.mono h1.size)
    exact (h2.alloc h2.size _).alloc (by have := h2.size; simp; omega) _
  case b4 => decide
  case b5 => simp
  case b6 => simp
  intro v6 w6 ho6 hb6 _
  obtain ⟨A6, c6, rfl, _⟩ := OwnB.form ho6
  have h14 := HB3.out.trans (hb4.mono HB3.out.size)
  have h15 := h14.trans (hb5.mono h14.size)
  have bK0 := Boxed.new w5 3 (.int .i64 0)
  have h56 : Below (w5.heap.size + 1) (w5.alloc (.cells #[.int .i64 0] 3)) w6 := ((Below.refl _ _).alloc (by simp) _).trans hb6
  have bK6 : Boxed w6 w5.heap.size 3 (.int .i64 0) := (h56.block w5.heap.size (by omega)).trans bK0
  have h16 : Below w1.heap.size w1 w6 := (h15.alloc h15.size _).trans (h56.mono (by have := h15.size; omega))
  have hw56 : w5.heap.size + 1 ≤ w6.heap.size := by have := h56.size; simp at this; omega
  have HB6 := Lib.hid h16
  have HO6 := Lib.hid ho6
  have BK6 := Lib.hid bK6
  have hw15 := h15.size
  clear C2 C3 HB2 HB3 hb4 hb5 h14 h15 h56 h16 bK0 bK6 hb6 ho6 hv4
  gi_wp2_with (gi_at_builtin; refine wpListIn_app rfl (.tmp 34) (.tmp 35) rfl (w5.heap.size + 1) _ rec0 rfl HO6.out _ _ _ rec0 rfl rfl (hB1.below HB6.out) hA1 ?d4 ?d5 ?_)
  case d4 => decide
  case d5 => exact hw56
  intro v7 w7 ho7 hb7 _
  obtain ⟨A7, c7, rfl, hB7, _⟩ := OwnB.form ho7
  have C7 : Hid (Calls Try.prog 17 #[.slice A7 12 c7] w7 (WalkC w7 (rec0 ++ rec0))) := Lib.hid (walk_any A7 (rec0 ++ rec0) c7 w7 hB7 (by decide))
  have HB7 := Lib.hid (HB6.out.trans (hb7.mono (by omega)))
  have BK7 : Hid (Boxed w7 w5.heap.size 3 (.int .i64 0)) := Lib.hid ((hb7.block w5.heap.size (by omega)).trans BK6.out)
  have hw67 : w5.heap.size + 1 ≤ w7.heap.size := Nat.le_trans hw56 hb7.size
  clear ho7 hb7 hB7 HO6 HB6 BK6
  have hnil : ∀ (Bs : Nat) (W : World), (binOp .eql 38 (.func (.func 22) #[] #[.pointer (some ⟨Bs, 0, none⟩)]) .nilFunc).run Try.prog W = .ok (.bool false) W := fun _ _ => rfl
  gi_wp2_with (refine ⟨trivial, ?_⟩; gi_at_call 17; (with_reducible refine (callsIn_wide.2 C7.out).mono ?_); rintro e w8 ⟨Bs, v8, rfl, hBs, hBx, hv8, hb8⟩)
  obtain ⟨b1, o1, rfl, hcs⟩ := hB1 (by decide)
  have hb1l : b1 < w1.heap.size := block_lt (hcs 0 (by decide))
  have hb1n := hN1 b1 o1 none rfl
  have hs1 := hb1.size
  simp only [World.size_alloc] at hb1n hs1 hb1
  have hB8 : Below w1.heap.size w1 w8 := HB7.out.trans (hb8.mono HB7.out.size)
  have BK8 : Boxed w8 w5.heap.size 3 (.int .i64 0) := (hb8.block w5.heap.size (by omega)).trans BK7.out
  have hw8 := hB8.size
  have BR8 : Boxed w8 w.heap.size 4 (.bool false) := (hB8.block w.heap.size (by omega)).trans ((hb1.block w.heap.size (by omega)).trans b0)
  have hBw8 : Below w.heap.size w w8 := (below_one (hb1.mono (by omega))).trans (hB8.mono (by omega))
  have hby8 := hB1.below hB8
  have hbxl := hBx.lt
  have HW := Lib.hid (walk_seq Bs w7.heap.size v8 (rec0 ++ rec0) w8 hBs hBx hv8 oct00 (by decide))
  have hsz8 := hb8.size
  clear hcs hB1 hN1 hA1 hv1 hb1 HB7 BK7 C7 b0 hBx hv8 hb8 hnil
  refine wpIn_rangeX rfl (by omega) (gf := 22) (lb := #[.pointer (some ⟨Bs, 0, none⟩)]) rfl trivial (enters_of Try.func22 (by kernel_rfl) rfl) HW.out nextE_put (fun h k => Kept.trans h k) (fun W l o o' h _ _ _ => Kept.putObj o' h) (Below.refl _ _) (fun _ => rfl)
    (fun pre W => ((W.cell? ⟨w5.heap.size, 0, none⟩ = some (.int .i64 ((pre.length : Nat) : Int)) ∧ W.frozen? ⟨w5.heap.size, 0, none⟩ = false) ∧ (W.cell? ⟨w.heap.size, 0, none⟩ = some (.bool false) ∧ W.frozen? ⟨w.heap.size, 0, none⟩ = false) ∧ Byts W (some ⟨b1, o1, none⟩) rec0) ∧ Below w.heap.size w W)
    (fun _ _ _ => False)
    (OwnFrom.and (Own.from (fun s A B row hs hg hr => ⟨⟨cell_kept hs.1.1 hg hr, (frozen_kept hs.1.1 hg hr).trans hs.1.2⟩, ⟨cell_kept hs.2.1.1 hg hr, (frozen_kept hs.2.1.1 hg hr).trans hs.2.1.2⟩, own_byts _ _ s A B row hs.2.2 hg hr⟩) _) (ownFrom_below (Nat.le_refl _) (by omega)))
    (fun _ _ _ _ _ hs _ _ => hs)
    ⟨⟨⟨BK8.cell, BK8.frozen⟩, ⟨BR8.cell, BR8.frozen⟩, hby8⟩, hBw8⟩
    ?frm ?assign ?body ?done ?stop
  case assign =>
    intro l x W K hK
    simp only [encE]
    gi_wp2
    exact hK
  case body =>
    rintro l pre ⟨p, u, bs⟩ W ⟨⟨⟨hc, hf⟩, ⟨hc2, hf2⟩, hby⟩, hB⟩ ⟨hpre, hu⟩
    change OwnB W _ u bs at hu
    rw [recs_two] at hpre
    obtain ⟨h1, h2, h3⟩ := two_next hpre
    simp only at h1 h2
    subst h2
    obtain ⟨A9, c9, rfl, _⟩ := OwnB.form hu
    clear hpre hu HW
    have HL : Hid ((pre ++ [(p, Value.slice A9 ([] : List Nat).length c9, ([] : List Nat))]).length = pre.length + 1) := Lib.hid (by simp)
    have HB := Lib.hid hB
    have HY := Lib.hid hby
    clear hB hby
    rcases (by omega : pre.length = 0 ∨ pre.length = 1) with hk | hk
    · rw [hk] at hc h1 HL
      subst h1
      gi_wp2
      refine ⟨(KeepsOthers.setCell _ _ _).from _, Kept.setCell (.inl (by omega)) _ _, ⟨⟨?_, by rw [World.frozen?_setCell]; exact hf⟩, ⟨by rw [World.cell?_setCell_other _ _ _ _ (by intro e; injection e with e; omega)]; exact hc2, by rw [World.frozen?_setCell]; exact hf2⟩, HY.out.set_ne (by omega) _⟩, HB.out.setCell (p := ⟨w5.heap.size, 0, none⟩) (by simp only; omega) _⟩
      rw [HL.out]
      exact World.cell?_setCell_same' _ _ _ (by rw [hc]; rfl)
    · rw [hk] at hc h1 HL
      subst h1
      gi_wp2
      refine ⟨(KeepsOthers.setCell _ _ _).from _, Kept.setCell (.inl (by omega)) _ _, ⟨⟨?_, by rw [World.frozen?_setCell]; exact hf⟩, ⟨by rw [World.cell?_setCell_other _ _ _ _ (by intro e; injection e with e; omega)]; exact hc2, by rw [World.frozen?_setCell]; exact hf2⟩, HY.out.set_ne (by omega) _⟩, HB.out.setCell (p := ⟨w5.heap.size, 0, none⟩) (by simp only; omega) _⟩
      rw [HL.out]
      exact World.cell?_setCell_same' _ _ _ (by rw [hc]; rfl)
  case stop =>
    rintro D c pre W _ _ h _
    exact h.elim
  case done =>
    rintro D ys W hD hS ⟨⟨⟨hc, hf⟩, ⟨hc2, hf2⟩, hby⟩, hB⟩ hK
    rw [recs_two] at hS
    have hlen : ys.length = 2 := by have := congrArg List.length hS; simpa using this
    rw [hlen] at hc
    have C9 : Hid (∀ W' A c, Byts W' A [49, 50, 51, 52, 53, 54, 55, 56, 57] → Calls Try.prog 11 #[.slice A 9 c] W' fun e w' => e = .returned (.int .u32 3421780262) ∧ W' = w') := Lib.hid fun W' A c h => by
      have := sum_any A [49, 50, 51, 52, 53, 54, 55, 56, 57] c W' h (by unfold Oct; decide) (by decide)
      rw [crc_nine] at this
      exact this
    have C10 : Hid (∀ W', Byts W' (some ⟨b1, o1, none⟩) rec0 → Calls Try.prog 16 #[.slice (some ⟨b1, o1, none⟩) 6 c1] W' fun e w' => e = .returned (.int .i64 6) ∧ Below W'.heap.size W' w') := Lib.hid fun W' h => by
      have := whole_any (some ⟨b1, o1, none⟩) rec0 c1 W' h oct0 (by decide)
      rw [whole_one] at this
      exact this
    obtain ⟨Wm, hWm⟩ : ∃ Wm, Wm = W.alloc (.cells #[.int .u8 49, .int .u8 50, .int .u8 51, .int .u8 52, .int .u8 53, .int .u8 54, .int .u8 55, .int .u8 56, .int .u8 57] 5 (9, 10)) := ⟨_, rfl⟩
    have hcc : (convert 22 22 (.slice (some ⟨W.heap.size, 0, none⟩) 9 9)).run Try.prog (W.alloc (.cells #[.int .u8 49, .int .u8 50, .int .u8 51, .int .u8 52, .int .u8 53, .int .u8 54, .int .u8 55, .int .u8 56, .int .u8 57] 5)) = .ok (.slice (some ⟨W.heap.size, 0, none⟩) 9 9) Wm := by
      rw [hWm]
      exact Go.Joins.run_convert_bytes_const_at W 22 5 _ 9 9 _ rfl Try.underlying22 Try.underlying5
    have hBm : Below W.heap.size W Wm := by rw [hWm]; exact (Below.refl _ _).alloc (Nat.le_refl _) _
    have hnew : Hid (Byts Wm (some ⟨W.heap.size, 0, none⟩) [49, 50, 51, 52, 53, 54, 55, 56, 57]) := Lib.hid (by rw [hWm]; exact byts_mark W _ _ _ _ rfl _ rfl)
    have hbym := hby.below hBm
    have hst : (convert 22 9 (.slice (some ⟨b1, o1, none⟩) 6 c1)).run Try.prog Wm = .ok (.string { data := #[0, 0, 255, 18, 217, 65] }) Wm := by
      rw [run_bstr _ _ rec0 6 c1 rfl hbym, bstr_nil]
    have hcm : Wm.cell? ⟨w5.heap.size, 0, none⟩ = some (.int .i64 2) := (hBm.cell (p := ⟨w5.heap.size, 0, none⟩) (block_lt hc)).trans hc
    have HR : Hid (Wm.cell? ⟨w.heap.size, 0, none⟩ = some (.bool false) ∧ Wm.frozen? ⟨w.heap.size, 0, none⟩ = false) := Lib.hid ⟨(hBm.cell (p := ⟨w.heap.size, 0, none⟩) (block_lt hc2)).trans hc2, (hBm.frozen (p := ⟨w.heap.size, 0, none⟩) (block_lt hc2)).trans hf2⟩
    have HKm : Hid (Wm.heap[D]? = some (.deferred (some []))) := Lib.hid ((hBm.block D (Array.getElem?_eq_some_iff.1 hK).1).trans hK)
    have HBM := Lib.hid (hB.trans (hBm.mono hB.size))
    have HYM := Lib.hid hbym
    clear hS HW hWm hBm hbym hc hf hc2 hf2 hK hB hby
    gi_wp2_with (first
      | (refine ⟨trivial, ?_⟩; gi_at_call 11; (refine (callsIn_wide.2 (C9.out _ _ _ hnew.out)).mono ?_); rintro e w9 ⟨rfl, rfl⟩)
      | (refine ⟨trivial, ?_⟩; gi_at_call 16; (refine (callsIn_wide.2 (C10.out _ HYM.out)).mono ?_); rintro e w10 ⟨rfl, hb10⟩; have hr10 := (hb10.cell (p := ⟨w.heap.size, 0, none⟩) (block_lt HR.out.1)).trans HR.out.1; have hf10 := (hb10.frozen (p := ⟨w.heap.size, 0, none⟩) (block_lt HR.out.1)).trans HR.out.2))
    have hK10 : w10.heap[D]? = some (.deferred (some [])) := (hb10.block D (Array.getElem?_eq_some_iff.1 HKm.out).1).trans HKm.out
    have hK' := (KeepsOthers.setCell w10 ⟨w.heap.size, 0, none⟩ (.bool true)).same D _ hK10 rfl
    refine ⟨by simp, .inl ⟨_, _, rfl, run_takeDeferred hK', ?_⟩⟩
    have hc11 := cell_kept (World.cell?_setCell_same' w10 ⟨w.heap.size, 0, none⟩ (.bool true) (by rw [hr10]; rfl)) (grownBy_putObj' _ D (.deferred none)) (fun r e => by cases e; exact ⟨_, hK', rfl⟩)
    have hB10 := HBM.out.trans (hb10.mono HBM.out.size)
    refine ⟨.bool true, ?_, rfl, (hB10.setCell (p := ⟨w.heap.size, 0, none⟩) (Nat.le_refl _) _).trans (belowK_b (w := w) (Nat.le_refl _) _ D _ _ (by omega) hK' rfl rfl)⟩
    simp [results, Try.f8, go_sem, hc11]
end Go.Proofs.Ytmopipclheohcaa
