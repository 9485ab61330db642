import Derived.Test.YtmpipjangbedkaaGreatMJw5
import Derived.Laws.EntriesVeiled
/-
  The program's journal.All: what it answers; what ranging over that brings.
-/
namespace Go.Proofs.YtmpipjangbedkaaGreat
set_option maxRecDepth 8000
open Go Go.RowKit Go.Shelf
attribute [local go_sem] Oper.semAt_some
set_option linter.unusedVariables false

/-- The events that All goes through. -/
def allL (L : List Nat) : List Ev := match jour L with
  | none => []
  | some (_, es, _) => es
theorem all_cons {L b : List Nat} {bs : List (List Nat)} (h : (recs L).map (·.2) = b :: bs) : allL L = match readP b with | none => [] | some _ => (evs bs).1 := by
  unfold allL jour
  rw [h]
  unfold jourL
  dsimp only
  cases readP b with
  | none => rfl
  | some cf => rfl
theorem all_nil {L : List Nat} (h : recs L = []) : allL L = [] := by unfold allL jour; rw [h]; rfl
theorem all_done {xs : List Elem} {cf : Cfg} {es : List Ev} {L : List Nat} (h : PreJ xs cf es) (hL : xs.map elemOf = recs L) : allL L = es := by
  have h2 : (recs L).map (·.2) = xs.map (·.2.2) := by rw [← hL, snd_elem]
  rcases h with ⟨rfl, rfl, rfl⟩ | ⟨x, rest, rfl, h1, h3⟩
  · exact all_nil hL.symm
  · rw [all_cons h2, h1]
    show (evs (rest.map (·.2.2))).1 = es
    rw [h3]
theorem all_bad0 {x : Elem} {L : List Nat} (hL : ([] ++ [x]).map elemOf <+: recs L) (h : readP x.2.2 = none) : allL L = [] := by
  obtain ⟨t, ht⟩ := hL
  have h2 : (recs L).map (·.2) = x.2.2 :: t.map (·.2) := by rw [← ht]; rfl
  rw [all_cons h2, h]
theorem all_at {pre : List Elem} {x : Elem} {cf : Cfg} {es : List Ev} {L : List Nat} (hp : PreJ pre cf es) (h0 : pre ≠ []) (hL : (pre ++ [x]).map elemOf <+: recs L) : ∃ t, allL L = (preE es (evs (x.2.2 :: t))).1 := by
  obtain ⟨t, ht⟩ := hL
  rcases hp with ⟨h1, _⟩ | ⟨y, rest, rfl, h1, h2⟩
  · exact absurd h1 h0
  · have h3 : (recs L).map (·.2) = y.2.2 :: (rest.map (·.2.2) ++ (x.2.2 :: t.map (·.2))) := by
      rw [← ht, List.map_append, snd_elem]
      simp
    refine ⟨t.map (·.2), ?_⟩
    rw [all_cons h3, h1]
    show (evs _).1 = _
    rw [evs_app _ _ _ h2]
theorem all_bad {pre : List Elem} {x : Elem} {cf : Cfg} {es : List Ev} {L : List Nat} (hp : PreJ pre cf es) (h0 : pre ≠ []) (hL : (pre ++ [x]).map elemOf <+: recs L) (h : readE x.2.2 = none) : allL L = es := by
  obtain ⟨t, ht⟩ := all_at hp h0 hL
  rw [ht, evs_none h]
  simp [preE]
theorem all_more {pre : List Elem} {x : Elem} {cf : Cfg} {es : List Ev} {L : List Nat} {e : Ev} (hp : PreJ pre cf es) (h0 : pre ≠ []) (hL : (pre ++ [x]).map elemOf <+: recs L) (h : readE x.2.2 = some e) : es ++ [e] <+: allL L := by
  obtain ⟨t, ht⟩ := all_at hp h0 hL
  rw [ht, evs_some h]
  exact ⟨(evs t).1, by simp [preE]⟩
/-- Events with their places. -/
def enumE (es : List Ev) : List (Nat × Ev) := es.zipIdx.map fun p => (p.2, p.1)
theorem enumE_add (es : List Ev) (e : Ev) : enumE (es ++ [e]) = enumE es ++ [(es.length, e)] := by
  unfold enumE
  rw [List.zipIdx_append]
  simp
def encA (x : Nat × Ev) : Array Value := #[.int .i64 (x.1 : Int), x.2.v]
/-- The next one. -/
def NextA (L : List Nat) (pre : List (Nat × Ev)) (x : Nat × Ev) : Prop := ∃ es, pre = enumE es ∧ x.1 = es.length ∧ es ++ [x.2] <+: allL L

/-- What All answers: a function that bears what Walk answers. -/
def JAllC (w : World) (L : List Nat) (e : Ending) (w' : World) : Prop :=
  ∃ Ba Bs v, e = .returned (.func (.func 62) #[] #[.pointer (some ⟨Ba, 0, none⟩)]) ∧ w.heap.size ≤ Ba ∧ w.heap.size ≤ Bs ∧ Boxed w' Ba 106 (.func (.func 81) #[] #[.pointer (some ⟨Bs, 0, none⟩)]) ∧ Boxed w' Bs 26 v ∧ OwnB w' w.heap.size v L ∧ Below w.heap.size w w'
set_option maxRecDepth 8000 in
set_option maxHeartbeats 1000000 in
theorem jall_any (A : Option Addr) (L : List Nat) (c : Nat) (w : World) (hr : Byts w A L) (hn : L.length ≤ 1000000000) :
    Calls Tryz.prog 28 #[.slice A L.length c] w (JAllC w L) := by
  have C := Lib.hid (walk_any A L c w hr hn)
  clear hr
  go_enter Tryz.func28, Tryz.ntmps28
  go_wp2_with (go_at_call 61; refine C.out.mono ?_; rintro e w' ⟨Bs, v, rfl, hBs, hBx, hv, hb⟩; have HBX := Lib.hid hBx; have HV := Lib.hid hv; have HB := Lib.hid hb; clear hBx hv hb)
  go_ret
  exact ⟨w'.heap.size, Bs, v, rfl, HB.out.size, hBs, Boxed.new _ _ _, (Below.heap_alloc _ _ _ HBX.out.lt).trans HBX.out, OwnB.alloc HV.out _, HB.out.alloc HB.out.size _⟩
end Go.Proofs.YtmpipjangbedkaaGreat

/-
  What ranging over the program's journal.All brings.
-/
namespace Go.Proofs.YtmpipjangbedkaaGreat
set_option maxRecDepth 8000
open Go Go.RowKit Go.Shelf
attribute [local go_sem] Oper.semAt_some
set_option linter.unusedVariables false

theorem keepsFrom_more {B B' : Nat} {W W' : World} (h : KeepsFrom B W W') (hB : B ≤ B') : KeepsFrom B' W W' := ⟨h.size, fun k o h1 h2 h3 => h.same k o (by omega) h2 h3⟩
/-- What the iterator has laid: the caller's function, the next place. -/
structure AllB (s l k : Nat) (W : World) : Prop where
  y : Rec W s 108 [.func (.yield l) #[] #[]]
  p : Rec W (s + 1) 3 [.int .i64 (k : Int)]
section
variable {s l k : Nat} {W W' : World} {row : Option Nat}
theorem AllB.keep (h : AllB s l k W) (hb : Below W.heap.size W W') : AllB s l k W' := ⟨h.y.keep hb, h.p.keep hb⟩
theorem AllB.kept (h : AllB s l k W) (hg : W.grownBy W' row) (hr : ∀ r, row = some r → ∃ o : Obj, W.heap[r]? = some o ∧ o.isCells = false) : AllB s l k W' := ⟨rec_kept h.y hg hr, rec_kept h.p hg hr⟩
theorem AllB.size (h : AllB s l k W) : s + 1 < W.heap.size := h.p.lt
theorem AllB.same (h : AllB s l k W) (hk : Kept s W.heap.size W W') : AllB s l k W' := ⟨(hk.block s (Nat.le_refl _) h.y.lt).trans h.y, (hk.block (s + 1) (by omega) h.p.lt).trans h.p⟩
theorem AllB.next (h : AllB s l k W) : AllB s l (k + 1) (W.setCell ⟨s + 1, 0, none⟩ (.int .i64 ((k : Int) + 1))) := by
  rw [show (k : Int) + 1 = ((k + 1 : Nat) : Int) from by omega]
  exact ⟨h.y.touch (Touch.setCell W ⟨s + 1, 0, none⟩ _) (by simp), h.p.set 0 _⟩
end
theorem grown_low {B : Nat} {A A' : World} {row : Option Nat} (hg : A.grownBy A' row) (hB : B ≤ A.heap.size) (hr : ∀ r, row = some r → B ≤ r) : Below B A A' := (Below.refl B A).grown hg hB (fun g e => hr g e)
set_option maxRecDepth 100000 in
set_option maxHeartbeats 16000000 in
theorem all_seq (Ba Bs lo : Nat) (v : Value) (L : List Nat) (w : World) (hA : Boxed w Ba 106 (.func (.func 81) #[] #[.pointer (some ⟨Bs, 0, none⟩)])) (hBl : lo ≤ Bs) (hBx : Boxed w Bs 26 v) (hv : OwnB w lo v L) (hl : Oct L) (hn : L.length ≤ 1000000000) :
    SeqY Fence.wide 4 Tryz.prog 62 #[.pointer (some ⟨Ba, 0, none⟩)] encA (NextA L) (Kept lo w.heap.size) (fun xs => xs = enumE (allL L)) (fun pre => ∃ es, es <+: allL L ∧ pre = enumE es) w := by
  intro l J Jx W hW hJ hJx hY h0
  have hca : W.cell? ⟨Ba, 0, none⟩ = some (.func (.func 81) #[] #[.pointer (some ⟨Bs, 0, none⟩)]) := (hW.cell (p := ⟨Ba, 0, none⟩) hA.lt).trans hA.cell
  have hBa : Ba < W.heap.size := block_lt hca
  have HW := Lib.hid (walk_seq Bs lo v L w hBl hBx hv hl hn)
  have HO := Lib.hid hl
  have HL := Lib.hid hn
  have HWb := Lib.hid hW
  have HJ := Lib.hid hJ
  have HJx := Lib.hid hJx
  have HY := Lib.hid hY
  have H0 := Lib.hid h0
  have hws := hW.size
  clear hA hBx hv hl hn hW hJ hJx hY h0
  show CallsIn Fence.wide 4 _ _ #[.func (.yield l) #[] #[], .pointer (some ⟨Ba, 0, none⟩)] W _
  refine callsIn_of_wp_marks Tryz.func62 rfl trivial ?_ rfl
  simp only [Tryz.ntmps62, List.size_toArray, List.length_cons, List.length_nil, Nat.reduceAdd, Nat.reduceSub, Array.replicate_succ, Array.replicate_zero, List.push_toArray, List.append_toArray, List.nil_append, List.cons_append]
  gi_wp2
  obtain ⟨W1, hW1⟩ : ∃ W1, W1 = (W.alloc (.cells #[.func (.yield l) #[] #[]] 108)).alloc (.cells #[.int .i64 0] 3) := ⟨_, rfl⟩
  rw [← hW1]
  have HAB : AllB W.heap.size l 0 W1 := by
    rw [hW1]
    exact ⟨Rec.keep (Rec.new W _ [.func (.yield l) #[] #[]] _ rfl) ((Below.refl _ _).alloc (Nat.le_refl _) _), Rec.new _ _ [.int .i64 ((0 : Nat) : Int)] _ (by simp)⟩
  have hbW1 : Below W.heap.size W W1 := by rw [hW1]; exact ((Below.refl _ _).alloc (Nat.le_refl _) _).alloc (by simp) _
  have hsz1 : W1.heap.size = W.heap.size + 2 := by rw [hW1]; simp
  have H1 := HJ.out _ _ _ H0.out hbW1
  have hb1 : Below w.heap.size w W1 := HWb.out.trans (hbW1.mono hws)
  clear hca H0 hW1
  refine wpIn_rangeX rfl (by omega) (gf := 81) (lb := #[.pointer (some ⟨Bs, 0, none⟩)]) rfl trivial (enters_of Tryz.func81 (by kernel_rfl) rfl) HW.out nextE_put (fun h k => Kept.trans h k) (fun W l o o' h _ _ _ => Kept.putObj o' (by omega)) hb1 (fun _ => rfl)
    (fun pre A => ∃ cf es, PreJ pre cf es ∧ J (enumE es) A ∧ AllB W.heap.size l es.length A)
    (fun cd _ A => cd = Code.ret ∧ W.heap.size ≤ A.heap.size ∧ (J (enumE (allL L)) A ∨ ∃ es, es <+: allL L ∧ Jx (enumE es) A))
    (fun s A B row hs hg hr => by
      obtain ⟨cf, es, h1, h2, h3⟩ := hs
      exact ⟨cf, es, h1, HJ.out _ _ _ h2 (grown_low hg (by have := h3.size; omega) (fun r e => by have := (hr r e).1; omega)), h3.kept hg (fun r e => (hr r e).2)⟩)
    (fun cd s A B row hs hg hr => by
      obtain ⟨h1, h2, h3⟩ := hs
      have hb := grown_low (B := W.heap.size) hg h2 (fun r e => by have := (hr r e).1; omega)
      refine ⟨h1, Nat.le_trans h2 hg.size, ?_⟩
      rcases h3 with h3 | ⟨es, h4, h5⟩
      · exact .inl (HJ.out _ _ _ h3 hb)
      · exact .inr ⟨es, h4, HJx.out _ _ _ h5 hb⟩)
    ⟨Cfg.zero, [], .inl ⟨rfl, rfl, rfl⟩, H1, HAB⟩
    (fun x => { tmps := #[.func (.yield l) #[] #[], .pointer (some ⟨Ba, 0, none⟩), .pointer (some ⟨W.heap.size, 0, none⟩), .pointer (some ⟨W.heap.size + 1, 0, none⟩), .int .i64 (x.1 : Int), x.2.1, undef, undef, undef, undef, .func (.func 81) #[] #[.pointer (some ⟨Bs, 0, none⟩)], .int .i64 (x.1 : Int), x.2.1, undef, undef, undef, undef, undef, undef, undef, undef, undef, undef, undef, undef, undef, undef, undef, undef, undef, undef, undef, undef, undef, undef, undef, undef, undef], defers := [] }) ?assign ?body ?done ?stop
  case assign =>
    intro l x W K hK
    simp only [encE]
    gi_wp2
    exact hK
  case body =>
    rintro l2 pre ⟨p, u, bs⟩ A ⟨cf, es, hpj, hJA, hab⟩ ⟨hpre, hu⟩
    change OwnB A _ u bs at hu
    obtain ⟨A9, c9, rfl, hB9, hc9, _⟩ := OwnB.form hu
    obtain ⟨hob, hb4⟩ := elem_fact HO.out hpre
    obtain ⟨hf1, hf2⟩ := first_place hpre
    change Oct bs at hob
    change bs.length ≤ 400 at hb4
    simp only at hf1 hf2
    have HAB2 := Lib.hid hab
    have HJA := Lib.hid hJA
    have hszA : W.heap.size + 1 < A.heap.size := hab.size
    have hel : es.length ≤ 1000000001 := by
      have h1 := preJ_len hpj
      have h2 := hpre.length_le
      have h3 := recs_len L
      have h4 := HL.out
      rw [List.length_map, List.length_append] at h2
      omega
    by_cases hp0 : pre = []
    · obtain rfl := hf1 hp0
      subst hp0
      have CP := Lib.hid (preadplan_any A9 bs _ c9 A rfl hB9 hob (by omega) hc9)
      obtain ⟨rfl, rfl⟩ : cf = Cfg.zero ∧ es = [] := by
        rcases hpj with ⟨_, h1, h2⟩ | ⟨_, _, h, _⟩
        · exact ⟨h1, h2⟩
        · cases h
      cases hr : readP bs with
      | none =>
        rw [hr] at CP
        have HCL := Lib.hid (all_bad0 (L := L) hpre hr)
        clear hpre hu hB9 hob hpj hr HW hf1 hf2 hJA hab
        gi_wp2_with (refine ⟨trivial, ?_⟩; gi_at_call 63; (with_reducible refine (callsIn_round CP.out).mono ?_); rintro e w2 hK; obtain ⟨V, k, rfl, hb2⟩ := planK_bad hK; have HB2 := Lib.hid hb2; clear hK hb2)
        have hal := alloc_below w2 (.cells #[.slice V 0 k, .int .i64 0, .int .i64 0, .int .i64 0, .int .i64 0, .int .i64 0, .int .i64 0] 31)
        have hz := HB2.out.size
        refine ⟨((keeps_below HB2.out).trans (keeps_below hal)).from _, rfl, by have := hal.size; omega, .inl ?_⟩
        rw [HCL.out]
        exact HJ.out _ _ _ (HJ.out _ _ _ HJA.out (HB2.out.mono (by omega))) (hal.mono (by omega))
      | some cf' =>
        rw [hr] at CP
        have HPJ := Lib.hid (preJ_first (x := (0, Value.slice A9 bs.length c9, bs)) hr)
        clear hpre hu hB9 hob hpj hr HW hf1 hf2 hJA hab
        gi_wp2_with (refine ⟨trivial, ?_⟩; gi_at_call 63; (with_reducible refine (callsIn_round CP.out).mono ?_); rintro e w2 hK; obtain ⟨V, k, rfl, hoi, hb2⟩ := planK_good hK; have HB2 := Lib.hid hb2; clear hK hb2 hoi)
        have hal := alloc_below w2 (.cells #[.slice V cf'.insts.length k, .int .i64 cf'.skin, .int .i64 cf'.times, .int .i64 cf'.port, .int .i64 cf'.bid, .int .i64 cf'.lot, .int .i64 cf'.hedge] 31)
        have hz := HB2.out.size
        exact ⟨((keeps_below HB2.out).trans (keeps_below hal)).from _, (below_kept HB2.out (by omega)).trans (below_kept hal (by omega)), _, _, HPJ.out, HJ.out _ _ _ (HJ.out _ _ _ HJA.out (HB2.out.mono (by omega))) (hal.mono (by omega)), (HAB2.out.keep HB2.out).keep hal⟩
    · have hpos := hf2 hp0
      have hd : ((p : Int) == 0) = false := by rw [beq_eq_false_iff_ne]; omega
      have hcp := pread_any A9 bs c9 A hB9 hob (by omega) hc9
      cases hr : readE bs with
      | none =>
        rw [readOut_none hr] at hcp
        have CP := Lib.hid hcp
        have HCL := Lib.hid (all_bad (L := L) hpj hp0 hpre hr)
        clear hpre hu hB9 hob hpj hr HW hf1 hf2 hcp hJA hab
        gi_wp2_with (refine ⟨trivial, ?_⟩; gi_at_call 64; (with_reducible refine (callsIn_round CP.out).mono ?_); rintro e w2 ⟨rfl, hb2⟩; simp only [Ev.v, Ev.zero]; have HB2 := Lib.hid hb2; clear hb2)
        refine ⟨fun _ h => (by cases h), ?_⟩
        gi_wp2
        have hal := alloc_below w2 (.cells #[.int .i64 0, .int .i64 0, .int .i64 0, .int .i64 0, .int .i64 0, .int .i64 0, .int .i64 0, .int .i64 0] 51)
        have hz := HB2.out.size
        refine ⟨((keeps_below HB2.out).trans (keeps_below hal)).from _, rfl, by have := hal.size; omega, .inl ?_⟩
        rw [HCL.out]
        exact HJ.out _ _ _ (HJ.out _ _ _ HJA.out (HB2.out.mono (by omega))) (hal.mono (by omega))
      | some ev =>
        rw [readOut_some hr] at hcp
        have CP := Lib.hid hcp
        have HPJ := Lib.hid (preJ_next (x := (p, Value.slice A9 bs.length c9, bs)) hpj hp0 hr)
        have HM := Lib.hid (all_more (L := L) hpj hp0 hpre hr)
        clear hpre hu hB9 hob hpj hr HW hf1 hf2 hcp hJA hab
        gi_wp2_with (first
          | (refine ⟨trivial, ?_⟩; gi_at_call 64; (with_reducible refine (callsIn_round CP.out).mono ?_); rintro e w2 ⟨rfl, hb2⟩; simp only [Ev.v]; have HB2 := Lib.hid hb2; have hal := alloc_below w2 (.cells #[.int .i64 ev.kind, .int .i64 ev.member, .int .i64 ev.acc, .int .i64 ev.inst, .int .i64 ev.side, .int .i64 ev.id, .int .i64 ev.q, .int .i64 ev.p] 51); have hz := hb2.size; have HAL := Lib.hid hal; have HA2 := Lib.hid (HAB2.out.keep hb2); have hyc := HA2.out.y.cell 0 rfl; have hpc := HA2.out.p.cell 0 rfl; have hl0 := HA2.out.y.lt; have hl1 := HA2.out.p.lt; obtain ⟨fn, tmps, assign, body, hy, hR⟩ := HY.out (enumE es) (es.length, ev) _ (HJ.out _ _ _ (HJ.out _ _ _ HJA.out (hb2.mono (by omega))) (hal.mono (by omega))) ⟨es, rfl, rfl, HM.out⟩ (by have := hal.size; omega); unfold encA Ev.v at hy; simp only at hy; have HRR := Lib.hid hR; clear hb2 hal hR))
        refine (roundIn_round HRR.out).mono ?_
        clear hy HRR HY
        have hz3 := HAL.out.size
        rintro e W4 (⟨rfl, hJ4, hk4, hkk4⟩ | ⟨rfl, hJx4, hkk4⟩)
        · have HA4 := Lib.hid (AllB.same (HA2.out.keep HAL.out) hkk4)
          have HJ4 := Lib.hid hJ4
          have HK4 := Lib.hid hk4
          have HKK4 := Lib.hid hkk4
          have hpc4 := HA4.out.p.cell 0 rfl
          have fp4 := HA4.out.p.frozen 0
          have hl4 := HA4.out.p.lt
          have hz4 := hkk4.size
          clear hJ4 hk4 hkk4 hpc hyc
          gi_wp2
          have hlow : Below W.heap.size W4 (W4.setCell ⟨W.heap.size + 1, 0, none⟩ (.int .i64 ((es.length : Int) + 1))) := (Below.refl _ _).setCell (p := ⟨W.heap.size + 1, 0, none⟩) (by simp) _
          have hJ5 := HJ.out _ _ _ HJ4.out hlow
          rw [← enumE_add] at hJ5
          have hA5 := HA4.out.next
          have hkf : KeepsFrom W1.heap.size A (W4.setCell ⟨W.heap.size + 1, 0, none⟩ (.int .i64 ((es.length : Int) + 1))) := ((((keeps_below HB2.out).trans (keeps_below HAL.out)).from _).trans (keepsFrom_more HKK4.out.from (by omega))).trans ((KeepsOthers.setCell _ _ _).from _)
          have hkq : Kept lo w.heap.size A (W4.setCell ⟨W.heap.size + 1, 0, none⟩ (.int .i64 ((es.length : Int) + 1))) := (((below_kept HB2.out (by omega)).trans (below_kept HAL.out (by omega))).trans HK4.out).trans (Kept.setCell (.inr (by omega)) _ _)
          exact ⟨hkf, hkq, _, _, HPJ.out, hJ5, by rw [List.length_append, List.length_singleton]; exact hA5⟩
        · have HJ4 := Lib.hid hJx4
          have HKK4 := Lib.hid hkk4
          have hz4 := hkk4.size
          clear hJx4 hkk4 hpc hyc
          gi_wp2
          have hJ5 := HJ4.out
          rw [← enumE_add] at hJ5
          exact ⟨(((keeps_below HB2.out).trans (keeps_below HAL.out)).from _).trans (keepsFrom_more HKK4.out.from (by omega)), rfl, by omega, .inr ⟨_, HM.out, hJ5⟩⟩
  case done =>
    rintro D ys A hD hS ⟨cf, es, hpj, hJA, hab⟩ hK
    have hes := all_done hpj hS
    have HJ9 := Lib.hid (HJ.out _ _ _ hJA (belowK_b (n₀ := W.heap.size) (w := W) (Nat.le_refl _) A D _ (.deferred none) (by omega) hK rfl rfl))
    have HK := Lib.hid hK
    clear hK hJA HW hpj hS
    gi_wp2
    refine ⟨by simp, .inl ⟨_, _, rfl, run_takeDeferred HK.out, ?_⟩⟩
    exact ⟨_, results_none rfl _ _ _, ⟨_, rfl⟩, .inl ⟨enumE (allL L), rfl, by rw [hes]; exact HJ9.out⟩⟩
  case stop =>
    rintro D cd pre A hD _ ⟨rfl, hszA, hor⟩ hK
    have hb9 := belowK_b (n₀ := W.heap.size) (w := W) (Nat.le_refl _) A D _ (.deferred none) (by omega) hK rfl rfl
    have HO9 : Hid ((∃ xs, xs = enumE (allL L) ∧ J xs (A.putObj D (.deferred none))) ∨ (∃ pre, (∃ es, es <+: allL L ∧ pre = enumE es) ∧ Jx pre (A.putObj D (.deferred none)))) := Lib.hid (by
      rcases hor with h | ⟨es, h1, h2⟩
      · exact .inl ⟨_, rfl, HJ.out _ _ _ h hb9⟩
      · exact .inr ⟨_, ⟨es, h1, rfl⟩, HJx.out _ _ _ h2 hb9⟩)
    have HK := Lib.hid hK
    clear hK hor HW hb9
    gi_wp2
    refine ⟨by simp, .inl ⟨_, _, rfl, run_takeDeferred HK.out, ?_⟩⟩
    exact ⟨_, results_none rfl _ _ _, ⟨_, rfl⟩, HO9.out⟩
end Go.Proofs.YtmpipjangbedkaaGreat
