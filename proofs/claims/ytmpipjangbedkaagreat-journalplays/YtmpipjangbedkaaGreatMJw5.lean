import Derived.Test.YtmpipjangbedkaaGreatMJv6
/-
  The walk of the program's journal.contents.
-/
namespace Go.Proofs.YtmpipjangbedkaaGreat
set_option maxRecDepth 8000
open Go Go.RowKit Go.Shelf
attribute [local go_sem] Oper.semAt_some
set_option linter.unusedVariables false

theorem preJ_len {pre : List Elem} {cf : Cfg} {es : List Ev} (h : PreJ pre cf es) : es.length ≤ pre.length := by
  have hk : ∀ (ls : List (List Nat)) (es : List Ev), evs ls = (es, 0) → es.length = ls.length := by
    intro ls
    induction ls with
    | nil => intro es h; cases h; rfl
    | cons b ls ih =>
      intro es h
      cases hr : readE b with
      | none => rw [evs_none hr] at h; injection h with _ h; omega
      | some e =>
        rw [evs_some hr] at h
        injection h with h1 h2
        subst h1
        rw [List.length_cons, List.length_cons, ih _ (by rw [← h2])]
  rcases h with ⟨rfl, _, rfl⟩ | ⟨x, rest, rfl, _, h2⟩
  · exact Nat.le_refl _
  · have := hk _ _ h2
    rw [List.length_map] at this
    simp; omega
/-- The five blocks that contents lays first. -/
def con0 (w : World) : World := ((((w.alloc (.cells #[.slice none 0 0, .int .i64 0, .int .i64 0, .int .i64 0, .int .i64 0, .int .i64 0, .int .i64 0] 31)).alloc (.cells #[.slice none 0 0] 54)).alloc (.cells #[.int .i64 0] 44)).alloc (.cells #[.slice none 0 0, .int .i64 0, .int .i64 0, .int .i64 0, .int .i64 0, .int .i64 0, .int .i64 0] 31)).alloc (.cells #[.slice none 0 0] 54)
theorem con0_size (w : World) : (con0 w).heap.size = w.heap.size + 5 := by simp [con0]
theorem con0_below (w : World) : Below w.heap.size w (con0 w) := (((((Below.refl _ _).alloc (Nat.le_refl _) _).alloc (by simp) _).alloc (by simp; omega) _).alloc (by simp; omega) _).alloc (by simp; omega) _
theorem con_new {w W1 : World} {base : Nat} (hb : Below (con0 w).heap.size (con0 w) W1) (hs : w.heap.size + 5 ≤ base) (hz : base ≤ (con0 w).heap.size) : ConB w.heap.size base Cfg.zero (.slice none 0 0) (.slice none 0 0) [] W1 := by
  refine ConB.keep (W := con0 w) ?_ hb
  have e1 : ∀ o, (w.alloc o).heap.size = w.heap.size + 1 := fun o => by simp
  unfold con0
  refine ⟨⟨?_, ?_, ?_⟩, ?_, ?_, ownL_nil _ _, ownL_nil _ _, hs, ?_⟩
  · exact Rec.keep (Rec.keep (Rec.keep (Rec.keep (Rec.new w _ (Cfg.zero.cells (.slice none 0 0)) _ rfl) ((Below.refl _ _).alloc (Nat.le_refl _) _)) ((Below.refl _ _).alloc (Nat.le_refl _) _)) ((Below.refl _ _).alloc (Nat.le_refl _) _)) ((Below.refl _ _).alloc (Nat.le_refl _) _)
  · exact Rec.keep (Rec.keep (Rec.keep (Rec.new _ _ [.slice none 0 0] _ (by simp)) ((Below.refl _ _).alloc (Nat.le_refl _) _)) ((Below.refl _ _).alloc (Nat.le_refl _) _)) ((Below.refl _ _).alloc (Nat.le_refl _) _)
  · exact Rec.keep (Rec.keep (Rec.new _ _ [.int .i64 0] _ (by simp)) ((Below.refl _ _).alloc (Nat.le_refl _) _)) ((Below.refl _ _).alloc (Nat.le_refl _) _)
  · exact Rec.keep (Rec.new _ _ (Cfg.zero.cells (.slice none 0 0)) _ (by simp)) ((Below.refl _ _).alloc (Nat.le_refl _) _)
  · exact Rec.new _ _ [.slice none 0 0] _ (by simp)
  · exact hz
theorem con_new1 {w W1 : World} (hb : Below (con0 w).heap.size (con0 w) W1) : ConB w.heap.size W1.heap.size Cfg.zero (.slice none 0 0) (.slice none 0 0) [] W1 := by
  have h := con_new (base := (con0 w).heap.size) hb (by rw [con0_size]; exact Nat.le_refl _) (Nat.le_refl _)
  have := hb.size
  exact ⟨h.res, h.m, h.e, ownL_nil _ _, ownL_nil _ _, by rw [con0_size] at this; exact this, Nat.le_refl _⟩
theorem Res.keeps {s : Nat} {cf cf' : Cfg} {v X v' X' : Value} {k k' : Int} {W : World} (h : Res s cf v X k W) : KeepsOthers W (putR W s cf' v' X' k') :=
  keeps_touch (putR_touch W s cf' v' X' k') (fun i o hi ho => by
    rcases (by omega : i = s ∨ i = s + 1 ∨ i = s + 2) with rfl | rfl | rfl
    · exact rec_cells h.c o ho
    · exact rec_cells h.x o ho
    · exact rec_cells h.k o ho)
theorem keeps_below {W W' : World} (h : Below W.heap.size W W') : KeepsOthers W W' := KeepsOthers.of_grownBy (grown_of_below h) (fun j o e => by cases e)
theorem below_kept {lo hi : Nat} {W W' : World} (h : Below W.heap.size W W') (hh : hi ≤ W.heap.size) : Kept lo hi W W' := ⟨h.size, fun k _ h2 => h.block k (by omega)⟩
theorem touch_belowR {s : Nat} {w W : World} (h : Below s w W) (hs : s ≤ W.heap.size) (cf : Cfg) (v X : Value) (k : Int) : Below s w (putR W s cf v X k) :=
  h.trans ((putR_touch W s cf v X k).below hs (fun i hi => hi.1))
/-- The answer's cells as they are read and stored to. -/
theorem Res.reads {s : Nat} {cf : Cfg} {v X : Value} {k : Int} {W : World} (h : Res s cf v X k W) :
    (W.cell? ⟨s, 0, none⟩ = some v ∧ W.cell? ⟨s, 1, none⟩ = some (.int .i64 cf.skin) ∧ W.cell? ⟨s, 2, none⟩ = some (.int .i64 cf.times) ∧ W.cell? ⟨s, 3, none⟩ = some (.int .i64 cf.port) ∧ W.cell? ⟨s, 4, none⟩ = some (.int .i64 cf.bid) ∧ W.cell? ⟨s, 5, none⟩ = some (.int .i64 cf.lot) ∧ W.cell? ⟨s, 6, none⟩ = some (.int .i64 cf.hedge)) ∧ W.cell? ⟨s + 1, 0, none⟩ = some X ∧ W.cell? ⟨s + 1 + 1, 0, none⟩ = some (.int .i64 k) ∧ s + 1 + 1 < W.heap.size :=
  ⟨CfAt.reads h.c, h.x.cell 0 rfl, h.k.cell 0 rfl, h.k.lt⟩
theorem alloc_below (W : World) (o : Obj) : Below W.heap.size W (W.alloc o) := (Below.refl _ _).alloc (Nat.le_refl _) o
theorem con_bad {s base : Nat} {cf : Cfg} {v X : Value} {es : List Ev} {w W w2 : World} (h : ConB s base cf v X es w2) (hk : KeepsOthers W w2) (hb : Below s w w2) (ob : Obj) :
    KeepsOthers W ((putR w2 s Cfg.zero (.slice none 0 0) (.slice none 0 0) 13).alloc ob) ∧ Res s Cfg.zero (.slice none 0 0) (.slice none 0 0) 13 ((putR w2 s Cfg.zero (.slice none 0 0) (.slice none 0 0) 13).alloc ob) ∧ Below s w ((putR w2 s Cfg.zero (.slice none 0 0) (.slice none 0 0) 13).alloc ob) := by
  have h1 := h.sb; have h2 := h.sz
  have hB := touch_belowR hb (by omega) Cfg.zero (.slice none 0 0) (.slice none 0 0) 13
  have ht := (putR_touch w2 s Cfg.zero (.slice none 0 0) (.slice none 0 0) 13).size
  exact ⟨(hk.trans h.res.keeps).trans (KeepsOthers.alloc _ _), (h.res.store _ _ _ _).keep (alloc_below _ _), hB.alloc (by omega) _⟩
theorem con_made {s base hi : Nat} {cf cf' : Cfg} {v v' X : Value} {es : List Ev} {w W w2 : World} (h : ConB s base cf v X es w2) (ho : OwnI w2 base v' cf'.insts) (hk : KeepsOthers W w2) (hq : Kept (s + 5) hi W w2) (hi2 : hi ≤ w2.heap.size) (hb : Below s w w2) (ob : Obj) :
    KeepsOthers W ((putC w2 (s + 3) v' cf').alloc ob) ∧ Kept (s + 5) hi W ((putC w2 (s + 3) v' cf').alloc ob) ∧ ConB s base cf' v' X es ((putC w2 (s + 3) v' cf').alloc ob) ∧ Below s w ((putC w2 (s + 3) v' cf').alloc ob) := by
  have h1 := h.sb; have h2 := h.sz
  have hB := putC_below hb (b := s + 3) (by omega) v' cf'
  have hz := putC_size w2 (s + 3) v' cf'
  have t := putC_touch w2 (s + 3) v' cf'
  exact ⟨(hk.trans (keeps_touch t (fun i o e ho => by obtain rfl : i = s + 3 := e; exact rec_cells h.m o ho))).trans (KeepsOthers.alloc _ _), (hq.trans (kept_touch t hi2 (fun i h1 _ e => by have e' : i = s + 3 := e; omega))).trans (below_kept (alloc_below _ _) (by omega)), (h.setM ho).keep (alloc_below _ _), hB.alloc (by omega) _⟩
theorem con_more {s base hi : Nat} {cf : Cfg} {v X X' : Value} {es : List Ev} {e : Ev} {w W w2 w3 : World} (h : ConB s base cf v X es w2) (ho : OwnE w3 base X' (es ++ [e])) (hg : w2.grownBy w3 X.ownBlock) (hk : KeepsOthers W w2) (hq : Kept (s + 5) hi W w2) (hi2 : hi ≤ base) (hb : Below s w w2) :
    KeepsOthers W (w3.setCell ⟨s + 4, 0, none⟩ X') ∧ Kept (s + 5) hi W (w3.setCell ⟨s + 4, 0, none⟩ X') ∧ ConB s base cf v X' (es ++ [e]) (w3.setCell ⟨s + 4, 0, none⟩ X') ∧ Below s w (w3.setCell ⟨s + 4, 0, none⟩ X') := by
  have h1 := h.sb; have h2 := h.sz
  have hlt : ∀ k, X.ownBlock = some k → base ≤ k := fun k hk => (OwnL.lt h.oe k hk).1
  have hk3 : KeepsOthers w2 w3 := KeepsOthers.of_grownBy hg (fun j o e ho => by
    rcases h.oe.2 with ⟨rfl, _⟩ | ⟨g, cap, cur, rfl, _, hgb, _⟩
    · simp [Value.ownBlock] at e
    · obtain rfl : g = j := by simpa [Value.ownBlock] using e
      rw [hgb] at ho; cases ho; rfl)
  have hq3 : Kept (s + 5) hi w2 w3 := ⟨hg.size, fun k _ k2 => hg.block k (by omega) (fun e => by have := hlt k e.symm; omega)⟩
  have hb3 : Below s w2 w3 := (Below.refl s w2).grown hg (by omega) (fun g e => by have := hlt g e; omega)
  have hz := hg.size
  exact ⟨(hk.trans hk3).trans (KeepsOthers.setCell _ _ _), (hq.trans hq3).trans (Kept.setCell (.inl (by omega)) _ _), h.addE ho hg, (hb.trans hb3).setCell (p := ⟨s + 4, 0, none⟩) (by simp) _⟩
theorem drew_belowJ (w : World) : Below w.heap.size w w.drew := ⟨rfl, rfl, rfl, Nat.le_refl _, fun _ _ => rfl⟩
/-- The answer stored, and the deferred calls' block taken. -/
theorem con_done {base D : Nat} {cf : Cfg} {v X : Value} {es : List Ev} {w W : World} (h : ConB w.heap.size base cf v X es W) (hb : Below w.heap.size w W) (hD : base ≤ D) (hK : W.heap[D]? = some (.deferred (some []))) :
    ((putR W w.heap.size cf v X 0).drew).heap[D]? = some (.deferred (some [])) ∧ Res w.heap.size cf v X 0 (((putR W w.heap.size cf v X 0).drew).putObj D (.deferred none)) ∧ OwnI (((putR W w.heap.size cf v X 0).drew).putObj D (.deferred none)) w.heap.size v cf.insts ∧ OwnE (((putR W w.heap.size cf v X 0).drew).putObj D (.deferred none)) w.heap.size X es ∧ Below w.heap.size w (((putR W w.heap.size cf v X 0).drew).putObj D (.deferred none)) := by
  have h1 := h.sb; have h2 := h.sz
  have t := putR_touch W w.heap.size cf v X 0
  have hB := touch_belowR hb (by omega) cf v X 0
  have hs := h.res.store cf v X 0
  generalize putR W w.heap.size cf v X 0 = P at *
  have hk1 : P.heap[D]? = some (.deferred (some [])) := (t.block D (Array.getElem?_eq_some_iff.1 hK).1 (fun e => by omega)).trans hK
  have hk2 : P.drew.heap[D]? = some (.deferred (some [])) := hk1
  have hb2 := drew_belowJ P
  have hz := t.size
  have hB2 : Below w.heap.size w P.drew := hB.trans (hb2.mono (by omega))
  have hs2 := hs.keep hb2
  have hv2 := OwnL.keep (OwnL.touch h.ov t (fun k hk e => by have := h.ltv k hk; omega)) hb2
  have hx2 := OwnL.keep (OwnL.touch h.oe t (fun k hk e => by have := h.ltx k hk; omega)) hb2
  generalize P.drew = Q at *
  have hg := grownBy_putObj' Q D (.deferred none)
  have hr : ∀ r, some D = some r → ∃ o : Obj, Q.heap[r]? = some o ∧ o.isCells = false := fun r e => by cases e; exact ⟨_, hk2, rfl⟩
  exact ⟨hk2, hs2.kept hg hr, OwnL.lower (ownL_kept hv2 hg hr) (by omega), OwnL.lower (ownL_kept hx2 hg hr) (by omega), hB2.trans (belowK_b (w := w) (Nat.le_refl _) _ D _ _ (by omega) hk2 rfl rfl)⟩
set_option maxRecDepth 100000 in
set_option maxHeartbeats 16000000 in
theorem contents_any (A : Option Addr) (L : List Nat) (n c : Nat) (w : World) (hn : n = L.length) (hr : Byts w A L) (hl : Oct L) (hlen : L.length ≤ 1000000000) :
    Calls Tryz.prog 51 #[.slice A n c] w (ContC w (contL L)) := by
  subst hn
  have C := Lib.hid (walk_any A L c (con0 w) (hr.below (con0_below w)) hlen)
  have HO := Lib.hid hl
  have HL := Lib.hid hlen
  clear hr hl hlen
  unfold con0 at C
  refine (callsIn_wide (n := 4)).1 ?_
  refine callsIn_of_wp_marks Tryz.func51 rfl trivial ?_ rfl
  simp only [Tryz.ntmps51, List.size_toArray, List.length_cons, List.length_nil, Nat.reduceAdd, Nat.reduceSub, Array.replicate_succ, Array.replicate_zero, List.push_toArray, List.append_toArray, List.nil_append, List.cons_append]
  gi_wp2_with (refine ⟨trivial, ?_⟩; gi_at_call 61; refine (callsIn_wide.2 C.out).mono ?_; rintro e w1 ⟨Bs, v, rfl, hBs, hBx, hv, hb⟩)
  have hb0 : Below (con0 w).heap.size (con0 w) w1 := hb
  rw [show (World.alloc _ _).heap.size = w.heap.size + 5 from con0_size w] at hBs hv
  have HC1 := con_new1 hb0
  have hB1 : Below w.heap.size w w1 := (con0_below w).trans (hb0.mono (by rw [con0_size]; omega))
  have hsz := hBx.lt
  have hw1 : w.heap.size + 5 ≤ w1.heap.size := HC1.sb
  have HW := Lib.hid (walk_seq Bs (w.heap.size + 5) v L w1 hBs hBx hv HO.out HL.out)
  clear C hb hb0
  refine wpIn_rangeX rfl (by omega) (gf := 81) (lb := #[.pointer (some ⟨Bs, 0, none⟩)]) rfl trivial (enters_of Tryz.func81 (by kernel_rfl) rfl) HW.out nextE_put (fun h k => Kept.trans h k) (fun W l o o' h _ _ _ => Kept.putObj o' h) (Below.refl _ _) (fun _ => rfl)
    (fun pre W => (∃ cf v X es, PreJ pre cf es ∧ ConB w.heap.size w1.heap.size cf v X es W) ∧ Below w.heap.size w W)
    (fun cd _ W => (cd = Code.ret ∧ contL L = (Cfg.zero, [], 13) ∧ Res w.heap.size Cfg.zero (.slice none 0 0) (.slice none 0 0) 13 W) ∧ Below w.heap.size w W)
    (OwnFrom.and (Own.from (fun s A B row hs hg hr => by obtain ⟨cf, v, X, es, h1, h2⟩ := hs; exact ⟨cf, v, X, es, h1, h2.kept hg hr⟩) _) (ownFrom_below (Nat.le_refl _) (by omega)))
    (fun cd => OwnFrom.and (Own.from (fun s A B row hs hg hr => ⟨hs.1, hs.2.1, hs.2.2.kept hg hr⟩) _) (ownFrom_below (Nat.le_refl _) (by omega)))
    ⟨⟨_, _, _, _, .inl ⟨rfl, rfl, rfl⟩, HC1⟩, hB1⟩
    (fun x => { tmps := #[.slice A L.length c, undef, .pointer (some ⟨w.heap.size, 0, none⟩), .pointer (some ⟨w.heap.size + 1, 0, none⟩), .pointer (some ⟨w.heap.size + 1 + 1, 0, none⟩), .pointer (some ⟨w.heap.size + 1 + 1 + 1, 0, none⟩), .pointer (some ⟨w.heap.size + 1 + 1 + 1 + 1, 0, none⟩), .int .i64 (x.1 : Int), x.2.1, undef, undef, undef, undef, .slice A L.length c, .func (.func 81) #[] #[.pointer (some ⟨Bs, 0, none⟩)], .int .i64 (x.1 : Int), x.2.1, undef, undef, undef, undef, undef, undef, undef, undef, undef, undef, undef, undef, undef, undef, undef, undef, undef, undef, undef, undef, undef, undef, undef, undef, undef], defers := [] }) ?assign ?body ?done ?stop
  case assign =>
    intro l x W K hK
    simp only [encE]
    gi_wp2
    exact hK
  case body =>
    rintro l pre ⟨p, u, bs⟩ W ⟨⟨cf, v2, X, es, hpj, hcon⟩, hB⟩ ⟨hpre, hu⟩
    change OwnB W _ u bs at hu
    obtain ⟨A9, c9, rfl, hB9, hc9, _⟩ := OwnB.form hu
    obtain ⟨hob, hb4⟩ := elem_fact HO.out hpre
    obtain ⟨hf1, hf2⟩ := first_place hpre
    change Oct bs at hob
    change bs.length ≤ 400 at hb4
    simp only at hf1 hf2
    have hszW := hcon.sz
    have HCN := Lib.hid hcon
    have HBW := Lib.hid hB
    have HKW := Lib.hid (fun (W' : World) (h : Below W.heap.size W W') => below_kept (lo := w.heap.size + 5) (hi := w1.heap.size) h hszW)
    by_cases hp0 : pre = []
    · obtain rfl := hf1 hp0
      subst hp0
      have CP := Lib.hid (preadplan_any A9 bs _ c9 W rfl hB9 hob (by omega) hc9)
      cases hr : readP bs with
      | none =>
        rw [hr] at CP
        have HCL := Lib.hid (preJ_bad0 (L := L) hpre hr)
        clear hpre hu hB9 hob hpj hcon hB hr HW hf1 hf2
        gi_wp2_with (refine ⟨trivial, ?_⟩; gi_at_call 63; (with_reducible refine (callsIn_round CP.out).mono ?_); rintro e w2 hK; obtain ⟨V, k, rfl, hb2⟩ := planK_bad hK; have HC2 := Lib.hid (HCN.out.keep hb2); have HB2 := Lib.hid hb2; obtain ⟨⟨d0, d1, d2, d3, d4, d5, d6⟩, x0, k0, hlt⟩ := HC2.out.res.reads; simp only [Cfg.zero] at d0 d1 d2 d3 d4 d5 d6; have fz0 := Rec.frozen HC2.out.res.c 0; have fz1 := Rec.frozen HC2.out.res.c 1; have fz2 := Rec.frozen HC2.out.res.c 2; have fz3 := Rec.frozen HC2.out.res.c 3; have fz4 := Rec.frozen HC2.out.res.c 4; have fz5 := Rec.frozen HC2.out.res.c 5; have fz6 := Rec.frozen HC2.out.res.c 6; have fx := HC2.out.res.x.frozen 0; have fk := HC2.out.res.k.frozen 0; have hl0 := Rec.lt HC2.out.res.c; have hl1 := HC2.out.res.x.lt; clear hK hb2)
        have hF := con_bad HC2.out (keeps_below HB2.out) (HBW.out.trans (HB2.out.mono HBW.out.size)) (.cells #[.slice V 0 k, .int .i64 0, .int .i64 0, .int .i64 0, .int .i64 0, .int .i64 0, .int .i64 0] 31)
        exact ⟨hF.1.from _, ⟨rfl, HCL.out, hF.2.1⟩, hF.2.2⟩
      | some cf' =>
        rw [hr] at CP
        have HPJ := Lib.hid (preJ_first (x := (0, Value.slice A9 bs.length c9, bs)) hr)
        obtain ⟨rfl, rfl⟩ : cf = Cfg.zero ∧ es = [] := by
          rcases hpj with ⟨_, h1, h2⟩ | ⟨_, _, h, _⟩
          · exact ⟨h1, h2⟩
          · cases h
        clear hpre hu hB9 hob hpj hcon hB hr HW hf1 hf2
        gi_wp2_with (refine ⟨trivial, ?_⟩; gi_at_call 63; (with_reducible refine (callsIn_round CP.out).mono ?_); rintro e w2 hK; obtain ⟨V, k, rfl, hoi, hb2⟩ := planK_good hK; have HC2 := Lib.hid (HCN.out.keep hb2); have HB2 := Lib.hid hb2; have HOI := Lib.hid (OwnL.lower hoi hszW); obtain ⟨d0, d1, d2, d3, d4, d5, d6⟩ := CfAt.reads HC2.out.m; simp only [Cfg.zero] at d0 d1 d2 d3 d4 d5 d6; have fz0 := Rec.frozen HC2.out.m 0; have fz1 := Rec.frozen HC2.out.m 1; have fz2 := Rec.frozen HC2.out.m 2; have fz3 := Rec.frozen HC2.out.m 3; have fz4 := Rec.frozen HC2.out.m 4; have fz5 := Rec.frozen HC2.out.m 5; have fz6 := Rec.frozen HC2.out.m 6; have hl0 := Rec.lt HC2.out.m; change w.heap.size + 1 + 1 + 1 < w2.heap.size at hl0; change w2.cell? ⟨w.heap.size + 1 + 1 + 1, 0, none⟩ = _ at d0; change w2.cell? ⟨w.heap.size + 1 + 1 + 1, 1, none⟩ = _ at d1; change w2.cell? ⟨w.heap.size + 1 + 1 + 1, 2, none⟩ = _ at d2; change w2.cell? ⟨w.heap.size + 1 + 1 + 1, 3, none⟩ = _ at d3; change w2.cell? ⟨w.heap.size + 1 + 1 + 1, 4, none⟩ = _ at d4; change w2.cell? ⟨w.heap.size + 1 + 1 + 1, 5, none⟩ = _ at d5; change w2.cell? ⟨w.heap.size + 1 + 1 + 1, 6, none⟩ = _ at d6; change w2.frozen? ⟨w.heap.size + 1 + 1 + 1, 0, none⟩ = _ at fz0; change w2.frozen? ⟨w.heap.size + 1 + 1 + 1, 1, none⟩ = _ at fz1; change w2.frozen? ⟨w.heap.size + 1 + 1 + 1, 2, none⟩ = _ at fz2; change w2.frozen? ⟨w.heap.size + 1 + 1 + 1, 3, none⟩ = _ at fz3; change w2.frozen? ⟨w.heap.size + 1 + 1 + 1, 4, none⟩ = _ at fz4; change w2.frozen? ⟨w.heap.size + 1 + 1 + 1, 5, none⟩ = _ at fz5; change w2.frozen? ⟨w.heap.size + 1 + 1 + 1, 6, none⟩ = _ at fz6; clear hK hb2 hoi)
        have hF := con_made HC2.out HOI.out (keeps_below HB2.out) (HKW.out _ HB2.out) (Nat.le_trans hszW HB2.out.size) (HBW.out.trans (HB2.out.mono HBW.out.size)) (.cells #[.slice V cf'.insts.length k, .int .i64 cf'.skin, .int .i64 cf'.times, .int .i64 cf'.port, .int .i64 cf'.bid, .int .i64 cf'.lot, .int .i64 cf'.hedge] 31)
        exact ⟨hF.1.from _, hF.2.1, ⟨_, _, _, _, HPJ.out, hF.2.2.1⟩, hF.2.2.2⟩
    · have hpos := hf2 hp0
      have hd : ((p : Int) == 0) = false := by rw [beq_eq_false_iff_ne]; omega
      have hcp := pread_any A9 bs c9 W hB9 hob (by omega) hc9
      cases hr : readE bs with
      | none =>
        rw [readOut_none hr] at hcp
        have CP := Lib.hid hcp
        have HCL := Lib.hid (preJ_bad (L := L) hpj hp0 hpre hr)
        clear hpre hu hB9 hob hpj hcon hB hr HW hf1 hf2 hcp
        gi_wp2_with (refine ⟨trivial, ?_⟩; gi_at_call 64; (with_reducible refine (callsIn_round CP.out).mono ?_); rintro e w2 ⟨rfl, hb2⟩; simp only [Ev.v, Ev.zero]; have HC2 := Lib.hid (HCN.out.keep hb2); have HB2 := Lib.hid hb2; obtain ⟨⟨d0, d1, d2, d3, d4, d5, d6⟩, x0, k0, hlt⟩ := HC2.out.res.reads; simp only [Cfg.zero] at d0 d1 d2 d3 d4 d5 d6; have fz0 := Rec.frozen HC2.out.res.c 0; have fz1 := Rec.frozen HC2.out.res.c 1; have fz2 := Rec.frozen HC2.out.res.c 2; have fz3 := Rec.frozen HC2.out.res.c 3; have fz4 := Rec.frozen HC2.out.res.c 4; have fz5 := Rec.frozen HC2.out.res.c 5; have fz6 := Rec.frozen HC2.out.res.c 6; have fx := HC2.out.res.x.frozen 0; have fk := HC2.out.res.k.frozen 0; have hl0 := Rec.lt HC2.out.res.c; have hl1 := HC2.out.res.x.lt; clear hb2)
        have hF := con_bad HC2.out (keeps_below HB2.out) (HBW.out.trans (HB2.out.mono HBW.out.size)) (.cells #[.int .i64 0, .int .i64 0, .int .i64 0, .int .i64 0, .int .i64 0, .int .i64 0, .int .i64 0, .int .i64 0] 51)
        exact ⟨hF.1.from _, ⟨rfl, HCL.out, hF.2.1⟩, hF.2.2⟩
      | some ev =>
        rw [readOut_some hr] at hcp
        have CP := Lib.hid hcp
        have HPJ := Lib.hid (preJ_next (x := (p, Value.slice A9 bs.length c9, bs)) hpj hp0 hr)
        have hel : es.length ≤ 1000000001 := by
          have h1 := preJ_len hpj
          have h2 := hpre.length_le
          have h3 := recs_len L
          have h4 := HL.out
          rw [List.length_map, List.length_append] at h2
          omega
        clear hpre hu hB9 hob hpj hcon hB hr HW hf1 hf2 hcp
        gi_wp2_with (first
          | (refine ⟨trivial, ?_⟩; gi_at_call 64; (with_reducible refine (callsIn_round CP.out).mono ?_); rintro e w2 ⟨rfl, hb2⟩; simp only [Ev.v]; have HC2 := Lib.hid ((HCN.out.keep hb2)); have HB2 := Lib.hid hb2; have e0 := HC2.out.e.cell 0 rfl; have fe := HC2.out.e.frozen 0; have hl0 := HC2.out.e.lt; change w2.cell? ⟨w.heap.size + 1 + 1 + 1 + 1, 0, none⟩ = _ at e0; change w2.frozen? ⟨w.heap.size + 1 + 1 + 1 + 1, 0, none⟩ = _ at fe; change w.heap.size + 1 + 1 + 1 + 1 < w2.heap.size at hl0; clear hb2)
          | (gi_at_builtin; refine wpListIn_appL lay_ev rfl (.tmp 36) (.tmp 38) rfl w1.heap.size _ es rfl (OwnL.keep (OwnL.keep HC2.out.oe (alloc_below _ _)) (alloc_below _ _)) _ 1 ev rfl (lit_one _ _ _ (Ev.cells ev) rfl _ (by simp)) (by omega) (by omega) ?c1 ?_))
        case c1 => have := HC2.out.sz; simp; omega
        intro v3 w3 ho hg _
        obtain ⟨A3, c3, rfl, _⟩ := OwnL.form ho lay_ev
        have hc3 := con_more ((HC2.out.keep (alloc_below _ _)).keep (alloc_below _ _)) ho hg (((keeps_below HB2.out).trans (KeepsOthers.alloc _ _)).trans (KeepsOthers.alloc _ _)) (((HKW.out _ HB2.out).trans (below_kept (alloc_below _ _) (Nat.le_trans hszW HB2.out.size))).trans (below_kept (alloc_below _ _) (by have := HB2.out.size; simp; omega))) (Nat.le_refl _) (((HBW.out.trans (HB2.out.mono HBW.out.size)).alloc (by have := HC2.out.sz; omega) _).alloc (by have := HC2.out.sz; simp; omega) _)
        rw [show (es ++ [ev]).length = es.length + 1 from by simp] at hc3
        have HC3 := Lib.hid hc3
        have hne : ∀ k, X.ownBlock = some k → w.heap.size + 5 ≤ k := HC2.out.ltx
        have hbl := hg.block (w.heap.size + 4) (by simp; omega) (fun e => by have := hne _ e.symm; omega)
        have e3 : w3.cell? ⟨w.heap.size + 1 + 1 + 1 + 1, 0, none⟩ = some X := by
          rw [show (⟨w.heap.size + 1 + 1 + 1 + 1, 0, none⟩ : Addr) = ⟨w.heap.size + 4, 0, none⟩ from rfl, World.cell?_of_block (a := ⟨w.heap.size + 4, 0, none⟩) hbl]
          exact ((HC2.out.keep (alloc_below _ _)).keep (alloc_below _ _)).e.cell 0 rfl
        have f3 : w3.frozen? ⟨w.heap.size + 1 + 1 + 1 + 1, 0, none⟩ = false := by
          have hr3 : Rec w3 (w.heap.size + 4) 54 [X] := hbl.trans ((HC2.out.keep (alloc_below _ _)).keep (alloc_below _ _)).e
          exact hr3.frozen 0
        clear hc3 hg ho hbl hne e0 fe
        gi_wp2
        exact ⟨HC3.out.1.from _, HC3.out.2.1, ⟨_, _, _, _, HPJ.out, HC3.out.2.2.1⟩, HC3.out.2.2.2⟩
  case done =>
    rintro D ys W hD hS ⟨⟨cf, v2, X, es, hpj, hcon⟩, hB⟩ hK
    have HCL := Lib.hid (preJ_done hpj hS)
    obtain ⟨AX, cX, rfl, _⟩ := OwnL.form hcon.oe lay_ev
    obtain ⟨AV, cV, rfl, _⟩ := OwnL.form hcon.ov lay_ins
    have HCN := Lib.hid hcon
    have HB := Lib.hid hB
    have HK := Lib.hid hK
    obtain ⟨⟨d0, d1, d2, d3, d4, d5, d6⟩, x0, k0, hlt⟩ := hcon.res.reads
    simp only [Cfg.zero] at d0 d1 d2 d3 d4 d5 d6
    obtain ⟨m0, m1, m2, m3, m4, m5, m6⟩ := CfAt.reads hcon.m
    have e0 := hcon.e.cell 0 rfl
    change W.cell? ⟨w.heap.size + 1 + 1 + 1, 0, none⟩ = _ at m0
    change W.cell? ⟨w.heap.size + 1 + 1 + 1, 1, none⟩ = _ at m1
    change W.cell? ⟨w.heap.size + 1 + 1 + 1, 2, none⟩ = _ at m2
    change W.cell? ⟨w.heap.size + 1 + 1 + 1, 3, none⟩ = _ at m3
    change W.cell? ⟨w.heap.size + 1 + 1 + 1, 4, none⟩ = _ at m4
    change W.cell? ⟨w.heap.size + 1 + 1 + 1, 5, none⟩ = _ at m5
    change W.cell? ⟨w.heap.size + 1 + 1 + 1, 6, none⟩ = _ at m6
    change W.cell? ⟨w.heap.size + 1 + 1 + 1 + 1, 0, none⟩ = _ at e0
    have fz0 := Rec.frozen hcon.res.c 0; have fz1 := Rec.frozen hcon.res.c 1; have fz2 := Rec.frozen hcon.res.c 2; have fz3 := Rec.frozen hcon.res.c 3; have fz4 := Rec.frozen hcon.res.c 4; have fz5 := Rec.frozen hcon.res.c 5; have fz6 := Rec.frozen hcon.res.c 6; have fx := hcon.res.x.frozen 0; have fk := hcon.res.k.frozen 0
    clear hK hB HW hcon hpj hS
    gi_wp2
    gi_region
    gi_wp2
    have hF := con_done HCN.out HB.out hD HK.out
    obtain ⟨hk', ⟨hrc, hrx, hrk⟩, hv9, hx9, hb9⟩ := hF
    obtain ⟨g0, g1, g2, g3, g4, g5, g6⟩ := CfAt.reads hrc
    have gx := hrx.cell 0 rfl
    have gk := hrk.cell 0 rfl
    simp only [putR, putC] at hk' g0 g1 g2 g3 g4 g5 g6 gx gk hv9 hx9 hb9
    refine ⟨by simp, .inl ⟨_, _, rfl, run_takeDeferred hk', ?_⟩⟩
    rw [HCL.out]
    refine ⟨.tuple #[.agg #[.slice AV cf.insts.length cV, .int .i64 cf.skin, .int .i64 cf.times, .int .i64 cf.port, .int .i64 cf.bid, .int .i64 cf.lot, .int .i64 cf.hedge], .slice AX es.length cX, .int .i64 0], ?_, _, _, rfl, hv9, hx9, hb9⟩
    simp [results, Tryz.f51, go_sem, g0, g1, g2, g3, g4, g5, g6, gx, gk]
  case stop =>
    rintro D cd pre W hD _ ⟨⟨rfl, hcl, hres⟩, hB⟩ hK
    rw [hcl]
    have HR := Lib.hid (hres.kept (grownBy_putObj' W D (.deferred none)) (fun r e => by cases e; exact ⟨_, hK, rfl⟩))
    have HB := Lib.hid (hB.trans (belowK_b (w := w) (Nat.le_refl _) W D _ (.deferred none) (by omega) hK rfl rfl))
    have HK := Lib.hid hK
    clear hK hB HW hres hcl
    gi_wp2
    refine ⟨by simp, .inl ⟨_, _, rfl, run_takeDeferred HK.out, ?_⟩⟩
    obtain ⟨g0, g1, g2, g3, g4, g5, g6⟩ := CfAt.reads HR.out.c
    have gx := HR.out.x.cell 0 rfl
    have gk := HR.out.k.cell 0 rfl
    simp only [Cfg.zero] at g0 g1 g2 g3 g4 g5 g6
    refine ⟨.tuple #[.agg #[.slice none 0 0, .int .i64 0, .int .i64 0, .int .i64 0, .int .i64 0, .int .i64 0, .int .i64 0], .slice none 0 0, .int .i64 13], ?_, _, _, rfl, ownL_nil _ _, ownL_nil _ _, HB.out⟩
    simp [results, Tryz.f51, go_sem, g0, g1, g2, g3, g4, g5, g6, gx, gk]
end Go.Proofs.YtmpipjangbedkaaGreat
