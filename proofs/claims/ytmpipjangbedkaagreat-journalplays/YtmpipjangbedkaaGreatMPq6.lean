import Derived.Test.YtmpipjangbedkaaGreatMPq5
import Derived.Laws.Strings
import Derived.Test.YtmpipjangbedkaaGreatMPl7
import Derived.Test.YtmpipjangbedkaaGreatMByt
/-
  The walks of bytes.Equal, of the program's Read.
-/
namespace Go.Proofs.YtmpipjangbedkaaGreat
set_option maxRecDepth 8000
open Go Go.RowKit
set_option linter.unusedVariables false

theorem bstr_inj {a b : List Nat} (ha : Oct a) (hb : Oct b) (h : bstr a = bstr b) : a = b := by
  have key : ∀ l : List Nat, Oct l → ((bstr l).data.toList).map UInt8.toNat = l := fun l hl => by
    have h1 : (bstr l).data.toList = l.map UInt8.ofNat := by
      have := bstr_data l ByteArray.empty
      unfold bstr
      rw [this]
      rfl
    rw [h1, List.map_map]
    have : ∀ x ∈ l, (UInt8.toNat ∘ UInt8.ofNat) x = id x := fun x hx => by
      have := hl x hx
      simp
      omega
    rw [List.map_congr_left this, List.map_id]
  rw [← key a ha, ← key b hb, h]
set_option maxRecDepth 8000 in
set_option maxHeartbeats 2000000 in
theorem beq_any (A B : Option Addr) (a b : List Nat) (n m c d : Nat) (w : World) (hn : n = a.length) (hm : m = b.length) (hA : Byts w A a) (hB : Byts w B b) (ha : Oct a) (hb : Oct b) : Calls Tryz.prog 84 #[.slice A n c, .slice B m d] w fun e w' => e = .returned (.bool (decide (a = b))) ∧ w = w' := by
  have h1 := run_bstr w A a n c hn hA
  have h2 := run_bstr w B b m d hm hB
  by_cases hab : a = b
  · subst hab
    have hd : decide (a = a) = true := decide_eq_true rfl
    generalize bstr a = S at *
    rw [hd]
    clear hA hB hn hm hd ha hb
    go_enter Tryz.func84, Tryz.ntmps84
    go_wp2
    go_ret
    exact ⟨rfl, rfl⟩
  · have hS : ((bstr a).toList == (bstr b).toList) = false := beq_eq_false_iff_ne.2 (fun h => hab (bstr_inj ha hb (by rw [ByteArray.toList_eq, ByteArray.toList_eq] at h; exact Go.WideShapes.bytes_inj h)))
    have hd : decide (a = b) = false := decide_eq_false hab
    generalize bstr a = S at *
    generalize bstr b = T at *
    rw [hd]
    clear hA hB hn hm hd ha hb hab
    go_enter Tryz.func84, Tryz.ntmps84
    go_wp2
    go_ret
    exact ⟨by first | rfl | (rw [← hS]; rfl), rfl⟩
theorem read_guess {b : List Nat} {g : Cfg} (hO : Oct b) (hg : CfgI g) (h : ∀ c, CfgI c → planOk c = true → b = planB c 6 → g = c) : readP b = if planOk g = true ∧ planB g 6 = b then some g else none := by
  by_cases hp : planOk g = true ∧ planB g 6 = b
  · rw [if_pos hp]
    have := readP_put hg hp.1
    rw [hp.2] at this
    exact this
  · rw [if_neg hp]
    cases hr : readP b with
    | none => rfl
    | some c =>
      obtain ⟨h1, h2, h3⟩ := readP_is hO hr
      have := h c h1 h2 h3.symm
      subst this
      exact (hp ⟨h2, h3⟩).elim
theorem read_cases {b : List Nat} {g : Cfg} (hO : Oct b) (hg : CfgI g) (h : ∀ c, CfgI c → planOk c = true → b = planB c 6 → g = c) : Oct (putP g).1 ∧ (((putP g).2 = 1 ∧ readP b = none) ∨ ((putP g).2 = 0 ∧ decide ((putP g).1 = b) = false ∧ readP b = none) ∨ ((putP g).2 = 0 ∧ decide ((putP g).1 = b) = true ∧ readP b = some g)) := by
  have hr := read_guess hO hg h
  unfold putP
  cases hp : planOk g with
  | false => rw [hp] at hr; exact ⟨(fun x hx => (List.not_mem_nil hx).elim), .inl ⟨rfl, by rw [hr]; simp⟩⟩
  | true =>
    rw [hp] at hr
    refine ⟨planB_oct g 6, ?_⟩
    by_cases he : planB g 6 = b
    · exact .inr (.inr ⟨rfl, decide_eq_true he, by rw [hr, if_pos ⟨rfl, he⟩]⟩)
    · exact .inr (.inl ⟨rfl, decide_eq_false he, by rw [hr, if_neg (fun x => he x.2)]⟩)
theorem own_insM {w : World} {base n c : Nat} {A : Option Addr} {L : List Ins} (h : OwnI w base (.slice A n c) L) : InsM w A L := by
  intro h0
  obtain ⟨A', c', e, _, _, _, hcs⟩ := OwnL.form h lay_ins
  injection e with e1 e2 e3
  subst e1
  obtain ⟨g, rfl, _, _, hcell⟩ := hcs h0
  refine ⟨g, 0, rfl, fun i hi => ?_⟩
  have hh := fun j hj => (hcell i hi j hj).1
  have eD : L.getD i Ins.zero = L[i] := by rw [List.getD_eq_getElem?_getD, List.getElem?_eq_getElem hi]; rfl
  rw [eD, Nat.zero_add]
  exact ⟨hh 0 (by decide), hh 1 (by decide), hh 2 (by decide), hh 3 (by decide)⟩
set_option maxRecDepth 100000 in
set_option maxHeartbeats 8000000 in
theorem preadplan_any (A : Option Addr) (b : List Nat) (n c : Nat) (w : World) (hn : n = b.length) (hB : Byts w A b) (hO : Oct b) (hl : n ≤ 1000000000000) (hcl : n ≤ c) : Calls Tryz.prog 63 #[.slice A n c] w (PlanK w (readP b)) := by
  have HN := Lib.hid hn
  have HB0 : Hid (Below w.heap.size w (w.alloc (.cells (Cfg.zero.cells (.slice none 0 0)).toArray 31))) := Lib.hid ((Below.refl _ _).alloc (Nat.le_refl _) _)
  have HR0 : Hid (CfAt (w.alloc (.cells (Cfg.zero.cells (.slice none 0 0)).toArray 31)) w.heap.size Cfg.zero (.slice none 0 0)) := Lib.hid (Rec.new w _ (Cfg.zero.cells (.slice none 0 0)) _ rfl)
  have CG := Lib.hid (guess_any A b n c _ hn (hB.below HB0.out) hO hl hcl)
  have HBy := Lib.hid hB
  have HO := Lib.hid hO
  have hs0 : (w.alloc (.cells (Cfg.zero.cells (.slice none 0 0)).toArray 31)).heap.size = w.heap.size + 1 := by simp
  have HS0 := Lib.hid hs0
  obtain ⟨X, hX⟩ : ∃ X, X = readP b := ⟨_, rfl⟩
  have HX := Lib.hid hX
  rw [← hX]
  simp only [Cfg.cells, Cfg.zero] at CG
  clear hn hB hO hs0 hX
  go_enter Tryz.func63, Tryz.ntmps63
  go_wp2_with (first
    | (go_at_call 84; (with_reducible refine (beq_any A2 A L6 b _ n c2 c _ HL2.out HN.out HY2.out (HBy.out.below HB2.out) HO6.out HO.out).mono ?_); rintro r _ ⟨rfl, rfl⟩; rw [hd])
    | (go_at_call 56; (with_reducible refine (CP.out _ ((Below.refl _ _).alloc (Nat.le_refl _) _)).mono ?_); rintro r w2 ⟨v2, rfl, ho2, hb2⟩; obtain ⟨A2, c2, rfl, hy2, _⟩ := OwnB.form ho2; have HY2 := Lib.hid hy2; obtain ⟨n2, hn2⟩ : ∃ n2, n2 = L6.length := ⟨_, rfl⟩; rw [← hn2]; have HL2 := Lib.hid hn2; have hb3 := ((Below.refl _ w1).alloc (Nat.le_refl _) (.cells ((Cfg.cells g (.slice AV m cV)).toArray) 31)).trans (hb2.mono (by simp)); have HB2 := Lib.hid (HB1.out.trans (hb3.mono HB1.out.size)); have HI2 := Lib.hid (OwnL.keep HI1.out hb3); have HC2 : Hid (CfAt w2 w1.heap.size g (.slice AV m cV)) := Lib.hid (CfAt.keep (Rec.new w1 _ (Cfg.cells g (.slice AV m cV)) _ rfl) hb2); have HR2 := Lib.hid (CfAt.keep HR1.out hb3); obtain ⟨z0, z1, z2, z3, z4, z5, z6⟩ := HR2.out.reads; simp only [Cfg.zero] at z0 z1 z2 z3 z4 z5 z6; obtain ⟨x0, x1, x2, x3, x4, x5, x6⟩ := HC2.out.reads; have fz0 := Rec.frozen HR2.out 0; have fz1 := Rec.frozen HR2.out 1; have fz2 := Rec.frozen HR2.out 2; have fz3 := Rec.frozen HR2.out 3; have fz4 := Rec.frozen HR2.out 4; have fz5 := Rec.frozen HR2.out 5; have fz6 := Rec.frozen HR2.out 6; clear hy2 hn2 ho2 hb2 hb3)
    | (go_at_call 83; (with_reducible refine CG.out.mono ?_); rintro r w1 ⟨g, V, rfl, hi1, hb1, hg1, hl1, hu1⟩; obtain ⟨AV, cV, hV, _⟩ := OwnL.form hi1 lay_ins; obtain ⟨m, hm⟩ : ∃ m, m = g.insts.length := ⟨_, rfl⟩; rw [← hm] at hV; subst hV; have CP := Lib.hid (fun W (h : Below w1.heap.size w1 W) => pputplan_any g hg1 AV m cV W hm ((own_insM hi1).below h)); have HI1 := Lib.hid (OwnL.lower (base' := w.heap.size) hi1 (by simp)); have HIg := Lib.hid hi1; have HB1 := Lib.hid (HB0.out.trans (hb1.mono (by simp))); have HR1 := Lib.hid (CfAt.keep HR0.out hb1); have hrc := read_cases HO.out hg1 hu1; obtain ⟨L6, hL6⟩ : ∃ L6, L6 = (putP g).1 := ⟨_, rfl⟩; obtain ⟨cd, hcd⟩ : ∃ cd, cd = (putP g).2 := ⟨_, rfl⟩; rw [← hL6, ← hcd, ← HX.out] at hrc; rw [← hL6, ← hcd] at CP; obtain ⟨ho6, hrc⟩ := hrc; have HO6 := Lib.hid ho6; simp only [Cfg.v] at CP; simp only [Cfg.v]; clear hi1 hb1 hg1 hl1 hu1 hL6 hm hcd ho6; rcases hrc with ⟨rfl, hx⟩ | ⟨rfl, hd, hx⟩ | ⟨rfl, hd, hx⟩))
  all_goals first
    | (have hPB := putC_below HB2.out (Nat.le_refl _) (.slice none 0 0) Cfg.zero
       obtain ⟨g0, g1, g2, g3, g4, g5, g6⟩ := (putC_at HR2.out (.slice none 0 0) Cfg.zero).reads
       simp only [putC, Cfg.zero] at g0 g1 g2 g3 g4 g5 g6
       simp only [putC, Cfg.zero] at hPB
       refine bodyPost_ret (v := .tuple #[.agg #[.slice none 0 0, .int .i64 0, .int .i64 0, .int .i64 0, .int .i64 0, .int .i64 0, .int .i64 0], .int .i64 13]) (by simp [results, Tryz.results63, go_sem, g0, g1, g2, g3, g4, g5, g6]) rfl ?_
       rw [hx]
       exact planK_none hPB)
    | (have hPB := putC_below HB2.out (Nat.le_refl _) (.slice AV m cV) g
       have hPO : OwnI (putC w2 w.heap.size (.slice AV m cV) g) w.heap.size (.slice AV m cV) g.insts := OwnL.touch HI2.out (putC_touch w2 w.heap.size (.slice AV m cV) g) (fun k' hk' e => by have h1 := (OwnL.lt HIg.out k' hk').1; have e' : k' = w.heap.size := e; simp at h1; omega)
       obtain ⟨g0, g1, g2, g3, g4, g5, g6⟩ := (putC_at HR2.out (.slice AV m cV) g).reads
       simp only [putC] at g0 g1 g2 g3 g4 g5 g6
       simp only [putC] at hPB hPO
       refine bodyPost_ret (v := .tuple #[g.v (.slice AV m cV), .int .i64 0]) (by simp [results, Tryz.results63, go_sem, Cfg.v, g0, g1, g2, g3, g4, g5, g6]) rfl ?_
       rw [hx]
       exact ⟨_, rfl, hPO, hPB⟩)
end Go.Proofs.YtmpipjangbedkaaGreat

/-
  Worlds by flags, for drawn regions: a list's literal and its append and a last store; stores into one block. No program is named here.
-/
namespace Go.Proofs.YtmpipjangbedkaaGreat
set_option maxRecDepth 8000
open Go

/-- Values by place. -/
def spV (l : List Value) (i : Nat) (v : Value) (_ : World) : Prop := v = l.getD i undef
theorem upd_at {α : Type} (f : Nat → α) (d : Nat) (v : α) : upd f d v d = v := by unfold upd; rw [if_pos rfl]
theorem upd_ne {α : Type} (f : Nat → α) {d e : Nat} (v : α) (h : e ≠ d) : upd f d v e = f e := by unfold upd; rw [if_neg h]
theorem waits_up {n : Nat} {o : Oper} {L : Nat → Bool} (h : waitsB n o = true) (hup : ∀ e ∈ o.after, Region.binds .any e = true → L e.on = true) : ∀ j, j < n → L j = true := by
  intro j hj
  obtain ⟨e, he, h1, h2⟩ := waitsB_get h j hj
  have h3 := hup e (by simpa using he) h2
  rw [h1] at h3
  exact h3
/-- A region in which operation b makes a literal (world W1), c appends it (W2), z stores (W3) behind all others. -/
structure FlA (b c z : Nat) (W0 W1 W2 W3 : World) (L : Nat → Bool) (W : World) : Prop where
  lo : L z = false → W = if L c = true then W2 else if L b = true then W1 else W0
  hi : L z = true → W = W3 ∧ ∀ j, j < z → L j = true
  bc : L c = true → L b = true
section
variable {b c z : Nat} {W0 W1 W2 W3 : World} {L : Nat → Bool} {W : World}
theorem FlA.start : FlA b c z W0 W1 W2 W3 (fun _ => false) W0 := ⟨fun _ => rfl, fun h => (by cases h), fun h => (by cases h)⟩
theorem FlA.low (h : FlA b c z W0 W1 W2 W3 L W) {i : Nat} (hi : i < z) (hL : L i = false) : L z = false := by
  cases hz : L z
  · rfl
  · rw [(h.hi hz).2 i hi] at hL; cases hL
/-- An operation that leaves the world as it is. -/
theorem FlA.keep (h : FlA b c z W0 W1 W2 W3 L W) {i : Nat} (hi : i < z) (hL : L i = false) (hb : i ≠ b) (hc : i ≠ c) : FlA b c z W0 W1 W2 W3 (upd L i true) W := by
  have hz := h.low hi hL
  refine ⟨fun _ => ?_, fun hzz => ?_, fun hcc => ?_⟩
  · rw [upd_ne _ _ (Ne.symm hb), upd_ne _ _ (Ne.symm hc)]; exact h.lo hz
  · rw [upd_ne _ _ (by omega : z ≠ i), hz] at hzz; cases hzz
  · rw [upd_ne _ _ (Ne.symm hc)] at hcc
    rw [upd_ne _ _ (Ne.symm hb)]; exact h.bc hcc
theorem FlA.one (h : FlA b c z W0 W1 W2 W3 L W) {i : Nat} (hi : i < z) (hL : L i = false) : W = W0 ∨ W = W1 ∨ W = W2 := by
  have := h.lo (h.low hi hL)
  split at this
  · exact .inr (.inr this)
  · split at this
    · exact .inr (.inl this)
    · exact .inl this
theorem FlA.lit (h : FlA b c z W0 W1 W2 W3 L W) (hb : b < z) (hbc : b ≠ c) (hL : L b = false) : W = W0 ∧ FlA b c z W0 W1 W2 W3 (upd L b true) W1 := by
  have hz := h.low hb hL
  have hc : L c = false := by
    cases hc : L c
    · rfl
    · rw [h.bc hc] at hL; cases hL
  have hW := h.lo hz
  rw [hc, hL] at hW
  refine ⟨by simpa using hW, fun _ => ?_, fun hzz => ?_, fun hcc => ?_⟩
  · rw [upd_at, upd_ne _ _ (Ne.symm hbc), hc]; simp
  · rw [upd_ne _ _ (by omega : z ≠ b), hz] at hzz; cases hzz
  · rw [upd_at]
theorem FlA.app (h : FlA b c z W0 W1 W2 W3 L W) (hc : c < z) (hbc : b ≠ c) (hL : L c = false) (hB : L b = true) : W = W1 ∧ FlA b c z W0 W1 W2 W3 (upd L c true) W2 := by
  have hz := h.low hc hL
  have hW := h.lo hz
  rw [hL, hB] at hW
  refine ⟨by simpa using hW, fun _ => ?_, fun hzz => ?_, fun _ => ?_⟩
  · rw [upd_at]; simp
  · rw [upd_ne _ _ (by omega : z ≠ c), hz] at hzz; cases hzz
  · rw [upd_ne _ _ hbc]; exact hB
theorem FlA.store (h : FlA b c z W0 W1 W2 W3 L W) (hc : c < z) (hL : L z = false) (hall : ∀ j, j < z → L j = true) (hb : b < z) : W = W2 ∧ FlA b c z W0 W1 W2 W3 (upd L z true) W3 := by
  have hW := h.lo hL
  rw [hall c hc] at hW
  refine ⟨by simpa using hW, fun hzz => ?_, fun _ => ⟨rfl, fun j hj => ?_⟩, fun _ => ?_⟩
  · rw [upd_at] at hzz; cases hzz
  · rw [upd_ne _ _ (by omega : j ≠ z)]; exact hall j hj
  · rw [upd_ne _ _ (by omega : b ≠ z)]; exact hall b hb
theorem FlA.last (h : FlA b c z W0 W1 W2 W3 L W) (hL : L z = true) : W = W3 := (h.hi hL).1
end
/-- A block of six cells behind its first, each of which one operation stores. -/
def sixC (s : List Nat) (v : Value) (o n : List Value) (L : Nat → Bool) : List Value :=
  v :: (List.range 6).map fun j => if L (s.getD j 0) = true then n.getD j undef else o.getD j undef
structure FlS (s : List Nat) (B : Nat) (t : TypeId) (v : Value) (o n : List Value) (W0 : World) (L : Nat → Bool) (W : World) : Prop where
  rec' : Rec W B t (sixC s v o n L)
  touch : Touch (fun k => k = B) W0 W
  size : W.heap.size = W0.heap.size
section
variable {s : List Nat} {B : Nat} {t : TypeId} {v : Value} {o n : List Value} {W0 : World} {L : Nat → Bool} {W : World}
theorem FlS.keep (h : FlS s B t v o n W0 L W) {i : Nat} (hs : s.length = 6) (hi : i ∉ s) : FlS s B t v o n W0 (upd L i true) W := by
  refine ⟨?_, h.touch, h.size⟩
  have e : sixC s v o n (upd L i true) = sixC s v o n L := by
    unfold sixC
    congr 1
    refine List.map_congr_left fun j hj => ?_
    have hj6 : j < 6 := List.mem_range.1 hj
    rw [upd_ne _ _ (fun e => hi (by rw [← e, List.getD_eq_getElem?_getD, List.getElem?_eq_getElem (by omega)]; exact List.getElem_mem _))]
  rw [e]
  exact h.rec'
/-- One of the stores. -/
theorem FlS.set (h : FlS s B t v o n W0 L W) (hs : s.length = 6) (hn : s.Nodup) {j : Nat} (hj : j < 6) : FlS s B t v o n W0 (upd L (s.getD j 0) true) (W.setCell ⟨B, j + 1, none⟩ (n.getD j undef)) := by
  refine ⟨?_, ?_, by rw [← h.size]; simp [World.setCell]⟩
  · have hr := Rec.set h.rec' (j + 1) (n.getD j undef)
    have e : (sixC s v o n L).set (j + 1) (n.getD j undef) = sixC s v o n (upd L (s.getD j 0) true) := by
      unfold sixC
      rw [List.set_cons_succ]
      congr 1
      refine List.ext_getElem (by simp) fun i h1 h2 => ?_
      have hi6 : i < 6 := by simpa using h2
      rw [List.getElem_set]
      simp only [List.getElem_map, List.getElem_range]
      by_cases e : j = i
      · subst e
        rw [if_pos rfl, upd_at, if_pos rfl]
      · rw [if_neg e, upd_ne]
        intro he
        rw [List.getD_eq_getElem?_getD, List.getD_eq_getElem?_getD, List.getElem?_eq_getElem (by omega : i < s.length), List.getElem?_eq_getElem (by omega : j < s.length)] at he
        have hp := List.pairwise_iff_getElem.1 hn
        rcases Nat.lt_or_gt_of_ne e with h9 | h9
        · exact hp j i (by omega) (by omega) h9 he.symm
        · exact hp i j (by omega) (by omega) h9 he
    rw [← e]
    exact hr
  · exact h.touch.trans (Touch.setCell W ⟨B, j + 1, none⟩ _) (fun _ _ h => h)
/-- When all have been stored. -/
theorem FlS.all (h : FlS s B t v o n W0 L W) (hL : ∀ j, j < 6 → L (s.getD j 0) = true) : Rec W B t (v :: (List.range 6).map fun j => n.getD j undef) := by
  have e : sixC s v o n L = v :: (List.range 6).map fun j => n.getD j undef := by
    unfold sixC
    congr 1
    refine List.map_congr_left fun j hj => ?_
    rw [if_pos (hL j (List.mem_range.1 hj))]
  rw [← e]
  exact h.rec'
end
end Go.Proofs.YtmpipjangbedkaaGreat
