/-
  The walks of bytes.Equal, of the program's Read.
-/
import Derived.Test.YtldceocbmmidmaaPq5
import Derived.Laws.Strings
namespace Go.Proofs.Ytldceocbmmidmaa
open Go Go.RowKit
set_option linter.unusedVariables false

theorem bstr_inj {a b : List Nat} (ha : Oct a) (hb : Oct b) (h : bstr a = bstr b) : a = b := by
  have key : ∀ l : List Nat, Oct l → ((bstr l).data.toList).map UInt8.toNat = l := fun l hl => by
    have h1 : (bstr l).data.toList = l.map UInt8.ofNat := by
      have := bstr_data l ByteArray.empty
      unfold bstr
      rw [this]
      rfl
    rw [h1, List.map_map]
    have : ∀ x ∈ l, (UInt8.toNat ∘ UInt8.ofNat) x = id x := fun x hx => by
      have := hl x hx
      simp
      omega
    rw [List.map_congr_left this, List.map_id]
  rw [← key a ha, ← key b hb, h]
set_option maxRecDepth 8000 in
set_option maxHeartbeats 2000000 in
theorem beq_any (A B : Option Addr) (a b : List Nat) (n m c d : Nat) (w : World) (hn : n = a.length) (hm : m = b.length) (hA : Byts w A a) (hB : Byts w B b) (ha : Oct a) (hb : Oct b) : Calls Try.prog 32 #[.slice A n c, .slice B m d] w fun e w' => e = .returned (.bool (decide (a = b))) ∧ w = w' := by
  have h1 := run_bstr w A a n c hn hA
  have h2 := run_bstr w B b m d hm hB
  by_cases hab : a = b
  · subst hab
    have hd : decide (a = a) = true := decide_eq_true rfl
    generalize bstr a = S at *
    rw [hd]
    clear hA hB hn hm hd ha hb
    go_enter Try.func32, Try.ntmps32
    go_wp2
    go_ret
    exact ⟨rfl, rfl⟩
  · have hS : ((bstr a).toList == (bstr b).toList) = false := beq_eq_false_iff_ne.2 (fun h => hab (bstr_inj ha hb (by rw [ByteArray.toList_eq, ByteArray.toList_eq] at h; exact Go.WideShapes.bytes_inj h)))
    have hd : decide (a = b) = false := decide_eq_false hab
    generalize bstr a = S at *
    generalize bstr b = T at *
    rw [hd]
    clear hA hB hn hm hd ha hb hab
    go_enter Try.func32, Try.ntmps32
    go_wp2
    go_ret
    exact ⟨by first | rfl | (rw [← hS]; rfl), rfl⟩
theorem read_guess {b : List Nat} {g : Cfg} (hO : Oct b) (hg : CfgI g) (h : ∀ c, CfgI c → planOk c = true → b = planB c 6 → g = c) : readP b = if planOk g = true ∧ planB g 6 = b then some g else none := by
  by_cases hp : planOk g = true ∧ planB g 6 = b
  · rw [if_pos hp]
    have := readP_put hg hp.1
    rw [hp.2] at this
    exact this
  · rw [if_neg hp]
    cases hr : readP b with
    | none => rfl
    | some c =>
      obtain ⟨h1, h2, h3⟩ := readP_is hO hr
      have := h c h1 h2 h3.symm
      subst this
      exact (hp ⟨h2, h3⟩).elim
theorem read_cases {b : List Nat} {g : Cfg} (hO : Oct b) (hg : CfgI g) (h : ∀ c, CfgI c → planOk c = true → b = planB c 6 → g = c) : Oct (putP g).1 ∧ (((putP g).2 = 1 ∧ readP b = none) ∨ ((putP g).2 = 0 ∧ decide ((putP g).1 = b) = false ∧ readP b = none) ∨ ((putP g).2 = 0 ∧ decide ((putP g).1 = b) = true ∧ readP b = some g)) := by
  have hr := read_guess hO hg h
  unfold putP
  cases hp : planOk g with
  | false => rw [hp] at hr; exact ⟨(fun x hx => (List.not_mem_nil hx).elim), .inl ⟨rfl, by rw [hr]; simp⟩⟩
  | true =>
    rw [hp] at hr
    refine ⟨planB_oct g 6, ?_⟩
    by_cases he : planB g 6 = b
    · exact .inr (.inr ⟨rfl, decide_eq_true he, by rw [hr, if_pos ⟨rfl, he⟩]⟩)
    · exact .inr (.inl ⟨rfl, decide_eq_false he, by rw [hr, if_neg (fun x => he x.2)]⟩)
theorem own_insM {w : World} {base n c : Nat} {A : Option Addr} {L : List Ins} (h : OwnI w base (.slice A n c) L) : InsM w A L := by
  intro h0
  obtain ⟨A', c', e, _, _, _, hcs⟩ := OwnL.form h lay_ins
  injection e with e1 e2 e3
  subst e1
  obtain ⟨g, rfl, _, _, hcell⟩ := hcs h0
  refine ⟨g, 0, rfl, fun i hi => ?_⟩
  have hh := fun j hj => (hcell i hi j hj).1
  have eD : L.getD i Ins.zero = L[i] := by rw [List.getD_eq_getElem?_getD, List.getElem?_eq_getElem hi]; rfl
  rw [eD, Nat.zero_add]
  exact ⟨hh 0 (by decide), hh 1 (by decide), hh 2 (by decide), hh 3 (by decide)⟩
set_option maxRecDepth 100000 in
set_option maxHeartbeats 8000000 in
theorem preadplan_any (A : Option Addr) (b : List Nat) (n c : Nat) (w : World) (hn : n = b.length) (hB : Byts w A b) (hO : Oct b) (hl : n ≤ 1000000000000) (hcl : n ≤ c) : Calls Try.prog 20 #[.slice A n c] w (PlanK w (readP b)) := by
  have HN := Lib.hid hn
  have HB0 : Hid (Below w.heap.size w (w.alloc (.cells (Cfg.zero.cells (.slice none 0 0)).toArray 24))) := Lib.hid ((Below.refl _ _).alloc (Nat.le_refl _) _)
  have HR0 : Hid (CfAt (w.alloc (.cells (Cfg.zero.cells (.slice none 0 0)).toArray 24)) w.heap.size Cfg.zero (.slice none 0 0)) := Lib.hid (Rec.new w _ (Cfg.zero.cells (.slice none 0 0)) _ rfl)
  have CG := Lib.hid (guess_any A b n c _ hn (hB.below HB0.out) hO hl hcl)
  have HBy := Lib.hid hB
  have HO := Lib.hid hO
  have hs0 : (w.alloc (.cells (Cfg.zero.cells (.slice none 0 0)).toArray 24)).heap.size = w.heap.size + 1 := by simp
  have HS0 := Lib.hid hs0
  obtain ⟨X, hX⟩ : ∃ X, X = readP b := ⟨_, rfl⟩
  have HX := Lib.hid hX
  rw [← hX]
  simp only [Cfg.cells, Cfg.zero] at CG
  clear hn hB hO hs0 hX
  go_enter Try.func20, Try.ntmps20
  go_wp2_with (first
    | (go_at_call 32; (with_reducible refine (beq_any A2 A L6 b _ n c2 c _ HL2.out HN.out HY2.out (HBy.out.below HB2.out) HO6.out HO.out).mono ?_); rintro r _ ⟨rfl, rfl⟩; rw [hd])
    | (go_at_call 9; (with_reducible refine (CP.out _ ((Below.refl _ _).alloc (Nat.le_refl _) _)).mono ?_); rintro r w2 ⟨v2, rfl, ho2, hb2⟩; obtain ⟨A2, c2, rfl, hy2, _⟩ := OwnB.form ho2; have HY2 := Lib.hid hy2; obtain ⟨n2, hn2⟩ : ∃ n2, n2 = L6.length := ⟨_, rfl⟩; rw [← hn2]; have HL2 := Lib.hid hn2; have hb3 := ((Below.refl _ w1).alloc (Nat.le_refl _) (.cells ((Cfg.cells g (.slice AV m cV)).toArray) 24)).trans (hb2.mono (by simp)); have HB2 := Lib.hid (HB1.out.trans (hb3.mono HB1.out.size)); have HI2 := Lib.hid (OwnL.keep HI1.out hb3); have HC2 : Hid (CfAt w2 w1.heap.size g (.slice AV m cV)) := Lib.hid (CfAt.keep (Rec.new w1 _ (Cfg.cells g (.slice AV m cV)) _ rfl) hb2); have HR2 := Lib.hid (CfAt.keep HR1.out hb3); obtain ⟨z0, z1, z2, z3, z4, z5, z6⟩ := HR2.out.reads; simp only [Cfg.zero] at z0 z1 z2 z3 z4 z5 z6; obtain ⟨x0, x1, x2, x3, x4, x5, x6⟩ := HC2.out.reads; have fz0 := Rec.frozen HR2.out 0; have fz1 := Rec.frozen HR2.out 1; have fz2 := Rec.frozen HR2.out 2; have fz3 := Rec.frozen HR2.out 3; have fz4 := Rec.frozen HR2.out 4; have fz5 := Rec.frozen HR2.out 5; have fz6 := Rec.frozen HR2.out 6; clear hy2 hn2 ho2 hb2 hb3)
    | (go_at_call 31; (with_reducible refine CG.out.mono ?_); rintro r w1 ⟨g, V, rfl, hi1, hb1, hg1, hl1, hu1⟩; obtain ⟨AV, cV, hV, _⟩ := OwnL.form hi1 lay_ins; obtain ⟨m, hm⟩ : ∃ m, m = g.insts.length := ⟨_, rfl⟩; rw [← hm] at hV; subst hV; have CP := Lib.hid (fun W (h : Below w1.heap.size w1 W) => pputplan_any g hg1 AV m cV W hm ((own_insM hi1).below h)); have HI1 := Lib.hid (OwnL.lower (base' := w.heap.size) hi1 (by simp)); have HIg := Lib.hid hi1; have HB1 := Lib.hid (HB0.out.trans (hb1.mono (by simp))); have HR1 := Lib.hid (CfAt.keep HR0.out hb1); have hrc := read_cases HO.out hg1 hu1; obtain ⟨L6, hL6⟩ : ∃ L6, L6 = (putP g).1 := ⟨_, rfl⟩; obtain ⟨cd, hcd⟩ : ∃ cd, cd = (putP g).2 := ⟨_, rfl⟩; rw [← hL6, ← hcd, ← HX.out] at hrc; rw [← hL6, ← hcd] at CP; obtain ⟨ho6, hrc⟩ := hrc; have HO6 := Lib.hid ho6; simp only [Cfg.v] at CP; simp only [Cfg.v]; clear hi1 hb1 hg1 hl1 hu1 hL6 hm hcd ho6; rcases hrc with ⟨rfl, hx⟩ | ⟨rfl, hd, hx⟩ | ⟨rfl, hd, hx⟩))
  all_goals first
    | (have hPB := putC_below HB2.out (Nat.le_refl _) (.slice none 0 0) Cfg.zero
       obtain ⟨g0, g1, g2, g3, g4, g5, g6⟩ := (putC_at HR2.out (.slice none 0 0) Cfg.zero).reads
       simp only [putC, Cfg.zero] at g0 g1 g2 g3 g4 g5 g6
       simp only [putC, Cfg.zero] at hPB
       refine bodyPost_ret (v := .tuple #[.agg #[.slice none 0 0, .int .i64 0, .int .i64 0, .int .i64 0, .int .i64 0, .int .i64 0, .int .i64 0], .int .i64 13]) (by simp [results, Try.results20, go_sem, g0, g1, g2, g3, g4, g5, g6]) rfl ?_
       rw [hx]
       exact planK_none hPB)
    | (have hPB := putC_below HB2.out (Nat.le_refl _) (.slice AV m cV) g
       have hPO : OwnI (putC w2 w.heap.size (.slice AV m cV) g) w.heap.size (.slice AV m cV) g.insts := OwnL.touch HI2.out (putC_touch w2 w.heap.size (.slice AV m cV) g) (fun k' hk' e => by have h1 := (OwnL.lt HIg.out k' hk').1; have e' : k' = w.heap.size := e; simp at h1; omega)
       obtain ⟨g0, g1, g2, g3, g4, g5, g6⟩ := (putC_at HR2.out (.slice AV m cV) g).reads
       simp only [putC] at g0 g1 g2 g3 g4 g5 g6
       simp only [putC] at hPB hPO
       refine bodyPost_ret (v := .tuple #[g.v (.slice AV m cV), .int .i64 0]) (by simp [results, Try.results20, go_sem, Cfg.v, g0, g1, g2, g3, g4, g5, g6]) rfl ?_
       rw [hx]
       exact ⟨_, rfl, hPO, hPB⟩)
end Go.Proofs.Ytldceocbmmidmaa
