/-
  The walk of novationlaw7.PlanDrawn.
-/
import Derived.Test.YtldceocbmmidmaaOf7
import Derived.Test.YtldceocbmmidmaaLAll7
import Derived.Test.YtldceocbmmidmaaFlC
import Derived.Test.YtldceocbmmidmaaOwnM
namespace Go.Proofs.Ytldceocbmmidmaa
open Go Go.RowKit
set_option linter.unusedVariables false

/-- An instrument in memory is another one. -/
theorem insM_set {W : World} {g i j : Nat} {L : List Ins} {x' : Ins} {u : Value} (h : InsM W (some ⟨g, 0, none⟩) L) (hi : i < L.length) (hj : j < 4) (hx : x'.cells = (L.getD i Ins.zero).cells.set j u) : InsM (W.setCell ⟨g, i * 4 + j, none⟩ u) (some ⟨g, 0, none⟩) (L.set i x') := by
  intro h0
  obtain ⟨b, off, e, hc⟩ := h (by omega)
  injection e with e
  injection e with e1 e2
  subst e1; subst e2
  refine ⟨_, _, rfl, fun n hn => ?_⟩
  rw [List.length_set] at hn
  have key : ∀ f, f < 4 → W.cell? ⟨g, n * 4 + f, none⟩ = ((L.getD n Ins.zero).cells)[f]? := fun f hf => by
    obtain ⟨c0, c1, c2, c3⟩ := hc n hn
    simp only [Nat.zero_add] at c0 c1 c2 c3
    rcases (by omega : f = 0 ∨ f = 1 ∨ f = 2 ∨ f = 3) with rfl | rfl | rfl | rfl
    · exact c0
    · exact c1
    · exact c2
    · exact c3
  have new : ∀ f, f < 4 → (W.setCell ⟨g, i * 4 + j, none⟩ u).cell? ⟨g, n * 4 + f, none⟩ = (((L.set i x').getD n Ins.zero).cells)[f]? := fun f hf => by
    by_cases hni : i = n
    · subst hni
      have hg : (L.set i x').getD i Ins.zero = x' := by rw [List.getD_eq_getElem?_getD, List.getElem?_set_self hn]; rfl
      rw [hg, hx]
      by_cases hfj : j = f
      · subst hfj
        rw [List.getElem?_set_self (by show j < 4; exact hf)]
        exact World.cell?_setCell_same' _ _ _ (by rw [key j hj, List.getElem?_eq_getElem (show j < (L.getD i Ins.zero).cells.length from hj)]; rfl)
      · rw [List.getElem?_set_ne hfj, World.cell?_setCell_other _ _ _ _ (by intro e; injection e with e1 e2; omega), key f hf]
    · have hg : (L.set i x').getD n Ins.zero = L.getD n Ins.zero := by rw [List.getD_eq_getElem?_getD, List.getElem?_set_ne hni, List.getD_eq_getElem?_getD]
      rw [hg, World.cell?_setCell_other _ _ _ _ (by intro e; injection e with e1 e2; omega), key f hf]
  have n0 := new 0 (by omega)
  have n1 := new 1 (by omega)
  have n2 := new 2 (by omega)
  have n3 := new 3 (by omega)
  simp only [Nat.zero_add]
  exact ⟨n0, n1, n2, n3⟩
theorem own_cells {w : World} {base n c : Nat} {a : Addr} {L : List Ins} (h : OwnI w base (.slice (some a) n c) L) : ∀ j u, (L.flatMap Ins.cells)[j]? = some u → w.cell? (a.add j) = some u := by
  intro j u hu
  rcases h.2 with ⟨e, _⟩ | ⟨g, cap, cur, e, _, hg, _, _, _, h4⟩
  · cases e
  · injection e with e _ _
    injection e with e
    subst e
    rw [Go.WideShapes.add_plain, Nat.zero_add]
    have hlt : j < L.length * 4 := by
      have h1 : j < (L.flatMap Ins.cells).length := (List.getElem?_eq_some_iff.1 hu).1
      rw [lay_ins.flat] at h1
      exact h1
    simp only [World.cell?, hg]
    rw [← h4, List.getElem?_take_of_lt hlt] at hu
    simpa using hu
theorem mod_nat (h n : Nat) (hn : 0 < n) : ∃ K : Nat, (h : Int) % (n : Int) = (K : Int) ∧ K < n := ⟨h % n, by simp, Nat.mod_lt _ hn⟩
/-- A config in a variable, with its instruments. -/
structure KC (w : World) (bC : Nat) (cf : Cfg) (A : Option Addr) (N c : Nat) (W : World) : Prop where
  len : N = cf.insts.length
  ok : CfgI cf
  ins : InsM W A cf.insts
  at' : CfAt W bC cf (.slice A N c)
  bel : Below w.heap.size w W
theorem KC.keep {w W W' : World} {bC N c : Nat} {cf : Cfg} {A : Option Addr} (h : KC w bC cf A N c W) (hb : Below W.heap.size W W') : KC w bC cf A N c W' := ⟨h.len, h.ok, h.ins.below hb, h.at'.keep hb, h.bel.trans (hb.mono h.bel.size)⟩
theorem KC.start {w W : World} {N c : Nat} {cf : Cfg} {A : Option Addr} (hl : N = cf.insts.length) (hok : CfgI cf) (hi : InsM W A cf.insts) (hb : Below w.heap.size w W) : KC w W.heap.size cf A N c (W.alloc (.cells #[.slice A N c, .int .i64 cf.skin, .int .i64 cf.times, .int .i64 cf.port, .int .i64 cf.bid, .int .i64 cf.lot, .int .i64 cf.hedge] 24)) :=
  ⟨hl, hok, hi.below ((Below.refl _ _).alloc (Nat.le_refl _) _), Rec.new W _ (cf.cells (.slice A N c)) _ rfl, hb.alloc hb.size _⟩
/-- PlanAll of the two, either way. -/
theorem all_of {w W : World} {bC bD N n c d : Nat} {p q : Cfg} {A B : Option Addr} (hp : KC w bC p A N c W) (hq : KC w bD q B n d W) (k : Int) : Calls Try.prog 3 #[.agg #[.slice A N c, .int .i64 p.skin, .int .i64 p.times, .int .i64 p.port, .int .i64 p.bid, .int .i64 p.lot, .int .i64 p.hedge], .agg #[.slice B n d, .int .i64 q.skin, .int .i64 q.times, .int .i64 q.port, .int .i64 q.bid, .int .i64 q.lot, .int .i64 q.hedge], .int .i64 k] W fun e w' => e = .returned (.bool true) ∧ Below W.heap.size W w' :=
  pall_walk p q hp.ok A B N n c d k W hp.len hq.len hp.ins hq.ins
theorem cfgI_set {df : Cfg} {K : Nat} {x' : Ins} (h : CfgI df) (hx : InsI x') : CfgI { df with insts := df.insts.set K x' } :=
  ⟨fun y hy => by
    rcases List.mem_or_eq_of_mem_set hy with hy | rfl
    · exact h.insts y hy
    · exact hx, h.skin, h.times, h.port, h.bid, h.lot, h.hedge⟩
section
variable {w W : World} {bD g N c K base : Nat} {df : Cfg}
theorem kd_inst (h : KC w bD df (some ⟨g, 0, none⟩) N c W) (ho : OwnI W base (.slice (some ⟨g, 0, none⟩) N c) df.insts) (hb : w.heap.size ≤ base) (hK : K < N) {j : Nat} (hj : j < 4) {x' : Ins} {u : Value} (hx : x'.cells = (df.insts.getD K Ins.zero).cells.set j u) (hI : InsI x') : KC w bD { df with insts := df.insts.set K x' } (some ⟨g, 0, none⟩) N c (W.setCell ⟨g, K * 4 + j, none⟩ u) := by
  have hne : bD ≠ g := fun e => Rec.not_rowL h.at' (by decide) ho (by rw [e]; rfl)
  have hg := (OwnL.lt ho g rfl).1
  exact ⟨by rw [List.length_set]; exact h.len, cfgI_set h.ok hI, insM_set h.ins (by rw [← h.len]; exact hK) hj hx, Rec.touch h.at' (Touch.setCell W ⟨g, K * 4 + j, none⟩ u) hne, below_set h.bel (by omega) _ _⟩
theorem kd_inst0 (h : KC w bD df (some ⟨g, 0, none⟩) N c W) (ho : OwnI W base (.slice (some ⟨g, 0, none⟩) N c) df.insts) (hb : w.heap.size ≤ base) (hK : K < N) {x : Int} (hx : I64 x) : KC w bD { df with insts := df.insts.set K ⟨x, (df.insts.getD K Ins.zero).price, (df.insts.getD K Ins.zero).rate, (df.insts.getD K Ins.zero).slip⟩ } (some ⟨g, 0, none⟩) N c (W.setCell ⟨g, K * 4, none⟩ (.int .i64 x)) := by
  have hm := h.ok.insts (df.insts.getD K Ins.zero) (by rw [List.getD_eq_getElem?_getD, List.getElem?_eq_getElem (by rw [← h.len]; exact hK)]; exact List.getElem_mem _)
  exact kd_inst h ho hb hK (j := 0) (by omega) rfl ⟨hx, hm.2.1, hm.2.2.1, hm.2.2.2⟩
theorem kd_inst1 (h : KC w bD df (some ⟨g, 0, none⟩) N c W) (ho : OwnI W base (.slice (some ⟨g, 0, none⟩) N c) df.insts) (hb : w.heap.size ≤ base) (hK : K < N) {x : Int} (hx : I64 x) : KC w bD { df with insts := df.insts.set K ⟨(df.insts.getD K Ins.zero).bucket, x, (df.insts.getD K Ins.zero).rate, (df.insts.getD K Ins.zero).slip⟩ } (some ⟨g, 0, none⟩) N c (W.setCell ⟨g, K * 4 + 1, none⟩ (.int .i64 x)) := by
  have hm := h.ok.insts (df.insts.getD K Ins.zero) (by rw [List.getD_eq_getElem?_getD, List.getElem?_eq_getElem (by rw [← h.len]; exact hK)]; exact List.getElem_mem _)
  exact kd_inst h ho hb hK (j := 1) (by omega) rfl ⟨hm.1, hx, hm.2.2.1, hm.2.2.2⟩
theorem kd_inst2 (h : KC w bD df (some ⟨g, 0, none⟩) N c W) (ho : OwnI W base (.slice (some ⟨g, 0, none⟩) N c) df.insts) (hb : w.heap.size ≤ base) (hK : K < N) {x : Int} (hx : I64 x) : KC w bD { df with insts := df.insts.set K ⟨(df.insts.getD K Ins.zero).bucket, (df.insts.getD K Ins.zero).price, x, (df.insts.getD K Ins.zero).slip⟩ } (some ⟨g, 0, none⟩) N c (W.setCell ⟨g, K * 4 + 2, none⟩ (.int .i64 x)) := by
  have hm := h.ok.insts (df.insts.getD K Ins.zero) (by rw [List.getD_eq_getElem?_getD, List.getElem?_eq_getElem (by rw [← h.len]; exact hK)]; exact List.getElem_mem _)
  exact kd_inst h ho hb hK (j := 2) (by omega) rfl ⟨hm.1, hm.2.1, hx, hm.2.2.2⟩
theorem kd_inst3 (h : KC w bD df (some ⟨g, 0, none⟩) N c W) (ho : OwnI W base (.slice (some ⟨g, 0, none⟩) N c) df.insts) (hb : w.heap.size ≤ base) (hK : K < N) {x : Int} (hx : I64 x) : KC w bD { df with insts := df.insts.set K ⟨(df.insts.getD K Ins.zero).bucket, (df.insts.getD K Ins.zero).price, (df.insts.getD K Ins.zero).rate, x⟩ } (some ⟨g, 0, none⟩) N c (W.setCell ⟨g, K * 4 + 3, none⟩ (.int .i64 x)) := by
  have hm := h.ok.insts (df.insts.getD K Ins.zero) (by rw [List.getD_eq_getElem?_getD, List.getElem?_eq_getElem (by rw [← h.len]; exact hK)]; exact List.getElem_mem _)
  exact kd_inst h ho hb hK (j := 3) (by omega) rfl ⟨hm.1, hm.2.1, hm.2.2.1, hx⟩
theorem kd_field {A : Option Addr} (h : KC w bD df A N c W) (ho : OwnI W base (.slice A N c) df.insts) (hb : w.heap.size ≤ bD) {df' : Cfg} {j : Nat} {u : Value} (hi : df'.insts = df.insts) (hc : (df.cells (.slice A N c)).set j u = df'.cells (.slice A N c)) (hok : CfgI df') : KC w bD df' A N c (W.setCell ⟨bD, j, none⟩ u) := by
  have hne := Rec.not_rowL h.at' (by decide) ho
  refine ⟨by rw [hi]; exact h.len, hok, ?_, by unfold CfAt; rw [← hc]; exact Rec.set h.at' j u, below_set h.bel hb _ _⟩
  rw [hi]
  exact own_insM (OwnL.touch ho (Touch.setCell W ⟨bD, j, none⟩ u) (fun k hk e => hne (by rw [hk]; have e' : k = bD := e; rw [e'])))
theorem kd_field1 {A : Option Addr} (h : KC w bD df A N c W) (ho : OwnI W base (.slice A N c) df.insts) (hb : w.heap.size ≤ bD) {x : Int} (hx : I64 x) : KC w bD { df with skin := x } A N c (W.setCell ⟨bD, 1, none⟩ (.int .i64 x)) := kd_field h ho hb rfl rfl ⟨h.ok.insts, hx, h.ok.times, h.ok.port, h.ok.bid, h.ok.lot, h.ok.hedge⟩
theorem kd_field2 {A : Option Addr} (h : KC w bD df A N c W) (ho : OwnI W base (.slice A N c) df.insts) (hb : w.heap.size ≤ bD) {x : Int} (hx : I64 x) : KC w bD { df with times := x } A N c (W.setCell ⟨bD, 2, none⟩ (.int .i64 x)) := kd_field h ho hb rfl rfl ⟨h.ok.insts, h.ok.skin, hx, h.ok.port, h.ok.bid, h.ok.lot, h.ok.hedge⟩
theorem kd_field3 {A : Option Addr} (h : KC w bD df A N c W) (ho : OwnI W base (.slice A N c) df.insts) (hb : w.heap.size ≤ bD) {x : Int} (hx : I64 x) : KC w bD { df with port := x } A N c (W.setCell ⟨bD, 3, none⟩ (.int .i64 x)) := kd_field h ho hb rfl rfl ⟨h.ok.insts, h.ok.skin, h.ok.times, hx, h.ok.bid, h.ok.lot, h.ok.hedge⟩
theorem kd_field4 {A : Option Addr} (h : KC w bD df A N c W) (ho : OwnI W base (.slice A N c) df.insts) (hb : w.heap.size ≤ bD) {x : Int} (hx : I64 x) : KC w bD { df with bid := x } A N c (W.setCell ⟨bD, 4, none⟩ (.int .i64 x)) := kd_field h ho hb rfl rfl ⟨h.ok.insts, h.ok.skin, h.ok.times, h.ok.port, hx, h.ok.lot, h.ok.hedge⟩
theorem kd_field5 {A : Option Addr} (h : KC w bD df A N c W) (ho : OwnI W base (.slice A N c) df.insts) (hb : w.heap.size ≤ bD) {x : Int} (hx : I64 x) : KC w bD { df with lot := x } A N c (W.setCell ⟨bD, 5, none⟩ (.int .i64 x)) := kd_field h ho hb rfl rfl ⟨h.ok.insts, h.ok.skin, h.ok.times, h.ok.port, h.ok.bid, hx, h.ok.hedge⟩
theorem kd_field6 {A : Option Addr} (h : KC w bD df A N c W) (ho : OwnI W base (.slice A N c) df.insts) (hb : w.heap.size ≤ bD) {x : Int} (hx : I64 x) : KC w bD { df with hedge := x } A N c (W.setCell ⟨bD, 6, none⟩ (.int .i64 x)) := kd_field h ho hb rfl rfl ⟨h.ok.insts, h.ok.skin, h.ok.times, h.ok.port, h.ok.bid, h.ok.lot, hx⟩
theorem kd_nil {A : Option Addr} (h : KC w bD df A N c W) (hb : w.heap.size ≤ bD) : KC w bD { df with insts := [] } none 0 0 (W.setCell ⟨bD, 0, none⟩ (.slice none 0 0)) :=
  ⟨rfl, ⟨fun y hy => (List.not_mem_nil hy).elim, h.ok.skin, h.ok.times, h.ok.port, h.ok.bid, h.ok.lot, h.ok.hedge⟩, fun h0 => absurd h0 (by simp), Rec.set h.at' 0 _, below_set h.bel hb _ _⟩
end
set_option maxRecDepth 100000 in
set_option maxHeartbeats 16000000 in
theorem pdrawn_walk (A : Option Addr) (l : List Int) (c n : Nat) (hk : n = l.length) (f x : Int) (hf : 0 ≤ f ∧ f ≤ 255) (hx : I64 x) (w : World) (hn : Nums w A l) : Calls Try.prog 4 #[.slice A n c, .int .u8 f, .int .i64 x] w fun e w' => e = .returned (.bool true) ∧ Below w.heap.size w w' := by
  have CK := Lib.hid (known_any w)
  have HNm := Lib.hid hn
  have HK := Lib.hid hk
  have HXI := Lib.hid hx
  obtain ⟨fn, rfl⟩ : ∃ fn : Nat, f = (fn : Int) := ⟨f.toNat, by omega⟩
  have hf255 : fn ≤ 255 := by omega
  obtain ⟨s, hs⟩ : ∃ s, s = fn % 16 := ⟨_, rfl⟩
  obtain ⟨h16, hh⟩ : ∃ h, h = fn / 16 := ⟨_, rfl⟩
  have HS := Lib.hid hs
  have hs16 : s < 16 := by omega
  have hmod : (fn : Int).tmod 16 = (s : Int) := by rw [Int.tmod_eq_emod_of_nonneg (by omega)]; omega
  have hdiv : (fn : Int).tdiv 16 = (h16 : Int) := by rw [Int.tdiv_eq_ediv_of_nonneg (by omega)]; omega
  obtain ⟨s5, hs5⟩ : ∃ s5, s5 = fn % 5 := ⟨_, rfl⟩
  have hmod5 : (fn : Int).tmod 5 = (s5 : Int) := by rw [Int.tmod_eq_emod_of_nonneg (by omega)]; omega
  have hh15 : h16 ≤ 15 := by omega
  have hs54 : s5 ≤ 4 := by omega
  clear hk hn hf hs hh hs5 hx
  go_enter Try.func4, Try.ntmps4
  go_wp2_with (first
    | (go_at_call 3; (with_reducible refine (all_of HKc.out HKd.out _).mono ?_); rintro e w10 ⟨rfl, hb10⟩; have HB10 := Lib.hid (HKc.out.bel.trans (hb10.mono HKc.out.bel.size)); clear hb10)
    | (go_at_call 3; have hkd := kd_inst0 HD7.out HO7.out HBs.out hKN HXI.out; have hkc := HK4.out.keep (below_set HB47.out HBg.out _ _ : Below _ _ (w7.setCell ⟨gD, K * 4, none⟩ (.int .i64 x))); (with_reducible refine (all_of hkd hkc _).mono ?_); rintro e w9 ⟨rfl, hb9⟩; have HKd := Lib.hid (hkd.keep hb9); have HKc := Lib.hid (hkc.keep hb9); obtain ⟨m0, m1, m2, m3, m4, m5, m6⟩ := HKd.out.at'.reads; obtain ⟨k0, k1, k2, k3, k4, k5, k6⟩ := HKc.out.at'.reads; clear hb9 hkd hkc)
    | (go_at_call 3; have hkd := kd_inst1 HD7.out HO7.out HBs.out hKN HXI.out; have hkc := HK4.out.keep (below_set HB47.out HBg.out _ _ : Below _ _ (w7.setCell ⟨gD, K * 4 + 1, none⟩ (.int .i64 x))); (with_reducible refine (all_of hkd hkc _).mono ?_); rintro e w9 ⟨rfl, hb9⟩; have HKd := Lib.hid (hkd.keep hb9); have HKc := Lib.hid (hkc.keep hb9); obtain ⟨m0, m1, m2, m3, m4, m5, m6⟩ := HKd.out.at'.reads; obtain ⟨k0, k1, k2, k3, k4, k5, k6⟩ := HKc.out.at'.reads; clear hb9 hkd hkc)
    | (go_at_call 3; have hkd := kd_inst2 HD7.out HO7.out HBs.out hKN HXI.out; have hkc := HK4.out.keep (below_set HB47.out HBg.out _ _ : Below _ _ (w7.setCell ⟨gD, K * 4 + 2, none⟩ (.int .i64 x))); (with_reducible refine (all_of hkd hkc _).mono ?_); rintro e w9 ⟨rfl, hb9⟩; have HKd := Lib.hid (hkd.keep hb9); have HKc := Lib.hid (hkc.keep hb9); obtain ⟨m0, m1, m2, m3, m4, m5, m6⟩ := HKd.out.at'.reads; obtain ⟨k0, k1, k2, k3, k4, k5, k6⟩ := HKc.out.at'.reads; clear hb9 hkd hkc)
    | (go_at_call 3; have hkd := kd_inst3 HD7.out HO7.out HBs.out hKN HXI.out; have hkc := HK4.out.keep (below_set HB47.out HBg.out _ _ : Below _ _ (w7.setCell ⟨gD, K * 4 + 3, none⟩ (.int .i64 x))); (with_reducible refine (all_of hkd hkc _).mono ?_); rintro e w9 ⟨rfl, hb9⟩; have HKd := Lib.hid (hkd.keep hb9); have HKc := Lib.hid (hkc.keep hb9); obtain ⟨m0, m1, m2, m3, m4, m5, m6⟩ := HKd.out.at'.reads; obtain ⟨k0, k1, k2, k3, k4, k5, k6⟩ := HKc.out.at'.reads; clear hb9 hkd hkc)
    | (go_at_call 3; have hkd := kd_field1 HD7.out HO7.out HBd.out HXI.out; have hkc := HK4.out.keep (below_set HB47.out HBd4.out _ _ : Below _ _ (w7.setCell ⟨w6.heap.size, 1, none⟩ (.int .i64 x))); (with_reducible refine (all_of hkd hkc _).mono ?_); rintro e w9 ⟨rfl, hb9⟩; have HKd := Lib.hid (hkd.keep hb9); have HKc := Lib.hid (hkc.keep hb9); obtain ⟨m0, m1, m2, m3, m4, m5, m6⟩ := HKd.out.at'.reads; obtain ⟨k0, k1, k2, k3, k4, k5, k6⟩ := HKc.out.at'.reads; clear hb9 hkd hkc)
    | (go_at_call 3; have hkd := kd_field2 HD7.out HO7.out HBd.out HXI.out; have hkc := HK4.out.keep (below_set HB47.out HBd4.out _ _ : Below _ _ (w7.setCell ⟨w6.heap.size, 2, none⟩ (.int .i64 x))); (with_reducible refine (all_of hkd hkc _).mono ?_); rintro e w9 ⟨rfl, hb9⟩; have HKd := Lib.hid (hkd.keep hb9); have HKc := Lib.hid (hkc.keep hb9); obtain ⟨m0, m1, m2, m3, m4, m5, m6⟩ := HKd.out.at'.reads; obtain ⟨k0, k1, k2, k3, k4, k5, k6⟩ := HKc.out.at'.reads; clear hb9 hkd hkc)
    | (go_at_call 3; have hkd := kd_field3 HD7.out HO7.out HBd.out HXI.out; have hkc := HK4.out.keep (below_set HB47.out HBd4.out _ _ : Below _ _ (w7.setCell ⟨w6.heap.size, 3, none⟩ (.int .i64 x))); (with_reducible refine (all_of hkd hkc _).mono ?_); rintro e w9 ⟨rfl, hb9⟩; have HKd := Lib.hid (hkd.keep hb9); have HKc := Lib.hid (hkc.keep hb9); obtain ⟨m0, m1, m2, m3, m4, m5, m6⟩ := HKd.out.at'.reads; obtain ⟨k0, k1, k2, k3, k4, k5, k6⟩ := HKc.out.at'.reads; clear hb9 hkd hkc)
    | (go_at_call 3; have hkd := kd_field4 HD7.out HO7.out HBd.out HXI.out; have hkc := HK4.out.keep (below_set HB47.out HBd4.out _ _ : Below _ _ (w7.setCell ⟨w6.heap.size, 4, none⟩ (.int .i64 x))); (with_reducible refine (all_of hkd hkc _).mono ?_); rintro e w9 ⟨rfl, hb9⟩; have HKd := Lib.hid (hkd.keep hb9); have HKc := Lib.hid (hkc.keep hb9); obtain ⟨m0, m1, m2, m3, m4, m5, m6⟩ := HKd.out.at'.reads; obtain ⟨k0, k1, k2, k3, k4, k5, k6⟩ := HKc.out.at'.reads; clear hb9 hkd hkc)
    | (go_at_call 3; have hkd := kd_field5 HD7.out HO7.out HBd.out HXI.out; have hkc := HK4.out.keep (below_set HB47.out HBd4.out _ _ : Below _ _ (w7.setCell ⟨w6.heap.size, 5, none⟩ (.int .i64 x))); (with_reducible refine (all_of hkd hkc _).mono ?_); rintro e w9 ⟨rfl, hb9⟩; have HKd := Lib.hid (hkd.keep hb9); have HKc := Lib.hid (hkc.keep hb9); obtain ⟨m0, m1, m2, m3, m4, m5, m6⟩ := HKd.out.at'.reads; obtain ⟨k0, k1, k2, k3, k4, k5, k6⟩ := HKc.out.at'.reads; clear hb9 hkd hkc)
    | (go_at_call 3; have hkd := kd_field6 HD7.out HO7.out HBd.out HXI.out; have hkc := HK4.out.keep (below_set HB47.out HBd4.out _ _ : Below _ _ (w7.setCell ⟨w6.heap.size, 6, none⟩ (.int .i64 x))); (with_reducible refine (all_of hkd hkc _).mono ?_); rintro e w9 ⟨rfl, hb9⟩; have HKd := Lib.hid (hkd.keep hb9); have HKc := Lib.hid (hkc.keep hb9); obtain ⟨m0, m1, m2, m3, m4, m5, m6⟩ := HKd.out.at'.reads; obtain ⟨k0, k1, k2, k3, k4, k5, k6⟩ := HKc.out.at'.reads; clear hb9 hkd hkc)
    | (go_at_call 3; have hkd := kd_nil HD7.out HBd.out; have hkc := HK4.out.keep (below_set HB47.out HBd4.out _ _ : Below _ _ (w7.setCell ⟨w6.heap.size, 0, none⟩ (.slice none 0 0))); (with_reducible refine (all_of hkd hkc _).mono ?_); rintro e w9 ⟨rfl, hb9⟩; have HKd := Lib.hid (hkd.keep hb9); have HKc := Lib.hid (hkc.keep hb9); obtain ⟨m0, m1, m2, m3, m4, m5, m6⟩ := HKd.out.at'.reads; obtain ⟨k0, k1, k2, k3, k4, k5, k6⟩ := HKc.out.at'.reads; clear hb9 hkd hkc)
    | (go_at_call 3; have hkd := HD7.out; have hkc := HC7.out; (with_reducible refine (all_of hkd hkc _).mono ?_); rintro e w9 ⟨rfl, hb9⟩; have HKd := Lib.hid (hkd.keep hb9); have HKc := Lib.hid (hkc.keep hb9); obtain ⟨m0, m1, m2, m3, m4, m5, m6⟩ := HKd.out.at'.reads; obtain ⟨k0, k1, k2, k3, k4, k5, k6⟩ := HKc.out.at'.reads; clear hb9 hkd hkc)
    | (go_at_call 8; (with_reducible refine CK.out.mono ?_); rintro e w1 ⟨rfl, hb⟩; have HB1 := Lib.hid hb; have CO := Lib.hid (deck_of7 (c := c) HK.out (Nums.below HNm.out hb)); clear hb)
    | (go_at_call 18; (with_reducible refine CO2.out.mono ?_); rintro e w5 ⟨rfl, hd5⟩; rw [HSZ.out] at hd5; have CC2 := Lib.hid (deck_cfg7 hd5); clear hd5)
    | (go_at_call 18; (with_reducible refine CO.out.mono ?_); rintro e w2 ⟨rfl, hd2⟩; have CC := Lib.hid (deck_cfg7 hd2); clear hd2)
    | (go_at_call 19; (with_reducible refine CC2.out.mono ?_); rintro e w6 ⟨df, AD, ND, cD, rfl, hokD, hND, ho6, hb6⟩; have HOD := Lib.hid hokD; have HND := Lib.hid hND; have HO6 := Lib.hid ho6; have HB6 := Lib.hid hb6; have HK6 := Lib.hid (HK4.out.keep hb6); simp only [Cfg.v]; have HD6 := Lib.hid (KC.start (c := cD) hND (ok_cfgI hokD) (own_insM ho6) HK6.out.bel); have HE6 := Lib.hid (HK6.out.keep ((Below.refl w6.heap.size w6).alloc (Nat.le_refl _) (.cells #[.slice AD ND cD, .int .i64 df.skin, .int .i64 df.times, .int .i64 df.port, .int .i64 df.bid, .int .i64 df.lot, .int .i64 df.hedge] 24))); have CR := Lib.hid (pright_any cf AI N cI _ HE6.out.len HE6.out.ins); rw [ok_plan HOK.out] at CR; simp only [Cfg.v] at CR; obtain ⟨a0, a1, a2, a3, a4, a5, a6⟩ := HE6.out.at'.reads; clear hokD hND ho6 hb6)
    | (go_at_call 19; (with_reducible refine CC.out.mono ?_); rintro e w3 ⟨cf, AI, N, cI, rfl, hok, hN, ho3, hb3⟩; have HOK := Lib.hid hok; have hb3' := HB1.out.trans (hb3.mono HB1.out.size); have HK4 := Lib.hid (KC.start (c := cI) hN (ok_cfgI hok) (own_insM ho3) hb3'); have CO2 := Lib.hid (deck_of7 (c := c) HK.out (Nums.below HNm.out HK4.out.bel)); have HSZ : Hid ((w3.alloc (.cells #[.slice AI N cI, .int .i64 cf.skin, .int .i64 cf.times, .int .i64 cf.port, .int .i64 cf.bid, .int .i64 cf.lot, .int .i64 cf.hedge] 24)).heap.size = w3.heap.size + 1) := Lib.hid (by simp); simp only [Cfg.v]; clear hok hN ho3 hb3 hb3')
    | (go_at_call 11; (with_reducible refine CR.out.mono ?_); rintro e w7 ⟨rfl, hb7⟩; have HC7 := Lib.hid (HE6.out.keep hb7); have HD7 := Lib.hid (HD6.out.keep hb7); obtain ⟨e0, e1, e2, e3, e4, e5, e6⟩ := HD7.out.at'.reads; have HO7 := Lib.hid (OwnL.keep (OwnL.alloc HO6.out _) hb7); obtain ⟨c0, c1, c2, c3, c4, c5, c6⟩ := HC7.out.at'.reads; have fz0 := Rec.frozen HD7.out.at' 0; have fz1 := Rec.frozen HD7.out.at' 1; have fz2 := Rec.frozen HD7.out.at' 2; have fz3 := Rec.frozen HD7.out.at' 3; have fz4 := Rec.frozen HD7.out.at' 4; have fz5 := Rec.frozen HD7.out.at' 5; have fz6 := Rec.frozen HD7.out.at' 6; have hD4 := HOD.out.cnt; rw [← HND.out] at hD4; obtain ⟨_, _, hAD, _, _, _, hcs⟩ := OwnL.form HO7.out lay_ins; injection hAD with hAD1 hAD2 hAD3; subst hAD1; obtain ⟨gD, rfl, hgD1, hgD2, hcell⟩ := hcs (by rw [← HND.out]; omega); obtain ⟨K, hKe, hKN⟩ := mod_nat h16 ND (by omega); have hKl : K < df.insts.length := (by rw [← HND.out]; exact hKN); have i0 := hcell K hKl 0 (by omega); have i1 := hcell K hKl 1 (by omega); have i2 := hcell K hKl 2 (by omega); have i3 := hcell K hKl 3 (by omega); obtain ⟨i0, j0⟩ := i0; obtain ⟨i1, j1⟩ := i1; obtain ⟨i2, j2⟩ := i2; obtain ⟨i3, j3⟩ := i3; rw [Nat.add_zero] at i0 j0; have u0 : w7.cell? ⟨gD, K * 4, none⟩ = some (.int .i64 df.insts[K].bucket) := i0; have u1 : w7.cell? ⟨gD, K * 4 + 1, none⟩ = some (.int .i64 df.insts[K].price) := i1; have u2 : w7.cell? ⟨gD, K * 4 + 2, none⟩ = some (.int .i64 df.insts[K].rate) := i2; have u3 : w7.cell? ⟨gD, K * 4 + 3, none⟩ = some (.int .i64 df.insts[K].slip) := i3; clear i0 i1 i2 i3; have HB47 := Lib.hid (HB6.out.trans (((Below.refl w6.heap.size w6).alloc (Nat.le_refl _) _ |>.trans (hb7.mono (by simp))).mono HB6.out.size)); have HBs : Hid (w.heap.size ≤ _) := Lib.hid HK4.out.bel.size; have HBg := Lib.hid hgD1; have HBd4 := Lib.hid HB6.out.size; have HBd : Hid (w.heap.size ≤ w6.heap.size) := Lib.hid (Nat.le_trans HK4.out.bel.size HB6.out.size); have hn1 : ¬ w3.heap.size = gD := (by rw [HSZ.out] at hgD1; omega); have hn2 : ¬ w6.heap.size = gD := (fun e => Rec.not_rowL HD7.out.at' (by decide) HO7.out (by rw [e]; rfl)); have hn3 : ¬ w3.heap.size = w6.heap.size := (by have := HBd4.out; rw [HSZ.out] at this; omega); clear hb7 hcs hAD2 hAD3 hgD1 hgD2 hcell; rcases (by omega : s = 0 ∨ s = 1 ∨ s = 2 ∨ s = 3 ∨ s = 4 ∨ s = 5 ∨ s = 6 ∨ s = 7 ∨ s = 8 ∨ s = 9 ∨ s = 10 ∨ s = 11 ∨ s = 12 ∨ s = 13 ∨ s = 14 ∨ s = 15) with rfl | rfl | rfl | rfl | rfl | rfl | rfl | rfl | rfl | rfl | rfl | rfl | rfl | rfl | rfl | rfl))
  all_goals try (go_ret; exact ⟨rfl, HB10.out⟩)
  have hbD : w6.heap.size < w7.heap.size := Rec.lt HD7.out.at'
  obtain ⟨B, hB⟩ : ∃ B, B = w7.heap.size := ⟨_, rfl⟩
  obtain ⟨W0, hW0⟩ : ∃ W0 : World, W0 = { w7 with drawn := w7.drawn + 1 } := ⟨_, rfl⟩
  have hs0 : W0.heap.size = B := by rw [hW0, hB]
  have hb0 : Below B w7 W0 := by rw [hW0]; exact (Below.refl _ _).drew
  obtain ⟨W1, hW1⟩ : ∃ W1, W1 = W0.alloc (.cells #[] 41) := ⟨_, rfl⟩
  have hb1 : Below B w7 W1 := by rw [hW1]; exact hb0.alloc (by rw [hs0]; exact Nat.le_refl _) _
  have hO1 : OwnI W1 B (.slice (some ⟨B, 0, none⟩) 0 0) [] := by rw [hW1]; exact ownL_lit lay_ins W0 B #[] [] (by rw [hs0]; exact Nat.le_refl _) (by simp) rfl _ hs0.symm _ rfl
  have hcs : ∀ W, Below B w7 W → ∀ j u, (df.insts.flatMap Ins.cells)[j]? = some u → W.cell? ((⟨gD, 0, none⟩ : Addr).add j) = some u := fun W hW => own_cells (OwnL.keep HO7.out (by rw [← hB]; exact hW))
  have hB7 : B ≤ w7.heap.size := by rw [hB]; exact Nat.le_refl _
  have hl4 : df.insts.length ≤ 4 := by rw [← HND.out]; exact hD4.2
  obtain ⟨V2, W2, hr2, hO2, hg2, hmv2⟩ := run_appLs lay_ins W1 22 B _ [] hO1 ⟨gD, 0, none⟩ ND cD df.insts HND.out (hcs W1 hb1) (by simp; omega) (by simp; omega) (Nat.le_trans hB7 hb1.size)
  have hb2 : Below B w7 W2 := hb1.trans (OwnL.below hO1 hg2 (Nat.le_trans hB7 hb1.size))
  rw [List.nil_append] at hO2
  obtain ⟨A2, c2', hV2, hfm2⟩ := OwnL.form hO2 lay_ins
  obtain ⟨V3, W3, hr3, hO3, hg3, hmv3⟩ := run_appLs lay_ins W2 22 B V2 _ hO2 ⟨gD, 0, none⟩ ND cD df.insts HND.out (hcs W2 hb2) (by omega) (by omega) (Nat.le_trans hB7 hb2.size)
  have hb3 : Below B w7 W3 := hb2.trans (OwnL.below hO2 hg3 (Nat.le_trans hB7 hb2.size))
  obtain ⟨A3, c3', hV3, hfm3⟩ := OwnL.form hO3 lay_ins
  obtain ⟨V4, W4, hr4, hO4, hg4, hmv4⟩ := run_appLs lay_ins W3 22 B V3 _ hO3 ⟨gD, 0, none⟩ ND cD df.insts HND.out (hcs W3 hb3) (by rw [List.length_append]; omega) (by rw [List.length_append]; omega) (Nat.le_trans hB7 hb3.size)
  have hb4 : Below B w7 W4 := hb3.trans (OwnL.below hO3 hg4 (Nat.le_trans hB7 hb3.size))
  obtain ⟨A4, c4', hV4, hfm4⟩ := OwnL.form hO4 lay_ins
  obtain ⟨n2, hn2⟩ : ∃ n2, n2 = df.insts.length := ⟨_, rfl⟩
  obtain ⟨n3, hn3'⟩ : ∃ n3, n3 = (df.insts ++ df.insts).length := ⟨_, rfl⟩
  obtain ⟨n4, hn4⟩ : ∃ n4, n4 = (df.insts ++ df.insts ++ df.insts).length := ⟨_, rfl⟩
  rw [← hn2] at hV2
  rw [← hn3'] at hV3
  rw [← hn4] at hV4
  subst hV2; subst hV3; subst hV4
  obtain ⟨W5, hW5⟩ : ∃ W5, W5 = W4.setCell ⟨w6.heap.size, 0, none⟩ (.slice A4 n4 c4') := ⟨_, rfl⟩
  have hcell : ∀ W, Below B w7 W → W.cell? ⟨w6.heap.size, 0, none⟩ = some (.slice (some ⟨gD, 0, none⟩) ND cD) := fun W hW => (hW.cell (p := ⟨w6.heap.size, 0, none⟩) (by rw [hB]; exact hbD)).trans e0
  have FX : Hid (∀ m, m ≤ 4 → ((fun m => if m = 0 then W0 else if m = 1 then W1 else if m = 2 then W2 else if m = 3 then W3 else if m = 4 then W4 else W5) m).cell? ⟨w6.heap.size, 0, none⟩ = some (.slice (some ⟨gD, 0, none⟩) ND cD)) := Lib.hid (fun m hm => by
    rcases (by omega : m = 0 ∨ m = 1 ∨ m = 2 ∨ m = 3 ∨ m = 4) with rfl | rfl | rfl | rfl | rfl
    · exact hcell W0 hb0
    · exact hcell W1 hb1
    · exact hcell W2 hb2
    · exact hcell W3 hb3
    · exact hcell W4 hb4)
  have hb4' : Below w7.heap.size w7 W4 := by rw [← hB]; exact hb4
  have hD4' := HD7.out.keep hb4'
  have FZ : Hid (W4.frozen? ⟨w6.heap.size, 0, none⟩ = false) := Lib.hid (Rec.frozen hD4'.at' 0)
  have HKD5 : Hid (KC w w6.heap.size { df with insts := df.insts ++ df.insts ++ df.insts } A4 n4 c4' W5) := Lib.hid (by
    have hmem : ∀ y ∈ df.insts ++ df.insts ++ df.insts, y ∈ df.insts := fun y hy => by
      rcases List.mem_append.1 hy with hy | hy
      · rcases List.mem_append.1 hy with hy | hy <;> exact hy
      · exact hy
    rw [hW5]
    refine ⟨hn4, ⟨fun y hy => HD7.out.ok.insts y (hmem y hy), HD7.out.ok.skin, HD7.out.ok.times, HD7.out.ok.port, HD7.out.ok.bid, HD7.out.ok.lot, HD7.out.ok.hedge⟩, own_insM (OwnL.touch hO4 (Touch.setCell W4 ⟨w6.heap.size, 0, none⟩ _) (fun k hk e => ?_)), Rec.set hD4'.at' 0 _, below_set (hD4'.bel) HBd.out _ _⟩
    have h1 := (OwnL.lt hO4 k hk).1
    have e' : k = w6.heap.size := e
    omega)
  have HKC5 : Hid (KC w w3.heap.size cf AI N cI W5) := Lib.hid (by rw [hW5]; exact HK4.out.keep (below_set (HB47.out.trans (hb4'.mono HB47.out.size)) HBd4.out _ _))
  have HW0 := Lib.hid hW0
  have HS0 := Lib.hid hs0
  have HW1 := Lib.hid hW1
  have HW5 := Lib.hid hW5
  have HR2 := Lib.hid hr2
  have HR3 := Lib.hid hr3
  have HR4 := Lib.hid hr4
  clear hW0 hs0 hW1 hW5 hr2 hr3 hr4 hO1 hO2 hO3 hO4 hg2 hg3 hg4 hb0 hb1 hb2 hb3 hb4 hb4' hcs hcell hD4' hmv2 hmv3 hmv4 hfm2 hfm3 hfm4 hn2 hn3' hn4 hB hB7 hl4 hbD HO7 HD7 HC7
  refine wp_region_dagF [91, 92, 93, 94, 95, 96, 97, 98, 99, 100, 101] (fun _ _ => True) (fun L0 W => FlC [0, 3, 6, 9, 11] (fun m => if m = 0 then W0 else if m = 1 then W1 else if m = 2 then W2 else if m = 3 then W3 else if m = 4 then W4 else W5) L0 W ∧ ZL 11 L0) (spV [.slice (some ⟨B, 0, none⟩) 0 0, .pointer (some ⟨w6.heap.size, 0, none⟩), .slice (some ⟨gD, 0, none⟩) ND cD, .slice A2 n2 c2', .pointer (some ⟨w6.heap.size, 0, none⟩), .slice (some ⟨gD, 0, none⟩) ND cD, .slice A3 n3 c3', .pointer (some ⟨w6.heap.size, 0, none⟩), .slice (some ⟨gD, 0, none⟩) ND cD, .slice A4 n4 c4', .pointer (some ⟨w6.heap.size, 0, none⟩), undef]) rfl rfl rfl rfl (fun _ _ _ _ _ h => h) ?_ ⟨?_, ?_, ?_, ?_, ?_, ?_, ?_, ?_, ?_, ?_, ?_, ?_, trivial⟩ ?_
  · exact ⟨HW0.out ▸ FlC.start, ZL.start 11⟩
  · intro a W K L0 ho hW hL hup hpre hK
    rw [if_pos (wanted_none rfl)]
    obtain ⟨hw, hn⟩ := hW.1.step (by decide) (j := 0) (by decide) hL (.inl rfl)
    subst hw
    go_simp
    rw [HS0.out, ← HW1.out]
    exact hK _ _ trivial ⟨hn, hW.2.keep (by decide)⟩ rfl
  · intro a W K L0 ho hW hL hup hpre hK
    rw [if_pos (wanted_none rfl)]
    have e0 : a.tmps.getD 8 undef = .pointer (some ⟨w6.heap.size, 0, none⟩) := ho.slot 8 (by decide)
    go_simp
    exact hK _ _ trivial ⟨hW.1.keep (by decide), hW.2.keep (by decide)⟩ rfl
  · intro a W K L0 ho hW hL hup hpre hK
    rw [if_pos (wanted_none rfl)]
    have e0 : a.tmps.getD 92 undef = .pointer (some ⟨w6.heap.size, 0, none⟩) := hpre ⟨1, .data⟩ (by simp) rfl _ rfl
    obtain ⟨m, hm, hwm⟩ := hW.1.low (z := 4) (by decide) (hW.2.low (by decide) hL)
    have hc : W.cell? ⟨w6.heap.size, 0, none⟩ = some (.slice (some ⟨gD, 0, none⟩) ND cD) := by rw [hwm]; exact FX.out m hm
    clear hwm
    go_simp
    exact hK _ _ trivial ⟨hW.1.keep (by decide), hW.2.keep (by decide)⟩ rfl
  · intro a W K L0 ho hW hL hup hpre hK
    rw [if_pos (wanted_none rfl)]
    have e0 : a.tmps.getD 91 undef = .slice (some ⟨B, 0, none⟩) 0 0 := hpre ⟨0, .data⟩ (by simp) rfl _ rfl
    have e1 : a.tmps.getD 93 undef = .slice (some ⟨gD, 0, none⟩) ND cD := hpre ⟨2, .data⟩ (by simp) rfl _ rfl
    obtain ⟨hw, hn⟩ := hW.1.step (by decide) (j := 1) (by decide) hL (.inr (hup ⟨0, .data⟩ (by simp) rfl))
    subst hw
    have hr := HR2.out
    have es : a.eval (.tmp 91) = .slice (some ⟨B, 0, none⟩) 0 0 := by rw [← e0]; simp [Act.eval, Array.getD_eq_getD_getElem?]
    have ex : a.eval (.tmp 93) = .slice (some ⟨gD, 0, none⟩) ND cD := by rw [← e1]; simp [Act.eval, Array.getD_eq_getD_getElem?]
    unfold Oper.wp execOp
    simp only [resolve, invoke, builtin, Sem.run_bind, Sem.run_pure, Result.andThen_ok, List.map_toArray, List.map_cons, List.map_nil, es, ex, hr]
    exact hK _ _ trivial ⟨hn, hW.2.keep (by decide)⟩ rfl
  · intro a W K L0 ho hW hL hup hpre hK
    rw [if_pos (wanted_none rfl)]
    have e0 : a.tmps.getD 8 undef = .pointer (some ⟨w6.heap.size, 0, none⟩) := ho.slot 8 (by decide)
    go_simp
    exact hK _ _ trivial ⟨hW.1.keep (by decide), hW.2.keep (by decide)⟩ rfl
  · intro a W K L0 ho hW hL hup hpre hK
    rw [if_pos (wanted_none rfl)]
    have e0 : a.tmps.getD 95 undef = .pointer (some ⟨w6.heap.size, 0, none⟩) := hpre ⟨4, .data⟩ (by simp) rfl _ rfl
    obtain ⟨m, hm, hwm⟩ := hW.1.low (z := 4) (by decide) (hW.2.low (by decide) hL)
    have hc : W.cell? ⟨w6.heap.size, 0, none⟩ = some (.slice (some ⟨gD, 0, none⟩) ND cD) := by rw [hwm]; exact FX.out m hm
    clear hwm
    go_simp
    exact hK _ _ trivial ⟨hW.1.keep (by decide), hW.2.keep (by decide)⟩ rfl
  · intro a W K L0 ho hW hL hup hpre hK
    rw [if_pos (wanted_none rfl)]
    have e0 : a.tmps.getD 94 undef = .slice A2 n2 c2' := hpre ⟨3, .data⟩ (by simp) rfl _ rfl
    have e1 : a.tmps.getD 96 undef = .slice (some ⟨gD, 0, none⟩) ND cD := hpre ⟨5, .data⟩ (by simp) rfl _ rfl
    obtain ⟨hw, hn⟩ := hW.1.step (by decide) (j := 2) (by decide) hL (.inr (hup ⟨3, .data⟩ (by simp) rfl))
    subst hw
    have hr := HR3.out
    have es : a.eval (.tmp 94) = .slice A2 n2 c2' := by rw [← e0]; simp [Act.eval, Array.getD_eq_getD_getElem?]
    have ex : a.eval (.tmp 96) = .slice (some ⟨gD, 0, none⟩) ND cD := by rw [← e1]; simp [Act.eval, Array.getD_eq_getD_getElem?]
    unfold Oper.wp execOp
    simp only [resolve, invoke, builtin, Sem.run_bind, Sem.run_pure, Result.andThen_ok, List.map_toArray, List.map_cons, List.map_nil, es, ex, hr]
    exact hK _ _ trivial ⟨hn, hW.2.keep (by decide)⟩ rfl
  · intro a W K L0 ho hW hL hup hpre hK
    rw [if_pos (wanted_none rfl)]
    have e0 : a.tmps.getD 8 undef = .pointer (some ⟨w6.heap.size, 0, none⟩) := ho.slot 8 (by decide)
    go_simp
    exact hK _ _ trivial ⟨hW.1.keep (by decide), hW.2.keep (by decide)⟩ rfl
  · intro a W K L0 ho hW hL hup hpre hK
    rw [if_pos (wanted_none rfl)]
    have e0 : a.tmps.getD 98 undef = .pointer (some ⟨w6.heap.size, 0, none⟩) := hpre ⟨7, .data⟩ (by simp) rfl _ rfl
    obtain ⟨m, hm, hwm⟩ := hW.1.low (z := 4) (by decide) (hW.2.low (by decide) hL)
    have hc : W.cell? ⟨w6.heap.size, 0, none⟩ = some (.slice (some ⟨gD, 0, none⟩) ND cD) := by rw [hwm]; exact FX.out m hm
    clear hwm
    go_simp
    exact hK _ _ trivial ⟨hW.1.keep (by decide), hW.2.keep (by decide)⟩ rfl
  · intro a W K L0 ho hW hL hup hpre hK
    rw [if_pos (wanted_none rfl)]
    have e0 : a.tmps.getD 97 undef = .slice A3 n3 c3' := hpre ⟨6, .data⟩ (by simp) rfl _ rfl
    have e1 : a.tmps.getD 99 undef = .slice (some ⟨gD, 0, none⟩) ND cD := hpre ⟨8, .data⟩ (by simp) rfl _ rfl
    obtain ⟨hw, hn⟩ := hW.1.step (by decide) (j := 3) (by decide) hL (.inr (hup ⟨6, .data⟩ (by simp) rfl))
    subst hw
    have hr := HR4.out
    have es : a.eval (.tmp 97) = .slice A3 n3 c3' := by rw [← e0]; simp [Act.eval, Array.getD_eq_getD_getElem?]
    have ex : a.eval (.tmp 99) = .slice (some ⟨gD, 0, none⟩) ND cD := by rw [← e1]; simp [Act.eval, Array.getD_eq_getD_getElem?]
    unfold Oper.wp execOp
    simp only [resolve, invoke, builtin, Sem.run_bind, Sem.run_pure, Result.andThen_ok, List.map_toArray, List.map_cons, List.map_nil, es, ex, hr]
    exact hK _ _ trivial ⟨hn, hW.2.keep (by decide)⟩ rfl
  · intro a W K L0 ho hW hL hup hpre hK
    rw [if_pos (wanted_none rfl)]
    have e0 : a.tmps.getD 8 undef = .pointer (some ⟨w6.heap.size, 0, none⟩) := ho.slot 8 (by decide)
    go_simp
    exact hK _ _ trivial ⟨hW.1.keep (by decide), hW.2.keep (by decide)⟩ rfl
  · intro a W K L0 ho hW hL hup hpre hK
    rw [if_pos (wanted_none rfl)]
    have e0 : a.tmps.getD 101 undef = .pointer (some ⟨w6.heap.size, 0, none⟩) := hpre ⟨10, .data⟩ (by simp) rfl _ rfl
    have e1 : a.tmps.getD 100 undef = .slice A4 n4 c4' := hpre ⟨9, .data⟩ (by simp) rfl _ rfl
    have hall := waits_up (n := 11) (by rfl) hup
    obtain ⟨hw, hn⟩ := hW.1.step (by decide) (j := 4) (by decide) hL (.inr (hall 9 (by decide)))
    subst hw
    have fz := FZ.out
    have hcu : W.cell? ⟨w6.heap.size, 0, none⟩ = some (.slice (some ⟨gD, 0, none⟩) ND cD) := FX.out 4 (by decide)
    go_simp
    rw [← HW5.out]
    refine hK undef W5 trivial ⟨?_, ZL.last hall⟩ rfl
    exact hn
  · intro a W L0 ho hW hall hpv
    have hwe : W = W5 := hW.1.last (z := 4) rfl (hall 11 (by decide))
    have heq := ho.eq
    clear ho hW hall hpv
    simp only [putL] at heq
    generalize a.tmps.getD 91 undef = u91 at heq
    generalize a.tmps.getD 92 undef = u92 at heq
    generalize a.tmps.getD 93 undef = u93 at heq
    generalize a.tmps.getD 94 undef = u94 at heq
    generalize a.tmps.getD 95 undef = u95 at heq
    generalize a.tmps.getD 96 undef = u96 at heq
    generalize a.tmps.getD 97 undef = u97 at heq
    generalize a.tmps.getD 98 undef = u98 at heq
    generalize a.tmps.getD 99 undef = u99 at heq
    generalize a.tmps.getD 100 undef = u100 at heq
    generalize a.tmps.getD 101 undef = u101 at heq
    subst heq
    subst hwe
    rename_i hKK
    refine hKK _ _ ?_
    obtain ⟨p0, p1, p2, p3, p4, p5, p6⟩ := HKD5.out.at'.reads
    obtain ⟨q0, q1, q2, q3, q4, q5, q6⟩ := HKC5.out.at'.reads
    clear c0 c1 c2 c3 c4 c5 c6 e0 e1 e2 e3 e4 e5 e6 fz0 fz1 fz2 fz3 fz4 fz5 fz6 u0 u1 u2 u3 j0 j1 j2 j3
    go_simp
    go_wp2_with (first
      | (go_at_call 3; (with_reducible refine (all_of HKc.out HKd.out _).mono ?_); rintro e w10 ⟨rfl, hb10⟩; have HB10 := Lib.hid (HKc.out.bel.trans (hb10.mono HKc.out.bel.size)); clear hb10)
      | (go_at_call 3; have hkd := HKD5.out; have hkc := HKC5.out; (with_reducible refine (all_of hkd hkc _).mono ?_); rintro e w9 ⟨rfl, hb9⟩; have HKd := Lib.hid (hkd.keep hb9); have HKc := Lib.hid (hkc.keep hb9); obtain ⟨m0, m1, m2, m3, m4, m5, m6⟩ := HKd.out.at'.reads; obtain ⟨k0, k1, k2, k3, k4, k5, k6⟩ := HKc.out.at'.reads; clear hb9 hkd hkc))
    go_ret
    exact ⟨rfl, HB10.out⟩
end Go.Proofs.Ytldceocbmmidmaa
