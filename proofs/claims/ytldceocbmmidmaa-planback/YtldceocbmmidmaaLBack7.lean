/-
  The walk of novationlaw7.PlanBack.
-/
import Derived.Test.YtldceocbmmidmaaOf7
import Derived.Test.YtldceocbmmidmaaLReads7
import Derived.StillTailTactics
import Derived.Deep.RegionLaw
namespace Go.Proofs.Ytldceocbmmidmaa
open Go Go.RowKit
set_option linter.unusedVariables false

theorem byts_take {w : World} {A : Option Addr} {b : List Nat} (h : Byts w A b) (m : Nat) : Byts w A (b.take m) := by
  intro hl
  rw [List.length_take] at hl
  obtain ⟨bb, off, e, hc⟩ := h (by omega)
  refine ⟨bb, off, e, fun i hi => ?_⟩
  rw [List.length_take] at hi
  have := hc i (by omega)
  rw [List.getD_eq_getElem?_getD] at this ⊢
  rw [List.getElem?_take_of_lt (by omega)]
  exact this
theorem oct_at {b : List Nat} (hO : Oct b) (i : Nat) : b.getD i 0 < 256 := by
  rcases Nat.lt_or_ge i b.length with h | h
  · have : b.getD i 0 ∈ b := by rw [List.getD_eq_getElem?_getD, List.getElem?_eq_getElem h]; exact List.getElem_mem _
    have := hO _ this; omega
  · rw [List.getD_eq_getElem?_getD, List.getElem?_eq_none h]; simp
theorem below_of_drew {w6 w7 : World} {B : Nat} (h : Below B w6.drew w7) : Below B w6 w7 := ⟨h.os, h.tape, h.output, h.size, h.block⟩
theorem byts_grown {w w' : World} {b : Nat} {l : List Nat} {row : Option Nat} (h : Byts w (some ⟨b, 0, none⟩) l) (hg : w.grownBy w' row) (hb : row ≠ some b) : Byts w' (some ⟨b, 0, none⟩) l := by
  intro hl
  obtain ⟨b', o', e, hc⟩ := h hl
  injection e with e; injection e with e1 e2; subst e1; subst e2
  refine ⟨_, _, rfl, fun i hi => ?_⟩
  have h1 := hc i hi
  have hlt := block_lt h1
  unfold World.cell? at h1 ⊢
  simp only at h1 hlt ⊢
  rw [hg.block b hlt (fun e => hb e.symm)]
  exact h1
theorem grown_below0 {w w' : World} {base : Nat} {v : Value} {l : List Nat} (h : OwnB w base v l) (hg : w.grownBy w' v.ownBlock) (hbase : base ≤ w.heap.size) : Below base w w' := grown_below h hg hbase
theorem xor_lt8 {x y : Nat} (hx : x < 256) (hy : y < 256) : x ^^^ y < 256 := Nat.xor_lt_two_pow (n := 8) hx hy
/-- A byte of a row is another one. -/
theorem OwnB.set {w : World} {base g n c : Nat} {l : List Nat} (h : OwnB w base (.slice (some ⟨g, 0, none⟩) n c) l) (i x : Nat) (hi : i < l.length) : Byts (w.setCell ⟨g, i, none⟩ (.int .u8 (x : Int))) (some ⟨g, 0, none⟩) (l.set i x) ∧ w.frozen? ⟨g, i, none⟩ = false ∧ w.cell? ⟨g, i, none⟩ = some (.int .u8 ((l.getD i 0 : Nat) : Int)) := by
  obtain ⟨A, c', e, hB, _⟩ := h.form
  injection e with e1 e2 e3
  subst e1
  obtain ⟨b', o', e', hc⟩ := hB (by omega)
  injection e' with e'; injection e' with e1 e2; subst e1; subst e2
  have hc' : ∀ j, j < l.length → w.cell? ⟨g, j, none⟩ = some (.int .u8 ((l.getD j 0 : Nat) : Int)) := fun j hj => by have := hc j hj; rwa [Nat.zero_add] at this
  refine ⟨fun hl => ⟨g, 0, rfl, fun j hj => ?_⟩, ?_, hc' i hi⟩
  · rw [List.length_set] at hj
    rw [Nat.zero_add, List.getD_eq_getElem?_getD]
    by_cases hij : i = j
    · subst hij
      rw [List.getElem?_set_self hi]
      exact World.cell?_setCell_same' _ _ _ (by rw [hc' i hi]; rfl)
    · rw [List.getElem?_set_ne hij, World.cell?_setCell_other _ _ _ _ (by intro e; injection e with e1 e2; first | exact hij e2 | exact hij e2.symm), hc' j hj, List.getD_eq_getElem?_getD]
  · rcases h.2 with ⟨e, h0⟩ | ⟨g', cap, cur, e, _, hgg, _⟩
    · cases e
    · injection e with ea eb ec; injection ea with ea; injection ea with eg; subst eg
      simp [World.frozen?, hgg]
theorem wrap_id {n : Int} (h : I64 n) : IntKind.i64.wrap n = n := by unfold I64 at h; simp [IntKind.wrap, IntKind.bits, IntKind.signed]; omega
theorem pos_read {L : List Nat} {cf : Cfg} (h : readP L = some cf) : 0 < L.length := by
  cases L with
  | nil => rw [nil_read] at h; cases h
  | cons x l => simp
theorem tail7 {L : List Nat} (hO : Oct L) : readP L = none ∨ ∃ y, readP L = some y ∧ CfgI y ∧ putP y = (L, 0) := by
  cases h : readP L with
  | none => exact .inl rfl
  | some y =>
    obtain ⟨h1, h2, h3⟩ := readP_is hO h
    exact .inr ⟨y, rfl, h1, by unfold putP; rw [h2, h3]; rfl⟩
theorem read_none {A : Option Addr} {b : List Nat} {n c : Nat} {w : World} (h : Calls Try.prog 20 #[.slice A n c] w (PlanK w (readP b))) (hr : readP b = none) : Calls Try.prog 20 #[.slice A n c] w fun e w' => ∃ A' c', e = .returned (.tuple #[.agg #[.slice A' 0 c', .int .i64 0, .int .i64 0, .int .i64 0, .int .i64 0, .int .i64 0, .int .i64 0], .int .i64 13]) ∧ Below w.heap.size w w' := by
  refine h.mono fun e w' hp => ?_
  rw [hr] at hp
  obtain ⟨A', m, c', hm, he, hi, hb⟩ := planK_form hp
  have hm1 : m = 0 := hm
  subst hm1
  exact ⟨A', c', he, hb⟩
theorem read_some {A : Option Addr} {b : List Nat} {n c : Nat} {w : World} {y : Cfg} (h : Calls Try.prog 20 #[.slice A n c] w (PlanK w (readP b))) (hr : readP b = some y) : Calls Try.prog 20 #[.slice A n c] w fun e w' => ∃ A' m' c', m' = y.insts.length ∧ e = .returned (.tuple #[.agg #[.slice A' m' c', .int .i64 y.skin, .int .i64 y.times, .int .i64 y.port, .int .i64 y.bid, .int .i64 y.lot, .int .i64 y.hedge], .int .i64 0]) ∧ InsM w' A' y.insts ∧ Below w.heap.size w w' := by
  refine h.mono fun e w' hp => ?_
  rw [hr] at hp
  obtain ⟨A', m, c', hm, he, hi, hb⟩ := planK_form hp
  exact ⟨A', m, c', hm, he, own_insM hi, hb⟩
theorem len_small {L : List Nat} {cf : Cfg} {N : Nat} (h : readP L = some cf) (hN : N = cf.insts.length) (hO : Oct L) : N ≤ 1000000000 := by
  have := (plan_len6 (readP_is hO h).2.1).2
  omega
theorem put_some {y : Cfg} {L : List Nat} {A : Option Addr} {m : Nat} {w : World} (hok : CfgI y) (hp : putP y = (L, 0)) (hm : m = y.insts.length) (hi : InsM w A y.insts) (c : Nat) : Calls Try.prog 9 #[.agg #[.slice A m c, .int .i64 y.skin, .int .i64 y.times, .int .i64 y.port, .int .i64 y.bid, .int .i64 y.lot, .int .i64 y.hedge]] w (BytesK7 w L 0) := by
  have := pputplan_any y hok A m c w hm hi
  rw [hp] at this
  exact this
set_option maxRecDepth 100000 in
set_option maxHeartbeats 16000000 in
theorem pback_walk (A : Option Addr) (l : List Int) (c n : Nat) (hk : n = l.length) (f x z : Int) (hf : 0 ≤ f ∧ f ≤ 255) (hx : 0 ≤ x ∧ x ≤ 255) (hz : 0 ≤ z ∧ z ≤ 255) (w : World) (hn : Nums w A l) : Calls Try.prog 6 #[.slice A n c, .int .u8 f, .int .u8 x, .int .u8 z] w fun r w' => r = .returned (.bool true) ∧ Below w.heap.size w w' := by
  have CK := Lib.hid (known_any w)
  have HNm := Lib.hid hn
  have HK := Lib.hid hk
  obtain ⟨q, hq⟩ : ∃ q : Int, q = z % 3 := ⟨_, rfl⟩
  have hr3 : z.tmod 3 = q := by rw [Int.tmod_eq_emod_of_nonneg hz.1, ← hq]
  have hq3 : 0 ≤ q ∧ q < 3 := by omega
  obtain ⟨at', rfl⟩ := Int.eq_ofNat_of_zero_le hf.1
  obtain ⟨by', rfl⟩ := Int.eq_ofNat_of_zero_le hx.1
  have hat : at' < 256 := by omega
  have hby : by' < 256 := by omega
  have hwat : IntKind.i64.wrap (at' : Int) = (at' : Int) := wrap_id (by unfold I64; omega)
  clear hn hk hf hx hz hq
  go_enter Try.func6, Try.ntmps6
  go_wp2_with (first
    | (go_at_call 8; (with_reducible refine CK.out.mono ?_); rintro e w1 ⟨rfl, hb⟩; have HB := Lib.hid hb; have CO := Lib.hid (deck_of7 (c := c) HK.out (Nums.below HNm.out hb)); clear hb)
    | (go_at_call 18; (with_reducible refine CO.out.mono ?_); rintro e w2 ⟨rfl, hd2⟩; have CC := Lib.hid (deck_cfg7 hd2); clear hd2)
    | (go_at_call 19; (with_reducible refine CC.out.mono ?_); rintro e w3 ⟨cf, AI, N, cI, rfl, hok, hN, ho3, hb3⟩; have HB3 := Lib.hid (HB.out.trans (hb3.mono HB.out.size)); have HI3 := Lib.hid (own_insM ho3); have HOC := Lib.hid (ok_cfgI hok); have HNN := Lib.hid hN; have HPP : Hid (putP cf = (planB cf 6, 0)) := Lib.hid (by unfold putP; rw [ok_plan hok]; rfl); obtain ⟨L, hL⟩ : ∃ L, L = planB cf 6 := ⟨_, rfl⟩; have HOB : Hid (Oct L) := Lib.hid (by rw [hL]; exact planB_oct cf 6); have HRD : Hid (readP L = some cf) := Lib.hid (by rw [hL]; exact readP_put (ok_cfgI hok) (ok_plan hok)); obtain ⟨n5, hn5⟩ : ∃ n5, n5 = L.length := ⟨_, rfl⟩; have hn230 : n5 ≤ 230 := (by have h1 := planB_len (ok_cfgI hok) (by have := hok.cnt; omega) 6; have := hok.cnt; rw [← hL, ← hn5] at h1; omega); have hps : 0 < n5 := (by rw [hn5]; exact pos_read HRD.out); rw [← hL] at HPP; have HN5 := Lib.hid hn5; simp only [Cfg.v]; have hw4 : Below w3.heap.size w3 (w3.alloc (.cells #[.slice AI N cI, .int .i64 cf.skin, .int .i64 cf.times, .int .i64 cf.port, .int .i64 cf.bid, .int .i64 cf.lot, .int .i64 cf.hedge] 24)) := (Below.refl _ _).alloc (Nat.le_refl _) _; have HC4 : Hid (CfAt (w3.alloc (.cells #[.slice AI N cI, .int .i64 cf.skin, .int .i64 cf.times, .int .i64 cf.port, .int .i64 cf.bid, .int .i64 cf.lot, .int .i64 cf.hedge] 24)) w3.heap.size cf (.slice AI N cI)) := Lib.hid (Rec.new w3 _ (cf.cells (.slice AI N cI)) _ rfl); have HI4 := Lib.hid (HI3.out.below hw4); have HB4 := Lib.hid (HB3.out.trans (hw4.mono HB3.out.size)); have CP := Lib.hid (put_some HOC.out HPP.out HNN.out HI4.out cI); (obtain ⟨k, hkk⟩ : ∃ k, k = at' % n5 := ⟨_, rfl⟩); (have hkn : k < n5 := (by rw [hkk]; exact Nat.mod_lt _ hps)); (have hrem : (at' : Int).tmod (n5 : Int) = (k : Int) := (by rw [hkk]; rfl)); (have hrem2 : (at' : Int) % (n5 : Int) = (k : Int) := (by rw [hkk]; rfl)); have hn50 : ((n5 : Int) == 0) = false := (beq_eq_false_iff_ne.2 (by omega)); clear hok hN ho3 hb3 hL hn5 hw4 hkk)
    | (go_at_call 9; (with_reducible refine CP.out.mono ?_); rintro r wp ⟨v5, rfl, ho5, hb5⟩; (obtain ⟨A5, c5, rfl, hy5, hc5, hcm5, hA5, hj5⟩ := ho5.form); have HBp := Lib.hid (HB4.out.trans (hb5.mono HB4.out.size)); have HCp := Lib.hid (CfAt.keep HC4.out hb5); have HIp := Lib.hid (HI4.out.below hb5); rw [← HN5.out] at hc5 ⊢; have HYp := Lib.hid hy5; have HA5 := Lib.hid hA5; have CRd := Lib.hid (read_some (preadplan_any A5 L n5 c5 wp HN5.out hy5 HOB.out (by omega) hc5) HRD.out); clear ho5 hb5 hy5 hj5 hA5 hcm5)
    | (go_at_call 20; (with_reducible refine CRd.out.mono ?_); rintro r wq ⟨Aq, mq, cq, hmq, rfl, hiq, hbq⟩; have hw7 : Below wq.heap.size wq (wq.alloc (.cells #[.slice Aq mq cq, .int .i64 cf.skin, .int .i64 cf.times, .int .i64 cf.port, .int .i64 cf.bid, .int .i64 cf.lot, .int .i64 cf.hedge] 24)) := (Below.refl _ _).alloc (Nat.le_refl _) _; have HCq : Hid (CfAt (wq.alloc (.cells #[.slice Aq mq cq, .int .i64 cf.skin, .int .i64 cf.times, .int .i64 cf.port, .int .i64 cf.bid, .int .i64 cf.lot, .int .i64 cf.hedge] 24)) wq.heap.size cf (.slice Aq mq cq)) := Lib.hid (Rec.new wq _ (cf.cells (.slice Aq mq cq)) _ rfl); have hb7 := hbq.trans (hw7.mono hbq.size); have HC7 := Lib.hid (CfAt.keep HCp.out hb7); have HI7 := Lib.hid (HIp.out.below hb7); have HY7 := Lib.hid (HYp.out.below hb7); have HB7 := Lib.hid (HBp.out.trans (hb7.mono HBp.out.size)); have CS := Lib.hid (psame_any cf cf AI Aq N mq cI cq _ HNN.out hmq HI7.out (hiq.below hw7) (by have := HNN.out; have := HN5.out; have h1 := HOC.out; exact len_small HRD.out HNN.out HOB.out)); rw [decide_eq_true (rfl : cf = cf)] at CS; simp only [Cfg.v] at CS; obtain ⟨a0, a1, a2, a3, a4, a5, a6⟩ := HC7.out.reads; obtain ⟨e0, e1, e2, e3, e4, e5, e6⟩ := HCq.out.reads; clear hbq hw7 hb7 hiq hmq)
    | (go_at_call 13; (with_reducible refine CS.out.mono ?_); rintro r w5 ⟨rfl, hb⟩; have HB5 := Lib.hid (HB7.out.trans (hb.mono HB7.out.size)); have HY5 := Lib.hid (HY7.out.below hb); clear hb)
    | (at_builtin; refine wpList_app rfl (.tmp 57) (.tmp 58) rfl w5.heap.size _ [] rfl (ownB_lit w5 _ _ [] (Nat.le_refl _) ?c1 rfl _ rfl _ rfl) _ _ _ L rfl HN5.out (HY5.out.below ?c3) HA5.out ?c6 ?c7 ?_))
  case c1 => simp
  case c3 => exact (Below.refl _ _).alloc (Nat.le_refl _) _
  case c6 => have := HN5.out; simp; omega
  case c7 => simp
  intro v6 w6 ho6 hg6 _
  have hb6 : Below w5.heap.size w5 w6 := below_one (grown_below (ownB_lit w5 w5.heap.size #[] [] (Nat.le_refl _) (by simp) rfl _ rfl 0 rfl) hg6 (by simp))
  have HO6 : Hid (OwnB w6 w5.heap.size v6 L) := Lib.hid ho6
  obtain ⟨A6, c6, rfl, hy6, hc6, hcm6, hA6, hj6⟩ := OwnB.form HO6.out
  rw [← HN5.out] at hc6 HO6 ⊢
  obtain ⟨g6, off6, rfl, hq6⟩ := hy6 (by rw [← HN5.out]; exact hps)
  obtain rfl : off6 = 0 := by
    rcases HO6.out.2 with ⟨e, _⟩ | ⟨g', cap, cur, e, _⟩
    · cases e
    · injection e with ea eb ec; injection ea with ea; injection ea with eg eo
  have HB6 := Lib.hid (HB5.out.trans (hb6.mono HB5.out.size))
  have HY56 := Lib.hid (HY5.out.below hb6)
  have hg6b := hj6 g6 0 none rfl
  clear ho6 hg6 hb6 hy6 hq6 hj6 hA6 CP CK CO CC HB4 HB3 HI3 HC4 HI4 CRd CS HCp HIp HYp HBp HC7 HI7 HY7 HB7 HCq HPP HOC HNN HRD a0 a1 a2 a3 a4 a5 a6 e0 e1 e2 e3 e4 e5 e6
  have hkL : k < L.length := by rw [← HN5.out]; exact hkn
  rcases (by omega : q = 0 ∨ q = 1 ∨ q = 2) with rfl | rfl | rfl
  · obtain ⟨y0, hy0⟩ : ∃ y0, y0 = L.getD k 0 := ⟨_, rfl⟩
    have hy8 : y0 < 256 := by rw [hy0]; exact oct_at HOB.out k
    obtain ⟨u, hu⟩ : ∃ u, u = y0 ^^^ by' := ⟨_, rfl⟩
    have hu8 : u < 256 := by rw [hu]; exact xor_lt8 hy8 hby
    have hxor : bits .xor .u8 (y0 : Int) (by' : Int) = (u : Int) := by rw [u8_xor_nat y0 by' (by omega) (by omega), hu]
    obtain ⟨hyt, hfz, hcell⟩ := HO6.out.set k u hkL
    rw [← hy0] at hcell
    have HYt := Lib.hid hyt
    have HOt : Hid (Oct (L.set k u)) := Lib.hid (fun z hz => by
      rcases List.mem_or_eq_of_mem_set hz with h | rfl
      · exact HOB.out z h
      · omega)
    have HNt : Hid (n5 = (L.set k u).length) := Lib.hid (by rw [List.length_set]; exact HN5.out)
    have hct := hc6
    have HBt : Hid (Below w.heap.size w (w6.setCell ⟨g6, k, none⟩ (.int .u8 (u : Int)))) := Lib.hid (HB6.out.setCell (p := ⟨g6, k, none⟩) (by have := HB5.out.size; simp only; omega) _)
    clear hy0 hu hyt HO6 HY56 HOB HN5 HB5 HB6 HY5 HA5
    have CSt := Lib.hid (fun W' (h' : Below (w6.setCell ⟨g6, k, none⟩ (.int .u8 (u : Int))).heap.size (w6.setCell ⟨g6, k, none⟩ (.int .u8 (u : Int))) W') => preads_walk (some ⟨g6, 0, none⟩) (L.set k u) c6 n5 W' HNt.out (HYt.out.below h') HOt.out (by omega) hct)
    rcases tail7 HOt.out with hro | ⟨y, hro, hok, hpe⟩
    · have CRt := Lib.hid (read_none (preadplan_any (some ⟨g6, 0, none⟩) (L.set k u) n5 c6 (w6.setCell ⟨g6, k, none⟩ (.int .u8 (u : Int))) HNt.out HYt.out HOt.out (by omega) hct) hro)
      clear hro
      go_wp2_with (first
        | (go_at_call 20; (with_reducible refine CRt.out.mono ?_); rintro r w8 ⟨A8, c8, rfl, hb8⟩; have HB8 : Hid (Below (w6.setCell ⟨g6, k, none⟩ (.int .u8 (u : Int))).heap.size (w6.setCell ⟨g6, k, none⟩ (.int .u8 (u : Int))) (w8.alloc (.cells #[.slice A8 0 c8, .int .i64 0, .int .i64 0, .int .i64 0, .int .i64 0, .int .i64 0, .int .i64 0] 24))) := (Lib.hid (hb8.alloc hb8.size _)); clear hb8)
        | (go_at_call 5; (with_reducible refine (CSt.out _ HB8.out).mono ?_); rintro r w9 ⟨rfl, hb9⟩; have HB9 := Lib.hid (HBt.out.trans ((HB8.out.trans (hb9.mono HB8.out.size)).mono HBt.out.size)); clear hb9))
      go_ret
      exact ⟨rfl, HB9.out⟩
    · have CRt := Lib.hid (read_some (preadplan_any (some ⟨g6, 0, none⟩) (L.set k u) n5 c6 (w6.setCell ⟨g6, k, none⟩ (.int .u8 (u : Int))) HNt.out HYt.out HOt.out (by omega) hct) hro)
      have HPs : Hid (∀ W' base v, OwnB W' base v (L.set k u) → (convert 26 9 v).run Try.prog W' = .ok (.string (bstr (L.set k u))) W') := Lib.hid (fun W' base v h => str_own h (Below.refl _ _))
      have HCs : Hid (∀ W', Below (w6.setCell ⟨g6, k, none⟩ (.int .u8 (u : Int))).heap.size (w6.setCell ⟨g6, k, none⟩ (.int .u8 (u : Int))) W' → (convert 26 9 (.slice (some ⟨g6, 0, none⟩) n5 c6)).run Try.prog W' = .ok (.string (bstr (L.set k u))) W') := Lib.hid (fun W' hW => run_bstr W' (some ⟨g6, 0, none⟩) (L.set k u) n5 c6 HNt.out (HYt.out.below hW))
      have HOK := Lib.hid hok
      have HPE := Lib.hid hpe
      clear hro hok hpe
      go_wp2_with (first
        | (go_at_call 20; (with_reducible refine CRt.out.mono ?_); rintro r w8 ⟨A8, m8, c8, hm8, rfl, hi8, hb8⟩; have HB8 : Hid (Below (w6.setCell ⟨g6, k, none⟩ (.int .u8 (u : Int))).heap.size (w6.setCell ⟨g6, k, none⟩ (.int .u8 (u : Int))) (w8.alloc (.cells #[.slice A8 m8 c8, .int .i64 y.skin, .int .i64 y.times, .int .i64 y.port, .int .i64 y.bid, .int .i64 y.lot, .int .i64 y.hedge] 24))) := (Lib.hid (hb8.alloc hb8.size _)); have CPt := Lib.hid (put_some HOK.out HPE.out hm8 (hi8.below ((Below.refl w8.heap.size w8).alloc (Nat.le_refl _) (.cells #[.slice A8 m8 c8, .int .i64 y.skin, .int .i64 y.times, .int .i64 y.port, .int .i64 y.bid, .int .i64 y.lot, .int .i64 y.hedge] 24))) c8); clear hb8 hi8 hm8)
        | (go_at_call 9; (with_reducible refine CPt.out.mono ?_); rintro r wa ⟨va, rfl, hoa, hba⟩; have HBa := Lib.hid (HB8.out.trans (hba.mono HB8.out.size)); have hsa := HPs.out _ _ _ hoa; have hsc := HCs.out _ HBa.out; (obtain ⟨Aa, ca, rfl, hja⟩ := hoa.form); rw [← HNt.out] at hsa; rw [← HNt.out]; clear hoa hba hja)
        | (go_at_call 5; (with_reducible refine (CSt.out _ HBa.out).mono ?_); rintro r w9 ⟨rfl, hb9⟩; have HB9 := Lib.hid (HBt.out.trans ((HBa.out.trans (hb9.mono HBa.out.size)).mono HBt.out.size)); clear hb9))
      go_ret
      exact ⟨rfl, HB9.out⟩
  · obtain ⟨AX, hAX⟩ : ∃ AX, (if c6 = k + 1 then (some ⟨g6, 0, none⟩ : Option Addr) else some ⟨g6, k + 1, none⟩) = AX := ⟨_, rfl⟩
    have HSRC : Hid (Byts w6.drew AX (L.drop (k + 1))) := Lib.hid (by
      obtain ⟨A', c', e', hB', _⟩ := HO6.out.drew.form
      injection e' with e1 e2 e3
      subst e1
      rw [← hAX]
      split
      · rename_i hcap
        exact byts_none _ _ (by rw [List.length_drop, ← HN5.out]; omega)
      · have := byts_drop (a := k + 1) hB'
        rw [Nat.zero_add] at this
        exact this)
    have HAN : Hid (AX = none → c6 - (k + 1) = 0) := Lib.hid (by
      intro h
      rw [← hAX] at h
      split at h <;> cases h)
    have HF : Hid (OwnB w6.drew w5.heap.size (.slice (some ⟨g6, 0, none⟩) k c6) (L.take k)) := Lib.hid ((HO6.out.front k (by omega)).drew)
    have HS : Hid (Byts w6.drew AX (L.drop (k + 1))) := Lib.hid (HSRC.out)
    have HLT : Hid ((L.take k).length + (L.drop (k + 1)).length ≤ 140737488355328) := Lib.hid (by rw [List.length_take, List.length_drop, ← HN5.out]; omega)
    have HNS : Hid (n5 - (k + 1) = (L.drop (k + 1)).length) := Lib.hid (by rw [List.length_drop, ← HN5.out])
    have HBS : Hid (w5.heap.size ≤ w6.drew.heap.size) := Lib.hid (by have := (HO6.out.lt g6 rfl).2; have := (HO6.out.lt g6 rfl).1; show w5.heap.size ≤ w6.heap.size; omega)
    obtain ⟨m7, hm7⟩ : ∃ m7, (L.take k).length + (L.drop (k + 1)).length = m7 := ⟨_, rfl⟩
    have HN7 := Lib.hid hm7
    have hm71 : m7 + 1 = n5 := by rw [← hm7, List.length_take, List.length_drop, ← HN5.out]; omega
    clear hm7
    have hkc : k ≤ c6 := by omega
    have hk1 : k + 1 ≤ n5 := by omega
    have hk2 : 0 ≤ (k : Int) + 1 := by omega
    have hk3 : (k : Int) + 1 ≤ (n5 : Int) := by omega
    have hw1 : IntKind.i64.wrap ((k : Int) + 1) = (k : Int) + 1 := wrap_id (by unfold I64; omega)
    clear HY56 HY5 HA5 HSRC
    go_wp2
    go_region_law (refine step_app rfl (.tmp 87) (.tmp 91) rfl w5.heap.size (.slice (some ⟨g6, 0, none⟩) k c6) (L.take k) (by first | (simp [Act.eval]; done) | (simp [Act.eval, Act.put]; done)) HF.out AX (n5 - (k + 1)) (c6 - (k + 1)) (L.drop (k + 1)) (by first | (simp [Act.eval]; done) | (simp [Act.eval, Act.put]; done)) HNS.out HS.out HAN.out HLT.out HBS.out ?_; intro A7 n7 c7 w7 ho7 hn7 hg7 hm7; rw [HN7.out] at hn7; subst hn7; have hb7 := (grown_below HF.out hg7 HBS.out); have HO7 := Lib.hid ho7; have HBt := Lib.hid (HB6.out.trans ((below_of_drew hb7).mono HB5.out.size)); clear ho7 hg7 hm7 hb7)
    obtain ⟨A8, c8, e8, hy8, hc8, _⟩ := HO7.out.form
    injection e8 with e81 e82 e83
    subst e81; subst e83
    have HYt := Lib.hid hy8
    have HOt : Hid (Oct (L.take k ++ L.drop (k + 1))) := Lib.hid (fun z hz => by
      rcases List.mem_append.1 hz with h | h
      · exact HOB.out z (List.mem_of_mem_take h)
      · exact HOB.out z (List.mem_of_mem_drop h))
    have HNt : Hid (n7 = (L.take k ++ L.drop (k + 1)).length) := Lib.hid (by rw [List.length_append]; exact HN7.out.symm)
    have hct : n7 ≤ c7 := by rw [HNt.out]; exact hc8
    clear e82 hy8 hc8 HO7 HF HS HLT HNS HBS HN7 HO6 HOB HN5 HB5 HB6 hAX HAN
    generalize L.take k ++ L.drop (k + 1) = Lt at *
    have CSt := Lib.hid (fun W' (h' : Below w7.heap.size w7 W') => preads_walk A7 Lt c7 n7 W' HNt.out (HYt.out.below h') HOt.out (by omega) hct)
    rcases tail7 HOt.out with hro | ⟨y, hro, hok, hpe⟩
    · have CRt := Lib.hid (read_none (preadplan_any A7 Lt n7 c7 w7 HNt.out HYt.out HOt.out (by omega) hct) hro)
      clear hro
      go_wp2_with (first
        | (go_at_call 20; (with_reducible refine CRt.out.mono ?_); rintro r w8 ⟨A8, c8, rfl, hb8⟩; have HB8 : Hid (Below w7.heap.size w7 (w8.alloc (.cells #[.slice A8 0 c8, .int .i64 0, .int .i64 0, .int .i64 0, .int .i64 0, .int .i64 0, .int .i64 0] 24))) := (Lib.hid (hb8.alloc hb8.size _)); clear hb8)
        | (go_at_call 5; (with_reducible refine (CSt.out _ HB8.out).mono ?_); rintro r w9 ⟨rfl, hb9⟩; have HB9 := Lib.hid (HBt.out.trans ((HB8.out.trans (hb9.mono HB8.out.size)).mono HBt.out.size)); clear hb9))
      go_ret
      exact ⟨rfl, HB9.out⟩
    · have CRt := Lib.hid (read_some (preadplan_any A7 Lt n7 c7 w7 HNt.out HYt.out HOt.out (by omega) hct) hro)
      have HPs : Hid (∀ W' base v, OwnB W' base v Lt → (convert 26 9 v).run Try.prog W' = .ok (.string (bstr Lt)) W') := Lib.hid (fun W' base v h => str_own h (Below.refl _ _))
      have HCs : Hid (∀ W', Below w7.heap.size w7 W' → (convert 26 9 (.slice A7 n7 c7)).run Try.prog W' = .ok (.string (bstr Lt)) W') := Lib.hid (fun W' hW => run_bstr W' A7 Lt n7 c7 HNt.out (HYt.out.below hW))
      have HOK := Lib.hid hok
      have HPE := Lib.hid hpe
      clear hro hok hpe
      go_wp2_with (first
        | (go_at_call 20; (with_reducible refine CRt.out.mono ?_); rintro r w8 ⟨A8, m8, c8, hm8, rfl, hi8, hb8⟩; have HB8 : Hid (Below w7.heap.size w7 (w8.alloc (.cells #[.slice A8 m8 c8, .int .i64 y.skin, .int .i64 y.times, .int .i64 y.port, .int .i64 y.bid, .int .i64 y.lot, .int .i64 y.hedge] 24))) := (Lib.hid (hb8.alloc hb8.size _)); have CPt := Lib.hid (put_some HOK.out HPE.out hm8 (hi8.below ((Below.refl w8.heap.size w8).alloc (Nat.le_refl _) (.cells #[.slice A8 m8 c8, .int .i64 y.skin, .int .i64 y.times, .int .i64 y.port, .int .i64 y.bid, .int .i64 y.lot, .int .i64 y.hedge] 24))) c8); clear hb8 hi8 hm8)
        | (go_at_call 9; (with_reducible refine CPt.out.mono ?_); rintro r wa ⟨va, rfl, hoa, hba⟩; have HBa := Lib.hid (HB8.out.trans (hba.mono HB8.out.size)); have hsa := HPs.out _ _ _ hoa; have hsc := HCs.out _ HBa.out; (obtain ⟨Aa, ca, rfl, hja⟩ := hoa.form); rw [← HNt.out] at hsa; rw [← HNt.out]; clear hoa hba hja)
        | (go_at_call 5; (with_reducible refine (CSt.out _ HBa.out).mono ?_); rintro r w9 ⟨rfl, hb9⟩; have HB9 := Lib.hid (HBt.out.trans ((HBa.out.trans (hb9.mono HBa.out.size)).mono HBt.out.size)); clear hb9))
      go_ret
      exact ⟨rfl, HB9.out⟩
  · obtain ⟨g5, o5, rfl, hj5⟩ := HY56.out (by rw [← HN5.out]; exact hps)
    have hd0 : Below w6.heap.size w6 w6.drew := ⟨rfl, rfl, rfl, Nat.le_refl _, fun _ _ => rfl⟩
    have HBa : Hid (Below w6.heap.size w6 (w6.drew.alloc (.cells #[] 5))) := Lib.hid (hd0.alloc (Nat.le_refl _) _)
    have HBb : Hid (Below w6.heap.size w6 ((w6.drew.alloc (.cells #[] 5)).alloc (.cells #[.int .u8 (by' : Int)] 5))) := Lib.hid (HBa.out.alloc HBa.out.size _)
    have HBc : Hid (Below w6.heap.size w6 ((w6.drew.alloc (.cells #[.int .u8 (by' : Int)] 5)).alloc (.cells #[] 5))) := Lib.hid ((hd0.alloc (Nat.le_refl _) _).alloc (by simp) _)
    have HOa : Hid (OwnB (w6.drew.alloc (.cells #[] 5)) w6.heap.size (.slice (some ⟨w6.heap.size, 0, none⟩) 0 0) []) := Lib.hid (ownB_lit w6.drew _ _ [] (Nat.le_refl _) (by simp) rfl _ rfl _ rfl)
    have HOb : Hid (OwnB ((w6.drew.alloc (.cells #[] 5)).alloc (.cells #[.int .u8 (by' : Int)] 5)) w6.heap.size (.slice (some ⟨w6.heap.size, 0, none⟩) 0 0) []) := Lib.hid (HOa.out.alloc _)
    have HOc : Hid (OwnB ((w6.drew.alloc (.cells #[.int .u8 (by' : Int)] 5)).alloc (.cells #[] 5)) w6.heap.size (.slice (some ⟨w6.heap.size + 1, 0, none⟩) 0 0) []) := Lib.hid (ownB_lit _ _ _ [] (by simp) (by simp) rfl _ (by simp) _ rfl)
    have HZa : Hid (w6.heap.size ≤ (w6.drew.alloc (.cells #[] 5)).heap.size) := Lib.hid (by simp)
    have HZb : Hid (w6.heap.size ≤ ((w6.drew.alloc (.cells #[] 5)).alloc (.cells #[.int .u8 (by' : Int)] 5)).heap.size) := Lib.hid (by simp; omega)
    have HZc : Hid (w6.heap.size ≤ ((w6.drew.alloc (.cells #[.int .u8 (by' : Int)] 5)).alloc (.cells #[] 5)).heap.size) := Lib.hid (by simp; omega)
    have HYk : Hid (Byts w6 (some ⟨g5, o5, none⟩) (L.take k)) := Lib.hid (byts_take HY56.out k)
    have HYd : Hid (Byts w6 (some ⟨g5, o5 + k, none⟩) (L.drop k)) := Lib.hid (byts_drop HY56.out)
    have HYa := Lib.hid (HYk.out.below HBa.out)
    have HYb := Lib.hid (HYk.out.below HBb.out)
    have HYc := Lib.hid (HYk.out.below HBc.out)
    have H53b : Hid (Byts ((w6.drew.alloc (.cells #[] 5)).alloc (.cells #[.int .u8 (by' : Int)] 5)) (some ⟨w6.heap.size + 1, 0, none⟩) [by']) := Lib.hid (byts_new _ _ _ [by'] rfl _ (by simp))
    have H53c : Hid (Byts ((w6.drew.alloc (.cells #[.int .u8 (by' : Int)] 5)).alloc (.cells #[] 5)) (some ⟨w6.heap.size, 0, none⟩) [by']) := Lib.hid ((byts_new w6.drew 5 #[.int .u8 (by' : Int)] [by'] rfl _ rfl).below ((Below.refl _ _).alloc (Nat.le_refl _) _))
    have HNk : Hid (k = (L.take k).length) := Lib.hid (by rw [List.length_take, ← HN5.out]; omega)
    have HNd : Hid (n5 - k = (L.drop k).length) := Lib.hid (by rw [List.length_drop, ← HN5.out])
    have HAk : Hid ((some ⟨g5, o5, none⟩ : Option Addr) = none → c5 = 0) := Lib.hid (by intro e; cases e)
    have HLk : Hid (([] : List Nat).length + (L.take k).length ≤ 140737488355328) := Lib.hid (by rw [← HNk.out]; simp; omega)
    have HLm : Hid ((L.take k).length + [by'].length ≤ 140737488355328) := Lib.hid (by rw [← HNk.out]; simp; omega)
    have HNm : Hid ((L.take k).length + [by'].length = k + 1) := Lib.hid (by rw [← HNk.out]; rfl)
    have HLd : Hid ((L.take k ++ [by']).length + (L.drop k).length ≤ 140737488355328) := Lib.hid (by rw [List.length_append, ← HNk.out, ← HNd.out]; simp; omega)
    obtain ⟨m9, hm9⟩ : ∃ m9, (L.take k ++ [by']).length + (L.drop k).length = m9 := ⟨_, rfl⟩
    have HNe := Lib.hid hm9
    have hm91 : m9 ≤ 240 := by rw [← hm9, List.length_append, ← HNk.out, ← HNd.out]; simp; omega
    have hkc5 : k ≤ c5 := by omega
    have hkz : 0 ≤ (k : Int) ∧ (k : Int) ≤ (n5 : Int) := by omega
    have hckne : ¬ c5 = k := by omega
    have hc50 : ¬ c5 = 0 := by omega
    clear hm9 hj5 HY56 HY5 HA5 HO6 HB5 hd0 HYk
    go_wp2
    go_region_law (first
      | (refine step_app rfl (.tmp 62) (.tmp 65) rfl w6.heap.size (.slice (some ⟨w6.heap.size, 0, none⟩) 0 0) [] (by first | (simp [Act.eval]; done) | (simp [Act.eval, Act.put]; done)) HOa.out (some ⟨g5, o5, none⟩) k c5 (L.take k) (by first | (simp [Act.eval]; done) | (simp [Act.eval, Act.put]; done)) HNk.out HYa.out HAk.out HLk.out HZa.out ?_; intro A7 n7 c7 w7 ho7 hn7 hg7 hm7; rw [List.length_nil, Nat.zero_add, ← HNk.out] at hn7; subst hn7; have HB7 := Lib.hid (HBa.out.trans (grown_below HOa.out hg7 HZa.out)); have HO7 := Lib.hid (show OwnB w7 w6.heap.size _ (L.take n7) from ho7); clear ho7 hg7 hm7)
      | (refine step_app rfl (.tmp 62) (.tmp 65) rfl w6.heap.size (.slice (some ⟨w6.heap.size, 0, none⟩) 0 0) [] (by first | (simp [Act.eval]; done) | (simp [Act.eval, Act.put]; done)) HOb.out (some ⟨g5, o5, none⟩) k c5 (L.take k) (by first | (simp [Act.eval]; done) | (simp [Act.eval, Act.put]; done)) HNk.out HYb.out HAk.out HLk.out HZb.out ?_; intro A7 n7 c7 w7 ho7 hn7 hg7 hm7; rw [List.length_nil, Nat.zero_add, ← HNk.out] at hn7; subst hn7; have HB7 := Lib.hid (HBb.out.trans (grown_below HOb.out hg7 HZb.out)); have HO7 := Lib.hid (show OwnB w7 w6.heap.size _ (L.take n7) from ho7); have H53 : Hid (Byts w7 (some ⟨w6.heap.size + 1, 0, none⟩) [by']) := (Lib.hid (byts_grown H53b.out hg7 (by simp [Value.ownBlock]))); clear ho7 hg7 hm7)
      | (refine step_app rfl (.tmp 62) (.tmp 65) rfl w6.heap.size (.slice (some ⟨w6.heap.size + 1, 0, none⟩) 0 0) [] (by first | (simp [Act.eval]; done) | (simp [Act.eval, Act.put]; done)) HOc.out (some ⟨g5, o5, none⟩) k c5 (L.take k) (by first | (simp [Act.eval]; done) | (simp [Act.eval, Act.put]; done)) HNk.out HYc.out HAk.out HLk.out HZc.out ?_; intro A7 n7 c7 w7 ho7 hn7 hg7 hm7; rw [List.length_nil, Nat.zero_add, ← HNk.out] at hn7; subst hn7; have HB7 := Lib.hid (HBc.out.trans (grown_below HOc.out hg7 HZc.out)); have HO7 := Lib.hid (show OwnB w7 w6.heap.size _ (L.take n7) from ho7); have H53 : Hid (Byts w7 (some ⟨w6.heap.size, 0, none⟩) [by']) := (Lib.hid (byts_grown H53c.out hg7 (by simp [Value.ownBlock]))); clear ho7 hg7 hm7)
      | (refine step_app rfl (.tmp 66) (.tmp 68) rfl w6.heap.size (.slice A7 n7 c7) (L.take n7) (by first | (simp [Act.eval]; done) | (simp [Act.eval, Act.put]; done)) (HO7.out.alloc _) (some ⟨w7.heap.size, 0, none⟩) 1 1 [by'] (by first | (simp [Act.eval]; done) | (simp [Act.eval, Act.put]; done)) rfl (byts_new _ _ _ [by'] rfl _ rfl) (by intro e; cases e) HLm.out (by have := HB7.out.size; simp; omega) ?_; intro A8 n8 c8 w8 ho8 hn8 hg8 hm8; rw [HNm.out] at hn8; subst hn8; have HO8 := Lib.hid ho8; have HB8 := Lib.hid ((HB7.out.alloc HB7.out.size _).trans (grown_below0 (HO7.out.alloc _) hg8 (by have := HB7.out.size; simp; omega))); clear ho8 hg8 hm8)
      | (refine step_app rfl (.tmp 66) (.tmp 68) rfl w6.heap.size (.slice A7 n7 c7) (L.take n7) (by first | (simp [Act.eval]; done) | (simp [Act.eval, Act.put]; done)) HO7.out (some ⟨w6.heap.size + 1, 0, none⟩) 1 1 [by'] (by first | (simp [Act.eval]; done) | (simp [Act.eval, Act.put]; done)) rfl H53.out (by intro e; cases e) HLm.out HB7.out.size ?_; intro A8 n8 c8 w8 ho8 hn8 hg8 hm8; rw [HNm.out] at hn8; subst hn8; have HO8 := Lib.hid ho8; have HB8 := Lib.hid (HB7.out.trans (grown_below0 HO7.out hg8 HB7.out.size)); clear ho8 hg8 hm8)
      | (refine step_app rfl (.tmp 66) (.tmp 68) rfl w6.heap.size (.slice A7 n7 c7) (L.take n7) (by first | (simp [Act.eval]; done) | (simp [Act.eval, Act.put]; done)) HO7.out (some ⟨w6.heap.size, 0, none⟩) 1 1 [by'] (by first | (simp [Act.eval]; done) | (simp [Act.eval, Act.put]; done)) rfl H53.out (by intro e; cases e) HLm.out HB7.out.size ?_; intro A8 n8 c8 w8 ho8 hn8 hg8 hm8; rw [HNm.out] at hn8; subst hn8; have HO8 := Lib.hid ho8; have HB8 := Lib.hid (HB7.out.trans (grown_below0 HO7.out hg8 HB7.out.size)); clear ho8 hg8 hm8)
      | (refine step_app rfl (.tmp 69) (.tmp 72) rfl w6.heap.size (.slice A8 (n7 + 1) c8) (L.take n7 ++ [by']) (by simp [Act.eval]; done) HO8.out (some ⟨g5, o5 + n7, none⟩) (n5 - n7) (c5 - n7) (L.drop n7) (by simp [Act.eval]; done) HNd.out (HYd.out.below HB8.out) (by intro e; cases e) HLd.out HB8.out.size ?_; intro A9 n9 c9 w9 ho9 hn9 hg9 hm9; rw [HNe.out] at hn9; subst hn9; have HO9 := Lib.hid ho9; have HBt := Lib.hid (HB6.out.trans ((HB8.out.trans (grown_below HO8.out hg9 HB8.out.size)).mono HB6.out.size)); clear ho9 hg9 hm9))
    all_goals
      obtain ⟨A8', c8', e8, hy8, hc8, hcm8, hA8, hj8⟩ := HO9.out.form
      injection e8 with e81 e82 e83
      subst e81; subst e83
      have HYt := Lib.hid hy8
      have HOt : Hid (Oct (L.take n7 ++ [by'] ++ L.drop n7)) := Lib.hid (fun z hz => by
        rcases List.mem_append.1 hz with h | h
        · rcases List.mem_append.1 h with h | h
          · exact HOB.out z (List.mem_of_mem_take h)
          · rw [List.mem_singleton.1 h]; omega
        · exact HOB.out z (List.mem_of_mem_drop h))
      have HNt : Hid (n9 = (L.take n7 ++ [by'] ++ L.drop n7).length) := Lib.hid (by rw [List.length_append]; exact HNe.out.symm)
      have hct : n9 ≤ c9 := by rw [HNt.out]; exact hc8
      clear e82 hy8 hc8 hcm8 hA8 hj8 HO9 HOB HN5 HB6 HBa HBb HBc HOa HOb HOc HZa HZb HZc HYd HYa HYb HYc H53b H53c HNk HNd HAk HLk HLm HNm HLd HNe HB7 HO7 HO8 HB8
      generalize L.take n7 ++ [by'] ++ L.drop n7 = Lt at *
      have CSt := Lib.hid (fun W' (h' : Below w9.heap.size w9 W') => preads_walk A9 Lt c9 n9 W' HNt.out (HYt.out.below h') HOt.out (by omega) hct)
      rcases tail7 HOt.out with hro | ⟨y, hro, hok, hpe⟩
      · have CRt := Lib.hid (read_none (preadplan_any A9 Lt n9 c9 w9 HNt.out HYt.out HOt.out (by omega) hct) hro)
        clear hro
        go_wp2_with (first
          | (go_at_call 20; (with_reducible refine CRt.out.mono ?_); rintro r w8 ⟨A8, c8, rfl, hb8⟩; have HB8 : Hid (Below w9.heap.size w9 (w8.alloc (.cells #[.slice A8 0 c8, .int .i64 0, .int .i64 0, .int .i64 0, .int .i64 0, .int .i64 0, .int .i64 0] 24))) := (Lib.hid (hb8.alloc hb8.size _)); clear hb8)
          | (go_at_call 5; (with_reducible refine (CSt.out _ HB8.out).mono ?_); rintro r w9 ⟨rfl, hb9⟩; have HB9 := Lib.hid (HBt.out.trans ((HB8.out.trans (hb9.mono HB8.out.size)).mono HBt.out.size)); clear hb9))
        go_ret
        exact ⟨rfl, HB9.out⟩
      · have CRt := Lib.hid (read_some (preadplan_any A9 Lt n9 c9 w9 HNt.out HYt.out HOt.out (by omega) hct) hro)
        have HPs : Hid (∀ W' base v, OwnB W' base v Lt → (convert 26 9 v).run Try.prog W' = .ok (.string (bstr Lt)) W') := Lib.hid (fun W' base v h => str_own h (Below.refl _ _))
        have HCs : Hid (∀ W', Below w9.heap.size w9 W' → (convert 26 9 (.slice A9 n9 c9)).run Try.prog W' = .ok (.string (bstr Lt)) W') := Lib.hid (fun W' hW => run_bstr W' A9 Lt n9 c9 HNt.out (HYt.out.below hW))
        have HOK := Lib.hid hok
        have HPE := Lib.hid hpe
        clear hro hok hpe
        go_wp2_with (first
          | (go_at_call 20; (with_reducible refine CRt.out.mono ?_); rintro r w8 ⟨A8, m8, c8, hm8, rfl, hi8, hb8⟩; have HB8 : Hid (Below w9.heap.size w9 (w8.alloc (.cells #[.slice A8 m8 c8, .int .i64 y.skin, .int .i64 y.times, .int .i64 y.port, .int .i64 y.bid, .int .i64 y.lot, .int .i64 y.hedge] 24))) := (Lib.hid (hb8.alloc hb8.size _)); have CPt := Lib.hid (put_some HOK.out HPE.out hm8 (hi8.below ((Below.refl w8.heap.size w8).alloc (Nat.le_refl _) (.cells #[.slice A8 m8 c8, .int .i64 y.skin, .int .i64 y.times, .int .i64 y.port, .int .i64 y.bid, .int .i64 y.lot, .int .i64 y.hedge] 24))) c8); clear hb8 hi8 hm8)
          | (go_at_call 9; (with_reducible refine CPt.out.mono ?_); rintro r wa ⟨va, rfl, hoa, hba⟩; have HBa := Lib.hid (HB8.out.trans (hba.mono HB8.out.size)); have hsa := HPs.out _ _ _ hoa; have hsc := HCs.out _ HBa.out; (obtain ⟨Aa, ca, rfl, hja⟩ := hoa.form); rw [← HNt.out] at hsa; rw [← HNt.out]; clear hoa hba hja)
          | (go_at_call 5; (with_reducible refine (CSt.out _ HBa.out).mono ?_); rintro r w9 ⟨rfl, hb9⟩; have HB9 := Lib.hid (HBt.out.trans ((HBa.out.trans (hb9.mono HBa.out.size)).mono HBt.out.size)); clear hb9))
        go_ret
        exact ⟨rfl, HB9.out⟩
end Go.Proofs.Ytldceocbmmidmaa
