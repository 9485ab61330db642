/-
  The walk of novationlaw7.PlanBuckets.
-/
import Derived.Test.YtldceocbmmidmaaOf7
import Derived.Test.YtldceocbmmidmaaKnown7
namespace Go.Proofs.Ytldceocbmmidmaa
open Go Go.RowKit
set_option linter.unusedVariables false

theorem buck_sum (L : List Ins) (h : ∀ i, i < L.length → 0 ≤ (L.getD i Ins.zero).bucket ∧ (L.getD i Ins.zero).bucket ≤ 3) : ∀ n, n ≤ L.length → (buckL L 0 n).length + (buckL L 1 n).length + (buckL L 2 n).length + (buckL L 3 n).length = n := by
  intro n
  induction n with
  | zero => intro _; rfl
  | succ n ih =>
    intro hn
    have h1 := ih (by omega)
    have h2 := h n (by omega)
    rw [buck_succ, buck_succ, buck_succ, buck_succ]
    generalize (L.getD n Ins.zero).bucket = y at *
    rcases (by omega : y = 0 ∨ y = 1 ∨ y = 2 ∨ y = 3) with rfl | rfl | rfl | rfl <;> simp <;> omega
theorem buck_none (L : List Ins) (k : Int) (h : ∀ i, i < L.length → (L.getD i Ins.zero).bucket ≠ k) : ∀ n, n ≤ L.length → buckL L k n = [] := by
  intro n
  induction n with
  | zero => intro _; rfl
  | succ n ih => intro hn; rw [buck_succ, if_neg (h n (by omega)), ih (by omega)]
theorem buck_get (L : List Ins) (k : Int) (n i : Nat) (hi : i < (buckL L k n).length) : (buckL L k n).getD i 0 < n ∧ (L.getD ((buckL L k n).getD i 0) Ins.zero).bucket = k := by
  have hm : (buckL L k n).getD i 0 ∈ buckL L k n := by rw [List.getD_eq_getElem?_getD, List.getElem?_eq_getElem hi]; exact List.getElem_mem hi
  have h := List.mem_filter.1 (show (buckL L k n).getD i 0 ∈ (List.range n).filter _ from hm)
  exact ⟨List.mem_range.1 h.1, by simpa using h.2⟩
theorem buck_lt (L : List Ins) (k : Int) (n i : Nat) (hi : i + 1 < (buckL L k n).length) : (buckL L k n).getD i 0 < (buckL L k n).getD (i + 1) 0 := by
  have hp : (buckL L k n).Pairwise (· < ·) := List.Pairwise.filter _ List.pairwise_lt_range
  have := List.pairwise_iff_getElem.1 hp i (i + 1) (by omega) hi (by omega)
  rw [List.getD_eq_getElem?_getD, List.getElem?_eq_getElem (by omega : i < (buckL L k n).length), List.getD_eq_getElem?_getD, List.getElem?_eq_getElem hi]
  exact this
/-- How many instruments have a bucket below k. -/
def cntB (L : List Ins) : Nat → Nat
  | 0 => 0
  | k + 1 => cntB L k + (buckL L (k : Int) L.length).length
theorem ownN_at {w : World} {base g m c : Nat} {l : List Nat} (h : OwnN w base (.slice (some ⟨g, 0, none⟩) m c) l) {j : Nat} (hj : j < l.length) : w.cell? ⟨g, j, none⟩ = some (.int .i64 ((l.getD j 0 : Nat) : Int)) := by
  obtain ⟨A3, c3, e3, _, _, _, hcs3⟩ := OwnL.form h lay_nat
  obtain ⟨g3, rfl, _, _, hcell3⟩ := hcs3 (by omega)
  injection e3 with e3 _ _
  injection e3 with e3
  injection e3 with e3 _ _
  subst e3
  have := (hcell3 j hj 0 (by omega)).1
  rw [Nat.mul_one, Nat.add_zero] at this
  rw [this, List.getD_eq_getElem?_getD, List.getElem?_eq_getElem hj]
  rfl
theorem cnt_le (L : List Ins) : ∀ k, cntB L k ≤ k * L.length := by
  intro k
  induction k with
  | zero => simp [cntB]
  | succ k ih =>
    have := buck_len L (k : Int) L.length
    rw [cntB, Nat.add_mul]
    omega
theorem cnt_four {cf : Cfg} (h : cf.Ok) : cntB cf.insts 4 = cf.insts.length := by
  have := buck_sum cf.insts (fun i hi => by
    have hm : cf.insts.getD i Ins.zero ∈ cf.insts := by rw [List.getD_eq_getElem?_getD, List.getElem?_eq_getElem hi]; exact List.getElem_mem hi
    have := (h.each _ hm).bucket
    omega) cf.insts.length (Nat.le_refl _)
  simp only [cntB]
  have e0 : ((0 : Nat) : Int) = 0 := rfl
  have e1 : ((1 : Nat) : Int) = 1 := rfl
  have e2 : ((2 : Nat) : Int) = 2 := rfl
  have e3 : ((3 : Nat) : Int) = 3 := rfl
  rw [e0, e1, e2, e3]
  omega
theorem buck_nil {cf : Cfg} (h : cf.Ok) {k : Int} (hk : k < 0 ∨ 3 < k) : buckL cf.insts k cf.insts.length = [] := buck_none cf.insts k (fun i hi e => by
  have hm : cf.insts.getD i Ins.zero ∈ cf.insts := by rw [List.getD_eq_getElem?_getD, List.getElem?_eq_getElem hi]; exact List.getElem_mem hi
  have := (h.each _ hm).bucket
  omega) _ (Nat.le_refl _)
/-- A config in a variable, with its instruments. -/
structure KB (w : World) (bC : Nat) (cf : Cfg) (A : Option Addr) (N c : Nat) (W : World) : Prop where
  ins : InsM W A cf.insts
  at' : CfAt W bC cf (.slice A N c)
  bel : Below w.heap.size w W
theorem KB.keep {w W W' : World} {bC N c : Nat} {cf : Cfg} {A : Option Addr} (h : KB w bC cf A N c W) (hb : Below W.heap.size W W') : KB w bC cf A N c W' := ⟨h.ins.below hb, h.at'.keep hb, h.bel.trans (hb.mono h.bel.size)⟩
theorem KB.start {w W : World} {N c : Nat} {cf : Cfg} {A : Option Addr} (hi : InsM W A cf.insts) (hb : Below w.heap.size w W) : KB w W.heap.size cf A N c (W.alloc (.cells #[.slice A N c, .int .i64 cf.skin, .int .i64 cf.times, .int .i64 cf.port, .int .i64 cf.bid, .int .i64 cf.lot, .int .i64 cf.hedge] 24)) :=
  ⟨hi.below ((Below.refl _ _).alloc (Nat.le_refl _) _), Rec.new W _ (cf.cells (.slice A N c)) _ rfl, hb.alloc hb.size _⟩
theorem unwanted_at {ops : Array Oper} {D : List Nat} {a0 a : Act} {o og : Oper} {g d : Nat} {b : Bool} (ho : Off D a0 a) (hg : o.guard = some (g, b)) (hog : ops[g]? = some og) (hd : og.dst = some d) (hs : d < a0.tmps.size) (hv : a.tmps.getD d undef = .bool (!b)) : ¬ Region.wanted o (yielded ops a.tmps) = true := by
  have hs' : d < a.tmps.size := by rw [ho.size]; exact hs
  have hv' : a.tmps[d]? = some (.bool (!b)) := by
    rw [Array.getD_eq_getD_getElem?, Array.getElem?_eq_getElem hs'] at hv
    rw [Array.getElem?_eq_getElem hs']
    simpa using hv
  unfold Region.wanted yielded
  cases b <;> simp [hg, hog, hd, hv']
set_option maxRecDepth 100000 in
set_option maxHeartbeats 16000000 in
theorem pbuckets_walk (A : Option Addr) (l : List Int) (c n : Nat) (hk : n = l.length) (w : World) (hn : Nums w A l) : Calls Try.prog 7 #[.slice A n c] w fun e w' => e = .returned (.bool true) ∧ Below w.heap.size w w' := by
  have CK := Lib.hid (known_any w)
  have HNm := Lib.hid hn
  have HK := Lib.hid hk
  clear hk hn
  go_enter Try.func7, Try.ntmps7
  go_wp2_with (first
    | (go_at_call 8; (with_reducible refine CK.out.mono ?_); rintro e w1 ⟨rfl, hb⟩; have HB := Lib.hid hb; have CO := Lib.hid (deck_of7 (c := c) HK.out (Nums.below HNm.out hb)); clear hb)
    | (go_at_call 18; (with_reducible refine CO.out.mono ?_); rintro e w2 ⟨rfl, hd2⟩; have CC := Lib.hid (deck_cfg7 hd2); clear hd2)
    | (go_at_call 19; (with_reducible refine CC.out.mono ?_); rintro e w3 ⟨cf, AI, N, cI, rfl, hok, hN, ho3, hb3⟩; have HOK := Lib.hid hok; have HNN := Lib.hid hN; have HO3 := Lib.hid ho3; have HB3 := Lib.hid (HB.out.trans (hb3.mono HB.out.size)); simp only [Cfg.v]; clear hok hN ho3 hb3))
  have HK4 := Lib.hid (KB.start (N := N) (c := cI) (own_insM HO3.out) HB3.out)
  obtain ⟨bC, hbC⟩ : ∃ bC, bC = w3.heap.size := ⟨_, rfl⟩
  have HBC := Lib.hid hbC
  have CB : Hid (∀ (x : Int) W, KB w bC cf AI N cI W → Calls Try.prog 16 #[.agg #[.slice AI N cI, .int .i64 cf.skin, .int .i64 cf.times, .int .i64 cf.port, .int .i64 cf.bid, .int .i64 cf.lot, .int .i64 cf.hedge], .int .i64 x] W (NatsN W (buckL cf.insts x N))) := Lib.hid (fun x W h => by
    have := pbuck_any cf x AI N cI W HNN.out h.ins
    rw [show buckP cf x = buckL cf.insts x N from by unfold buckP; rw [if_pos (ok_plan HOK.out), HNN.out]] at this
    exact this)
  have HN4 : Hid (N ≤ 4 ∧ 1 ≤ N) := Lib.hid (by have := HOK.out.cnt; rw [HNN.out]; omega)
  rw [← hbC] at HK4
  rw [← HBC.out]
  clear CK HNm HK CO CC HB hbC HO3 HB3
  go_loopw [4, 5] (fun nn kk wr => ∃ k : Nat, k ≤ 4 ∧ kk = .int .i64 (k : Int) ∧ nn = .int .i64 ((cntB cf.insts k : Nat) : Int) ∧ Hid (KB w bC cf AI N cI wr)) (fun _ kk _ => 4 - (intOf kk).toNat)
  case atStart => exact ⟨0, by omega, rfl, rfl, HK4⟩
  case round =>
    obtain ⟨k, hk, rfl, rfl, HKr⟩ := hrel
    obtain ⟨a0, a1, a2, a3, a4, a5, a6⟩ := HKr.out.at'.reads
    by_cases hlt : k < 4
    · have CBk := Lib.hid (CB.out (k : Int) wr HKr.out)
      have HC1 : Hid (cntB cf.insts (k + 1) = cntB cf.insts k + (buckL cf.insts (k : Int) N).length) := Lib.hid (by rw [cntB, ← HNN.out])
      have hC0 : cntB cf.insts k ≤ 16 := by
        have h1 := cnt_le cf.insts k
        rw [← HNN.out] at h1
        have h2 : k * N ≤ 4 * 4 := Nat.mul_le_mul (by omega) HN4.out.1
        omega
      have HL5 : Hid ((buckL cf.insts (k : Int) N).length ≤ 4) := Lib.hid (by have := buck_len cf.insts (k : Int) N; have := HN4.out; omega)
      generalize cntB cf.insts k = C0 at *
      go_wp2_with (go_at_call 16; (with_reducible refine CBk.out.mono ?_); rintro r w5 ⟨v5, rfl, ho5, hb5⟩; have HK5 := Lib.hid (HKr.out.keep hb5); obtain ⟨A5, c5, rfl, _, _, _, hcs5⟩ := OwnL.form ho5 lay_nat; obtain ⟨m5, hm5⟩ : ∃ m5, m5 = (buckL cf.insts (k : Int) N).length := ⟨_, rfl⟩; rw [← hm5]; have HM5 := Lib.hid hm5; have HO5 := Lib.hid ho5; have HF5 : Hid (0 < m5 → ∃ g, A5 = some ⟨g, 0, none⟩) := Lib.hid (fun h => (by obtain ⟨g, e, _⟩ := hcs5 (by omega); exact ⟨g, e⟩)); clear ho5 hb5 hcs5 hm5 a0 a1 a2 a3 a4 a5 a6)
      go_loopw [4, 7] (fun nn ii wq => ∃ i : Nat, i ≤ m5 ∧ ii = .int .i64 (i : Int) ∧ nn = .int .i64 ((C0 + i : Nat) : Int) ∧ Hid (Below w5.heap.size w5 wq)) (fun _ ii _ => m5 - (intOf ii).toNat)
      case atStart => exact ⟨0, Nat.zero_le _, rfl, rfl, Lib.hid (Below.refl _ _)⟩
      case round =>
        obtain ⟨i, hi, rfl, rfl, HQ⟩ := hrel
        by_cases hlt2 : i < m5
        · obtain ⟨g5, rfl⟩ := HF5.out (by omega)
          have hil : i < (buckL cf.insts (k : Int) N).length := by rw [← HM5.out]; exact hlt2
          have hm54 : m5 ≤ 4 := by rw [HM5.out]; exact HL5.out
          obtain ⟨ga, gb⟩ := buck_get cf.insts (k : Int) N i hil
          have hO := HO5.out
          rw [← HM5.out] at hO
          obtain ⟨bI, offI, rfl, hci⟩ := HK5.out.ins (by rw [← HNN.out]; omega)
          obtain ⟨y, hy⟩ : ∃ y, y = (buckL cf.insts (k : Int) N).getD i 0 := ⟨_, rfl⟩
          rw [← hy] at ga gb
          have hcell : w5.cell? ⟨g5, i, none⟩ = some (.int .i64 (y : Int)) := by rw [hy]; exact ownN_at hO hil
          obtain ⟨f0, _⟩ := hci y (by rw [← HNN.out]; exact ga)
          rw [gb] at f0
          have f1 := HK5.out.at'.reads.1
          have hN4 := HN4.out.1
          have FX : Hid (∀ W, Below wr.heap.size wr W → W.cell? ⟨g5, i, none⟩ = some (.int .i64 (y : Int)) ∧ W.cell? ⟨bI, offI + y * 4, none⟩ = some (.int .i64 (k : Int)) ∧ W.cell? ⟨bC, 0, none⟩ = some (.slice (some ⟨bI, offI, none⟩) N cI)) := Lib.hid (fun W hW => by
            have hb := HQ.out.trans (hW.mono HQ.out.size)
            exact ⟨(hb.cell (p := ⟨g5, i, none⟩) (block_lt hcell)).trans hcell, (hb.cell (p := ⟨bI, offI + y * 4, none⟩) (block_lt f0)).trans f0, (hb.cell (p := ⟨bC, 0, none⟩) (block_lt f1)).trans f1⟩)
          rcases (by omega : i = 0 ∨ 0 < i) with hi0 | hi0
          · have H0 := Lib.hid hi0
            clear hO hci gb hil f0 f1 hcell hy hi0
            go_wp2
            refine wp_region_dag [26, 27, 28, 29, 30, 31, 32, 33, 34, 35, 36, 37, 38, 39, 40, 41, 42, 43, 44, 45, 46, 47, 48, 49, 50, 51, 52, 53, 54, 55, 56, 57, 58, 59, 60, 61, 62, 63, 64, 65, 66, 67, 68, 69] (fun W W' => Below W.heap.size W W') (fun W => Below wr.heap.size wr W) (spAt [.val (.slice (some ⟨g5, 0, none⟩) m5 c5), .val (.int .i64 (i : Int)), .val (.pointer (some ⟨g5, i, none⟩)), .val (.int .i64 (y : Int)), .val (.bool false), .val (.bool false), .val (.slice (some ⟨g5, 0, none⟩) m5 c5), .val (.int .i64 (i : Int)), .val (.pointer (some ⟨g5, i, none⟩)), .val (.int .i64 (y : Int)), .val (.pointer (some ⟨bC, 0, none⟩)), .val (.slice (some ⟨bI, offI, none⟩) N cI), .val (.int .i64 (N : Int)), .val (.bool false), .val (.bool false), .val (.bool false), .val (.pointer (some ⟨bC, 0, none⟩)), .val (.slice (some ⟨bI, offI, none⟩) N cI), .val (.slice (some ⟨g5, 0, none⟩) m5 c5), .val (.int .i64 (i : Int)), .val (.pointer (some ⟨g5, i, none⟩)), .val (.int .i64 (y : Int)), .val (.pointer (some ⟨bI, offI + y * 4, none⟩)), .val (.pointer (some ⟨bI, offI + y * 4, none⟩)), .val (.int .i64 (k : Int)), .val (.int .i64 (k : Int)), .val (.bool false), .val (.bool false), .val (.bool false), .val (.int .i64 (i : Int)), .val (.bool false), .val (.bool false), .val (undef), .val (undef), .val (undef), .val (undef), .val (undef), .val (undef), .val (undef), .val (undef), .val (undef), .val (undef), .val (.bool false), .val (.bool false)]) rfl rfl rfl rfl (spAt_st _) ((Below.refl _ _).drew) ⟨?_, ?_, ?_, ?_, ?_, ?_, ?_, ?_, ?_, ?_, ?_, ?_, ?_, ?_, ?_, ?_, ?_, ?_, ?_, ?_, ?_, ?_, ?_, ?_, ?_, ?_, ?_, ?_, ?_, ?_, ?_, ?_, ?_, ?_, ?_, ?_, ?_, ?_, ?_, ?_, ?_, ?_, ?_, ?_, trivial⟩ ?_
            · intro a W K ho hW hpre hK
              rw [if_pos (wanted_none rfl)]
              have e0 : a.tmps.getD 6 undef = .slice (some ⟨g5, 0, none⟩) m5 c5 := ho.slot 6 (by decide)
              go_simp
              exact hK _ _ (Below.refl _ _) hW rfl
            · intro a W K ho hW hpre hK
              rw [if_pos (wanted_none rfl)]
              have e0 : a.tmps.getD 7 undef = .int .i64 (i : Int) := ho.slot 7 (by decide)
              go_simp
              exact hK _ _ (Below.refl _ _) hW rfl
            · intro a W K ho hW hpre hK
              rw [if_pos (wanted_none rfl)]
              have e0 : a.tmps.getD 26 undef = .slice (some ⟨g5, 0, none⟩) m5 c5 := hpre ⟨0, .data⟩ (by simp) rfl _ rfl
              have e1 : a.tmps.getD 27 undef = .int .i64 (i : Int) := hpre ⟨1, .data⟩ (by simp) rfl _ rfl
              go_simp
              exact hK _ _ (Below.refl _ _) hW rfl
            · intro a W K ho hW hpre hK
              rw [if_pos (wanted_none rfl)]
              have e0 : a.tmps.getD 28 undef = .pointer (some ⟨g5, i, none⟩) := hpre ⟨2, .data⟩ (by simp) rfl _ rfl
              obtain ⟨q0, q1, q2⟩ := FX.out W hW
              go_simp
              exact hK _ _ (Below.refl _ _) hW rfl
            · intro a W K ho hW hpre hK
              rw [if_pos (wanted_none rfl)]
              have e0 : a.tmps.getD 29 undef = .int .i64 (y : Int) := hpre ⟨3, .data⟩ (by simp) rfl _ rfl
              have d : decide ((y : Int) < 0) = false := decide_eq_false (by omega)
              go_simp
              exact hK _ _ (Below.refl _ _) hW rfl
            · intro a W K ho hW hpre hK
              rw [if_pos (wanted_none rfl)]
              have e0 : a.tmps.getD 30 undef = .bool false := hpre ⟨4, .data⟩ (by simp) rfl _ rfl
              go_simp
              exact hK _ _ (Below.refl _ _) hW rfl
            · intro a W K ho hW hpre hK
              have eg : a.tmps.getD 31 undef = .bool false := hpre ⟨5, .guard⟩ (by simp) rfl _ rfl
              rw [if_pos (wanted_at ho rfl rfl rfl (Nat.le_of_ble_eq_true rfl) eg)]
              clear eg
              have e0 : a.tmps.getD 6 undef = .slice (some ⟨g5, 0, none⟩) m5 c5 := ho.slot 6 (by decide)
              go_simp
              exact hK _ _ (Below.refl _ _) hW rfl
            · intro a W K ho hW hpre hK
              have eg : a.tmps.getD 31 undef = .bool false := hpre ⟨5, .guard⟩ (by simp) rfl _ rfl
              rw [if_pos (wanted_at ho rfl rfl rfl (Nat.le_of_ble_eq_true rfl) eg)]
              clear eg
              have e0 : a.tmps.getD 7 undef = .int .i64 (i : Int) := ho.slot 7 (by decide)
              go_simp
              exact hK _ _ (Below.refl _ _) hW rfl
            · intro a W K ho hW hpre hK
              have eg : a.tmps.getD 31 undef = .bool false := hpre ⟨5, .guard⟩ (by simp) rfl _ rfl
              rw [if_pos (wanted_at ho rfl rfl rfl (Nat.le_of_ble_eq_true rfl) eg)]
              clear eg
              have e0 : a.tmps.getD 32 undef = .slice (some ⟨g5, 0, none⟩) m5 c5 := hpre ⟨6, .data⟩ (by simp) rfl _ rfl
              have e1 : a.tmps.getD 33 undef = .int .i64 (i : Int) := hpre ⟨7, .data⟩ (by simp) rfl _ rfl
              go_simp
              exact hK _ _ (Below.refl _ _) hW rfl
            · intro a W K ho hW hpre hK
              have eg : a.tmps.getD 31 undef = .bool false := hpre ⟨5, .guard⟩ (by simp) rfl _ rfl
              rw [if_pos (wanted_at ho rfl rfl rfl (Nat.le_of_ble_eq_true rfl) eg)]
              clear eg
              have e0 : a.tmps.getD 34 undef = .pointer (some ⟨g5, i, none⟩) := hpre ⟨8, .data⟩ (by simp) rfl _ rfl
              obtain ⟨q0, q1, q2⟩ := FX.out W hW
              go_simp
              exact hK _ _ (Below.refl _ _) hW rfl
            · intro a W K ho hW hpre hK
              have eg : a.tmps.getD 31 undef = .bool false := hpre ⟨5, .guard⟩ (by simp) rfl _ rfl
              rw [if_pos (wanted_at ho rfl rfl rfl (Nat.le_of_ble_eq_true rfl) eg)]
              clear eg
              have e0 : a.tmps.getD 3 undef = .pointer (some ⟨bC, 0, none⟩) := ho.slot 3 (by decide)
              go_simp
              exact hK _ _ (Below.refl _ _) hW rfl
            · intro a W K ho hW hpre hK
              have eg : a.tmps.getD 31 undef = .bool false := hpre ⟨5, .guard⟩ (by simp) rfl _ rfl
              rw [if_pos (wanted_at ho rfl rfl rfl (Nat.le_of_ble_eq_true rfl) eg)]
              clear eg
              have e0 : a.tmps.getD 36 undef = .pointer (some ⟨bC, 0, none⟩) := hpre ⟨10, .data⟩ (by simp) rfl _ rfl
              obtain ⟨q0, q1, q2⟩ := FX.out W hW
              go_simp
              exact hK _ _ (Below.refl _ _) hW rfl
            · intro a W K ho hW hpre hK
              have eg : a.tmps.getD 31 undef = .bool false := hpre ⟨5, .guard⟩ (by simp) rfl _ rfl
              rw [if_pos (wanted_at ho rfl rfl rfl (Nat.le_of_ble_eq_true rfl) eg)]
              clear eg
              have e0 : a.tmps.getD 37 undef = .slice (some ⟨bI, offI, none⟩) N cI := hpre ⟨11, .data⟩ (by simp) rfl _ rfl
              go_simp
              exact hK _ _ (Below.refl _ _) hW rfl
            · intro a W K ho hW hpre hK
              have eg : a.tmps.getD 31 undef = .bool false := hpre ⟨5, .guard⟩ (by simp) rfl _ rfl
              rw [if_pos (wanted_at ho rfl rfl rfl (Nat.le_of_ble_eq_true rfl) eg)]
              clear eg
              have e0 : a.tmps.getD 35 undef = .int .i64 (y : Int) := hpre ⟨9, .data⟩ (by simp) rfl _ rfl
              have e1 : a.tmps.getD 38 undef = .int .i64 (N : Int) := hpre ⟨12, .data⟩ (by simp) rfl _ rfl
              go_simp
              exact hK _ _ (Below.refl _ _) hW (by show Value.bool _ = Value.bool false; congr 1; exact decide_eq_false (by omega))
            · intro a W K ho hW hpre hK
              rw [if_pos (wanted_none rfl)]
              have e0 : a.tmps.getD 31 undef = .bool false := hpre ⟨5, .data⟩ (by simp) rfl _ rfl
              have e1 : a.tmps.getD 39 undef = .bool false := hpre ⟨13, .data⟩ (by simp) rfl _ rfl
              go_simp
              exact hK _ _ (Below.refl _ _) hW rfl
            · intro a W K ho hW hpre hK
              rw [if_pos (wanted_none rfl)]
              have e0 : a.tmps.getD 40 undef = .bool false := hpre ⟨14, .data⟩ (by simp) rfl _ rfl
              go_simp
              exact hK _ _ (Below.refl _ _) hW rfl
            · intro a W K ho hW hpre hK
              have eg : a.tmps.getD 41 undef = .bool false := hpre ⟨15, .guard⟩ (by simp) rfl _ rfl
              rw [if_pos (wanted_at ho rfl rfl rfl (Nat.le_of_ble_eq_true rfl) eg)]
              clear eg
              have e0 : a.tmps.getD 3 undef = .pointer (some ⟨bC, 0, none⟩) := ho.slot 3 (by decide)
              go_simp
              exact hK _ _ (Below.refl _ _) hW rfl
            · intro a W K ho hW hpre hK
              have eg : a.tmps.getD 41 undef = .bool false := hpre ⟨15, .guard⟩ (by simp) rfl _ rfl
              rw [if_pos (wanted_at ho rfl rfl rfl (Nat.le_of_ble_eq_true rfl) eg)]
              clear eg
              have e0 : a.tmps.getD 42 undef = .pointer (some ⟨bC, 0, none⟩) := hpre ⟨16, .data⟩ (by simp) rfl _ rfl
              obtain ⟨q0, q1, q2⟩ := FX.out W hW
              go_simp
              exact hK _ _ (Below.refl _ _) hW rfl
            · intro a W K ho hW hpre hK
              have eg : a.tmps.getD 41 undef = .bool false := hpre ⟨15, .guard⟩ (by simp) rfl _ rfl
              rw [if_pos (wanted_at ho rfl rfl rfl (Nat.le_of_ble_eq_true rfl) eg)]
              clear eg
              have e0 : a.tmps.getD 6 undef = .slice (some ⟨g5, 0, none⟩) m5 c5 := ho.slot 6 (by decide)
              go_simp
              exact hK _ _ (Below.refl _ _) hW rfl
            · intro a W K ho hW hpre hK
              have eg : a.tmps.getD 41 undef = .bool false := hpre ⟨15, .guard⟩ (by simp) rfl _ rfl
              rw [if_pos (wanted_at ho rfl rfl rfl (Nat.le_of_ble_eq_true rfl) eg)]
              clear eg
              have e0 : a.tmps.getD 7 undef = .int .i64 (i : Int) := ho.slot 7 (by decide)
              go_simp
              exact hK _ _ (Below.refl _ _) hW rfl
            · intro a W K ho hW hpre hK
              have eg : a.tmps.getD 41 undef = .bool false := hpre ⟨15, .guard⟩ (by simp) rfl _ rfl
              rw [if_pos (wanted_at ho rfl rfl rfl (Nat.le_of_ble_eq_true rfl) eg)]
              clear eg
              have e0 : a.tmps.getD 44 undef = .slice (some ⟨g5, 0, none⟩) m5 c5 := hpre ⟨18, .data⟩ (by simp) rfl _ rfl
              have e1 : a.tmps.getD 45 undef = .int .i64 (i : Int) := hpre ⟨19, .data⟩ (by simp) rfl _ rfl
              go_simp
              exact hK _ _ (Below.refl _ _) hW rfl
            · intro a W K ho hW hpre hK
              have eg : a.tmps.getD 41 undef = .bool false := hpre ⟨15, .guard⟩ (by simp) rfl _ rfl
              rw [if_pos (wanted_at ho rfl rfl rfl (Nat.le_of_ble_eq_true rfl) eg)]
              clear eg
              have e0 : a.tmps.getD 46 undef = .pointer (some ⟨g5, i, none⟩) := hpre ⟨20, .data⟩ (by simp) rfl _ rfl
              obtain ⟨q0, q1, q2⟩ := FX.out W hW
              go_simp
              exact hK _ _ (Below.refl _ _) hW rfl
            · intro a W K ho hW hpre hK
              have eg : a.tmps.getD 41 undef = .bool false := hpre ⟨15, .guard⟩ (by simp) rfl _ rfl
              rw [if_pos (wanted_at ho rfl rfl rfl (Nat.le_of_ble_eq_true rfl) eg)]
              clear eg
              have e0 : a.tmps.getD 43 undef = .slice (some ⟨bI, offI, none⟩) N cI := hpre ⟨17, .data⟩ (by simp) rfl _ rfl
              have e1 : a.tmps.getD 47 undef = .int .i64 (y : Int) := hpre ⟨21, .data⟩ (by simp) rfl _ rfl
              go_simp
              exact hK _ _ (Below.refl _ _) hW rfl
            · intro a W K ho hW hpre hK
              have eg : a.tmps.getD 41 undef = .bool false := hpre ⟨15, .guard⟩ (by simp) rfl _ rfl
              rw [if_pos (wanted_at ho rfl rfl rfl (Nat.le_of_ble_eq_true rfl) eg)]
              clear eg
              have e0 : a.tmps.getD 48 undef = .pointer (some ⟨bI, offI + y * 4, none⟩) := hpre ⟨22, .data⟩ (by simp) rfl _ rfl
              go_simp
              exact hK _ _ (Below.refl _ _) hW rfl
            · intro a W K ho hW hpre hK
              have eg : a.tmps.getD 41 undef = .bool false := hpre ⟨15, .guard⟩ (by simp) rfl _ rfl
              rw [if_pos (wanted_at ho rfl rfl rfl (Nat.le_of_ble_eq_true rfl) eg)]
              clear eg
              have e0 : a.tmps.getD 49 undef = .pointer (some ⟨bI, offI + y * 4, none⟩) := hpre ⟨23, .data⟩ (by simp) rfl _ rfl
              obtain ⟨q0, q1, q2⟩ := FX.out W hW
              go_simp
              exact hK _ _ (Below.refl _ _) hW rfl
            · intro a W K ho hW hpre hK
              have eg : a.tmps.getD 41 undef = .bool false := hpre ⟨15, .guard⟩ (by simp) rfl _ rfl
              rw [if_pos (wanted_at ho rfl rfl rfl (Nat.le_of_ble_eq_true rfl) eg)]
              clear eg
              have e0 : a.tmps.getD 5 undef = .int .i64 (k : Int) := ho.slot 5 (by decide)
              go_simp
              exact hK _ _ (Below.refl _ _) hW rfl
            · intro a W K ho hW hpre hK
              have eg : a.tmps.getD 41 undef = .bool false := hpre ⟨15, .guard⟩ (by simp) rfl _ rfl
              rw [if_pos (wanted_at ho rfl rfl rfl (Nat.le_of_ble_eq_true rfl) eg)]
              clear eg
              have e0 : a.tmps.getD 50 undef = .int .i64 (k : Int) := hpre ⟨24, .data⟩ (by simp) rfl _ rfl
              have e1 : a.tmps.getD 51 undef = .int .i64 (k : Int) := hpre ⟨25, .data⟩ (by simp) rfl _ rfl
              go_simp
              exact hK _ _ (Below.refl _ _) hW rfl
            · intro a W K ho hW hpre hK
              rw [if_pos (wanted_none rfl)]
              have e0 : a.tmps.getD 41 undef = .bool false := hpre ⟨15, .data⟩ (by simp) rfl _ rfl
              have e1 : a.tmps.getD 52 undef = .bool false := hpre ⟨26, .data⟩ (by simp) rfl _ rfl
              go_simp
              exact hK _ _ (Below.refl _ _) hW rfl
            · intro a W K ho hW hpre hK
              rw [if_pos (wanted_none rfl)]
              have e0 : a.tmps.getD 53 undef = .bool false := hpre ⟨27, .data⟩ (by simp) rfl _ rfl
              go_simp
              exact hK _ _ (Below.refl _ _) hW rfl
            · intro a W K ho hW hpre hK
              have eg : a.tmps.getD 54 undef = .bool false := hpre ⟨28, .guard⟩ (by simp) rfl _ rfl
              rw [if_pos (wanted_at ho rfl rfl rfl (Nat.le_of_ble_eq_true rfl) eg)]
              clear eg
              have e0 : a.tmps.getD 7 undef = .int .i64 (i : Int) := ho.slot 7 (by decide)
              go_simp
              exact hK _ _ (Below.refl _ _) hW rfl
            · intro a W K ho hW hpre hK
              have eg : a.tmps.getD 54 undef = .bool false := hpre ⟨28, .guard⟩ (by simp) rfl _ rfl
              rw [if_pos (wanted_at ho rfl rfl rfl (Nat.le_of_ble_eq_true rfl) eg)]
              clear eg
              have e0 : a.tmps.getD 55 undef = .int .i64 (i : Int) := hpre ⟨29, .data⟩ (by simp) rfl _ rfl
              go_simp
              exact hK _ _ (Below.refl _ _) hW (by show Value.bool _ = Value.bool false; congr 1; exact decide_eq_false (by have := H0.out; omega))
            · intro a W K ho hW hpre hK
              have eg : a.tmps.getD 54 undef = .bool false := hpre ⟨28, .guard⟩ (by simp) rfl _ rfl
              rw [if_pos (wanted_at ho rfl rfl rfl (Nat.le_of_ble_eq_true rfl) eg)]
              clear eg
              have e0 : a.tmps.getD 56 undef = .bool false := hpre ⟨30, .data⟩ (by simp) rfl _ rfl
              go_simp
              exact hK _ _ (Below.refl _ _) hW rfl
            · intro a W K ho hW hpre hK
              have eg : a.tmps.getD 57 undef = .bool (!true) := hpre ⟨31, .guard⟩ (by simp) rfl _ rfl
              rw [if_neg (unwanted_at ho rfl rfl rfl (Nat.le_of_ble_eq_true rfl) eg)]
              exact hK undef _ (Below.refl _ _) hW rfl
            · intro a W K ho hW hpre hK
              have eg : a.tmps.getD 57 undef = .bool (!true) := hpre ⟨31, .guard⟩ (by simp) rfl _ rfl
              rw [if_neg (unwanted_at ho rfl rfl rfl (Nat.le_of_ble_eq_true rfl) eg)]
              exact hK undef _ (Below.refl _ _) hW rfl
            · intro a W K ho hW hpre hK
              have eg : a.tmps.getD 57 undef = .bool (!true) := hpre ⟨31, .guard⟩ (by simp) rfl _ rfl
              rw [if_neg (unwanted_at ho rfl rfl rfl (Nat.le_of_ble_eq_true rfl) eg)]
              exact hK undef _ (Below.refl _ _) hW rfl
            · intro a W K ho hW hpre hK
              have eg : a.tmps.getD 57 undef = .bool (!true) := hpre ⟨31, .guard⟩ (by simp) rfl _ rfl
              rw [if_neg (unwanted_at ho rfl rfl rfl (Nat.le_of_ble_eq_true rfl) eg)]
              exact hK undef _ (Below.refl _ _) hW rfl
            · intro a W K ho hW hpre hK
              have eg : a.tmps.getD 57 undef = .bool (!true) := hpre ⟨31, .guard⟩ (by simp) rfl _ rfl
              rw [if_neg (unwanted_at ho rfl rfl rfl (Nat.le_of_ble_eq_true rfl) eg)]
              exact hK undef _ (Below.refl _ _) hW rfl
            · intro a W K ho hW hpre hK
              have eg : a.tmps.getD 57 undef = .bool (!true) := hpre ⟨31, .guard⟩ (by simp) rfl _ rfl
              rw [if_neg (unwanted_at ho rfl rfl rfl (Nat.le_of_ble_eq_true rfl) eg)]
              exact hK undef _ (Below.refl _ _) hW rfl
            · intro a W K ho hW hpre hK
              have eg : a.tmps.getD 57 undef = .bool (!true) := hpre ⟨31, .guard⟩ (by simp) rfl _ rfl
              rw [if_neg (unwanted_at ho rfl rfl rfl (Nat.le_of_ble_eq_true rfl) eg)]
              exact hK undef _ (Below.refl _ _) hW rfl
            · intro a W K ho hW hpre hK
              have eg : a.tmps.getD 57 undef = .bool (!true) := hpre ⟨31, .guard⟩ (by simp) rfl _ rfl
              rw [if_neg (unwanted_at ho rfl rfl rfl (Nat.le_of_ble_eq_true rfl) eg)]
              exact hK undef _ (Below.refl _ _) hW rfl
            · intro a W K ho hW hpre hK
              have eg : a.tmps.getD 57 undef = .bool (!true) := hpre ⟨31, .guard⟩ (by simp) rfl _ rfl
              rw [if_neg (unwanted_at ho rfl rfl rfl (Nat.le_of_ble_eq_true rfl) eg)]
              exact hK undef _ (Below.refl _ _) hW rfl
            · intro a W K ho hW hpre hK
              have eg : a.tmps.getD 57 undef = .bool (!true) := hpre ⟨31, .guard⟩ (by simp) rfl _ rfl
              rw [if_neg (unwanted_at ho rfl rfl rfl (Nat.le_of_ble_eq_true rfl) eg)]
              exact hK undef _ (Below.refl _ _) hW rfl
            · intro a W K ho hW hpre hK
              have eg : a.tmps.getD 54 undef = .bool false := hpre ⟨28, .guard⟩ (by simp) rfl _ rfl
              rw [if_pos (wanted_at ho rfl rfl rfl (Nat.le_of_ble_eq_true rfl) eg)]
              clear eg
              have e0 : a.tmps.getD 57 undef = .bool false := hpre ⟨31, .data⟩ (by simp) rfl _ rfl
              have e1 : a.tmps.getD 67 undef = undef := hpre ⟨41, .data⟩ (by simp) rfl _ rfl
              go_simp
              exact hK _ _ (Below.refl _ _) hW rfl
            · intro a W K ho hW hpre hK
              rw [if_pos (wanted_none rfl)]
              have e0 : a.tmps.getD 54 undef = .bool false := hpre ⟨28, .data⟩ (by simp) rfl _ rfl
              have e1 : a.tmps.getD 68 undef = .bool false := hpre ⟨42, .data⟩ (by simp) rfl _ rfl
              go_simp
              exact hK _ _ (Below.refl _ _) hW rfl
            · intro a W ho hW hall
              have e69 : a.tmps.getD 69 undef = .bool false := hall 43 _ rfl
              have heq := ho.eq
              have HQ2 := Lib.hid (HQ.out.trans (hW.mono HQ.out.size))
              clear ho hW hall
              simp only [putL, e69] at heq
              generalize a.tmps.getD 26 undef = u26 at heq
              generalize a.tmps.getD 27 undef = u27 at heq
              generalize a.tmps.getD 28 undef = u28 at heq
              generalize a.tmps.getD 29 undef = u29 at heq
              generalize a.tmps.getD 30 undef = u30 at heq
              generalize a.tmps.getD 31 undef = u31 at heq
              generalize a.tmps.getD 32 undef = u32 at heq
              generalize a.tmps.getD 33 undef = u33 at heq
              generalize a.tmps.getD 34 undef = u34 at heq
              generalize a.tmps.getD 35 undef = u35 at heq
              generalize a.tmps.getD 36 undef = u36 at heq
              generalize a.tmps.getD 37 undef = u37 at heq
              generalize a.tmps.getD 38 undef = u38 at heq
              generalize a.tmps.getD 39 undef = u39 at heq
              generalize a.tmps.getD 40 undef = u40 at heq
              generalize a.tmps.getD 41 undef = u41 at heq
              generalize a.tmps.getD 42 undef = u42 at heq
              generalize a.tmps.getD 43 undef = u43 at heq
              generalize a.tmps.getD 44 undef = u44 at heq
              generalize a.tmps.getD 45 undef = u45 at heq
              generalize a.tmps.getD 46 undef = u46 at heq
              generalize a.tmps.getD 47 undef = u47 at heq
              generalize a.tmps.getD 48 undef = u48 at heq
              generalize a.tmps.getD 49 undef = u49 at heq
              generalize a.tmps.getD 50 undef = u50 at heq
              generalize a.tmps.getD 51 undef = u51 at heq
              generalize a.tmps.getD 52 undef = u52 at heq
              generalize a.tmps.getD 53 undef = u53 at heq
              generalize a.tmps.getD 54 undef = u54 at heq
              generalize a.tmps.getD 55 undef = u55 at heq
              generalize a.tmps.getD 56 undef = u56 at heq
              generalize a.tmps.getD 57 undef = u57 at heq
              generalize a.tmps.getD 58 undef = u58 at heq
              generalize a.tmps.getD 59 undef = u59 at heq
              generalize a.tmps.getD 60 undef = u60 at heq
              generalize a.tmps.getD 61 undef = u61 at heq
              generalize a.tmps.getD 62 undef = u62 at heq
              generalize a.tmps.getD 63 undef = u63 at heq
              generalize a.tmps.getD 64 undef = u64 at heq
              generalize a.tmps.getD 65 undef = u65 at heq
              generalize a.tmps.getD 66 undef = u66 at heq
              generalize a.tmps.getD 67 undef = u67 at heq
              generalize a.tmps.getD 68 undef = u68 at heq
              subst heq
              rename_i hKK
              refine hKK _ _ ?_
              clear e69
              go_simp
              go_wp2
              go_roundw
              case rel => exact ⟨i + 1, by omega, by go_num, by go_num, HQ2⟩
              case measure => simp [intOf]; omega
          · obtain ⟨i', hi'⟩ : ∃ i', i = i' + 1 := ⟨i - 1, by omega⟩
            obtain ⟨z, hz⟩ : ∃ z, z = (buckL cf.insts (k : Int) N).getD i' 0 := ⟨_, rfl⟩
            have hzy : z < y := by rw [hz, hy, hi']; exact buck_lt cf.insts (k : Int) N i' (by rw [← hi']; exact hil)
            have hcell2 : w5.cell? ⟨g5, i', none⟩ = some (.int .i64 (z : Int)) := by rw [hz]; exact ownN_at hO (j := i') (by omega)
            have FZ : Hid (∀ W, Below wr.heap.size wr W → W.cell? ⟨g5, i', none⟩ = some (.int .i64 (z : Int))) := Lib.hid (fun W hW => by
              have hb := HQ.out.trans (hW.mono HQ.out.size)
              exact (hb.cell (p := ⟨g5, i', none⟩) (block_lt hcell2)).trans hcell2)
            have hsub : IntKind.i64.wrap ((i : Int) - 1) = (i' : Int) := by rw [hi']; simp [IntKind.wrap, IntKind.bits, IntKind.signed]; omega
            have hil' : i' < m5 := by omega
            clear hO hci gb hil f0 f1 hcell hcell2 hy hz hi'
            go_wp2
            refine wp_region_dag [26, 27, 28, 29, 30, 31, 32, 33, 34, 35, 36, 37, 38, 39, 40, 41, 42, 43, 44, 45, 46, 47, 48, 49, 50, 51, 52, 53, 54, 55, 56, 57, 58, 59, 60, 61, 62, 63, 64, 65, 66, 67, 68, 69] (fun W W' => Below W.heap.size W W') (fun W => Below wr.heap.size wr W) (spAt [.val (.slice (some ⟨g5, 0, none⟩) m5 c5), .val (.int .i64 (i : Int)), .val (.pointer (some ⟨g5, i, none⟩)), .val (.int .i64 (y : Int)), .val (.bool false), .val (.bool false), .val (.slice (some ⟨g5, 0, none⟩) m5 c5), .val (.int .i64 (i : Int)), .val (.pointer (some ⟨g5, i, none⟩)), .val (.int .i64 (y : Int)), .val (.pointer (some ⟨bC, 0, none⟩)), .val (.slice (some ⟨bI, offI, none⟩) N cI), .val (.int .i64 (N : Int)), .val (.bool false), .val (.bool false), .val (.bool false), .val (.pointer (some ⟨bC, 0, none⟩)), .val (.slice (some ⟨bI, offI, none⟩) N cI), .val (.slice (some ⟨g5, 0, none⟩) m5 c5), .val (.int .i64 (i : Int)), .val (.pointer (some ⟨g5, i, none⟩)), .val (.int .i64 (y : Int)), .val (.pointer (some ⟨bI, offI + y * 4, none⟩)), .val (.pointer (some ⟨bI, offI + y * 4, none⟩)), .val (.int .i64 (k : Int)), .val (.int .i64 (k : Int)), .val (.bool false), .val (.bool false), .val (.bool false), .val (.int .i64 (i : Int)), .val (.bool true), .val (.bool true), .val (.slice (some ⟨g5, 0, none⟩) m5 c5), .val (.int .i64 (i : Int)), .val (.pointer (some ⟨g5, i, none⟩)), .val (.int .i64 (y : Int)), .val (.slice (some ⟨g5, 0, none⟩) m5 c5), .val (.int .i64 (i : Int)), .val (.int .i64 (i' : Int)), .val (.pointer (some ⟨g5, i', none⟩)), .val (.int .i64 (z : Int)), .val (.bool false), .val (.bool false), .val (.bool false)]) rfl rfl rfl rfl (spAt_st _) ((Below.refl _ _).drew) ⟨?_, ?_, ?_, ?_, ?_, ?_, ?_, ?_, ?_, ?_, ?_, ?_, ?_, ?_, ?_, ?_, ?_, ?_, ?_, ?_, ?_, ?_, ?_, ?_, ?_, ?_, ?_, ?_, ?_, ?_, ?_, ?_, ?_, ?_, ?_, ?_, ?_, ?_, ?_, ?_, ?_, ?_, ?_, ?_, trivial⟩ ?_
            · intro a W K ho hW hpre hK
              rw [if_pos (wanted_none rfl)]
              have e0 : a.tmps.getD 6 undef = .slice (some ⟨g5, 0, none⟩) m5 c5 := ho.slot 6 (by decide)
              go_simp
              exact hK _ _ (Below.refl _ _) hW rfl
            · intro a W K ho hW hpre hK
              rw [if_pos (wanted_none rfl)]
              have e0 : a.tmps.getD 7 undef = .int .i64 (i : Int) := ho.slot 7 (by decide)
              go_simp
              exact hK _ _ (Below.refl _ _) hW rfl
            · intro a W K ho hW hpre hK
              rw [if_pos (wanted_none rfl)]
              have e0 : a.tmps.getD 26 undef = .slice (some ⟨g5, 0, none⟩) m5 c5 := hpre ⟨0, .data⟩ (by simp) rfl _ rfl
              have e1 : a.tmps.getD 27 undef = .int .i64 (i : Int) := hpre ⟨1, .data⟩ (by simp) rfl _ rfl
              go_simp
              exact hK _ _ (Below.refl _ _) hW rfl
            · intro a W K ho hW hpre hK
              rw [if_pos (wanted_none rfl)]
              have e0 : a.tmps.getD 28 undef = .pointer (some ⟨g5, i, none⟩) := hpre ⟨2, .data⟩ (by simp) rfl _ rfl
              obtain ⟨q0, q1, q2⟩ := FX.out W hW
              go_simp
              exact hK _ _ (Below.refl _ _) hW rfl
            · intro a W K ho hW hpre hK
              rw [if_pos (wanted_none rfl)]
              have e0 : a.tmps.getD 29 undef = .int .i64 (y : Int) := hpre ⟨3, .data⟩ (by simp) rfl _ rfl
              have d : decide ((y : Int) < 0) = false := decide_eq_false (by omega)
              go_simp
              exact hK _ _ (Below.refl _ _) hW rfl
            · intro a W K ho hW hpre hK
              rw [if_pos (wanted_none rfl)]
              have e0 : a.tmps.getD 30 undef = .bool false := hpre ⟨4, .data⟩ (by simp) rfl _ rfl
              go_simp
              exact hK _ _ (Below.refl _ _) hW rfl
            · intro a W K ho hW hpre hK
              have eg : a.tmps.getD 31 undef = .bool false := hpre ⟨5, .guard⟩ (by simp) rfl _ rfl
              rw [if_pos (wanted_at ho rfl rfl rfl (Nat.le_of_ble_eq_true rfl) eg)]
              clear eg
              have e0 : a.tmps.getD 6 undef = .slice (some ⟨g5, 0, none⟩) m5 c5 := ho.slot 6 (by decide)
              go_simp
              exact hK _ _ (Below.refl _ _) hW rfl
            · intro a W K ho hW hpre hK
              have eg : a.tmps.getD 31 undef = .bool false := hpre ⟨5, .guard⟩ (by simp) rfl _ rfl
              rw [if_pos (wanted_at ho rfl rfl rfl (Nat.le_of_ble_eq_true rfl) eg)]
              clear eg
              have e0 : a.tmps.getD 7 undef = .int .i64 (i : Int) := ho.slot 7 (by decide)
              go_simp
              exact hK _ _ (Below.refl _ _) hW rfl
            · intro a W K ho hW hpre hK
              have eg : a.tmps.getD 31 undef = .bool false := hpre ⟨5, .guard⟩ (by simp) rfl _ rfl
              rw [if_pos (wanted_at ho rfl rfl rfl (Nat.le_of_ble_eq_true rfl) eg)]
              clear eg
              have e0 : a.tmps.getD 32 undef = .slice (some ⟨g5, 0, none⟩) m5 c5 := hpre ⟨6, .data⟩ (by simp) rfl _ rfl
              have e1 : a.tmps.getD 33 undef = .int .i64 (i : Int) := hpre ⟨7, .data⟩ (by simp) rfl _ rfl
              go_simp
              exact hK _ _ (Below.refl _ _) hW rfl
            · intro a W K ho hW hpre hK
              have eg : a.tmps.getD 31 undef = .bool false := hpre ⟨5, .guard⟩ (by simp) rfl _ rfl
              rw [if_pos (wanted_at ho rfl rfl rfl (Nat.le_of_ble_eq_true rfl) eg)]
              clear eg
              have e0 : a.tmps.getD 34 undef = .pointer (some ⟨g5, i, none⟩) := hpre ⟨8, .data⟩ (by simp) rfl _ rfl
              obtain ⟨q0, q1, q2⟩ := FX.out W hW
              go_simp
              exact hK _ _ (Below.refl _ _) hW rfl
            · intro a W K ho hW hpre hK
              have eg : a.tmps.getD 31 undef = .bool false := hpre ⟨5, .guard⟩ (by simp) rfl _ rfl
              rw [if_pos (wanted_at ho rfl rfl rfl (Nat.le_of_ble_eq_true rfl) eg)]
              clear eg
              have e0 : a.tmps.getD 3 undef = .pointer (some ⟨bC, 0, none⟩) := ho.slot 3 (by decide)
              go_simp
              exact hK _ _ (Below.refl _ _) hW rfl
            · intro a W K ho hW hpre hK
              have eg : a.tmps.getD 31 undef = .bool false := hpre ⟨5, .guard⟩ (by simp) rfl _ rfl
              rw [if_pos (wanted_at ho rfl rfl rfl (Nat.le_of_ble_eq_true rfl) eg)]
              clear eg
              have e0 : a.tmps.getD 36 undef = .pointer (some ⟨bC, 0, none⟩) := hpre ⟨10, .data⟩ (by simp) rfl _ rfl
              obtain ⟨q0, q1, q2⟩ := FX.out W hW
              go_simp
              exact hK _ _ (Below.refl _ _) hW rfl
            · intro a W K ho hW hpre hK
              have eg : a.tmps.getD 31 undef = .bool false := hpre ⟨5, .guard⟩ (by simp) rfl _ rfl
              rw [if_pos (wanted_at ho rfl rfl rfl (Nat.le_of_ble_eq_true rfl) eg)]
              clear eg
              have e0 : a.tmps.getD 37 undef = .slice (some ⟨bI, offI, none⟩) N cI := hpre ⟨11, .data⟩ (by simp) rfl _ rfl
              go_simp
              exact hK _ _ (Below.refl _ _) hW rfl
            · intro a W K ho hW hpre hK
              have eg : a.tmps.getD 31 undef = .bool false := hpre ⟨5, .guard⟩ (by simp) rfl _ rfl
              rw [if_pos (wanted_at ho rfl rfl rfl (Nat.le_of_ble_eq_true rfl) eg)]
              clear eg
              have e0 : a.tmps.getD 35 undef = .int .i64 (y : Int) := hpre ⟨9, .data⟩ (by simp) rfl _ rfl
              have e1 : a.tmps.getD 38 undef = .int .i64 (N : Int) := hpre ⟨12, .data⟩ (by simp) rfl _ rfl
              go_simp
              exact hK _ _ (Below.refl _ _) hW (by show Value.bool _ = Value.bool false; congr 1; exact decide_eq_false (by omega))
            · intro a W K ho hW hpre hK
              rw [if_pos (wanted_none rfl)]
              have e0 : a.tmps.getD 31 undef = .bool false := hpre ⟨5, .data⟩ (by simp) rfl _ rfl
              have e1 : a.tmps.getD 39 undef = .bool false := hpre ⟨13, .data⟩ (by simp) rfl _ rfl
              go_simp
              exact hK _ _ (Below.refl _ _) hW rfl
            · intro a W K ho hW hpre hK
              rw [if_pos (wanted_none rfl)]
              have e0 : a.tmps.getD 40 undef = .bool false := hpre ⟨14, .data⟩ (by simp) rfl _ rfl
              go_simp
              exact hK _ _ (Below.refl _ _) hW rfl
            · intro a W K ho hW hpre hK
              have eg : a.tmps.getD 41 undef = .bool false := hpre ⟨15, .guard⟩ (by simp) rfl _ rfl
              rw [if_pos (wanted_at ho rfl rfl rfl (Nat.le_of_ble_eq_true rfl) eg)]
              clear eg
              have e0 : a.tmps.getD 3 undef = .pointer (some ⟨bC, 0, none⟩) := ho.slot 3 (by decide)
              go_simp
              exact hK _ _ (Below.refl _ _) hW rfl
            · intro a W K ho hW hpre hK
              have eg : a.tmps.getD 41 undef = .bool false := hpre ⟨15, .guard⟩ (by simp) rfl _ rfl
              rw [if_pos (wanted_at ho rfl rfl rfl (Nat.le_of_ble_eq_true rfl) eg)]
              clear eg
              have e0 : a.tmps.getD 42 undef = .pointer (some ⟨bC, 0, none⟩) := hpre ⟨16, .data⟩ (by simp) rfl _ rfl
              obtain ⟨q0, q1, q2⟩ := FX.out W hW
              go_simp
              exact hK _ _ (Below.refl _ _) hW rfl
            · intro a W K ho hW hpre hK
              have eg : a.tmps.getD 41 undef = .bool false := hpre ⟨15, .guard⟩ (by simp) rfl _ rfl
              rw [if_pos (wanted_at ho rfl rfl rfl (Nat.le_of_ble_eq_true rfl) eg)]
              clear eg
              have e0 : a.tmps.getD 6 undef = .slice (some ⟨g5, 0, none⟩) m5 c5 := ho.slot 6 (by decide)
              go_simp
              exact hK _ _ (Below.refl _ _) hW rfl
            · intro a W K ho hW hpre hK
              have eg : a.tmps.getD 41 undef = .bool false := hpre ⟨15, .guard⟩ (by simp) rfl _ rfl
              rw [if_pos (wanted_at ho rfl rfl rfl (Nat.le_of_ble_eq_true rfl) eg)]
              clear eg
              have e0 : a.tmps.getD 7 undef = .int .i64 (i : Int) := ho.slot 7 (by decide)
              go_simp
              exact hK _ _ (Below.refl _ _) hW rfl
            · intro a W K ho hW hpre hK
              have eg : a.tmps.getD 41 undef = .bool false := hpre ⟨15, .guard⟩ (by simp) rfl _ rfl
              rw [if_pos (wanted_at ho rfl rfl rfl (Nat.le_of_ble_eq_true rfl) eg)]
              clear eg
              have e0 : a.tmps.getD 44 undef = .slice (some ⟨g5, 0, none⟩) m5 c5 := hpre ⟨18, .data⟩ (by simp) rfl _ rfl
              have e1 : a.tmps.getD 45 undef = .int .i64 (i : Int) := hpre ⟨19, .data⟩ (by simp) rfl _ rfl
              go_simp
              exact hK _ _ (Below.refl _ _) hW rfl
            · intro a W K ho hW hpre hK
              have eg : a.tmps.getD 41 undef = .bool false := hpre ⟨15, .guard⟩ (by simp) rfl _ rfl
              rw [if_pos (wanted_at ho rfl rfl rfl (Nat.le_of_ble_eq_true rfl) eg)]
              clear eg
              have e0 : a.tmps.getD 46 undef = .pointer (some ⟨g5, i, none⟩) := hpre ⟨20, .data⟩ (by simp) rfl _ rfl
              obtain ⟨q0, q1, q2⟩ := FX.out W hW
              go_simp
              exact hK _ _ (Below.refl _ _) hW rfl
            · intro a W K ho hW hpre hK
              have eg : a.tmps.getD 41 undef = .bool false := hpre ⟨15, .guard⟩ (by simp) rfl _ rfl
              rw [if_pos (wanted_at ho rfl rfl rfl (Nat.le_of_ble_eq_true rfl) eg)]
              clear eg
              have e0 : a.tmps.getD 43 undef = .slice (some ⟨bI, offI, none⟩) N cI := hpre ⟨17, .data⟩ (by simp) rfl _ rfl
              have e1 : a.tmps.getD 47 undef = .int .i64 (y : Int) := hpre ⟨21, .data⟩ (by simp) rfl _ rfl
              go_simp
              exact hK _ _ (Below.refl _ _) hW rfl
            · intro a W K ho hW hpre hK
              have eg : a.tmps.getD 41 undef = .bool false := hpre ⟨15, .guard⟩ (by simp) rfl _ rfl
              rw [if_pos (wanted_at ho rfl rfl rfl (Nat.le_of_ble_eq_true rfl) eg)]
              clear eg
              have e0 : a.tmps.getD 48 undef = .pointer (some ⟨bI, offI + y * 4, none⟩) := hpre ⟨22, .data⟩ (by simp) rfl _ rfl
              go_simp
              exact hK _ _ (Below.refl _ _) hW rfl
            · intro a W K ho hW hpre hK
              have eg : a.tmps.getD 41 undef = .bool false := hpre ⟨15, .guard⟩ (by simp) rfl _ rfl
              rw [if_pos (wanted_at ho rfl rfl rfl (Nat.le_of_ble_eq_true rfl) eg)]
              clear eg
              have e0 : a.tmps.getD 49 undef = .pointer (some ⟨bI, offI + y * 4, none⟩) := hpre ⟨23, .data⟩ (by simp) rfl _ rfl
              obtain ⟨q0, q1, q2⟩ := FX.out W hW
              go_simp
              exact hK _ _ (Below.refl _ _) hW rfl
            · intro a W K ho hW hpre hK
              have eg : a.tmps.getD 41 undef = .bool false := hpre ⟨15, .guard⟩ (by simp) rfl _ rfl
              rw [if_pos (wanted_at ho rfl rfl rfl (Nat.le_of_ble_eq_true rfl) eg)]
              clear eg
              have e0 : a.tmps.getD 5 undef = .int .i64 (k : Int) := ho.slot 5 (by decide)
              go_simp
              exact hK _ _ (Below.refl _ _) hW rfl
            · intro a W K ho hW hpre hK
              have eg : a.tmps.getD 41 undef = .bool false := hpre ⟨15, .guard⟩ (by simp) rfl _ rfl
              rw [if_pos (wanted_at ho rfl rfl rfl (Nat.le_of_ble_eq_true rfl) eg)]
              clear eg
              have e0 : a.tmps.getD 50 undef = .int .i64 (k : Int) := hpre ⟨24, .data⟩ (by simp) rfl _ rfl
              have e1 : a.tmps.getD 51 undef = .int .i64 (k : Int) := hpre ⟨25, .data⟩ (by simp) rfl _ rfl
              go_simp
              exact hK _ _ (Below.refl _ _) hW rfl
            · intro a W K ho hW hpre hK
              rw [if_pos (wanted_none rfl)]
              have e0 : a.tmps.getD 41 undef = .bool false := hpre ⟨15, .data⟩ (by simp) rfl _ rfl
              have e1 : a.tmps.getD 52 undef = .bool false := hpre ⟨26, .data⟩ (by simp) rfl _ rfl
              go_simp
              exact hK _ _ (Below.refl _ _) hW rfl
            · intro a W K ho hW hpre hK
              rw [if_pos (wanted_none rfl)]
              have e0 : a.tmps.getD 53 undef = .bool false := hpre ⟨27, .data⟩ (by simp) rfl _ rfl
              go_simp
              exact hK _ _ (Below.refl _ _) hW rfl
            · intro a W K ho hW hpre hK
              have eg : a.tmps.getD 54 undef = .bool false := hpre ⟨28, .guard⟩ (by simp) rfl _ rfl
              rw [if_pos (wanted_at ho rfl rfl rfl (Nat.le_of_ble_eq_true rfl) eg)]
              clear eg
              have e0 : a.tmps.getD 7 undef = .int .i64 (i : Int) := ho.slot 7 (by decide)
              go_simp
              exact hK _ _ (Below.refl _ _) hW rfl
            · intro a W K ho hW hpre hK
              have eg : a.tmps.getD 54 undef = .bool false := hpre ⟨28, .guard⟩ (by simp) rfl _ rfl
              rw [if_pos (wanted_at ho rfl rfl rfl (Nat.le_of_ble_eq_true rfl) eg)]
              clear eg
              have e0 : a.tmps.getD 55 undef = .int .i64 (i : Int) := hpre ⟨29, .data⟩ (by simp) rfl _ rfl
              go_simp
              exact hK _ _ (Below.refl _ _) hW rfl
            · intro a W K ho hW hpre hK
              have eg : a.tmps.getD 54 undef = .bool false := hpre ⟨28, .guard⟩ (by simp) rfl _ rfl
              rw [if_pos (wanted_at ho rfl rfl rfl (Nat.le_of_ble_eq_true rfl) eg)]
              clear eg
              have e0 : a.tmps.getD 56 undef = .bool true := hpre ⟨30, .data⟩ (by simp) rfl _ rfl
              go_simp
              exact hK _ _ (Below.refl _ _) hW rfl
            · intro a W K ho hW hpre hK
              have eg : a.tmps.getD 57 undef = .bool true := hpre ⟨31, .guard⟩ (by simp) rfl _ rfl
              rw [if_pos (wanted_at ho rfl rfl rfl (Nat.le_of_ble_eq_true rfl) eg)]
              clear eg
              have e0 : a.tmps.getD 6 undef = .slice (some ⟨g5, 0, none⟩) m5 c5 := ho.slot 6 (by decide)
              go_simp
              exact hK _ _ (Below.refl _ _) hW rfl
            · intro a W K ho hW hpre hK
              have eg : a.tmps.getD 57 undef = .bool true := hpre ⟨31, .guard⟩ (by simp) rfl _ rfl
              rw [if_pos (wanted_at ho rfl rfl rfl (Nat.le_of_ble_eq_true rfl) eg)]
              clear eg
              have e0 : a.tmps.getD 7 undef = .int .i64 (i : Int) := ho.slot 7 (by decide)
              go_simp
              exact hK _ _ (Below.refl _ _) hW rfl
            · intro a W K ho hW hpre hK
              have eg : a.tmps.getD 57 undef = .bool true := hpre ⟨31, .guard⟩ (by simp) rfl _ rfl
              rw [if_pos (wanted_at ho rfl rfl rfl (Nat.le_of_ble_eq_true rfl) eg)]
              clear eg
              have e0 : a.tmps.getD 58 undef = .slice (some ⟨g5, 0, none⟩) m5 c5 := hpre ⟨32, .data⟩ (by simp) rfl _ rfl
              have e1 : a.tmps.getD 59 undef = .int .i64 (i : Int) := hpre ⟨33, .data⟩ (by simp) rfl _ rfl
              go_simp
              exact hK _ _ (Below.refl _ _) hW rfl
            · intro a W K ho hW hpre hK
              have eg : a.tmps.getD 57 undef = .bool true := hpre ⟨31, .guard⟩ (by simp) rfl _ rfl
              rw [if_pos (wanted_at ho rfl rfl rfl (Nat.le_of_ble_eq_true rfl) eg)]
              clear eg
              have e0 : a.tmps.getD 60 undef = .pointer (some ⟨g5, i, none⟩) := hpre ⟨34, .data⟩ (by simp) rfl _ rfl
              obtain ⟨q0, q1, q2⟩ := FX.out W hW
              go_simp
              exact hK _ _ (Below.refl _ _) hW rfl
            · intro a W K ho hW hpre hK
              have eg : a.tmps.getD 57 undef = .bool true := hpre ⟨31, .guard⟩ (by simp) rfl _ rfl
              rw [if_pos (wanted_at ho rfl rfl rfl (Nat.le_of_ble_eq_true rfl) eg)]
              clear eg
              have e0 : a.tmps.getD 6 undef = .slice (some ⟨g5, 0, none⟩) m5 c5 := ho.slot 6 (by decide)
              go_simp
              exact hK _ _ (Below.refl _ _) hW rfl
            · intro a W K ho hW hpre hK
              have eg : a.tmps.getD 57 undef = .bool true := hpre ⟨31, .guard⟩ (by simp) rfl _ rfl
              rw [if_pos (wanted_at ho rfl rfl rfl (Nat.le_of_ble_eq_true rfl) eg)]
              clear eg
              have e0 : a.tmps.getD 7 undef = .int .i64 (i : Int) := ho.slot 7 (by decide)
              go_simp
              exact hK _ _ (Below.refl _ _) hW rfl
            · intro a W K ho hW hpre hK
              have eg : a.tmps.getD 57 undef = .bool true := hpre ⟨31, .guard⟩ (by simp) rfl _ rfl
              rw [if_pos (wanted_at ho rfl rfl rfl (Nat.le_of_ble_eq_true rfl) eg)]
              clear eg
              have e0 : a.tmps.getD 63 undef = .int .i64 (i : Int) := hpre ⟨37, .data⟩ (by simp) rfl _ rfl
              go_simp
              exact hK _ _ (Below.refl _ _) hW rfl
            · intro a W K ho hW hpre hK
              have eg : a.tmps.getD 57 undef = .bool true := hpre ⟨31, .guard⟩ (by simp) rfl _ rfl
              rw [if_pos (wanted_at ho rfl rfl rfl (Nat.le_of_ble_eq_true rfl) eg)]
              clear eg
              have e0 : a.tmps.getD 62 undef = .slice (some ⟨g5, 0, none⟩) m5 c5 := hpre ⟨36, .data⟩ (by simp) rfl _ rfl
              have e1 : a.tmps.getD 64 undef = .int .i64 (i' : Int) := hpre ⟨38, .data⟩ (by simp) rfl _ rfl
              go_simp
              exact hK _ _ (Below.refl _ _) hW rfl
            · intro a W K ho hW hpre hK
              have eg : a.tmps.getD 57 undef = .bool true := hpre ⟨31, .guard⟩ (by simp) rfl _ rfl
              rw [if_pos (wanted_at ho rfl rfl rfl (Nat.le_of_ble_eq_true rfl) eg)]
              clear eg
              have e0 : a.tmps.getD 65 undef = .pointer (some ⟨g5, i', none⟩) := hpre ⟨39, .data⟩ (by simp) rfl _ rfl
              have q0 := FZ.out W hW
              go_simp
              exact hK _ _ (Below.refl _ _) hW rfl
            · intro a W K ho hW hpre hK
              have eg : a.tmps.getD 57 undef = .bool true := hpre ⟨31, .guard⟩ (by simp) rfl _ rfl
              rw [if_pos (wanted_at ho rfl rfl rfl (Nat.le_of_ble_eq_true rfl) eg)]
              clear eg
              have e0 : a.tmps.getD 61 undef = .int .i64 (y : Int) := hpre ⟨35, .data⟩ (by simp) rfl _ rfl
              have e1 : a.tmps.getD 66 undef = .int .i64 (z : Int) := hpre ⟨40, .data⟩ (by simp) rfl _ rfl
              go_simp
              exact hK _ _ (Below.refl _ _) hW (by show Value.bool _ = Value.bool false; congr 1; exact decide_eq_false (by omega))
            · intro a W K ho hW hpre hK
              have eg : a.tmps.getD 54 undef = .bool false := hpre ⟨28, .guard⟩ (by simp) rfl _ rfl
              rw [if_pos (wanted_at ho rfl rfl rfl (Nat.le_of_ble_eq_true rfl) eg)]
              clear eg
              have e0 : a.tmps.getD 57 undef = .bool true := hpre ⟨31, .data⟩ (by simp) rfl _ rfl
              have e1 : a.tmps.getD 67 undef = .bool false := hpre ⟨41, .data⟩ (by simp) rfl _ rfl
              go_simp
              exact hK _ _ (Below.refl _ _) hW rfl
            · intro a W K ho hW hpre hK
              rw [if_pos (wanted_none rfl)]
              have e0 : a.tmps.getD 54 undef = .bool false := hpre ⟨28, .data⟩ (by simp) rfl _ rfl
              have e1 : a.tmps.getD 68 undef = .bool false := hpre ⟨42, .data⟩ (by simp) rfl _ rfl
              go_simp
              exact hK _ _ (Below.refl _ _) hW rfl
            · intro a W ho hW hall
              have e69 : a.tmps.getD 69 undef = .bool false := hall 43 _ rfl
              have heq := ho.eq
              have HQ2 := Lib.hid (HQ.out.trans (hW.mono HQ.out.size))
              clear ho hW hall
              simp only [putL, e69] at heq
              generalize a.tmps.getD 26 undef = u26 at heq
              generalize a.tmps.getD 27 undef = u27 at heq
              generalize a.tmps.getD 28 undef = u28 at heq
              generalize a.tmps.getD 29 undef = u29 at heq
              generalize a.tmps.getD 30 undef = u30 at heq
              generalize a.tmps.getD 31 undef = u31 at heq
              generalize a.tmps.getD 32 undef = u32 at heq
              generalize a.tmps.getD 33 undef = u33 at heq
              generalize a.tmps.getD 34 undef = u34 at heq
              generalize a.tmps.getD 35 undef = u35 at heq
              generalize a.tmps.getD 36 undef = u36 at heq
              generalize a.tmps.getD 37 undef = u37 at heq
              generalize a.tmps.getD 38 undef = u38 at heq
              generalize a.tmps.getD 39 undef = u39 at heq
              generalize a.tmps.getD 40 undef = u40 at heq
              generalize a.tmps.getD 41 undef = u41 at heq
              generalize a.tmps.getD 42 undef = u42 at heq
              generalize a.tmps.getD 43 undef = u43 at heq
              generalize a.tmps.getD 44 undef = u44 at heq
              generalize a.tmps.getD 45 undef = u45 at heq
              generalize a.tmps.getD 46 undef = u46 at heq
              generalize a.tmps.getD 47 undef = u47 at heq
              generalize a.tmps.getD 48 undef = u48 at heq
              generalize a.tmps.getD 49 undef = u49 at heq
              generalize a.tmps.getD 50 undef = u50 at heq
              generalize a.tmps.getD 51 undef = u51 at heq
              generalize a.tmps.getD 52 undef = u52 at heq
              generalize a.tmps.getD 53 undef = u53 at heq
              generalize a.tmps.getD 54 undef = u54 at heq
              generalize a.tmps.getD 55 undef = u55 at heq
              generalize a.tmps.getD 56 undef = u56 at heq
              generalize a.tmps.getD 57 undef = u57 at heq
              generalize a.tmps.getD 58 undef = u58 at heq
              generalize a.tmps.getD 59 undef = u59 at heq
              generalize a.tmps.getD 60 undef = u60 at heq
              generalize a.tmps.getD 61 undef = u61 at heq
              generalize a.tmps.getD 62 undef = u62 at heq
              generalize a.tmps.getD 63 undef = u63 at heq
              generalize a.tmps.getD 64 undef = u64 at heq
              generalize a.tmps.getD 65 undef = u65 at heq
              generalize a.tmps.getD 66 undef = u66 at heq
              generalize a.tmps.getD 67 undef = u67 at heq
              generalize a.tmps.getD 68 undef = u68 at heq
              subst heq
              rename_i hKK
              refine hKK _ _ ?_
              clear e69
              go_simp
              go_wp2
              go_roundw
              case rel => exact ⟨i + 1, by omega, by go_num, by go_num, HQ2⟩
              case measure => simp [intOf]; omega
        · obtain rfl : i = m5 := by omega
          have HKj : Hid (KB w bC cf AI N cI wr) := Lib.hid (HK5.out.keep HQ.out)
          go_wp2
          go_roundw
          case rel => exact ⟨k + 1, by omega, by go_num, by rw [HC1.out, ← HM5.out], HKj⟩
          case measure => simp [intOf]; omega
    · obtain rfl : k = 4 := by omega
      have HC4 : Hid (cntB cf.insts 4 = N) := Lib.hid (by rw [cnt_four HOK.out, HNN.out])
      rw [HC4.out]
      have C1 := Lib.hid (CB.out (-1) wr HKr.out)
      have C2 := Lib.hid (fun W h => CB.out 4 W h)
      rw [show buckL cf.insts (-1) N = [] from by rw [HNN.out]; exact buck_nil HOK.out (by omega)] at C1
      rw [show buckL cf.insts 4 N = [] from by rw [HNN.out]; exact buck_nil HOK.out (by omega)] at C2
      go_wp2_with (first
        | (go_at_call 16; (with_reducible refine C1.out.mono ?_); rintro r w6 ⟨v6, rfl, ho6, hb6⟩; obtain ⟨A6, c6, rfl, _⟩ := OwnL.form ho6 lay_nat; have HK6 := Lib.hid (HKr.out.keep hb6); obtain ⟨d0, d1, d2, d3, d4, d5, d6⟩ := HK6.out.at'.reads; clear ho6 hb6)
        | (go_at_call 16; (with_reducible refine (C2.out _ HK6.out).mono ?_); rintro r w7 ⟨v7, rfl, ho7, hb7⟩; obtain ⟨A7, c7, rfl, _⟩ := OwnL.form ho7 lay_nat; have HK7 := Lib.hid (HK6.out.keep hb7); clear ho7 hb7))
      go_ret
      exact ⟨rfl, HK7.out.bel⟩
end Go.Proofs.Ytldceocbmmidmaa
