/-
  The walk of novationlaw9.JournalFlight.
-/
import Derived.Test.YtmpipjangbedkaaMPl4
namespace Go.Proofs.Ytmpipjangbedkaa
set_option maxRecDepth 8000
open Go Go.RowKit
set_option linter.unusedVariables false

theorem ownE_at {w : World} {base : Nat} {A : Option Addr} {n c : Nat} {l : List Ev} (h : OwnE w base (.slice A n c) l) : l.length ≤ c ∧ EvM w A l := by
  obtain ⟨A', c', e, h1, h2⟩ := ownE_form h
  injection e with e1 e2 e3
  subst e1; subst e3
  exact ⟨h1, h2⟩
theorem evm_of {w : World} {base : Nat} {A : Option Addr} {n c : Nat} {l : List Ev} (h : OwnE w base (.slice A n c) l) : EvM w A l := (ownE_at h).2
set_option maxRecDepth 100000 in
set_option maxHeartbeats 32000000 in
theorem jflight_walk (A : Option Addr) (l : List Int) (c n x y : Nat) (hk : n = l.length) (hx : x ≤ 255) (hy : y ≤ 255) (w : World) (hn : Nums w A l) :
    Calls Try.prog 5 #[.slice A n c, .int .u8 (x : Int), .int .u8 (y : Int)] w fun r w' => r = .returned (.bool true) ∧ Below w.heap.size w w' := by
  have CK := Lib.hid (known9_any w)
  have CO := Lib.hid (fun W (h : Below w.heap.size w W) => deck_of w W A l c n hk hn h)
  have HB0 := Lib.hid (Below.refl w.heap.size w)
  obtain ⟨q, hq, hq16⟩ : ∃ q : Nat, (x : Int) % 16 = (q : Int) ∧ q < 16 := ⟨x % 16, by omega, by omega⟩
  clear hn hk
  go_enter Try.func5, Try.ntmps5
  go_wp2_with (first
    | (go_at_call 20; (with_reducible refine CAR.out.mono ?_); rintro r w7 ⟨rfl, h7⟩; have HJ7 := Lib.hid h7; clear h7)
    | (go_at_call 11; (with_reducible refine CST.out.mono ?_); rintro r w6 ⟨rfl, h6⟩; have CAR := Lib.hid (h6.arm (q : Int) (y : Int) (by unfold I64; omega) (by unfold I64; omega)); rw [tfl_arm (by omega)] at CAR; clear h6)
    | (go_at_call 10; (with_reducible refine CN.out.mono ?_); rintro r w5 ⟨rfl, ht5, hb5⟩; have HJ5 := Lib.hid (HJF.out w5 ht5 hb5); obtain ⟨d0, d1, d2, d3, d4, d5, d6⟩ := (HJ5.out.cfg _ List.mem_cons_self).1.reads; have CST := Lib.hid (HJ5.out.start w3.heap.size cf AI cI List.mem_cons_self (ok_cfgI HOK.out)); rw [tat_start (ok_cfgI HOK.out) (ok_plan HOK.out)] at CST; unfold Cfg.v at CST; clear ht5 hb5)
    | (go_at_call 9; (with_reducible refine CE.out.mono ?_); rintro r w4 ⟨vE, es, rfl, hoe, hg, hle, hd4, ht4⟩; obtain ⟨AE, cE, rfl, _⟩ := OwnL.form hoe lay_ev; have HG := Lib.hid hg; have HLE := Lib.hid hle; have HB4 := Lib.hid hd4.below; have CN := Lib.hid (new_any 100000 w4); have HJF : Hid (∀ w5, TapeAt false w5 w4.heap.size w4.heap.size (.slice none 0 0) (newTp 100000) → Below w4.heap.size w4 w5 → JW w w4.heap.size (newTp 100000) [] [(w3.heap.size, cf, .slice AI cf.insts.length cI)] [(.slice AE es.length cE, es)] [] w5) := Lib.hid (fun w5 ht5 hb5 => jw_new (cf := cf) (vI := .slice AI cf.insts.length cI) hlt2 hsw2 HO3.out ht4 hsz3 hoe hd4.below ht5 hb5); clear hg hoe hd4 ht4)
    | (go_at_call 8; (with_reducible refine (deck_config w _ A l c _ 0 HD2.out (by omega)).mono ?_); rintro r w3 ⟨cf, v, rfl, hcf, ho3, hd3, ht3⟩; obtain ⟨AI, cI, rfl, _⟩ := OwnL.form ho3 lay_ins; have HOK := Lib.hid hcf; have CE := Lib.hid (devents_any w _ A l c _ (0 + 60) (hd3.keep (alloc_below w3 (.cells #[.slice AI cf.insts.length cI, .int .i64 cf.skin, .int .i64 cf.times, .int .i64 cf.port, .int .i64 cf.bid, .int .i64 cf.lot, .int .i64 cf.hedge] 28))) (by omega) cf (.slice AI cf.insts.length cI) ((CfgIn.of hcf ho3 hd3).keep (alloc_below w3 (.cells #[.slice AI cf.insts.length cI, .int .i64 cf.skin, .int .i64 cf.times, .int .i64 cf.port, .int .i64 cf.bid, .int .i64 cf.lot, .int .i64 cf.hedge] 28)))); unfold Cfg.v at CE; simp only [Cfg.v]; have HO3 := Lib.hid ho3; have hsz3 := ht3.size; have hsw2 := HD2.out.below.size; clear hcf ho3 hd3 ht3)
    | (go_at_call 7; (with_reducible refine (CO.out _ HB1.out).mono ?_); rintro r w2 ⟨rfl, hd2⟩; have HD2 := Lib.hid hd2; have hlt2 : w1.heap.size < w2.heap.size := (by obtain ⟨_, _, hr2⟩ := hd2.box; exact Rec.lt hr2); clear hd2)
    | (go_at_call 6; (with_reducible refine CK.out.mono ?_); rintro r w1 ⟨rfl, hb1⟩; have HB1 := Lib.hid (HB0.out.trans (hb1.mono HB0.out.size)); clear hb1))
  go_loopw [11] (fun i wr => ∃ k : Nat, i = .int .i64 (k : Int) ∧ k ≤ es.length ∧ k ≤ q ∧ Hid (JW w w4.heap.size (tfl cf (es.take k) ((q : Int) - k) y) [] [(w3.heap.size, cf, .slice AI cf.insts.length cI)] [(.slice AE es.length cE, es)] [] wr)) (fun i _ => es.length - (intOf i).toNat)
  case atStart => exact ⟨0, rfl, Nat.zero_le _, Nat.zero_le _, Lib.hid (by simpa using HJ7.out)⟩
  case round =>
    obtain ⟨k, rfl, hke, hkq, HJ⟩ := hrel
    have hevs : OwnE wr w.heap.size (.slice AE es.length cE) es := HJ.out.evs _ List.mem_cons_self
    obtain ⟨hcE, hEM⟩ := ownE_at hevs
    clear hevs
    have hle := HLE.out
    by_cases hlt : k < es.length
    · obtain ⟨bE, oE, rfl, hcells⟩ := hEM (by omega)
      obtain ⟨g0, g1, g2, g3, g4, g5, g6, g7⟩ := hcells k hlt
      obtain ⟨ev, hev⟩ : ∃ e, e = es.getD k Ev.zero := ⟨_, rfl⟩
      rw [← hev] at g0 g1 g2 g3 g4 g5 g6 g7
      have HGE : Hid (Good ev) := Lib.hid (by rw [hev]; exact good_at HG.out hlt)
      have HTN : Hid (es.take k ++ [ev] = es.take (k + 1)) := Lib.hid (by rw [hev]; exact (take_next hlt).symm)
      have hroom : (catJ (jls cf (es.take k ++ [ev]))).length ≤ 100000 := by
        rw [HTN.out]
        have := jls_room (ok_cfgI HOK.out) (ok_plan HOK.out) (good_take HG.out (k + 1)) (by rw [List.length_take]; omega)
        omega
      have hcad := HJ.out.add ev HGE.out.1
      clear hcells hEM hev
      by_cases hq0 : k < q
      · rw [tfl_add HGE.out.2 hroom (by omega), HTN.out, show (q : Int) - (k : Int) - 1 = (q : Int) - ((k + 1 : Nat) : Int) from by omega] at hcad
        have CAD := Lib.hid hcad
        unfold Ev.v at CAD
        clear hcad hroom
        go_wp2_with ((go_at_call 12; (with_reducible refine CAD.out.mono ?_); rintro r w8 ⟨rfl, h8⟩; have HJ8 := Lib.hid h8; clear h8))
        go_roundw
        case rel => exact ⟨k + 1, by go_num, by omega, by omega, HJ8⟩
        case measure => simp [intOf]; omega
      · obtain rfl : k = q := by omega
        rw [tfl_gone HGE.out.2 hroom (by omega)] at hcad
        obtain ⟨qq, hqe⟩ : ∃ qq, qq = frontN y (recL (textE ev)).length := ⟨_, rfl⟩
        rw [← hqe] at hcad
        have hql : qq ≤ (recL (textE ev)).length := by rw [hqe]; exact frontN_le _ _
        have CAD := Lib.hid hcad
        unfold Ev.v at CAD
        have HLT := Lib.hid hlt
        clear hcad hroom hqe
        go_wp2_with ((go_at_call 12; (with_reducible refine CAD.out.mono ?_); rintro r w8 ⟨rfl, h8⟩; have HJX := Lib.hid h8; clear h8))
        have hqd : decide (qq = (recL (textE ev)).length) = true ∨ True := .inr trivial
        clear hqd
        by_cases hqq : qq = (recL (textE ev)).length
        · have HDN := Lib.hid (HJX.out.down)
          have HWK := Lib.hid (HJX.out.wake)
          rw [show (tdn cf (es.take k) ev qq).down = true from rfl] at HDN
          rw [tdn_wake] at HWK
          obtain ⟨TW, hTW⟩ : ∃ T, T = tat 100000 (catJ (jls cf (es.take k)) ++ (recL (textE ev)).take qq) := ⟨_, rfl⟩
          have hTO : ∃ T2, TW.jopen = (T2, cf, es.take (k + 1), 0) := ⟨_, by rw [hTW]; rw [← HTN.out]; exact (tat_full (ok_cfgI HOK.out) (ok_plan HOK.out) (good_take HG.out k) HGE.out hqq)⟩
          rw [← hTW] at HWK
          obtain ⟨T2, hT2⟩ := hTO
          have HT2 := Lib.hid hT2
          have hml : (es.take (k + 1)).length = (k + 1) := by rw [List.length_take]; omega
          have HML := Lib.hid hml
          have HKD : Hid (Below w.heap.size w w8) := Lib.hid HJX.out.below
          have hkl : decide ((k : Int) < (es.length : Int)) = true := decide_eq_true (by omega)
          have hkc : k ≤ cE := by omega
          have hkc1 : k + 1 ≤ cE := by omega
          have hwk : IntKind.i64.wrap ((k : Int) + 1) = ((k + 1 : Nat) : Int) := by rw [wrap_id (by unfold I64; omega)]; omega
          clear hT2 hTW hml
          go_wp2_with (first
            | (go_at_call 17; (with_reducible refine CE3.out.mono ?_); rintro r w11 ⟨rfl, hb11⟩; have HBH := Lib.hid (HBG.out.trans (hb11.mono HBG.out.size)); clear hb11)
            | (go_at_call 17; (with_reducible refine CE1.out.mono ?_); rintro r w10 ⟨rfl, hb10⟩; have CE3 := Lib.hid (CE2.out w10 hb10); have HBG := Lib.hid (HBF.out.trans (hb10.mono HBF.out.size)); clear hb10)
            | (go_at_call 13; (with_reducible refine HOP.out.mono ?_); rintro r w9 ⟨A9, c9, A8, c8, rfl, hoi, hoe, h9⟩; simp only [Cfg.v]; have HXT := Lib.hid (h9.keep (alloc_below w9 (.cells #[.slice A9 cf.insts.length c9, .int .i64 cf.skin, .int .i64 cf.times, .int .i64 cf.port, .int .i64 cf.bid, .int .i64 cf.lot, .int .i64 cf.hedge] 28))); have HM9 := Lib.hid (evm_of (OwnL.keep hoe (alloc_below w9 (.cells #[.slice A9 cf.insts.length c9, .int .i64 cf.skin, .int .i64 cf.times, .int .i64 cf.port, .int .i64 cf.bid, .int .i64 cf.lot, .int .i64 cf.hedge] 28)))); have hev9 : OwnE _ w.heap.size (.slice (some ⟨bE, oE, none⟩) es.length cE) es := HXT.out.evs _ List.mem_cons_self; have HE9 := Lib.hid (evm_of hev9); clear hev9; have CE1 := Lib.hid (events_any _ _ (es.take (k + 1)) (es.take k) (k + 1) k c8 cE _ HML.out.symm (by rw [List.length_take]; omega) HM9.out (HE9.out.take k) (by omega)); rw [decide_eq_false (fun e : es.take (k + 1) = es.take k => by have h1 := congrArg List.length e; rw [List.length_take, List.length_take] at h1; omega)] at CE1; have CE2 := Lib.hid (fun W (hb : Below _ _ W) => events_any _ _ (es.take (k + 1)) (es.take (k + 1)) (k + 1) (k + 1) c8 cE W HML.out.symm HML.out.symm (HM9.out.below hb) ((HE9.out.take (k + 1)).below hb) (by omega)); rw [decide_eq_true rfl] at CE2; have HBF := Lib.hid HXT.out.below; clear hoi hoe h9)
            | (go_at_call 22; (with_reducible refine HWK.out.mono ?_); rintro r w7b ⟨rfl, h8⟩; have h9 := h8.open; rw [HT2.out] at h9; dsimp only at h9; rw [HML.out] at h9; have HOP := Lib.hid h9; clear h8 h9)
            | (go_at_call 21; (with_reducible refine HDN.out.mono ?_); rintro r wq ⟨rfl, hwq⟩; obtain rfl : w8 = wq := hwq))
          go_ret
          exact ⟨rfl, HBH.out⟩
        · have hqq : qq < (recL (textE ev)).length := by omega
          have HDN := Lib.hid (HJX.out.down)
          have HWK := Lib.hid (HJX.out.wake)
          rw [show (tdn cf (es.take k) ev qq).down = true from rfl] at HDN
          rw [tdn_wake] at HWK
          obtain ⟨TW, hTW⟩ : ∃ T, T = tat 100000 (catJ (jls cf (es.take k)) ++ (recL (textE ev)).take qq) := ⟨_, rfl⟩
          have hTO : ∃ T2, TW.jopen = (T2, cf, es.take k, 0) := ⟨_, by rw [hTW]; exact tat_front (ok_cfgI HOK.out) (ok_plan HOK.out) (good_take HG.out k) HGE.out hqq⟩
          rw [← hTW] at HWK
          obtain ⟨T2, hT2⟩ := hTO
          have HT2 := Lib.hid hT2
          have hml : (es.take k).length = k := by rw [List.length_take]; omega
          have HML := Lib.hid hml
          have HKD : Hid (Below w.heap.size w w8) := Lib.hid HJX.out.below
          have hkl : decide ((k : Int) < (es.length : Int)) = true := decide_eq_true (by omega)
          have hkc : k ≤ cE := by omega
          clear hT2 hTW hml
          go_wp2_with (first
            | (go_at_call 17; (with_reducible refine CE1.out.mono ?_); rintro r w10 ⟨rfl, hb10⟩; have HBH := Lib.hid (HBF.out.trans (hb10.mono HBF.out.size)); clear hb10)
            | (go_at_call 13; (with_reducible refine HOP.out.mono ?_); rintro r w9 ⟨A9, c9, A8, c8, rfl, hoi, hoe, h9⟩; simp only [Cfg.v]; have HXT := Lib.hid (h9.keep (alloc_below w9 (.cells #[.slice A9 cf.insts.length c9, .int .i64 cf.skin, .int .i64 cf.times, .int .i64 cf.port, .int .i64 cf.bid, .int .i64 cf.lot, .int .i64 cf.hedge] 28))); have HM9 := Lib.hid (evm_of (OwnL.keep hoe (alloc_below w9 (.cells #[.slice A9 cf.insts.length c9, .int .i64 cf.skin, .int .i64 cf.times, .int .i64 cf.port, .int .i64 cf.bid, .int .i64 cf.lot, .int .i64 cf.hedge] 28)))); have hev9 : OwnE _ w.heap.size (.slice (some ⟨bE, oE, none⟩) es.length cE) es := HXT.out.evs _ List.mem_cons_self; have HE9 := Lib.hid (evm_of hev9); clear hev9; have CE1 := Lib.hid (events_any _ _ (es.take k) (es.take k) k k c8 cE _ HML.out.symm (by rw [List.length_take]; omega) HM9.out (HE9.out.take k) (by omega)); rw [decide_eq_true rfl] at CE1; have HBF := Lib.hid HXT.out.below; clear hoi hoe h9)
            | (go_at_call 22; (with_reducible refine HWK.out.mono ?_); rintro r w7b ⟨rfl, h8⟩; have h9 := h8.open; rw [HT2.out] at h9; dsimp only at h9; rw [HML.out] at h9; have HOP := Lib.hid h9; clear h8 h9)
            | (go_at_call 21; (with_reducible refine HDN.out.mono ?_); rintro r wq ⟨rfl, hwq⟩; obtain rfl : w8 = wq := hwq))
          go_ret
          exact ⟨rfl, HBH.out⟩
    · have HJX := HJ
      have HDN := Lib.hid (HJX.out.down)
      have HWK := Lib.hid (HJX.out.wake)
      rw [show (tfl cf (es.take k) ((q : Int) - k) y).down = false from rfl] at HDN
      rw [tfl_wake] at HWK
      obtain ⟨TW, hTW⟩ : ∃ T, T = tat 100000 (catJ (jls cf (es.take k))) := ⟨_, rfl⟩
      have hTO : ∃ T2, TW.jopen = (T2, cf, es.take k, 0) := ⟨_, by rw [hTW]; exact tat_whole (ok_cfgI HOK.out) (ok_plan HOK.out) (good_take HG.out k)⟩
      rw [← hTW] at HWK
      obtain ⟨T2, hT2⟩ := hTO
      have HT2 := Lib.hid hT2
      have hml : (es.take k).length = k := by rw [List.length_take]; omega
      have HML := Lib.hid hml
      have HKD : Hid (Below w.heap.size w wr) := Lib.hid HJX.out.below
      have hkl : decide ((k : Int) < (es.length : Int)) = false := decide_eq_false (by omega)
      have hkc : k ≤ cE := by omega
      clear hT2 hTW hml
      go_wp2_with (first
        | (go_at_call 17; (with_reducible refine CE1.out.mono ?_); rintro r w10 ⟨rfl, hb10⟩; have HBH := Lib.hid (HBF.out.trans (hb10.mono HBF.out.size)); clear hb10)
        | (go_at_call 13; (with_reducible refine HOP.out.mono ?_); rintro r w9 ⟨A9, c9, A8, c8, rfl, hoi, hoe, h9⟩; simp only [Cfg.v]; have HXT := Lib.hid (h9.keep (alloc_below w9 (.cells #[.slice A9 cf.insts.length c9, .int .i64 cf.skin, .int .i64 cf.times, .int .i64 cf.port, .int .i64 cf.bid, .int .i64 cf.lot, .int .i64 cf.hedge] 28))); have HM9 := Lib.hid (evm_of (OwnL.keep hoe (alloc_below w9 (.cells #[.slice A9 cf.insts.length c9, .int .i64 cf.skin, .int .i64 cf.times, .int .i64 cf.port, .int .i64 cf.bid, .int .i64 cf.lot, .int .i64 cf.hedge] 28)))); have hev9 : OwnE _ w.heap.size (.slice AE es.length cE) es := HXT.out.evs _ List.mem_cons_self; have HE9 := Lib.hid (evm_of hev9); clear hev9; have CE1 := Lib.hid (events_any _ _ (es.take k) (es.take k) k k c8 cE _ HML.out.symm (by rw [List.length_take]; omega) HM9.out (HE9.out.take k) (by omega)); rw [decide_eq_true rfl] at CE1; have HBF := Lib.hid HXT.out.below; clear hoi hoe h9)
        | (go_at_call 22; (with_reducible refine HWK.out.mono ?_); rintro r w7b ⟨rfl, h8⟩; have h9 := h8.open; rw [HT2.out] at h9; dsimp only at h9; rw [HML.out] at h9; have HOP := Lib.hid h9; clear h8 h9)
        | (go_at_call 21; (with_reducible refine HDN.out.mono ?_); rintro r wq ⟨rfl, hwq⟩; obtain rfl : wr = wq := hwq))
      go_ret
      exact ⟨rfl, HBH.out⟩

theorem jflight_top (A : Option Addr) (l : List Int) (c n : Nat) (hk : n = l.length) (a1 a2 : Int) (w1 : (Lit.int .u8 a1).wf = true) (w2 : (Lit.int .u8 a2).wf = true) (w : World) (hn : Nums w A l) :
    Calls Try.prog 5 #[.slice A n c, .int .u8 a1, .int .u8 a2] w fun r w' => r = .returned (.bool true) ∧ Below w.heap.size w w' := by
  obtain ⟨h1, h2⟩ := wf_u8 w1
  obtain ⟨h3, h4⟩ := wf_u8 w2
  have := jflight_walk A l c n a1.toNat a2.toNat hk (by omega) (by omega) w hn
  rwa [show (a1.toNat : Int) = a1 from by omega, show (a2.toNat : Int) = a2 from by omega] at this
end Go.Proofs.Ytmpipjangbedkaa
