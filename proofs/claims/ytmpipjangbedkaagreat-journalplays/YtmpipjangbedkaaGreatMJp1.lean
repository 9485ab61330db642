import Derived.Test.YtmpipjangbedkaaGreatMDo9
/-
  The walk of novationlaw9.JournalPlays.
-/
namespace Go.Proofs.YtmpipjangbedkaaGreat
set_option maxRecDepth 8000
open Go Go.RowKit
set_option linter.unusedVariables false

/-- What is kept from act to act. -/
structure JPl (w : World) (B b b' kC base : Nat) (cf : Cfg) (AI : Option Addr) (cI : Nat) (W : World) : Prop where
  tw : ∃ t s v v', Same t s ∧ Two B b b' t s W v v'
  ok : cf.Ok
  ins : OwnI W base (.slice AI cf.insts.length cI) cf.insts
  insLt : ∀ k, (Value.slice AI cf.insts.length cI).ownBlock = some k → k < B
  cfg : CfAt W kC cf (.slice AI cf.insts.length cI)
  kC_lt : kC < B
  below : Below w.heap.size w W
  low : w.heap.size ≤ B
section
variable {w : World} {B b b' kC base : Nat} {cf : Cfg} {AI : Option Addr} {cI : Nat} {W W' : World}
theorem JPl.keep (h : JPl w B b b' kC base cf AI cI W) (hb : Below W.heap.size W W') : JPl w B b b' kC base cf AI cI W' := by
  obtain ⟨t, s, v, v', hs, h1, h2, h3⟩ := h.tw
  exact ⟨⟨t, s, v, v', hs, h1.keep hb, h2.keep hb, h3⟩, h.ok, OwnL.keep h.ins hb, h.insLt, CfAt.keep h.cfg hb, h.kC_lt, h.below.trans (hb.mono h.below.size), h.low⟩
theorem JPl.deed (h : JPl w B b b' kC base cf AI cI W) (a : JAct) (A : Option Addr) (c : Nat) (ok : a.Ok c A) (hy : Byts W A a.b) (hlow : ∀ bb o, A = some ⟨bb, o, none⟩ → 0 < a.b.length → bb < w.heap.size) :
    Calls Tryz.prog 10 #[.pointer (some ⟨b, 0, none⟩), .pointer (some ⟨b', 0, none⟩), cf.v (.slice AI cf.insts.length cI), actJ a A c] W fun e w' => e = .returned (.bool true) ∧ JPl w B b b' kC base cf AI cI w' := by
  obtain ⟨t, s, v, v', hs, h2⟩ := h.tw
  refine (do9_any W B b b' t s v v' cf AI cI base a A c ⟨h2, hs, h.ok, h.ins, h.insLt, ok, hy, fun bb o e h0 => Nat.lt_of_lt_of_le (hlow bb o e h0) h.low⟩).mono ?_
  rintro e w' ⟨rfl, t1, s1, hs1, hO⟩
  have hel := hO.elder h2
  have out : ∀ k, k < B → ¬ (foot b v k ∨ foot b' v' k) := fun k hk hf => by
    rcases hf with hf | hf
    · have := h2.1.lt hf; omega
    · have := h2.2.1.lt hf; omega
  obtain ⟨⟨v1, v1', h3, _⟩, ht⟩ := hO
  exact ⟨rfl, ⟨t1, s1, v1, v1', hs1, h3⟩, h.ok, OwnL.touch h.ins ht (fun k hk => out k (h.insLt k hk)), h.insLt, Rec.touch h.cfg ht (out _ h.kC_lt), h.kC_lt, h.below.trans (hel.mono h.low), h.low⟩
theorem JPl.alike (h : JPl w B b b' kC base cf AI cI W) : Calls Tryz.prog 11 #[.pointer (some ⟨b, 0, none⟩), .pointer (some ⟨b', 0, none⟩)] W fun e w' => e = .returned (.bool true) ∧ JPl w B b b' kC base cf AI cI w' := by
  have h' := h
  obtain ⟨t, s, v, v', hs, h2⟩ := h.tw
  refine (alike_any W B b b' t s v v' h2.1 h2.2.1 hs).mono ?_
  rintro e w' ⟨rfl, hb⟩
  exact ⟨rfl, h'.keep hb⟩
end
theorem jpl_new {r : Int} {w w2 w3 w5 w6 : World} {A : Option Addr} {l : List Int} {c m sD bT : Nat} {cf : Cfg} {AI : Option Addr} {cI : Nat} (ok : cf.Ok) (ho : OwnI w3 w2.heap.size (.slice AI cf.insts.length cI) cf.insts) (hd : Deck w A l c sD m w3)
    (hbT : bT = (w3.alloc (.cells #[.slice AI cf.insts.length cI, .int .i64 cf.skin, .int .i64 cf.times, .int .i64 cf.port, .int .i64 cf.bid, .int .i64 cf.lot, .int .i64 cf.hedge] 31)).heap.size) (ht5 : TapeAt false w5 bT bT (.slice none 0 0) (newTp r)) (hb5 : Below bT (w3.alloc (.cells #[.slice AI cf.insts.length cI, .int .i64 cf.skin, .int .i64 cf.times, .int .i64 cf.port, .int .i64 cf.bid, .int .i64 cf.lot, .int .i64 cf.hedge] 31)) w5)
    (ht6 : TapeAt true w6 w5.heap.size w5.heap.size (.slice none 0 0) (newTp r)) (hb6 : Below w5.heap.size w5 w6) : JPl w bT bT w5.heap.size w3.heap.size w2.heap.size cf AI cI w6 := by
  have hal := alloc_below w3 (.cells #[.slice AI cf.insts.length cI, .int .i64 cf.skin, .int .i64 cf.times, .int .i64 cf.port, .int .i64 cf.bid, .int .i64 cf.lot, .int .i64 cf.hedge] 31)
  have hs : bT = w3.heap.size + 1 := by rw [hbT]; simp
  have hB : Below w3.heap.size w3 w6 := (hal.trans (hb5.mono (by omega))).trans (hb6.mono (by have := hb5.size; rw [← hbT] at this; omega))
  have hc : CfAt (w3.alloc (.cells #[.slice AI cf.insts.length cI, .int .i64 cf.skin, .int .i64 cf.times, .int .i64 cf.port, .int .i64 cf.bid, .int .i64 cf.lot, .int .i64 cf.hedge] 31)) w3.heap.size cf (.slice AI cf.insts.length cI) := Rec.new w3 _ (cf.cells (.slice AI cf.insts.length cI)) _ rfl
  have hb5' : Below (w3.alloc (.cells #[.slice AI cf.insts.length cI, .int .i64 cf.skin, .int .i64 cf.times, .int .i64 cf.port, .int .i64 cf.bid, .int .i64 cf.lot, .int .i64 cf.hedge] 31)).heap.size (w3.alloc (.cells #[.slice AI cf.insts.length cI, .int .i64 cf.skin, .int .i64 cf.times, .int .i64 cf.port, .int .i64 cf.bid, .int .i64 cf.lot, .int .i64 cf.hedge] 31)) w5 := by rw [← hbT]; exact hb5
  have l5 := ht5.box.lt
  have hd6 := hd.keep hB
  refine ⟨⟨_, _, _, _, same_new r, ht5.keep hb6, ht6.lower (by omega), fun k hk hf => ?_⟩, ok, OwnL.keep ho hB, fun k hk => ?_, CfAt.keep (CfAt.keep hc hb5') hb6, by omega, hd6.below, by have := hd.below.size; omega⟩
  · have h1 := foot_none hk; have h2 := foot_none hf; omega
  · have := (OwnL.lt ho k hk).2
    omega
set_option maxRecDepth 100000 in
set_option maxHeartbeats 16000000 in
theorem jplays_walk (A : Option Addr) (l : List Int) (c n : Nat) (hk : n = l.length) (r0 : Int) (A2 : Option Addr) (l2 : List JAct) (c2 : Nat) (w : World) (hn : Nums w A l) (hr : JActs w A2 l2) (hn2 : l2.length ≤ 9223372036854775807) :
    Calls Tryz.prog 3 #[.slice A n c, .int .i64 r0, .slice A2 l2.length c2] w fun r w' => r = .returned (.bool true) ∧ Below w.heap.size w w' := by
  have CK := Lib.hid (known9_any w)
  have CO := Lib.hid (fun W (h : Below w.heap.size w W) => deck_of w W A l c n hk hn h)
  have HB0 := Lib.hid (Below.refl w.heap.size w)
  have HR := Lib.hid hr
  obtain ⟨n2, hnn⟩ : ∃ n2, n2 = l2.length := ⟨_, rfl⟩
  rw [← hnn] at hn2 ⊢
  have HN := Lib.hid hnn
  clear hn hk hr hnn
  by_cases h3 : 30 < n2
  · have hg : decide ((n2 : Int) > 30) = true := decide_eq_true (by omega)
    go_enter Tryz.func3, Tryz.ntmps3
    go_wp2_with (go_at_call 5; (with_reducible refine CK.out.mono ?_); rintro r w1 ⟨rfl, hb1⟩; have HB1 := Lib.hid (HB0.out.trans (hb1.mono HB0.out.size)); clear hb1)
    go_ret
    exact ⟨rfl, HB1.out⟩
  have hg : decide ((n2 : Int) > 30) = false := decide_eq_false (by omega)
  go_enter Tryz.func3, Tryz.ntmps3
  go_wp2_with (go_at_call 5; (with_reducible refine CK.out.mono ?_); rintro r w1 ⟨rfl, hb1⟩; have HB1 := Lib.hid (HB0.out.trans (hb1.mono HB0.out.size)); clear hb1)
  go_loopw [7] (fun i wr => ∃ k : Nat, k ≤ n2 ∧ i = .int .i64 (k : Int) ∧ wr = w1) (fun i _ => n2 - (intOf i).toNat)
  case atStart => exact ⟨0, Nat.zero_le _, rfl, rfl⟩
  case round =>
    obtain ⟨k, hk, rfl, rfl⟩ := hrel
    by_cases hlt : k < n2
    · obtain ⟨bA, off, A', c', rfl, hcell, hlow, ok⟩ := HR.out.one (i := k) (by rw [← HN.out]; exact hlt)
      obtain ⟨x0, x1, x2, x3, x4, xb⟩ := hcell wr HB1.out
      clear hcell hlow ok xb
      generalize l2.getD k JAct.zero = a at *
      by_cases h100 : 100 < a.b.length
      · have hg2 : decide ((a.b.length : Int) > 100) = true := decide_eq_true (by omega)
        go_wp2
        go_ret
        exact ⟨rfl, HB1.out⟩
      · have hg2 : decide ((a.b.length : Int) > 100) = false := decide_eq_false (by omega)
        go_wp2
        go_roundw
        case rel => exact ⟨k + 1, by omega, by go_num, trivial⟩
        case measure => simp [intOf]; omega
    · go_wp2_with (first
        | (go_at_call 9; (with_reducible refine CR.out.mono ?_); rintro r w6 ⟨rfl, ht6, hb6⟩; have HJ6 := Lib.hid (jpl_new HOK.out HO3.out HD3.out HBT.out HT5.out HB5.out ht6 hb6); clear ht6 hb6)
        | (go_at_call 8; (with_reducible refine CN.out.mono ?_); rintro r w5 ⟨rfl, ht5, hb5⟩; have HT5 := Lib.hid ht5; have HB5 := Lib.hid hb5; have CR := Lib.hid (rnew_any r0 w5); clear ht5 hb5)
        | (go_at_call 7; (with_reducible refine (deck_config w _ A l c _ 0 HD2.out (by omega)).mono ?_); rintro r w3 ⟨cf, v, rfl, hcf, ho3, hd3, ht3⟩; obtain ⟨AI, cI, rfl, _⟩ := OwnL.form ho3 lay_ins; (try simp only [Cfg.v]); have HOK := Lib.hid hcf; have HO3 := Lib.hid ho3; have HD3 := Lib.hid hd3; obtain ⟨bT, hbT⟩ : ∃ B, B = (w3.alloc (.cells #[.slice AI cf.insts.length cI, .int .i64 cf.skin, .int .i64 cf.times, .int .i64 cf.port, .int .i64 cf.bid, .int .i64 cf.lot, .int .i64 cf.hedge] 31)).heap.size := ⟨_, rfl⟩; have CN := Lib.hid (new_any r0 (w3.alloc (.cells #[.slice AI cf.insts.length cI, .int .i64 cf.skin, .int .i64 cf.times, .int .i64 cf.port, .int .i64 cf.bid, .int .i64 cf.lot, .int .i64 cf.hedge] 31))); rw [← hbT] at CN; have HBT := Lib.hid hbT; clear hcf ho3 hd3 ht3 hbT)
        | (go_at_call 6; (with_reducible refine (CO.out _ HB1.out).mono ?_); rintro r w2 ⟨rfl, hd2⟩; have HD2 := Lib.hid hd2; clear hd2))
      go_loopw [11] (fun i wr2 => ∃ k : Nat, k ≤ n2 ∧ i = .int .i64 (k : Int) ∧ Hid (JPl w bT bT w5.heap.size w3.heap.size w2.heap.size cf AI cI wr2)) (fun i _ => n2 - (intOf i).toNat)
      case atStart => exact ⟨0, Nat.zero_le _, rfl, HJ6⟩
      case round =>
        obtain ⟨k2, hk2, rfl, HJ⟩ := hrel
        by_cases hlt2 : k2 < n2
        · obtain ⟨bA, off, A', c', rfl, hcell, hlow, ok⟩ := HR.out.one (i := k2) (by rw [← HN.out]; exact hlt2)
          have HCELL := Lib.hid hcell
          have HLOW := Lib.hid hlow
          have HAOK := Lib.hid ok
          clear hcell hlow ok
          generalize l2.getD k2 JAct.zero = a at *
          go_wp2
          refine wp_region_dag [45, 46, 47, 48, 49, 50, 51, 52, 53, 54, 55, 56, 57, 58, 59] (fun _ _ => True) (fun W => JPl w bT bT w5.heap.size w3.heap.size w2.heap.size cf AI cI W) (fun i v _ => v = [.pointer (some ⟨bT, 0, none⟩), .pointer (some ⟨w5.heap.size, 0, none⟩), .agg #[.slice AI cf.insts.length cI, .int .i64 cf.skin, .int .i64 cf.times, .int .i64 cf.port, .int .i64 cf.bid, .int .i64 cf.lot, .int .i64 cf.hedge], .slice (some ⟨bA, off, none⟩) n2 c2, .int .i64 (k2 : Int), .pointer (some ⟨bA, off + k2 * 5, none⟩), .agg #[.int .u8 (a.kind : Int), .int .u64 (a.seed : Int), .slice A' a.b.length c', .int .i64 a.n, .int .i64 a.keep], .bool true, .bool false, .bool false, .pointer (some ⟨bT, 0, none⟩), .pointer (some ⟨w5.heap.size, 0, none⟩), .bool true, .bool false, .bool false].getD i undef) rfl rfl rfl rfl (fun _ _ _ _ _ h => h) (HJ.out.keep ⟨rfl, rfl, rfl, Nat.le_refl _, fun _ _ => rfl⟩) ⟨?_, ?_, ?_, ?_, ?_, ?_, ?_, ?_, ?_, ?_, ?_, ?_, ?_, ?_, ?_, trivial⟩ ?_
          · intro a1 W K ho hW hpre hK
            rw [if_pos (wanted_none rfl)]
            have e0 : a1.tmps.getD 9 undef = .pointer (some ⟨bT, 0, none⟩) := ho.slot 9 (by decide)
            go_simp
            exact hK _ _ trivial hW rfl
          · intro a1 W K ho hW hpre hK
            rw [if_pos (wanted_none rfl)]
            have e0 : a1.tmps.getD 10 undef = .pointer (some ⟨w5.heap.size, 0, none⟩) := ho.slot 10 (by decide)
            go_simp
            exact hK _ _ trivial hW rfl
          · intro a1 W K ho hW hpre hK
            rw [if_pos (wanted_none rfl)]
            have e0 : a1.tmps.getD 8 undef = .pointer (some ⟨w3.heap.size, 0, none⟩) := ho.slot 8 (by decide)
            obtain ⟨d0, d1, d2, d3, d4, d5, d6⟩ := hW.cfg.reads
            go_simp
            exact hK _ _ trivial hW rfl
          · intro a1 W K ho hW hpre hK
            rw [if_pos (wanted_none rfl)]
            have e0 : a1.tmps.getD 2 undef = .slice (some ⟨bA, off, none⟩) n2 c2 := ho.slot 2 (by decide)
            go_simp
            exact hK _ _ trivial hW rfl
          · intro a1 W K ho hW hpre hK
            rw [if_pos (wanted_none rfl)]
            have e0 : a1.tmps.getD 11 undef = .int .i64 (k2 : Int) := ho.slot 11 (by decide)
            go_simp
            exact hK _ _ trivial hW rfl
          · intro a1 W K ho hW hpre hK
            rw [if_pos (wanted_none rfl)]
            have e0 : a1.tmps.getD 48 undef = .slice (some ⟨bA, off, none⟩) n2 c2 := hpre ⟨3, .data⟩ (by simp) rfl _ rfl
            have e1 : a1.tmps.getD 49 undef = .int .i64 (k2 : Int) := hpre ⟨4, .data⟩ (by simp) rfl _ rfl
            have hkn : (k2 : Int) < (n2 : Int) := by omega
            go_simp
            exact hK _ _ trivial hW rfl
          · intro a1 W K ho hW hpre hK
            rw [if_pos (wanted_none rfl)]
            have e0 : a1.tmps.getD 50 undef = .pointer (some ⟨bA, off + k2 * 5, none⟩) := hpre ⟨5, .data⟩ (by simp) rfl _ rfl
            obtain ⟨x0, x1, x2, x3, x4, _⟩ := HCELL.out W hW.below
            go_simp
            exact hK _ _ trivial hW rfl
          · intro a1 W K ho hW hpre hK
            rw [if_pos (wanted_none rfl)]
            have e0 : a1.tmps.getD 45 undef = .pointer (some ⟨bT, 0, none⟩) := hpre ⟨0, .data⟩ (by simp) rfl _ rfl
            have e1 : a1.tmps.getD 46 undef = .pointer (some ⟨w5.heap.size, 0, none⟩) := hpre ⟨1, .data⟩ (by simp) rfl _ rfl
            have e2 : a1.tmps.getD 47 undef = .agg #[.slice AI cf.insts.length cI, .int .i64 cf.skin, .int .i64 cf.times, .int .i64 cf.port, .int .i64 cf.bid, .int .i64 cf.lot, .int .i64 cf.hedge] := hpre ⟨2, .data⟩ (by simp) rfl _ rfl
            have e3 : a1.tmps.getD 51 undef = .agg #[.int .u8 (a.kind : Int), .int .u64 (a.seed : Int), .slice A' a.b.length c', .int .i64 a.n, .int .i64 a.keep] := hpre ⟨6, .data⟩ (by simp) rfl _ rfl
            have CD := Lib.hid (hW.deed a A' c' HAOK.out (HCELL.out W hW.below).2.2.2.2.2 HLOW.out)
            unfold actJ Cfg.v at CD
            go_simp
            refine CD.out.mono ?_
            rintro r w7 ⟨rfl, h7⟩
            exact hK _ _ trivial h7 rfl
          · intro a1 W K ho hW hpre hK
            rw [if_pos (wanted_none rfl)]
            have e0 : a1.tmps.getD 52 undef = .bool true := hpre ⟨7, .data⟩ (by simp) rfl _ rfl
            go_simp
            exact hK _ _ trivial hW rfl
          · intro a1 W K ho hW hpre hK
            rw [if_pos (wanted_none rfl)]
            have e0 : a1.tmps.getD 53 undef = .bool false := hpre ⟨8, .data⟩ (by simp) rfl _ rfl
            go_simp
            exact hK _ _ trivial hW rfl
          · intro a1 W K ho hW hpre hK
            have eg : a1.tmps.getD 54 undef = .bool false := hpre ⟨9, .guard⟩ (by simp) rfl _ rfl
            rw [if_pos (wanted_at ho rfl rfl rfl (Nat.le_of_ble_eq_true rfl) eg)]
            clear eg
            have e0 : a1.tmps.getD 9 undef = .pointer (some ⟨bT, 0, none⟩) := ho.slot 9 (by decide)
            go_simp
            exact hK _ _ trivial hW rfl
          · intro a1 W K ho hW hpre hK
            have eg : a1.tmps.getD 54 undef = .bool false := hpre ⟨9, .guard⟩ (by simp) rfl _ rfl
            rw [if_pos (wanted_at ho rfl rfl rfl (Nat.le_of_ble_eq_true rfl) eg)]
            clear eg
            have e0 : a1.tmps.getD 10 undef = .pointer (some ⟨w5.heap.size, 0, none⟩) := ho.slot 10 (by decide)
            go_simp
            exact hK _ _ trivial hW rfl
          · intro a1 W K ho hW hpre hK
            have eg : a1.tmps.getD 54 undef = .bool false := hpre ⟨9, .guard⟩ (by simp) rfl _ rfl
            rw [if_pos (wanted_at ho rfl rfl rfl (Nat.le_of_ble_eq_true rfl) eg)]
            clear eg
            have e0 : a1.tmps.getD 55 undef = .pointer (some ⟨bT, 0, none⟩) := hpre ⟨10, .data⟩ (by simp) rfl _ rfl
            have e1 : a1.tmps.getD 56 undef = .pointer (some ⟨w5.heap.size, 0, none⟩) := hpre ⟨11, .data⟩ (by simp) rfl _ rfl
            have CA := Lib.hid hW.alike
            go_simp
            refine CA.out.mono ?_
            rintro r w7 ⟨rfl, h7⟩
            exact hK _ _ trivial h7 rfl
          · intro a1 W K ho hW hpre hK
            have eg : a1.tmps.getD 54 undef = .bool false := hpre ⟨9, .guard⟩ (by simp) rfl _ rfl
            rw [if_pos (wanted_at ho rfl rfl rfl (Nat.le_of_ble_eq_true rfl) eg)]
            clear eg
            have e0 : a1.tmps.getD 57 undef = .bool true := hpre ⟨12, .data⟩ (by simp) rfl _ rfl
            go_simp
            exact hK _ _ trivial hW rfl
          · intro a1 W K ho hW hpre hK
            rw [if_pos (wanted_none rfl)]
            have e0 : a1.tmps.getD 54 undef = .bool false := hpre ⟨9, .data⟩ (by simp) rfl _ rfl
            have e1 : a1.tmps.getD 58 undef = .bool false := hpre ⟨13, .data⟩ (by simp) rfl _ rfl
            go_simp
            exact hK _ _ trivial hW rfl
          · intro a1 W ho hW hall
            have e59 : a1.tmps.getD 59 undef = .bool false := hall 14 _ rfl
            have heq := ho.eq
            clear ho hall
            simp only [putL, e59] at heq
            generalize a1.tmps.getD 45 undef = u45 at heq
            generalize a1.tmps.getD 46 undef = u46 at heq
            generalize a1.tmps.getD 47 undef = u47 at heq
            generalize a1.tmps.getD 48 undef = u48 at heq
            generalize a1.tmps.getD 49 undef = u49 at heq
            generalize a1.tmps.getD 50 undef = u50 at heq
            generalize a1.tmps.getD 51 undef = u51 at heq
            generalize a1.tmps.getD 52 undef = u52 at heq
            generalize a1.tmps.getD 53 undef = u53 at heq
            generalize a1.tmps.getD 54 undef = u54 at heq
            generalize a1.tmps.getD 55 undef = u55 at heq
            generalize a1.tmps.getD 56 undef = u56 at heq
            generalize a1.tmps.getD 57 undef = u57 at heq
            generalize a1.tmps.getD 58 undef = u58 at heq
            clear e59
            subst heq
            have HW := Lib.hid hW
            clear hW
            first
              | (rename_i hKK; refine hKK _ _ ?_)
              | (rename_i hKK _; refine hKK _ _ ?_)
              | (rename_i hKK _ _; refine hKK _ _ ?_)
              | skip
            go_simp
            go_wp2
            go_roundw
            case rel => exact ⟨k2 + 1, by omega, by go_num, HW⟩
            case measure => simp [intOf]; omega
        · go_wp2
          go_ret
          exact ⟨rfl, HJ.out.below⟩
end Go.Proofs.YtmpipjangbedkaaGreat
