/-
  The walk of novationlaw9.JournalBack.
-/
import Derived.Test.YtmpipjangbedkaaJl3
import Derived.Test.YtmpipjangbedkaaQRound
namespace Go.Proofs.Ytmpipjangbedkaa
set_option maxRecDepth 8000
open Go Go.RowKit Go.Shelf
attribute [local go_sem] Oper.semAt_some
set_option linter.unusedVariables false

theorem enumE_len (es : List Ev) : (enumE es).length = es.length := by simp [enumE]
theorem prefix_at {es2 es : List Ev} {ev : Ev} (h : es2 ++ [ev] <+: es) : es2.length < es.length ∧ es.getD es2.length Ev.zero = ev := by
  obtain ⟨t, rfl⟩ := h
  refine ⟨by simp, ?_⟩
  rw [List.getD_eq_getElem?_getD, List.append_assoc, List.getElem?_append_right (Nat.le_refl _), Nat.sub_self]
  rfl
set_option maxRecDepth 100000 in
set_option maxHeartbeats 32000000 in
theorem jback_walk (A : Option Addr) (l : List Int) (c n y : Nat) (hk : n = l.length) (hy : y ≤ 255) (w : World) (hn : Nums w A l) :
    Calls Try.prog 3 #[.slice A n c, .int .u8 (y : Int)] w fun r w' => r = .returned (.bool true) ∧ Below w.heap.size w w' := by
  obtain ⟨wA, hwA⟩ : ∃ wA, wA = w.alloc (.cells #[.bool false] 4) := ⟨_, rfl⟩
  have HWA : Hid (Below w.heap.size w wA ∧ w.heap.size < wA.heap.size ∧ Rec wA w.heap.size 4 [.bool false]) := Lib.hid (by rw [hwA]; exact ⟨alloc_below _ _, by simp, Rec.new w _ [.bool false] _ rfl⟩)
  have hnA : Nums wA A l := by rw [hwA]; exact hn.below (alloc_below _ _)
  have CK := Lib.hid (known9_any wA)
  have CO := Lib.hid (fun W (h : Below wA.heap.size wA W) => deck_of wA W A l c n hk hnA h)
  have HB0 := Lib.hid (Below.refl wA.heap.size wA)
  clear hn hk hnA
  refine (callsIn_wide (n := 5)).1 ?_
  refine callsIn_of_wp_marks Try.func3 rfl trivial ?_ rfl
  simp only [Try.ntmps3, List.size_toArray, List.length_cons, List.length_nil, Nat.reduceAdd, Nat.reduceSub, Array.replicate_succ, Array.replicate_zero, List.push_toArray, List.append_toArray, List.nil_append, List.cons_append]
  have HWE := Lib.hid hwA
  clear hwA
  gi_wp2_with (refine ⟨trivial, ?_⟩; gi_at_call 6; rw [← HWE.out]; (with_reducible refine (callsIn_wide.2 CK.out).mono ?_); rintro r w1 ⟨rfl, hb1⟩; have HB1 := Lib.hid (HB0.out.trans (hb1.mono HB0.out.size)); clear hb1)
  gi_wp2_with (first
    | (refine ⟨trivial, ?_⟩; gi_at_call 11; (with_reducible refine (callsIn_wide.2 CST.out).mono ?_); rintro r w6 ⟨rfl, h6⟩; have HJ6 := Lib.hid h6; clear h6)
    | (refine ⟨trivial, ?_⟩; gi_at_call 10; (with_reducible refine (callsIn_wide.2 CN.out).mono ?_); rintro r w5 ⟨rfl, ht5, hb5⟩; have HJ5 := Lib.hid (HJF.out w5 ht5 hb5); obtain ⟨d0, d1, d2, d3, d4, d5, d6⟩ := (HJ5.out.cfg _ List.mem_cons_self).1.reads; have CST := Lib.hid (HJ5.out.start w3.heap.size cf AI cI List.mem_cons_self (ok_cfgI HOK.out)); rw [tat_start (ok_cfgI HOK.out) (ok_plan HOK.out)] at CST; unfold Cfg.v at CST; clear ht5 hb5)
    | (refine ⟨trivial, ?_⟩; gi_at_call 9; (with_reducible refine (callsIn_wide.2 CE.out).mono ?_); rintro r w4 ⟨vE, es, rfl, hoe, hg, hle, hd4, ht4⟩; obtain ⟨AE, cE, rfl, _⟩ := OwnL.form hoe lay_ev; have HG := Lib.hid hg; have HLE := Lib.hid hle; obtain ⟨B, hB⟩ : ∃ B, B = (w4.alloc (.cells #[.slice AE es.length cE] 30)).heap.size := ⟨_, rfl⟩; have CN := Lib.hid (new_any 100000 (w4.alloc (.cells #[.slice AE es.length cE] 30))); rw [← hB] at CN; have HJF : Hid (∀ w5, TapeAt false w5 B B (.slice none 0 0) (newTp 100000) → Below B (w4.alloc (.cells #[.slice AE es.length cE] 30)) w5 → JW wA B (newTp 100000) [(w4.heap.size, 30, [.slice AE es.length cE])] [(w3.heap.size, cf, .slice AI cf.insts.length cI)] [(.slice AE es.length cE, es)] [] w5) := Lib.hid (by rw [hB]; exact fun w5 ht5 hb5 => (jw_new (w4 := w4.alloc (.cells #[.slice AE es.length cE] 30)) (cf := cf) (vI := .slice AI cf.insts.length cI) hlt2 hsw2 HO3.out (ht4.trans (Touch.of_below _ (alloc_below w4 (.cells #[.slice AE es.length cE] 30))) (fun _ _ h => h)) hsz3 (OwnL.keep hoe (alloc_below w4 (.cells #[.slice AE es.length cE] 30))) (hd4.below.trans ((alloc_below w4 (.cells #[.slice AE es.length cE] 30)).mono hd4.below.size)) ht5 hb5).moreR (Rec.keep (Rec.new w4 _ [.slice AE es.length cE] _ rfl) hb5) (by decide) (by decide)); clear hg hoe hd4 ht4 hB)
    | (refine ⟨trivial, ?_⟩; gi_at_call 8; (with_reducible refine (callsIn_wide.2 (deck_config wA _ A l c _ 0 HD2.out (by omega))).mono ?_); rintro r w3 ⟨cf, v, rfl, hcf, ho3, hd3, ht3⟩; obtain ⟨AI, cI, rfl, _⟩ := OwnL.form ho3 lay_ins; have HOK := Lib.hid hcf; have CE := Lib.hid (devents_any wA _ A l c _ (0 + 60) (hd3.keep (alloc_below w3 (.cells #[.slice AI cf.insts.length cI, .int .i64 cf.skin, .int .i64 cf.times, .int .i64 cf.port, .int .i64 cf.bid, .int .i64 cf.lot, .int .i64 cf.hedge] 28))) (by omega) cf (.slice AI cf.insts.length cI) ((CfgIn.of hcf ho3 hd3).keep (alloc_below w3 (.cells #[.slice AI cf.insts.length cI, .int .i64 cf.skin, .int .i64 cf.times, .int .i64 cf.port, .int .i64 cf.bid, .int .i64 cf.lot, .int .i64 cf.hedge] 28)))); unfold Cfg.v at CE; simp only [Cfg.v]; have HO3 := Lib.hid ho3; have hsz3 := ht3.size; have hsw2 := HD2.out.below.size; clear hcf ho3 hd3 ht3)
    | (refine ⟨trivial, ?_⟩; gi_at_call 7; (with_reducible refine (callsIn_wide.2 (CO.out _ HB1.out)).mono ?_); rintro r w2 ⟨rfl, hd2⟩; have HD2 := Lib.hid hd2; have hlt2 : w1.heap.size < w2.heap.size := (by obtain ⟨_, _, hr2⟩ := hd2.box; exact Rec.lt hr2); clear hd2))
  gi_loopw [9] (fun i wr => ∃ k : Nat, i = .int .i64 (k : Int) ∧ k ≤ es.length ∧ Hid (JW wA B (tat 100000 (catJ (jls cf (es.take k)))) [(w4.heap.size, 30, [.slice AE es.length cE])] [(w3.heap.size, cf, .slice AI cf.insts.length cI)] [(.slice AE es.length cE, es)] [] wr)) (fun i _ => es.length - (intOf i).toNat)
  case atStart => exact ⟨0, rfl, Nat.zero_le _, HJ6⟩
  case round =>
    obtain ⟨k, rfl, hke, HJ⟩ := hrel
    have hevs : OwnE wr wA.heap.size (.slice AE es.length cE) es := HJ.out.evs _ List.mem_cons_self
    obtain ⟨hcE, hEM⟩ := ownE_at hevs
    clear hevs
    have hle := HLE.out
    have hx0 := (HJ.out.box _ List.mem_cons_self).1.cell 0 rfl
    by_cases hlt : k < es.length
    · obtain ⟨bE, oE, rfl, hcells⟩ := hEM (by omega)
      obtain ⟨g0, g1, g2, g3, g4, g5, g6, g7⟩ := hcells k hlt
      obtain ⟨ev, hev⟩ : ∃ e, e = es.getD k Ev.zero := ⟨_, rfl⟩
      rw [← hev] at g0 g1 g2 g3 g4 g5 g6 g7
      have HGE : Hid (Good ev) := Lib.hid (by rw [hev]; exact good_at HG.out hlt)
      have HTN : Hid (es.take k ++ [ev] = es.take (k + 1)) := Lib.hid (by rw [hev]; exact (take_next hlt).symm)
      have hroom : (catJ (jls cf (es.take k ++ [ev]))).length ≤ 100000 := by
        rw [HTN.out]
        have := jls_room (ok_cfgI HOK.out) (ok_plan HOK.out) (good_take HG.out (k + 1)) (by rw [List.length_take]; omega)
        omega
      have hcad := HJ.out.add ev HGE.out.1
      rw [tat_add HGE.out.2 hroom, HTN.out] at hcad
      have CAD := Lib.hid hcad
      unfold Ev.v at CAD
      clear hcells hEM hev hcad hroom
      gi_wp2_with (refine ⟨trivial, ?_⟩; gi_at_call 12; (with_reducible refine (callsIn_wide.2 CAD.out).mono ?_); rintro r w8 ⟨rfl, h8⟩; have HJ8 := Lib.hid h8; clear h8)
      go_roundw
      case rel => exact ⟨k + 1, by go_num, by omega, HJ8⟩
      case measure => simp [intOf]; omega
    · obtain rfl : k = es.length := by omega
      rw [List.take_length] at HJ
      have hop := HJ.out.open
      rw [tat_whole (ok_cfgI HOK.out) (ok_plan HOK.out) HG.out] at hop
      dsimp only at hop
      obtain ⟨LB, hLB⟩ : ∃ LB, catJ (jls cf es) = LB := ⟨_, rfl⟩
      have HLB : Hid (allL LB = es ∧ Oct LB ∧ LB.length ≤ 4872) := Lib.hid (by rw [← hLB]; exact ⟨tjr_all (ok_cfgI HOK.out) (ok_plan HOK.out) HG.out, jls_octs (ok_cfgI HOK.out) (ok_plan HOK.out) HG.out, jls_room (ok_cfgI HOK.out) (ok_plan HOK.out) HG.out hle⟩)
      rw [hLB] at hop
      have HOP := Lib.hid hop
      obtain ⟨N, hN⟩ : ∃ N : Nat, N = min y es.length := ⟨_, rfl⟩
      have hNl : N ≤ es.length := by omega
      have hmi : (if es.length < y then (es.length : Int) else (y : Int)) = (N : Int) := by split <;> omega
      clear hop hLB hEM hN HJ
      gi_wp2_with (first
        | (refine ⟨trivial, ?_⟩; gi_at_call 15; (with_reducible refine (callsIn_wide.2 (CALL.out _ ((alloc_below w10 (.cells #[.int .i64 (N : Int)] 3)).trans ((alloc_below (w10.alloc (.cells #[.int .i64 (N : Int)] 3)) (.cells #[.int .i64 0] 3)).mono (by simp))))).mono ?_); rintro r w11 ⟨Ba, Bs, va, rfl, hBa, hBs, hA1, hA2, hA3, hba⟩; have HBA := Lib.hid hba; have HA1 := Lib.hid hA1; have HA2 := Lib.hid hA2; have HA3 := Lib.hid hA3; have HBS := Lib.hid hBs; clear hBa hA1 hA2 hA3 hba hBs)
        | (refine ⟨trivial, ?_⟩; gi_at_call 14; (with_reducible refine (callsIn_wide.2 CRD.out).mono ?_); rintro r w10 ⟨vr, rfl, hor, hbr⟩; obtain ⟨A10, c10, rfl, hyr, _⟩ := OwnB.form hor; have HJ10 := Lib.hid (HJ9.out.keep hbr); have hx0 := (HJ10.out.box _ List.mem_cons_self).1.cell 0 rfl; have CALL := Lib.hid (fun W (hb : Below w10.heap.size w10 W) => jall_any A10 LB c10 W (hyr.below hb) (by have := HLB.out.2.2; omega)); clear hor hyr hbr)
        | (refine ⟨trivial, ?_⟩; gi_at_call 13; (with_reducible refine (callsIn_wide.2 HOP.out).mono ?_); rintro r w8 ⟨A8, c8, A9, c9, rfl, hoi, hoe, h8⟩; simp only [Cfg.v]; have HJ9 := Lib.hid (((h8.keep (alloc_below w8 (.cells #[.slice A8 cf.insts.length c8, .int .i64 cf.skin, .int .i64 cf.times, .int .i64 cf.port, .int .i64 cf.bid, .int .i64 cf.lot, .int .i64 cf.hedge] 28))).moreC (b := w8.heap.size) (cf := cf) (u := .slice A8 cf.insts.length c8) (Rec.new w8 _ (cf.cells (.slice A8 cf.insts.length c8)) _ rfl) (OwnL.keep hoi (alloc_below w8 (.cells #[.slice A8 cf.insts.length c8, .int .i64 cf.skin, .int .i64 cf.times, .int .i64 cf.port, .int .i64 cf.bid, .int .i64 cf.lot, .int .i64 cf.hedge] 28)))).moreO (OwnL.keep hoe (alloc_below w8 (.cells #[.slice A8 cf.insts.length c8, .int .i64 cf.skin, .int .i64 cf.times, .int .i64 cf.port, .int .i64 cf.bid, .int .i64 cf.lot, .int .i64 cf.hedge] 28)))); have hrd := HJ9.out.read; rw [show (tat 100000 LB).readL = (LB, 0) from rfl] at hrd; have CRD := Lib.hid hrd; clear hoi hoe h8 hrd))
      have hW2s : ((w10.alloc (.cells #[.int .i64 (N : Int)] 3)).alloc (.cells #[.int .i64 0] 3)).heap.size = w10.heap.size + 2 := by simp
      have HN11 : Hid (Rec w11 w10.heap.size 3 [.int .i64 (N : Int)]) := Lib.hid (Rec.keep (Rec.keep (Rec.new w10 _ [.int .i64 (N : Int)] _ rfl) (alloc_below _ _)) HBA.out)
      have hK11 : Rec w11 (w10.heap.size + 1) 3 [.int .i64 ((0 : Nat) : Int)] := Rec.keep (Rec.new _ _ [.int .i64 ((0 : Nat) : Int)] _ (by simp)) HBA.out
      have HB11 : Hid (Below w10.heap.size w10 w11) := Lib.hid (((alloc_below w10 (.cells #[.int .i64 (N : Int)] 3)).trans ((alloc_below _ (.cells #[.int .i64 0] 3)).mono (by simp))).trans (HBA.out.mono (by simp; omega)))
      have hs11 := HBA.out.size
      rw [hW2s] at hs11
      have HSQ := Lib.hid (all_seq Ba Bs _ va LB w11 HA1.out HBS.out HA2.out HA3.out HLB.out.2.1 (by have := HLB.out.2.2; omega))
      have HTW : Hid (∀ W, Touch (fun i => i = w10.heap.size + 1) w11 W → Below w10.heap.size w10 W) := Lib.hid (fun W ht => HB11.out.trans (ht.below HB11.out.size (fun k e => by have e' : k = w10.heap.size + 1 := e; omega)))
      clear HBA HA1 HA2 HA3 HBS
      refine act_name fun a0 ha0 => ?_
      refine wpIn_rangeY rfl (by omega) (gf := 35) (lb := #[.pointer (some ⟨Ba, 0, none⟩)]) (by rw [ha0]; rfl) trivial (enters_of Try.func35 (by kernel_rfl) rfl) HSQ.out (fun h k => Kept.trans h k) (fun W l o' h => Kept.putObj o' h) (Below.refl _ _) (fun _ => rfl)
        (fun pre W => KI (w10.heap.size + 1) w11 pre.length W ∧ pre.length ≤ N)
        (fun cd _ W => cd = Code.exit 2 ∧ KI (w10.heap.size + 1) w11 N W)
        (fun s A A' h hb => ⟨h.1.last hb, h.2⟩)
        (fun _ _ _ _ h hb => ⟨h.1, h.2.last hb⟩)
        ⟨⟨hK11, Touch.refl _ _, by omega⟩, Nat.zero_le _⟩
        (fun x a' W => ∃ b16, a' = { tmps := (((a0.tmps.setIfInBounds 68 (.int .i64 (x.1 : Int))).setIfInBounds 69 x.2.v).setIfInBounds 17 (.int .i64 (x.1 : Int))).setIfInBounds 18 (.pointer (some ⟨b16, 0, none⟩)), defers := [] } ∧ EvAt W b16 x.2)
        (fun x a' W l o o' h hl ho => by
          obtain ⟨b16, h1, h2⟩ := h
          exact ⟨b16, h1, rec_kept h2 (grownBy_putObj' W l o') (fun r e => by cases e; exact ⟨o, hl, ho⟩)⟩)
        ?assign ?body ?done ?stop
      case assign =>
        intro l pre x W K hsW hI hx hK
        obtain ⟨i, ev⟩ := x
        rw [ha0]
        have hb9 := alloc_below W (.cells #[.int .i64 ev.kind, .int .i64 ev.member, .int .i64 ev.acc, .int .i64 ev.inst, .int .i64 ev.side, .int .i64 ev.id, .int .i64 ev.q, .int .i64 ev.p] 38)
        have HFN := Lib.hid (fun a' => hK a' (W.alloc (.cells #[.int .i64 ev.kind, .int .i64 ev.member, .int .i64 ev.acc, .int .i64 ev.inst, .int .i64 ev.side, .int .i64 ev.id, .int .i64 ev.q, .int .i64 ev.p] 38)) (below_kept hb9 (Nat.le_refl _)) (below_kept hb9 hsW) ⟨hI.1.last (hb9.mono hsW), hI.2⟩)
        simp only [encA, Ev.v]
        clear hK
        gi_wp2
        refine HFN.out _ ⟨W.heap.size, ?_, Rec.new W _ ev.cells _ rfl⟩
        rw [ha0]
        rfl
      case body =>
        rintro l pre ⟨i, ev⟩ a' W hsW ⟨hI, hNp⟩ ⟨es2, rfl, h1, h2⟩ ⟨b16, rfl, hev⟩
        rw [HLB.out.1] at h2
        rw [enumE_len] at hI hNp
        obtain ⟨hlt, hat⟩ := prefix_at h2
        have h1' : i = es2.length := h1
        subst h1'
        have hJW := HJ10.out.keep (HTW.out W hI.t)
        have HI := Lib.hid hI
        have hk := hI.k.cell 0 rfl
        have fk := hI.k.frozen 0
        have hnc : W.cell? ⟨w10.heap.size, 0, none⟩ = some (.int .i64 (N : Int)) := (Rec.touch HN11.out hI.t (by omega)).cell 0 rfl
        by_cases hkN : es2.length = N
        · rw [hkN] at hk
          have HIN : Hid (KI (w10.heap.size + 1) w11 N W) := Lib.hid (by rw [← hkN]; exact hI)
          clear hI hJW h1 h2 hlt hat hkN hev
          rw [ha0]
          gi_wp2
          exact ⟨Kept.refl _ _ _, rfl, HIN.out⟩
        · have hkn : ((es2.length : Int) == (N : Int)) = false := by rw [beq_eq_false_iff_ne]; omega
          have hx1 := (hJW.box _ List.mem_cons_self).1.cell 0 rfl
          have hEM : EvM W AE es := evm_of (n := es.length) (c := cE) (hJW.evs (.slice AE es.length cE, es) (by simp))
          obtain ⟨bE, oE, rfl, hcells⟩ := hEM (by omega)
          obtain ⟨g0, g1, g2, g3, g4, g5, g6, g7⟩ := hcells es2.length hlt
          rw [hat] at g0 g1 g2 g3 g4 g5 g6 g7
          obtain ⟨r0, r1, r2, r3, r4, r5, r6, r7⟩ := EvAt.reads hev
          have heq : ∀ W : World, (binOp .neq 38 (.agg #[.int .i64 ev.kind, .int .i64 ev.member, .int .i64 ev.acc, .int .i64 ev.inst, .int .i64 ev.side, .int .i64 ev.id, .int .i64 ev.q, .int .i64 ev.p]) (.agg #[.int .i64 ev.kind, .int .i64 ev.member, .int .i64 ev.acc, .int .i64 ev.inst, .int .i64 ev.side, .int .i64 ev.id, .int .i64 ev.q, .int .i64 ev.p])).run Try.prog W = .ok (.bool false) W := fun W => by
            have := run_ev_ne ev ev W
            rw [decide_eq_true rfl] at this
            exact this
          have hle11 := HLE.out
          simp only at r0 r1 r2 r3 r4 r5 r6 r7
          clear hI hJW h1 h2 hcells hEM hev hat
          generalize hKK : es2.length = kk at *
          rw [ha0]
          simp only [Ev.v]
          gi_wp2
          refine wpIn_region_quiet_round (by kernel_rfl) (by kernel_rfl) (by kernel_rfl) ?_
          repeat (gi_big_quiet_step (fail))
          refine wpQuietIn_nil ?_
          intro _ hw'
          obtain ⟨nq, hw''⟩ := hw'
          subst hw''
          have HK1 : Hid (KI (w10.heap.size + 1) w11 kk (W.drewN nq)) := Lib.hid ⟨HI.out.k, HI.out.t.trans ⟨rfl, rfl, rfl, Nat.le_refl _, fun _ _ _ => rfl⟩ (fun i _ e => e), HI.out.lt⟩
          have HK2 : Hid (∀ lo hi, Kept lo hi W (W.drewN nq)) := Lib.hid (fun _ _ => ⟨Nat.le_refl _, fun _ _ _ => rfl⟩)
          have HKN : Hid (kk + 1 ≤ N) := Lib.hid (by omega)
          have hkq := HK1.out.k.cell 0 rfl
          have fkq := HK1.out.k.frozen 0
          clear hk fk hnc hkN hNp
          generalize W.drewN nq = Wq at *
          gi_wp2
          refine ⟨(HK2.out _ _).trans (Kept.setCell (.inl (by omega)) _ _), (HK2.out _ _).trans (Kept.setCell (.inl (by omega)) _ _), ?_, ?_⟩
          · rw [List.length_append, enumE_len, hKK]
            exact HK1.out.next _ (by simp)
          · rw [List.length_append, enumE_len, hKK]
            exact HKN.out
      case done =>
        rintro D ys W hD hS ⟨hI, hNp⟩ hK
        rw [hS, HLB.out.1, enumE_len] at hI hNp
        have hNe : N = es.length := by omega
        rw [← hNe] at hI
        clear hNe hNp hS
        have hbW := HTW.out W hI.t
        have hJW := HJ10.out.keep hbW
        have HJW := Lib.hid hJW
        obtain ⟨d0, d1, d2, d3, d4, d5, d6⟩ := (hJW.cfg (w3.heap.size, cf, .slice AI cf.insts.length cI) (by simp)).1.reads
        obtain ⟨q0, q1, q2, q3, q4, q5, q6⟩ := (hJW.cfg (w8.heap.size, cf, .slice A8 cf.insts.length c8) (by simp)).1.reads
        have hx0 := (hJW.box _ List.mem_cons_self).1.cell 0 rfl
        have CSP := Lib.hid (rsame_any cf cf A8 AI cf.insts.length cf.insts.length c8 cI W rfl rfl (own_insM (hJW.cfg (w8.heap.size, cf, .slice A8 cf.insts.length c8) (by simp)).2) (own_insM (hJW.cfg (w3.heap.size, cf, .slice AI cf.insts.length cI) (by simp)).2) (by have := plan_small (ok_plan HOK.out); omega))
        rw [decide_eq_true rfl] at CSP
        unfold Cfg.v at CSP
        have CEV := Lib.hid (fun W2 (hb : Below W.heap.size W W2) => events_any A9 AE es es es.length es.length c9 cE W2 rfl rfl (evm_of (n := es.length) (c := c9) ((HJW.out.keep hb).evs (.slice A9 es.length c9, es) (by simp))) (evm_of (n := es.length) (c := cE) ((HJW.out.keep hb).evs (.slice AE es.length cE, es) (by simp))) (by have := HLE.out; omega))
        rw [decide_eq_true rfl] at CEV
        have hr0 : Rec W w.heap.size 4 [.bool false] := (hJW.below.block _ HWA.out.2.1).trans HWA.out.2.2
        have HR0 := Lib.hid hr0
        have HK := Lib.hid hK
        have HKB := Lib.hid (show Rec W (w10.heap.size + 1) 3 [.int .i64 (N : Int)] from hI.k)
        have HNB := Lib.hid (show Rec W w10.heap.size 3 [.int .i64 (N : Int)] from HN11.out.touch hI.t (by omega))
        have HBW := Lib.hid (HWA.out.1.trans (hJW.below.mono (Nat.le_of_lt HWA.out.2.1)))
        have hkc := HKB.out.cell 0 rfl
        have hnc := HNB.out.cell 0 rfl
        clear hK hI hJW hr0 hbW
        subst ha0
        gi_wp2_with (first
          | (refine ⟨trivial, ?_⟩; gi_at_call 17; (with_reducible refine (callsIn_wide.2 CEW.out).mono ?_); rintro r w13 ⟨rfl, hb13⟩; have hk2 := (hb13.cell (p := ⟨w10.heap.size + 1, 0, none⟩) (block_lt hk1)).trans hk1; have hn2 := (hb13.cell (p := ⟨w10.heap.size, 0, none⟩) (block_lt hn1)).trans hn1; have HB13 := Lib.hid (HB12.out.trans (hb13.mono HB12.out.size)); have hr13 := (HR0.out.keep HB13.out).cell 0 rfl; have fr13 := (HR0.out.keep HB13.out).frozen 0; clear hb13)
          | (refine ⟨trivial, ?_⟩; gi_at_call 16; (with_reducible refine (callsIn_wide.2 CSP.out).mono ?_); rintro r w12 ⟨rfl, hb12⟩; have hx1 := (hb12.cell (p := ⟨w4.heap.size, 0, none⟩) (block_lt hx0)).trans hx0; have hk1 := (hb12.cell (p := ⟨w10.heap.size + 1, 0, none⟩) (block_lt hkc)).trans hkc; have hn1 := (hb12.cell (p := ⟨w10.heap.size, 0, none⟩) (block_lt hnc)).trans hnc; have HB12 := Lib.hid hb12; have CEW := Lib.hid (CEV.out w12 hb12); clear hb12))
        have hK' : (w13.setCell ⟨w.heap.size, 0, none⟩ (.bool true)).heap[D]? = some (.deferred (some [])) := (KeepsOthers.setCell w13 ⟨w.heap.size, 0, none⟩ (.bool true)).same D _ ((HB13.out.block D (Array.getElem?_eq_some_iff.1 HK.out).1).trans HK.out) rfl
        refine ⟨by simp, .inl ⟨_, _, rfl, run_takeDeferred hK', ?_⟩⟩
        have hc11 := cell_kept (World.cell?_setCell_same' w13 ⟨w.heap.size, 0, none⟩ (.bool true) (by rw [hr13]; rfl)) (grownBy_putObj' _ D (.deferred none)) (fun r e => by cases e; exact ⟨_, hK', rfl⟩)
        have hB9 : Below w.heap.size w (w13.setCell ⟨w.heap.size, 0, none⟩ (.bool true)) := (HBW.out.trans (HB13.out.mono HBW.out.size)).setCell (p := ⟨w.heap.size, 0, none⟩) (Nat.le_refl _) _
        refine ⟨.bool true, ?_, rfl, hB9.trans (belowK_b (w := w) (Nat.le_refl _) _ D _ _ (by have h1 := HWA.out.2.1; have h2 := HJ10.out.below.size; omega) hK' rfl rfl)⟩
        simp [results, Try.f3, go_sem, hc11]
      case stop =>
        rintro D cd pre W hD _ ⟨rfl, hI⟩ hK
        have hbW := HTW.out W hI.t
        have hJW := HJ10.out.keep hbW
        have HJW := Lib.hid hJW
        obtain ⟨d0, d1, d2, d3, d4, d5, d6⟩ := (hJW.cfg (w3.heap.size, cf, .slice AI cf.insts.length cI) (by simp)).1.reads
        obtain ⟨q0, q1, q2, q3, q4, q5, q6⟩ := (hJW.cfg (w8.heap.size, cf, .slice A8 cf.insts.length c8) (by simp)).1.reads
        have hx0 := (hJW.box _ List.mem_cons_self).1.cell 0 rfl
        have CSP := Lib.hid (rsame_any cf cf A8 AI cf.insts.length cf.insts.length c8 cI W rfl rfl (own_insM (hJW.cfg (w8.heap.size, cf, .slice A8 cf.insts.length c8) (by simp)).2) (own_insM (hJW.cfg (w3.heap.size, cf, .slice AI cf.insts.length cI) (by simp)).2) (by have := plan_small (ok_plan HOK.out); omega))
        rw [decide_eq_true rfl] at CSP
        unfold Cfg.v at CSP
        have CEV := Lib.hid (fun W2 (hb : Below W.heap.size W W2) => events_any A9 AE es es es.length es.length c9 cE W2 rfl rfl (evm_of (n := es.length) (c := c9) ((HJW.out.keep hb).evs (.slice A9 es.length c9, es) (by simp))) (evm_of (n := es.length) (c := cE) ((HJW.out.keep hb).evs (.slice AE es.length cE, es) (by simp))) (by have := HLE.out; omega))
        rw [decide_eq_true rfl] at CEV
        have hr0 : Rec W w.heap.size 4 [.bool false] := (hJW.below.block _ HWA.out.2.1).trans HWA.out.2.2
        have HR0 := Lib.hid hr0
        have HK := Lib.hid hK
        have HKB := Lib.hid (show Rec W (w10.heap.size + 1) 3 [.int .i64 (N : Int)] from hI.k)
        have HNB := Lib.hid (show Rec W w10.heap.size 3 [.int .i64 (N : Int)] from HN11.out.touch hI.t (by omega))
        have HBW := Lib.hid (HWA.out.1.trans (hJW.below.mono (Nat.le_of_lt HWA.out.2.1)))
        have hkc := HKB.out.cell 0 rfl
        have hnc := HNB.out.cell 0 rfl
        clear hK hI hJW hr0 hbW
        subst ha0
        gi_wp2_with (first
          | (refine ⟨trivial, ?_⟩; gi_at_call 17; (with_reducible refine (callsIn_wide.2 CEW.out).mono ?_); rintro r w13 ⟨rfl, hb13⟩; have hk2 := (hb13.cell (p := ⟨w10.heap.size + 1, 0, none⟩) (block_lt hk1)).trans hk1; have hn2 := (hb13.cell (p := ⟨w10.heap.size, 0, none⟩) (block_lt hn1)).trans hn1; have HB13 := Lib.hid (HB12.out.trans (hb13.mono HB12.out.size)); have hr13 := (HR0.out.keep HB13.out).cell 0 rfl; have fr13 := (HR0.out.keep HB13.out).frozen 0; clear hb13)
          | (refine ⟨trivial, ?_⟩; gi_at_call 16; (with_reducible refine (callsIn_wide.2 CSP.out).mono ?_); rintro r w12 ⟨rfl, hb12⟩; have hx1 := (hb12.cell (p := ⟨w4.heap.size, 0, none⟩) (block_lt hx0)).trans hx0; have hk1 := (hb12.cell (p := ⟨w10.heap.size + 1, 0, none⟩) (block_lt hkc)).trans hkc; have hn1 := (hb12.cell (p := ⟨w10.heap.size, 0, none⟩) (block_lt hnc)).trans hnc; have HB12 := Lib.hid hb12; have CEW := Lib.hid (CEV.out w12 hb12); clear hb12))
        have hK' : (w13.setCell ⟨w.heap.size, 0, none⟩ (.bool true)).heap[D]? = some (.deferred (some [])) := (KeepsOthers.setCell w13 ⟨w.heap.size, 0, none⟩ (.bool true)).same D _ ((HB13.out.block D (Array.getElem?_eq_some_iff.1 HK.out).1).trans HK.out) rfl
        refine ⟨by simp, .inl ⟨_, _, rfl, run_takeDeferred hK', ?_⟩⟩
        have hc11 := cell_kept (World.cell?_setCell_same' w13 ⟨w.heap.size, 0, none⟩ (.bool true) (by rw [hr13]; rfl)) (grownBy_putObj' _ D (.deferred none)) (fun r e => by cases e; exact ⟨_, hK', rfl⟩)
        have hB9 : Below w.heap.size w (w13.setCell ⟨w.heap.size, 0, none⟩ (.bool true)) := (HBW.out.trans (HB13.out.mono HBW.out.size)).setCell (p := ⟨w.heap.size, 0, none⟩) (Nat.le_refl _) _
        refine ⟨.bool true, ?_, rfl, hB9.trans (belowK_b (w := w) (Nat.le_refl _) _ D _ _ (by have h1 := HWA.out.2.1; have h2 := HJ10.out.below.size; omega) hK' rfl rfl)⟩
        simp [results, Try.f3, go_sem, hc11]
theorem jback_top (A : Option Addr) (l : List Int) (c n : Nat) (hk : n = l.length) (a1 : Int) (w1 : (Lit.int .u8 a1).wf = true) (w : World) (hn : Nums w A l) :
    Calls Try.prog 3 #[.slice A n c, .int .u8 a1] w fun r w' => r = .returned (.bool true) ∧ Below w.heap.size w w' := by
  have h : 0 ≤ a1 ∧ a1 ≤ 255 := by simp [Lit.wf, IntKind.min, IntKind.max, IntKind.bits, IntKind.signed] at w1; omega
  have := jback_walk A l c n a1.toNat hk (by omega) w hn
  rwa [show (a1.toNat : Int) = a1 from by omega] at this
end Go.Proofs.Ytmpipjangbedkaa
