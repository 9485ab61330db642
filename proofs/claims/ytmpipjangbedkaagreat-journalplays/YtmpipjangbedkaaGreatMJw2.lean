import Derived.Test.YtmpipjangbedkaaGreatMJn0
/-
  The walks of the program's journal: write, Start, Add.
-/
namespace Go.Proofs.YtmpipjangbedkaaGreat
set_option maxRecDepth 8000
open Go Go.RowKit
set_option linter.unusedVariables false

set_option maxRecDepth 8000 in
set_option maxHeartbeats 2000000 in
theorem jwrite_any (w : World) (base b : Nat) (v : Value) (t : Tp) (A : Option Addr) (n c : Nat) (x : List Nat) (hn : n = x.length) (hx : Byts w A x) (hxo : Oct x) (hA : A = none → c = 0) (h4 : x.length ≤ 400) (h : TapeAt false w base b v t) :
    Calls Tryz.prog 58 #[.pointer (some ⟨b, 0, none⟩), .slice A n c] w (WentC false w base b v (t.append (recL x)).1 (t.append (recL x)).2) := by
  subst hn
  have CP := Lib.hid (put_any A x c w hx hxo hA h4)
  have H := Lib.hid h
  have HO := Lib.hid (oct_rec hxo h4)
  clear hx hxo hA h4 h
  go_enter Tryz.func58, Tryz.ntmps58
  go_wp2_with (first
    | (go_at_call 76; (with_reducible refine CP.out.mono ?_); rintro e w1 ⟨v1, rfl, hv, hb⟩; obtain ⟨A1, c1, rfl, hB1, hl1, hc1, hA1, hlow⟩ := OwnB.form hv; have CA := Lib.hid (append_any w1 base b v t A1 _ c1 (recL x) rfl hB1 HO.out hA1 hl1 hc1 (fun bb off e h0 hf => by have h1 := hlow _ _ _ e; have h2 := (H.out.lt hf).2; omega) (H.out.keep hb)); have HB := Lib.hid hb; clear hv hb hB1 hl1 hc1 hA1 hlow)
    | (go_at_call 18; (with_reducible refine CA.out.mono ?_); rintro e w2 ⟨rfl, h2⟩; have H2 := Lib.hid h2; clear h2))
  go_ret
  exact ⟨rfl, Went.from (Touch.of_below _ HB.out) (Near.refl _ _) H2.out⟩
/-- A journal started, an event added: the tape behind it, and the code. -/
def Tp.jstart (t : Tp) (cf : Cfg) : Tp × Int := if planOk cf then (if t.down then (t, 15) else if 0 < t.all.length then (t, 4) else t.append (recL (planB cf 6))) else (t, 1)
def Tp.jadd (t : Tp) (e : Ev) : Tp × Int := if rightE e then t.append (recL (textE e)) else (t, 1)
theorem went_keep0 {r : Bool} {w w' : World} {base b : Nat} {v : Value} {t : Tp} (h : TapeAt r w base b v t) (hb : Below w.heap.size w w') : Went r w base b v t w' := ⟨v, h.keep hb, (Touch.of_below (fun _ => False) hb).mono (fun _ h => h.elim), Near.refl _ _⟩
set_option maxRecDepth 8000 in
set_option maxHeartbeats 2000000 in
theorem jadd_any (w : World) (base b : Nat) (v : Value) (t : Tp) (e : Ev) (ok : e.Ok) (h : TapeAt false w base b v t) :
    Calls Tryz.prog 26 #[.pointer (some ⟨b, 0, none⟩), e.v] w (WentC false w base b v (t.jadd e).1 (t.jadd e).2) := by
  have HC0 : Hid (EvAt (w.alloc (.cells e.cells.toArray 51)) w.heap.size e) := Lib.hid (Rec.new w _ e.cells _ rfl)
  have HB0 : Hid (Below w.heap.size w (w.alloc (.cells e.cells.toArray 51))) := Lib.hid ((Below.refl _ _).alloc (Nat.le_refl _) _)
  have CP := Lib.hid (pput_any e ok (w.alloc (.cells e.cells.toArray 51)))
  have H := Lib.hid h
  unfold Tp.jadd
  cases hr : rightE e with
  | false =>
    rw [show putE? e = ([], 1) from by unfold putE?; rw [hr]; rfl] at CP
    obtain ⟨c0, c1, c2, c3, c4, c5, c6, c7⟩ := HC0.out.reads
    unfold Ev.cells at c0 c1 c2 c3 c4 c5 c6 c7
    unfold Ev.v Ev.cells at CP
    unfold Ev.v
    clear h hr ok
    go_enter Tryz.func26, Tryz.ntmps26
    go_wp2_with (go_at_call 59; (with_reducible refine CP.out.mono ?_); rintro r w1 ⟨v1, rfl, hv, hb⟩; have HB1 := Lib.hid (HB0.out.trans (hb.mono HB0.out.size)); clear hv hb)
    go_ret
    exact ⟨rfl, went_keep0 H.out HB1.out⟩
  | true =>
    rw [show putE? e = (textE e, 0) from by unfold putE?; rw [hr]; rfl] at CP
    have HG : Hid (Good e) := Lib.hid ⟨ok, hr⟩
    obtain ⟨c0, c1, c2, c3, c4, c5, c6, c7⟩ := HC0.out.reads
    unfold Ev.cells at c0 c1 c2 c3 c4 c5 c6 c7
    unfold Ev.v Ev.cells at CP
    unfold Ev.v
    clear h hr ok
    go_enter Tryz.func26, Tryz.ntmps26
    go_wp2_with (first
      | (go_at_call 59; (with_reducible refine CP.out.mono ?_); rintro r w1 ⟨v1, rfl, hv, hb⟩; obtain ⟨A1, c1, rfl, hB1, hl1, hc1, hA1, hlow⟩ := OwnB.form hv; have HB1 := Lib.hid (HB0.out.trans (hb.mono HB0.out.size)); have CA := Lib.hid (jwrite_any w1 base b v t A1 _ c1 (textE e) rfl hB1 (textE_oct HG.out) hA1 (textE_len HG.out) (H.out.keep HB1.out)); clear hv hb hB1 hl1 hc1 hA1 hlow)
      | (go_at_call 58; (with_reducible refine CA.out.mono ?_); rintro r w2 ⟨rfl, h2⟩; have H2 := Lib.hid h2; clear h2))
    go_ret
    exact ⟨rfl, Went.from (Touch.of_below _ HB1.out) (Near.refl _ _) H2.out⟩
set_option maxRecDepth 8000 in
set_option maxHeartbeats 2000000 in
theorem jstart_any (w : World) (base b : Nat) (v : Value) (t : Tp) (cf : Cfg) (ok : CfgI cf) (A : Option Addr) (n c : Nat) (hn : n = cf.insts.length) (hI : InsM w A cf.insts) (h : TapeAt false w base b v t) :
    Calls Tryz.prog 24 #[.pointer (some ⟨b, 0, none⟩), cf.v (.slice A n c)] w (WentC false w base b v (t.jstart cf).1 (t.jstart cf).2) := by
  have HC0 : Hid (CfAt (w.alloc (.cells (cf.cells (.slice A n c)).toArray 31)) w.heap.size cf (.slice A n c)) := Lib.hid (Rec.new w _ (cf.cells (.slice A n c)) _ rfl)
  have HB0 : Hid (Below w.heap.size w (w.alloc (.cells (cf.cells (.slice A n c)).toArray 31))) := Lib.hid ((Below.refl _ _).alloc (Nat.le_refl _) _)
  have CP := Lib.hid (pputplan_any cf ok A n c _ hn (hI.below HB0.out))
  have H := Lib.hid h
  unfold Tp.jstart
  cases hr : planOk cf with
  | false =>
    rw [show putP cf = ([], 1) from by unfold putP; rw [hr]; rfl] at CP
    obtain ⟨c0, c1, c2, c3, c4, c5, c6⟩ := HC0.out.reads
    unfold Cfg.cells at c0 c1 c2 c3 c4 c5 c6
    unfold Cfg.v Cfg.cells at CP
    unfold Cfg.v
    clear h hr ok hn hI
    go_enter Tryz.func24, Tryz.ntmps24
    go_wp2_with (go_at_call 56; (with_reducible refine CP.out.mono ?_); rintro r w1 ⟨v1, rfl, hv, hb⟩; have HB1 := Lib.hid (HB0.out.trans (hb.mono HB0.out.size)); clear hv hb)
    go_ret
    exact ⟨rfl, went_keep0 H.out HB1.out⟩
  | true =>
    rw [show putP cf = (planB cf 6, 0) from by unfold putP; rw [hr]; rfl] at CP
    have HOC := Lib.hid (planB_oct cf 6)
    have HL := Lib.hid (planB_400 ok hr)
    obtain ⟨c0, c1, c2, c3, c4, c5, c6⟩ := HC0.out.reads
    unfold Cfg.cells at c0 c1 c2 c3 c4 c5 c6
    unfold Cfg.v Cfg.cells at CP
    unfold Cfg.v
    have CD := Lib.hid (fun W (hb : Below w.heap.size w W) => down_any W base b v t (H.out.keep hb))
    have CL := Lib.hid (fun W (hb : Below w.heap.size w W) => len_any W base b v t (H.out.keep hb))
    clear h hr ok hn hI
    rw [if_pos rfl]
    cases hd : t.down with
    | true =>
      rw [hd] at CD
      rw [if_pos rfl]
      clear hd
      go_enter Tryz.func24, Tryz.ntmps24
      go_wp2_with (first
        | (go_at_call 56; (with_reducible refine CP.out.mono ?_); rintro r w1 ⟨v1, rfl, hv, hb⟩; have HB1 := Lib.hid (HB0.out.trans (hb.mono HB0.out.size)); have CD1 := Lib.hid (CD.out w1 HB1.out); clear hv hb)
        | (go_at_call 37; (with_reducible refine CD1.out.mono ?_); rintro r wq ⟨rfl, hwq⟩; obtain rfl : w1 = wq := hwq))
      go_ret
      exact ⟨rfl, went_keep0 H.out HB1.out⟩
    | false =>
      rw [hd] at CD
      rw [if_neg (by decide)]
      by_cases h0 : 0 < t.all.length
      · rw [if_pos h0]
        have hg : decide ((t.all.length : Int) > 0) = true := decide_eq_true (by omega)
        clear hd
        go_enter Tryz.func24, Tryz.ntmps24
        go_wp2_with (first
          | (go_at_call 56; (with_reducible refine CP.out.mono ?_); rintro r w1 ⟨v1, rfl, hv, hb⟩; have HB1 := Lib.hid (HB0.out.trans (hb.mono HB0.out.size)); have CD1 := Lib.hid (CD.out w1 HB1.out); have CL1 := Lib.hid (CL.out w1 HB1.out); clear hv hb)
          | (go_at_call 37; (with_reducible refine CD1.out.mono ?_); rintro r wq ⟨rfl, hwq⟩; obtain rfl : w1 = wq := hwq)
          | (go_at_call 57; (with_reducible refine CL1.out.mono ?_); rintro r wq ⟨rfl, hwq⟩; obtain rfl : w1 = wq := hwq))
        go_ret
        exact ⟨rfl, went_keep0 H.out HB1.out⟩
      · rw [if_neg h0]
        have hz : t.all.length = 0 := by omega
        rw [hz] at CL
        clear hd h0
        go_enter Tryz.func24, Tryz.ntmps24
        go_wp2_with (first
          | (go_at_call 56; (with_reducible refine CP.out.mono ?_); rintro r w1 ⟨v1, rfl, hv, hb⟩; have HB1 := Lib.hid (HB0.out.trans (hb.mono HB0.out.size)); obtain ⟨A1, c1, rfl, hB1, hl1, hc1, hA1, hlow⟩ := OwnB.form hv; have CA := Lib.hid (jwrite_any w1 base b v t A1 _ c1 (planB cf 6) rfl hB1 HOC.out hA1 HL.out (H.out.keep HB1.out)); have CD1 := Lib.hid (CD.out w1 HB1.out); have CL1 := Lib.hid (CL.out w1 HB1.out); clear hv hb hB1 hl1 hc1 hA1 hlow)
          | (go_at_call 37; (with_reducible refine CD1.out.mono ?_); rintro r wq ⟨rfl, hwq⟩; obtain rfl : w1 = wq := hwq)
          | (go_at_call 57; (with_reducible refine CL1.out.mono ?_); rintro r wq ⟨rfl, hwq⟩; obtain rfl : w1 = wq := hwq)
          | (go_at_call 58; (with_reducible refine CA.out.mono ?_); rintro r w2 ⟨rfl, h2⟩; have H2 := Lib.hid h2; clear h2))
        go_ret
        exact ⟨rfl, Went.from (Touch.of_below _ HB1.out) (Near.refl _ _) H2.out⟩
end Go.Proofs.YtmpipjangbedkaaGreat

/-
  The walk of the reference's Events.
-/
namespace Go.Proofs.YtmpipjangbedkaaGreat
set_option maxRecDepth 8000
open Go Go.RowKit
set_option linter.unusedVariables false

set_option maxRecDepth 100000 in
set_option maxHeartbeats 8000000 in
theorem revents_nil (A : Option Addr) (L : List Nat) (c : Nat) (w : World) (hr : Byts w A L) (hl : Oct L) (hn : L.length ≤ 1000000000) (hcap : L.length ≤ c) (hc2 : c ≤ 9223372036854775807) (hA : c = 0 ∨ ∃ b off, A = some ⟨b, off, none⟩) (h0 : (recs L).map (·.2) = []) :
    Calls Tryz.prog 55 #[.slice A L.length c] w (JourC w none) := by
  have CR := Lib.hid (fun W (h : Below w.heap.size w W) => records_any A L c W (hr.below h) hl hn hcap hc2 hA)
  have HB0 : Hid (Below w.heap.size w (w.alloc (.cells (Cfg.zero.cells (.slice none 0 0)).toArray 31))) := Lib.hid ((Below.refl _ _).alloc (Nat.le_refl _) _)
  have HR0 : Hid (CfAt (w.alloc (.cells (Cfg.zero.cells (.slice none 0 0)).toArray 31)) w.heap.size Cfg.zero (.slice none 0 0)) := Lib.hid (Rec.new w _ (Cfg.zero.cells (.slice none 0 0)) _ rfl)
  have CR1 := Lib.hid (CR.out _ HB0.out)
  simp only [Cfg.cells, Cfg.zero] at CR1
  have hlen : (recs L).length = 0 := by have := congrArg List.length h0; simpa using this
  have HLN := Lib.hid hlen
  generalize L.length = n at *
  clear hr hl hcap hc2 hA hlen
  go_enter Tryz.func55, Tryz.ntmps55
  go_wp2_with (go_at_call 53; (with_reducible refine CR1.out.mono ?_); rintro e w1 ⟨v1, v2, rfl, hS, hb1⟩; obtain ⟨A2, c2, rfl, hR⟩ := recs_rows hS; have HB1 := Lib.hid (HB0.out.trans (hb1.mono HB0.out.size)); have HR1 := Lib.hid (CfAt.keep HR0.out hb1); obtain ⟨d0, d1, d2, d3, d4, d5, d6⟩ := HR1.out.reads; simp only [Cfg.zero] at d0 d1 d2 d3 d4 d5 d6; have fz0 := Rec.frozen HR1.out 0; have fz1 := Rec.frozen HR1.out 1; have fz2 := Rec.frozen HR1.out 2; have fz3 := Rec.frozen HR1.out 3; have fz4 := Rec.frozen HR1.out 4; have fz5 := Rec.frozen HR1.out 5; have fz6 := Rec.frozen HR1.out 6; have hz := HLN.out; rw [hz]; clear hS hR hb1 hz)
  have hPB := putC_below HB1.out (Nat.le_refl _) (.slice none 0 0) Cfg.zero
  obtain ⟨g0, g1, g2, g3, g4, g5, g6⟩ := (putC_at HR1.out (.slice none 0 0) Cfg.zero).reads
  simp only [putC, Cfg.zero] at g0 g1 g2 g3 g4 g5 g6
  simp only [putC, Cfg.zero] at hPB
  refine bodyPost_ret (v := .tuple #[.agg #[.slice none 0 0, .int .i64 0, .int .i64 0, .int .i64 0, .int .i64 0, .int .i64 0, .int .i64 0], .slice none 0 0, .int .i64 0, .bool false]) (by simp [results, Tryz.results55, go_sem, g0, g1, g2, g3, g4, g5, g6]) rfl ?_
  exact jourC_none hPB
set_option maxRecDepth 100000 in
set_option maxHeartbeats 8000000 in
theorem revents_bad (A : Option Addr) (L : List Nat) (c : Nat) (w : World) (hr : Byts w A L) (hl : Oct L) (hn : L.length ≤ 1000000000) (hcap : L.length ≤ c) (hc2 : c ≤ 9223372036854775807) (hA : c = 0 ∨ ∃ b off, A = some ⟨b, off, none⟩) (r : List Nat) (rs : List (List Nat)) (h0 : (recs L).map (·.2) = r :: rs) (hp : readP r = none) :
    Calls Tryz.prog 55 #[.slice A L.length c] w (JourC w none) := by
  have CR := Lib.hid (fun W (h : Below w.heap.size w W) => records_any A L c W (hr.below h) hl hn hcap hc2 hA)
  have HB0 : Hid (Below w.heap.size w (w.alloc (.cells (Cfg.zero.cells (.slice none 0 0)).toArray 31))) := Lib.hid ((Below.refl _ _).alloc (Nat.le_refl _) _)
  have HR0 : Hid (CfAt (w.alloc (.cells (Cfg.zero.cells (.slice none 0 0)).toArray 31)) w.heap.size Cfg.zero (.slice none 0 0)) := Lib.hid (Rec.new w _ (Cfg.zero.cells (.slice none 0 0)) _ rfl)
  have CR1 := Lib.hid (CR.out _ HB0.out)
  simp only [Cfg.cells, Cfg.zero] at CR1
  have HT := Lib.hid h0
  have HLN : Hid ((recs L).length = rs.length + 1) := Lib.hid (by have := congrArg List.length h0; simpa using this)
  have HO : Hid (Oct r ∧ r.length ≤ 1000000000000) := Lib.hid (by have := recs_oct hl r (by rw [h0]; exact List.mem_cons_self ..); exact ⟨this.1, by omega⟩)
  have HP := Lib.hid hp
  have HRL : Hid (rs.length ≤ 1000000000) := Lib.hid (by have h1 := recs_len L; have h2 := HLN.out; omega)
  generalize L.length = n at *
  clear hr hl hcap hc2 hA h0 hp
  go_enter Tryz.func55, Tryz.ntmps55
  go_wp2_with (first
    | (go_at_call 53; (with_reducible refine CR1.out.mono ?_); rintro e w1 ⟨v1, v2, rfl, hS, hb1⟩; obtain ⟨A2, c2, rfl, hR⟩ := recs_rows hS; have HB1 := Lib.hid (HB0.out.trans (hb1.mono HB0.out.size)); have HR1 := Lib.hid (CfAt.keep HR0.out hb1); have hz := HLN.out; have hrl := HRL.out; rw [hz]; rw [HT.out] at hR; obtain ⟨g, rfl, hc⟩ := hR (by simp); obtain ⟨A', c', hcell, hB', hcc, hcm, hcA⟩ := hc 0 (by simp); have hq : (r :: rs).getD 0 [] = r := rfl; rw [hq] at hcell hB' hcc; have hcp := rreadplan_any A' r c' w1 hB' HO.out.1 HO.out.2; rw [HP.out] at hcp; have CP := Lib.hid hcp; clear hS hc hb1 hz hq hcp)
    | (go_at_call 71; (with_reducible refine CP.out.mono ?_); rintro e w2 hK; obtain ⟨V, k, rfl, hb2⟩ := planK_bad hK; have HB2 := Lib.hid (HB1.out.trans (hb2.mono HB1.out.size)); have HR2 := Lib.hid (CfAt.keep HR1.out hb2); have hlt2 := Rec.lt HR2.out; clear hK hb2; obtain ⟨d0, d1, d2, d3, d4, d5, d6⟩ := HR2.out.reads; simp only [Cfg.zero] at d0 d1 d2 d3 d4 d5 d6; have fz0 := Rec.frozen HR2.out 0; have fz1 := Rec.frozen HR2.out 1; have fz2 := Rec.frozen HR2.out 2; have fz3 := Rec.frozen HR2.out 3; have fz4 := Rec.frozen HR2.out 4; have fz5 := Rec.frozen HR2.out 5; have fz6 := Rec.frozen HR2.out 6))
  have hPB0 := putC_below HB2.out (Nat.le_refl _) (.slice none 0 0) Cfg.zero
  have hPB := hPB0.alloc hPB0.size (.cells #[.slice V 0 k, .int .i64 0, .int .i64 0, .int .i64 0, .int .i64 0, .int .i64 0, .int .i64 0] 31)
  obtain ⟨g0, g1, g2, g3, g4, g5, g6⟩ := (CfAt.keep (putC_at HR2.out (.slice none 0 0) Cfg.zero) ((Below.refl _ _).alloc (Nat.le_refl _) (.cells #[.slice V 0 k, .int .i64 0, .int .i64 0, .int .i64 0, .int .i64 0, .int .i64 0, .int .i64 0] 31))).reads
  simp only [putC, Cfg.zero] at g0 g1 g2 g3 g4 g5 g6
  simp only [putC, Cfg.zero] at hPB
  clear hPB0 d0 d1 d2 d3 d4 d5 d6 fz0 fz1 fz2 fz3 fz4 fz5 fz6
  refine bodyPost_ret (v := .tuple #[.agg #[.slice none 0 0, .int .i64 0, .int .i64 0, .int .i64 0, .int .i64 0, .int .i64 0, .int .i64 0], .slice none 0 0, .int .i64 0, .bool false]) (by simp [results, Tryz.results55, go_sem, g0, g1, g2, g3, g4, g5, g6]) rfl ?_
  exact jourC_none hPB
end Go.Proofs.YtmpipjangbedkaaGreat

/-
  The walk of the reference's Events: a config, and what follows.
-/
namespace Go.Proofs.YtmpipjangbedkaaGreat
set_option maxRecDepth 8000
open Go Go.RowKit
set_option linter.unusedVariables false

theorem drop_row {l : List (List Nat)} {m : Nat} (h : m < l.length) : l.drop m = l.getD m [] :: l.drop (m + 1) := by
  rw [List.drop_eq_getElem_cons h, List.getD_eq_getElem?_getD, List.getElem?_eq_getElem h]
  rfl
theorem JourC.alloc {w w' : World} {o : Option (Cfg × List Ev × Nat)} {e : Ending} (h : JourC w o e w') (ob : Obj) : JourC w o e (w'.alloc ob) := by
  obtain ⟨v, V, e1, h1, h2, h3⟩ := h
  exact ⟨v, V, e1, OwnL.alloc h1 ob, OwnL.alloc h2 ob, h3.alloc h3.size ob⟩
theorem jour_fin {w wr : World} {X VC : Value} {es : List Ev} {cf : Cfg} {M : Nat} {K : Int} (hK : K = (M : Int)) (hb : Below w.heap.size w wr) (hI : OwnI wr (w.heap.size + 1) VC cf.insts) (hE : OwnE wr (w.heap.size + 1) X es) :
    JourC w (some (cf, es, M)) (.returned (.tuple #[.agg #[VC, .int .i64 cf.skin, .int .i64 cf.times, .int .i64 cf.port, .int .i64 cf.bid, .int .i64 cf.lot, .int .i64 cf.hedge], X, .int .i64 K, .bool true])) (putC wr w.heap.size VC cf) := by
  subst hK
  have ap : ∀ j, w.heap.size + 1 ≤ j → ¬ j = w.heap.size := fun j h e => by omega
  exact ⟨VC, X, rfl, OwnL.lower (OwnL.touch hI (putC_touch wr w.heap.size VC cf) (fun j hj => ap j (OwnL.lt hI j hj).1)) (by omega), OwnL.lower (OwnL.touch hE (putC_touch wr w.heap.size VC cf) (fun j hj => ap j (OwnL.lt hE j hj).1)) (by omega), putC_below hb (Nat.le_refl _) VC cf⟩
set_option maxRecDepth 100000 in
set_option maxHeartbeats 16000000 in
theorem revents_good (A : Option Addr) (L : List Nat) (c : Nat) (w : World) (hr : Byts w A L) (hl : Oct L) (hn : L.length ≤ 1000000000) (hcap : L.length ≤ c) (hc2 : c ≤ 9223372036854775807) (hA : c = 0 ∨ ∃ b off, A = some ⟨b, off, none⟩) (r : List Nat) (rs : List (List Nat)) (h0 : (recs L).map (·.2) = r :: rs) (cf : Cfg) (hp : readP r = some cf) :
    Calls Tryz.prog 55 #[.slice A L.length c] w (JourC w (some (cf, evs rs))) := by
  have CR := Lib.hid (fun W (h : Below w.heap.size w W) => records_any A L c W (hr.below h) hl hn hcap hc2 hA)
  have HB0 : Hid (Below w.heap.size w (w.alloc (.cells (Cfg.zero.cells (.slice none 0 0)).toArray 31))) := Lib.hid ((Below.refl _ _).alloc (Nat.le_refl _) _)
  have HR0 : Hid (CfAt (w.alloc (.cells (Cfg.zero.cells (.slice none 0 0)).toArray 31)) w.heap.size Cfg.zero (.slice none 0 0)) := Lib.hid (Rec.new w _ (Cfg.zero.cells (.slice none 0 0)) _ rfl)
  have CR1 := Lib.hid (CR.out _ HB0.out)
  simp only [Cfg.cells, Cfg.zero] at CR1
  have HT := Lib.hid h0
  obtain ⟨N, hN⟩ : ∃ N, N = (r :: rs).length := ⟨_, rfl⟩
  have HN := Lib.hid hN
  have HLN : Hid ((recs L).length = N) := Lib.hid (by have := congrArg List.length h0; rw [List.length_map] at this; rw [this, hN])
  have HO : Hid (∀ b ∈ r :: rs, Oct b ∧ b.length ≤ 1000000000000) := Lib.hid (fun b hb => by have := recs_oct hl b (by rw [h0]; exact hb); exact ⟨this.1, by omega⟩)
  have HP := Lib.hid hp
  have hN1 : N ≤ 1000000001 := by have h1 := recs_len L; have h2 := HLN.out; omega
  have hN0 : 0 < N := by rw [hN]; simp
  generalize L.length = n at *
  clear hr hl hcap hc2 hA h0 hp hN
  go_enter Tryz.func55, Tryz.ntmps55
  go_wp2_with (first
    | (go_at_call 53; (with_reducible refine CR1.out.mono ?_); rintro e w1 ⟨v1, v2, rfl, hS, hb1⟩; obtain ⟨A2, c2, rfl, hR⟩ := recs_rows hS; have HB1 := Lib.hid (HB0.out.trans (hb1.mono HB0.out.size)); have HR1 := Lib.hid (CfAt.keep HR0.out hb1); have hz := HLN.out; rw [hz]; rw [HT.out] at hR; have HRW := Lib.hid hR; obtain ⟨g, rfl, hc⟩ := hR (by rw [← HN.out]; exact hN0); obtain ⟨A', c', hcell, hB', hcc, hcm, hcA⟩ := hc 0 (by rw [← HN.out]; exact hN0); have hq : (r :: rs).getD 0 [] = r := rfl; rw [hq] at hcell hB' hcc; have hcp := rreadplan_any A' r c' w1 hB' (HO.out r (List.mem_cons_self ..)).1 (HO.out r (List.mem_cons_self ..)).2; rw [HP.out] at hcp; have CP := Lib.hid hcp; clear hS hc hb1 hz hq hcp)
    | (go_at_call 71; (with_reducible refine CP.out.mono ?_); rintro e w2 hK; obtain ⟨V, k, rfl, hoi, hb2⟩ := planK_good hK; have HB2 := Lib.hid (HB1.out.trans (hb2.mono HB1.out.size)); have HR2 := Lib.hid (CfAt.keep HR1.out hb2); have HRW2 := Lib.hid (RowsM.below HRW.out hb2); have HI2 := Lib.hid (OwnL.lower hoi (Nat.succ_le_of_lt (Rec.lt HR1.out))); have hlt2 := Rec.lt HR2.out; clear hK hb2 hoi HRW HR1 HB1 HR0 HB0 CR1 CR CP hcell hB' hcc hcm hcA))
  have hbn : Below w2.heap.size w2 (w2.alloc (.cells #[.slice V cf.insts.length k, .int .i64 cf.skin, .int .i64 cf.times, .int .i64 cf.port, .int .i64 cf.bid, .int .i64 cf.lot, .int .i64 cf.hedge] 31)) := (Below.refl _ _).alloc (Nat.le_refl _) _
  have hnew : CfAt (w2.alloc (.cells #[.slice V cf.insts.length k, .int .i64 cf.skin, .int .i64 cf.times, .int .i64 cf.port, .int .i64 cf.bid, .int .i64 cf.lot, .int .i64 cf.hedge] 31)) w2.heap.size cf (.slice V cf.insts.length k) := Rec.new w2 _ (cf.cells (.slice V cf.insts.length k)) _ rfl
  have HB3 := Lib.hid (HB2.out.trans (hbn.mono HB2.out.size))
  have HR3 := Lib.hid (CfAt.keep HR2.out hbn)
  have HRW3 := Lib.hid (RowsM.below HRW2.out hbn)
  have HI3 := Lib.hid (OwnL.keep HI2.out hbn)
  have HC3 := Lib.hid hnew
  clear HB2 HR2 HRW2 HI2 hnew hbn
  generalize w2.alloc (.cells #[.slice V cf.insts.length k, .int .i64 cf.skin, .int .i64 cf.times, .int .i64 cf.port, .int .i64 cf.bid, .int .i64 cf.lot, .int .i64 cf.hedge] 31) = w3 at *
  obtain ⟨s9, h9⟩ : ∃ s9, s9 = w2.heap.size := ⟨_, rfl⟩
  have hlt9 : w.heap.size < s9 := by rw [h9]; exact hlt2
  rw [← h9] at HC3 ⊢
  have H9 := Lib.hid h9
  clear h9
  go_loopw [11, 12] (fun out i wr => ∃ (m : Nat) (X : Value) (es : List Ev), X = out ∧ 1 ≤ m ∧ m ≤ N ∧ i = .int .i64 (m : Int) ∧ es.length + 1 = m ∧ Hid (OwnE wr w3.heap.size X es) ∧ Hid (Below w3.heap.size w3 wr) ∧ Hid (preE es (evs ((r :: rs).drop m)) = evs rs)) (fun _ i _ => N - (intOf i).toNat)
  case atStart => exact ⟨1, _, [], rfl, by omega, by omega, rfl, rfl, Lib.hid (ownL_nil _ _), Lib.hid (Below.refl _ _), Lib.hid rfl⟩
  case round =>
    obtain ⟨m, X, es, rfl, hm1, hm2, rfl, hes, HE, HB, HV⟩ := hrel
    have HCR := Lib.hid (CfAt.keep HC3.out HB.out)
    have HZR := Lib.hid (CfAt.keep HR3.out HB.out)
    obtain ⟨e0, e1, e2, e3, e4, e5, e6⟩ := HCR.out.reads
    obtain ⟨d0, d1, d2, d3, d4, d5, d6⟩ := HZR.out.reads
    simp only [Cfg.zero] at d0 d1 d2 d3 d4 d5 d6
    have fz0 := Rec.frozen HZR.out 0; have fz1 := Rec.frozen HZR.out 1; have fz2 := Rec.frozen HZR.out 2; have fz3 := Rec.frozen HZR.out 3; have fz4 := Rec.frozen HZR.out 4; have fz5 := Rec.frozen HZR.out 5; have fz6 := Rec.frozen HZR.out 6
    have hz9 := Rec.lt HCR.out
    by_cases hlt : m < N
    · obtain ⟨g', e', hc⟩ := (RowsM.below HRW3.out HB.out) (by rw [← HN.out]; omega)
      obtain rfl : g = g' := by injection e' with e'; injection e'
      obtain ⟨A', c', hcell, hB', hcc, _, _⟩ := hc m (by rw [← HN.out]; exact hlt)
      obtain ⟨b, hb⟩ : ∃ b, b = (r :: rs).getD m [] := ⟨_, rfl⟩
      rw [← hb] at hcell hB' hcc
      have hbm : b ∈ r :: rs := by rw [hb, List.getD_eq_getElem?_getD, List.getElem?_eq_getElem (by rw [← HN.out]; exact hlt)]; exact List.getElem_mem _
      have hcp := readev_any A' b c' wr hB' (HO.out b hbm).1 (HO.out b hbm).2
      have hdr : (r :: rs).drop m = b :: (r :: rs).drop (m + 1) := by rw [hb]; exact drop_row (by rw [← HN.out]; exact hlt)
      clear hc hB' hcc hbm hb e'
      cases hre : readE b with
      | none =>
        rw [readOut_none hre] at hcp
        have CE := Lib.hid hcp
        have HX : Hid (evs rs = (es, N - m)) := Lib.hid (by
          rw [← HV.out, hdr, evs_none hre]
          simp only [preE, List.append_nil, List.length_drop, ← HN.out]
          congr 1
          omega)
        clear hcp hdr hre
        clear d0 d1 d2 d3 d4 d5 d6 fz0 fz1 fz2 fz3 fz4 fz5 fz6 e0 e1 e2 e3 e4 e5 e6
        go_wp2_with (go_at_call 72; (with_reducible refine CE.out.mono ?_); rintro e w4 ⟨rfl, hb4⟩; simp only [Ev.v, Ev.zero]; have HE4 := Lib.hid (OwnL.keep HE.out hb4); have HB4 := Lib.hid (HB.out.trans (hb4.mono HB.out.size)); have HZ4 := Lib.hid (CfAt.keep HZR.out hb4); have HC4 := Lib.hid (CfAt.keep HCR.out hb4); clear hb4; obtain ⟨e0, e1, e2, e3, e4, e5, e6⟩ := HC4.out.reads; obtain ⟨d0, d1, d2, d3, d4, d5, d6⟩ := HZ4.out.reads; simp only [Cfg.zero] at d0 d1 d2 d3 d4 d5 d6; have hz4 := Rec.lt HC4.out; have hz0 := Rec.lt HZ4.out; have fz0 := Rec.frozen HZ4.out 0; have fz1 := Rec.frozen HZ4.out 1; have fz2 := Rec.frozen HZ4.out 2; have fz3 := Rec.frozen HZ4.out 3; have fz4 := Rec.frozen HZ4.out 4; have fz5 := Rec.frozen HZ4.out 5; have fz6 := Rec.frozen HZ4.out 6)
        have hF := (jour_fin (K := (N : Int) - (m : Int)) (M := N - m) (by omega) (HB3.out.trans (HB4.out.mono HB3.out.size)) (OwnL.keep HI3.out HB4.out) (OwnL.lower HE4.out (Nat.succ_le_of_lt (Rec.lt HR3.out)))).alloc (.cells #[.int .i64 0, .int .i64 0, .int .i64 0, .int .i64 0, .int .i64 0, .int .i64 0, .int .i64 0, .int .i64 0] 51)
        obtain ⟨g0, g1, g2, g3, g4, g5, g6⟩ := (CfAt.keep (putC_at HZ4.out (.slice V cf.insts.length k) cf) ((Below.refl _ _).alloc (Nat.le_refl _) (.cells #[.int .i64 0, .int .i64 0, .int .i64 0, .int .i64 0, .int .i64 0, .int .i64 0, .int .i64 0, .int .i64 0] 51))).reads
        simp only [putC] at g0 g1 g2 g3 g4 g5 g6
        simp only [putC] at hF
        refine bodyPost_ret (v := .tuple #[.agg #[.slice V cf.insts.length k, .int .i64 cf.skin, .int .i64 cf.times, .int .i64 cf.port, .int .i64 cf.bid, .int .i64 cf.lot, .int .i64 cf.hedge], X, .int .i64 ((N : Int) - (m : Int)), .bool true]) (by simp [results, Tryz.results55, go_sem, g0, g1, g2, g3, g4, g5, g6]) rfl ?_
        rw [HX.out]
        exact hF
      | some ev =>
        rw [readOut_some hre] at hcp
        have CE := Lib.hid hcp
        have HX : Hid (preE (es ++ [ev]) (evs ((r :: rs).drop (m + 1))) = evs rs) := Lib.hid (by rw [preE_some hre, ← hdr]; exact HV.out)
        clear hcp hdr hre d0 d1 d2 d3 d4 d5 d6 fz0 fz1 fz2 fz3 fz4 fz5 fz6 e0 e1 e2 e3 e4 e5 e6
        go_wp2_with (first
          | (go_at_call 72; (with_reducible refine CE.out.mono ?_); rintro e w4 ⟨rfl, hb4⟩; simp only [Ev.v]; have HE4 := Lib.hid (OwnL.keep HE.out hb4); have HB4 := Lib.hid (HB.out.trans (hb4.mono HB.out.size)); clear hb4)
          | (at_builtin; (refine wpList_appL lay_ev rfl (.tmp 57) (.tmp 59) rfl w3.heap.size _ es rfl ((HE4.out.alloc _).alloc _) _ 1 ev rfl (lit_one _ _ _ (Ev.cells ev) rfl _ (by simp)) (by omega) (by omega) (by have := HB4.out.size; simp; omega) ?_); rintro v' w' ho hg _; have HO5 := Lib.hid ho; have HB5 := Lib.hid (((HB4.out.alloc HB4.out.size _).alloc (by have := HB4.out.size; simp; omega) _).trans (((HE4.out.alloc _).alloc _).below hg (by have := HB4.out.size; simp; omega))); clear ho hg))
        go_roundw
        case rel => exact ⟨m + 1, _, es ++ [ev], rfl, by omega, by omega, by go_num, by simp; omega, HO5, HB5, HX⟩
        case measure => simp [intOf]; omega
    · obtain rfl : m = N := by omega
      have HX : Hid (evs rs = (es, 0)) := Lib.hid (by
        rw [← HV.out, HN.out, List.drop_length]
        simp [preE, evs])
      go_wp2
      have hF := jour_fin (K := 0) (M := 0) rfl (HB3.out.trans (HB.out.mono HB3.out.size)) (OwnL.keep HI3.out HB.out) (OwnL.lower HE.out (Nat.succ_le_of_lt (Rec.lt HR3.out)))
      obtain ⟨g0, g1, g2, g3, g4, g5, g6⟩ := (putC_at HZR.out (.slice V cf.insts.length k) cf).reads
      simp only [putC] at g0 g1 g2 g3 g4 g5 g6
      simp only [putC] at hF
      refine bodyPost_ret (v := .tuple #[.agg #[.slice V cf.insts.length k, .int .i64 cf.skin, .int .i64 cf.times, .int .i64 cf.port, .int .i64 cf.bid, .int .i64 cf.lot, .int .i64 cf.hedge], X, .int .i64 0, .bool true]) (by simp [results, Tryz.results55, go_sem, g0, g1, g2, g3, g4, g5, g6]) rfl ?_
      rw [HX.out]
      exact hF
theorem revents_any (A : Option Addr) (L : List Nat) (c : Nat) (w : World) (hr : Byts w A L) (hl : Oct L) (hn : L.length ≤ 1000000000) (hcap : L.length ≤ c) (hc2 : c ≤ 9223372036854775807) (hA : c = 0 ∨ ∃ b off, A = some ⟨b, off, none⟩) :
    Calls Tryz.prog 55 #[.slice A L.length c] w (JourC w (jour L)) := by
  unfold jour
  cases h : (recs L).map (·.2) with
  | nil => exact revents_nil A L c w hr hl hn hcap hc2 hA h
  | cons r rs =>
    cases hp : readP r with
    | none =>
      have e : jourL (r :: rs) = none := by simp [jourL, hp]
      rw [e]
      exact revents_bad A L c w hr hl hn hcap hc2 hA r rs h hp
    | some cf =>
      have e : jourL (r :: rs) = some (cf, evs rs) := by simp [jourL, hp]
      rw [e]
      exact revents_good A L c w hr hl hn hcap hc2 hA r rs h cf hp
end Go.Proofs.YtmpipjangbedkaaGreat
