import Derived.Test.YtmpipjangbedkaaJw1
import Derived.Test.YtmpipjangbedkaaMTp7
/-
  The walks of the program's journal: write, Start, Add.
-/
namespace Go.Proofs.Ytmpipjangbedkaa
set_option maxRecDepth 8000
open Go Go.RowKit
set_option linter.unusedVariables false

set_option maxRecDepth 8000 in
set_option maxHeartbeats 2000000 in
theorem jwrite_any (w : World) (base b : Nat) (v : Value) (t : Tp) (A : Option Addr) (n c : Nat) (x : List Nat) (hn : n = x.length) (hx : Byts w A x) (hxo : Oct x) (hA : A = none → c = 0) (h4 : x.length ≤ 400) (h : TapeAt false w base b v t) :
    Calls Try.prog 29 #[.pointer (some ⟨b, 0, none⟩), .slice A n c] w (WentC false w base b v (t.append (recL x)).1 (t.append (recL x)).2) := by
  subst hn
  have CP := Lib.hid (put_any A x c w hx hxo hA h4)
  have H := Lib.hid h
  have HO := Lib.hid (oct_rec hxo h4)
  clear hx hxo hA h4 h
  go_enter Try.func29, Try.ntmps29
  go_wp2_with (first
    | (go_at_call 46; (with_reducible refine CP.out.mono ?_); rintro e w1 ⟨v1, rfl, hv, hb⟩; obtain ⟨A1, c1, rfl, hB1, hl1, hc1, hA1, hlow⟩ := OwnB.form hv; have CA := Lib.hid (append_any w1 base b v t A1 _ c1 (recL x) rfl hB1 HO.out hA1 hl1 hc1 (fun bb off e h0 hf => by have h1 := hlow _ _ _ e; have h2 := (H.out.lt hf).2; omega) (H.out.keep hb)); have HB := Lib.hid hb; clear hv hb hB1 hl1 hc1 hA1 hlow)
    | (go_at_call 47; (with_reducible refine CA.out.mono ?_); rintro e w2 ⟨rfl, h2⟩; have H2 := Lib.hid h2; clear h2))
  go_ret
  exact ⟨rfl, Went.from (Touch.of_below _ HB.out) (Near.refl _ _) H2.out⟩
/-- A journal started, an event added: the tape behind it, and the code. -/
def Tp.jstart (t : Tp) (cf : Cfg) : Tp × Int := if planOk cf then (if t.down then (t, 15) else if 0 < t.all.length then (t, 4) else t.append (recL (planB cf 6))) else (t, 1)
def Tp.jadd (t : Tp) (e : Ev) : Tp × Int := if rightE e then t.append (recL (textE e)) else (t, 1)
theorem went_keep0 {r : Bool} {w w' : World} {base b : Nat} {v : Value} {t : Tp} (h : TapeAt r w base b v t) (hb : Below w.heap.size w w') : Went r w base b v t w' := ⟨v, h.keep hb, (Touch.of_below (fun _ => False) hb).mono (fun _ h => h.elim), Near.refl _ _⟩
set_option maxRecDepth 8000 in
set_option maxHeartbeats 2000000 in
theorem jadd_any (w : World) (base b : Nat) (v : Value) (t : Tp) (e : Ev) (ok : e.Ok) (h : TapeAt false w base b v t) :
    Calls Try.prog 12 #[.pointer (some ⟨b, 0, none⟩), e.v] w (WentC false w base b v (t.jadd e).1 (t.jadd e).2) := by
  have HC0 : Hid (EvAt (w.alloc (.cells e.cells.toArray 38)) w.heap.size e) := Lib.hid (Rec.new w _ e.cells _ rfl)
  have HB0 : Hid (Below w.heap.size w (w.alloc (.cells e.cells.toArray 38))) := Lib.hid ((Below.refl _ _).alloc (Nat.le_refl _) _)
  have CP := Lib.hid (pput_any e ok (w.alloc (.cells e.cells.toArray 38)))
  have H := Lib.hid h
  unfold Tp.jadd
  cases hr : rightE e with
  | false =>
    rw [show putE? e = ([], 1) from by unfold putE?; rw [hr]; rfl] at CP
    obtain ⟨c0, c1, c2, c3, c4, c5, c6, c7⟩ := HC0.out.reads
    unfold Ev.cells at c0 c1 c2 c3 c4 c5 c6 c7
    unfold Ev.v Ev.cells at CP
    unfold Ev.v
    clear h hr ok
    go_enter Try.func12, Try.ntmps12
    go_wp2_with (go_at_call 30; (with_reducible refine CP.out.mono ?_); rintro r w1 ⟨v1, rfl, hv, hb⟩; have HB1 := Lib.hid (HB0.out.trans (hb.mono HB0.out.size)); clear hv hb)
    go_ret
    exact ⟨rfl, went_keep0 H.out HB1.out⟩
  | true =>
    rw [show putE? e = (textE e, 0) from by unfold putE?; rw [hr]; rfl] at CP
    have HG : Hid (Good e) := Lib.hid ⟨ok, hr⟩
    obtain ⟨c0, c1, c2, c3, c4, c5, c6, c7⟩ := HC0.out.reads
    unfold Ev.cells at c0 c1 c2 c3 c4 c5 c6 c7
    unfold Ev.v Ev.cells at CP
    unfold Ev.v
    clear h hr ok
    go_enter Try.func12, Try.ntmps12
    go_wp2_with (first
      | (go_at_call 30; (with_reducible refine CP.out.mono ?_); rintro r w1 ⟨v1, rfl, hv, hb⟩; obtain ⟨A1, c1, rfl, hB1, hl1, hc1, hA1, hlow⟩ := OwnB.form hv; have HB1 := Lib.hid (HB0.out.trans (hb.mono HB0.out.size)); have CA := Lib.hid (jwrite_any w1 base b v t A1 _ c1 (textE e) rfl hB1 (textE_oct HG.out) hA1 (textE_len HG.out) (H.out.keep HB1.out)); clear hv hb hB1 hl1 hc1 hA1 hlow)
      | (go_at_call 29; (with_reducible refine CA.out.mono ?_); rintro r w2 ⟨rfl, h2⟩; have H2 := Lib.hid h2; clear h2))
    go_ret
    exact ⟨rfl, Went.from (Touch.of_below _ HB1.out) (Near.refl _ _) H2.out⟩
set_option maxRecDepth 8000 in
set_option maxHeartbeats 2000000 in
theorem jstart_any (w : World) (base b : Nat) (v : Value) (t : Tp) (cf : Cfg) (ok : CfgI cf) (A : Option Addr) (n c : Nat) (hn : n = cf.insts.length) (hI : InsM w A cf.insts) (h : TapeAt false w base b v t) :
    Calls Try.prog 11 #[.pointer (some ⟨b, 0, none⟩), cf.v (.slice A n c)] w (WentC false w base b v (t.jstart cf).1 (t.jstart cf).2) := by
  have HC0 : Hid (CfAt (w.alloc (.cells (cf.cells (.slice A n c)).toArray 28)) w.heap.size cf (.slice A n c)) := Lib.hid (Rec.new w _ (cf.cells (.slice A n c)) _ rfl)
  have HB0 : Hid (Below w.heap.size w (w.alloc (.cells (cf.cells (.slice A n c)).toArray 28))) := Lib.hid ((Below.refl _ _).alloc (Nat.le_refl _) _)
  have CP := Lib.hid (pputplan_any cf ok A n c _ hn (hI.below HB0.out))
  have H := Lib.hid h
  unfold Tp.jstart
  cases hr : planOk cf with
  | false =>
    rw [show putP cf = ([], 1) from by unfold putP; rw [hr]; rfl] at CP
    obtain ⟨c0, c1, c2, c3, c4, c5, c6⟩ := HC0.out.reads
    unfold Cfg.cells at c0 c1 c2 c3 c4 c5 c6
    unfold Cfg.v Cfg.cells at CP
    unfold Cfg.v
    clear h hr ok hn hI
    go_enter Try.func11, Try.ntmps11
    go_wp2_with (go_at_call 28; (with_reducible refine CP.out.mono ?_); rintro r w1 ⟨v1, rfl, hv, hb⟩; have HB1 := Lib.hid (HB0.out.trans (hb.mono HB0.out.size)); clear hv hb)
    go_ret
    exact ⟨rfl, went_keep0 H.out HB1.out⟩
  | true =>
    rw [show putP cf = (planB cf 6, 0) from by unfold putP; rw [hr]; rfl] at CP
    have HOC := Lib.hid (planB_oct cf 6)
    have HL := Lib.hid (planB_400 ok hr)
    obtain ⟨c0, c1, c2, c3, c4, c5, c6⟩ := HC0.out.reads
    unfold Cfg.cells at c0 c1 c2 c3 c4 c5 c6
    unfold Cfg.v Cfg.cells at CP
    unfold Cfg.v
    have CD := Lib.hid (fun W (hb : Below w.heap.size w W) => down_any W base b v t (H.out.keep hb))
    have CL := Lib.hid (fun W (hb : Below w.heap.size w W) => len_any W base b v t (H.out.keep hb))
    clear h hr ok hn hI
    rw [if_pos rfl]
    cases hd : t.down with
    | true =>
      rw [hd] at CD
      rw [if_pos rfl]
      clear hd
      go_enter Try.func11, Try.ntmps11
      go_wp2_with (first
        | (go_at_call 28; (with_reducible refine CP.out.mono ?_); rintro r w1 ⟨v1, rfl, hv, hb⟩; have HB1 := Lib.hid (HB0.out.trans (hb.mono HB0.out.size)); have CD1 := Lib.hid (CD.out w1 HB1.out); clear hv hb)
        | (go_at_call 21; (with_reducible refine CD1.out.mono ?_); rintro r wq ⟨rfl, hwq⟩; obtain rfl : w1 = wq := hwq))
      go_ret
      exact ⟨rfl, went_keep0 H.out HB1.out⟩
    | false =>
      rw [hd] at CD
      rw [if_neg (by decide)]
      by_cases h0 : 0 < t.all.length
      · rw [if_pos h0]
        have hg : decide ((t.all.length : Int) > 0) = true := decide_eq_true (by omega)
        clear hd
        go_enter Try.func11, Try.ntmps11
        go_wp2_with (first
          | (go_at_call 28; (with_reducible refine CP.out.mono ?_); rintro r w1 ⟨v1, rfl, hv, hb⟩; have HB1 := Lib.hid (HB0.out.trans (hb.mono HB0.out.size)); have CD1 := Lib.hid (CD.out w1 HB1.out); have CL1 := Lib.hid (CL.out w1 HB1.out); clear hv hb)
          | (go_at_call 21; (with_reducible refine CD1.out.mono ?_); rintro r wq ⟨rfl, hwq⟩; obtain rfl : w1 = wq := hwq)
          | (go_at_call 18; (with_reducible refine CL1.out.mono ?_); rintro r wq ⟨rfl, hwq⟩; obtain rfl : w1 = wq := hwq))
        go_ret
        exact ⟨rfl, went_keep0 H.out HB1.out⟩
      · rw [if_neg h0]
        have hz : t.all.length = 0 := by omega
        rw [hz] at CL
        clear hd h0
        go_enter Try.func11, Try.ntmps11
        go_wp2_with (first
          | (go_at_call 28; (with_reducible refine CP.out.mono ?_); rintro r w1 ⟨v1, rfl, hv, hb⟩; have HB1 := Lib.hid (HB0.out.trans (hb.mono HB0.out.size)); obtain ⟨A1, c1, rfl, hB1, hl1, hc1, hA1, hlow⟩ := OwnB.form hv; have CA := Lib.hid (jwrite_any w1 base b v t A1 _ c1 (planB cf 6) rfl hB1 HOC.out hA1 HL.out (H.out.keep HB1.out)); have CD1 := Lib.hid (CD.out w1 HB1.out); have CL1 := Lib.hid (CL.out w1 HB1.out); clear hv hb hB1 hl1 hc1 hA1 hlow)
          | (go_at_call 21; (with_reducible refine CD1.out.mono ?_); rintro r wq ⟨rfl, hwq⟩; obtain rfl : w1 = wq := hwq)
          | (go_at_call 18; (with_reducible refine CL1.out.mono ?_); rintro r wq ⟨rfl, hwq⟩; obtain rfl : w1 = wq := hwq)
          | (go_at_call 29; (with_reducible refine CA.out.mono ?_); rintro r w2 ⟨rfl, h2⟩; have H2 := Lib.hid h2; clear h2))
        go_ret
        exact ⟨rfl, Went.from (Touch.of_below _ HB1.out) (Near.refl _ _) H2.out⟩
end Go.Proofs.Ytmpipjangbedkaa

/-
  The walk of the reference's Events.
-/
namespace Go.Proofs.Ytmpipjangbedkaa
set_option maxRecDepth 8000
open Go Go.RowKit
set_option linter.unusedVariables false

end Go.Proofs.Ytmpipjangbedkaa

/-
  The walk of the reference's Events: a config, and what follows.
-/
namespace Go.Proofs.Ytmpipjangbedkaa
set_option maxRecDepth 8000
open Go Go.RowKit
set_option linter.unusedVariables false

theorem drop_row {l : List (List Nat)} {m : Nat} (h : m < l.length) : l.drop m = l.getD m [] :: l.drop (m + 1) := by
  rw [List.drop_eq_getElem_cons h, List.getD_eq_getElem?_getD, List.getElem?_eq_getElem h]
  rfl
theorem JourC.alloc {w w' : World} {o : Option (Cfg × List Ev × Nat)} {e : Ending} (h : JourC w o e w') (ob : Obj) : JourC w o e (w'.alloc ob) := by
  obtain ⟨v, V, e1, h1, h2, h3⟩ := h
  exact ⟨v, V, e1, OwnL.alloc h1 ob, OwnL.alloc h2 ob, h3.alloc h3.size ob⟩
theorem jour_fin {w wr : World} {X VC : Value} {es : List Ev} {cf : Cfg} {M : Nat} {K : Int} (hK : K = (M : Int)) (hb : Below w.heap.size w wr) (hI : OwnI wr (w.heap.size + 1) VC cf.insts) (hE : OwnE wr (w.heap.size + 1) X es) :
    JourC w (some (cf, es, M)) (.returned (.tuple #[.agg #[VC, .int .i64 cf.skin, .int .i64 cf.times, .int .i64 cf.port, .int .i64 cf.bid, .int .i64 cf.lot, .int .i64 cf.hedge], X, .int .i64 K, .bool true])) (putC wr w.heap.size VC cf) := by
  subst hK
  have ap : ∀ j, w.heap.size + 1 ≤ j → ¬ j = w.heap.size := fun j h e => by omega
  exact ⟨VC, X, rfl, OwnL.lower (OwnL.touch hI (putC_touch wr w.heap.size VC cf) (fun j hj => ap j (OwnL.lt hI j hj).1)) (by omega), OwnL.lower (OwnL.touch hE (putC_touch wr w.heap.size VC cf) (fun j hj => ap j (OwnL.lt hE j hj).1)) (by omega), putC_below hb (Nat.le_refl _) VC cf⟩
end Go.Proofs.Ytmpipjangbedkaa

/-
  The reference's OpenJournal: what it answers, as plain data; its walk on a tape that is down.
-/
namespace Go.Proofs.Ytmpipjangbedkaa
set_option maxRecDepth 8000
open Go Go.RowKit
set_option linter.unusedVariables false

/-- What the bytes are opened as: the config, the events, the code. -/
def openL (L : List Nat) : Cfg × List Ev × Int :=
  if recs L = [] then (Cfg.zero, [], 3) else match jour L with
  | some (cf, es, 0) => (cf, es, 0)
  | _ => (Cfg.zero, [], 13)
/-- A tape opened. -/
def Tp.ropen (t : Tp) : Tp × Cfg × List Ev × Int :=
  if t.down then (t, Cfg.zero, [], 15) else
  if wholeOf (recs t.all) < t.all.length then
    (if (t.rcut (wholeOf (recs t.all))).2 = 0 then ((t.rcut (wholeOf (recs t.all))).1, openL t.all) else ((t.rcut (wholeOf (recs t.all))).1, Cfg.zero, [], (t.rcut (wholeOf (recs t.all))).2))
  else (t, openL t.all)
/-- What it answers, and the tape behind it. -/
def OpenC (r : Bool) (w : World) (base b : Nat) (v : Value) (x : Tp × Cfg × List Ev × Int) (e : Ending) (w' : World) : Prop :=
  ∃ V X, e = .returned (.tuple #[x.2.1.v V, X, .int .i64 x.2.2.2]) ∧ OwnI w' w.heap.size V x.2.1.insts ∧ OwnE w' w.heap.size X x.2.2.1 ∧ Went r w base b v x.1 w'
theorem openC_none {r : Bool} {w w' : World} {base b : Nat} {v : Value} {t : Tp} {K : Int} (h : Went r w base b v t w') : OpenC r w base b v (t, Cfg.zero, [], K) (.returned (.tuple #[.agg #[.slice none 0 0, .int .i64 0, .int .i64 0, .int .i64 0, .int .i64 0, .int .i64 0, .int .i64 0], .slice none 0 0, .int .i64 K])) w' := ⟨_, _, rfl, ownL_nil _ _, ownL_nil _ _, h⟩
theorem went_below {r : Bool} {w w' : World} {base b : Nat} {v : Value} {t : Tp} (h : TapeAt r w base b v t) (hb : Below w.heap.size w w') : Went r w base b v t w' := ⟨v, h.keep hb, (Touch.of_below (fun _ => False) hb).mono (fun _ h => h.elim), Near.refl _ _⟩
end Go.Proofs.Ytmpipjangbedkaa
