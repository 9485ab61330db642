import Derived.Test.YtmpipjangbedkaaGreatMDk5
import Derived.Test.YtmpipjangbedkaaGreatMPl6
import Derived.Test.YtmpipjangbedkaaGreatMJw6
import Derived.Test.YtmpipjangbedkaaGreatMJw7
import Derived.Test.YtmpipjangbedkaaGreatMTp6
/-
  Drawn configs are right.
-/
namespace Go.Proofs.YtmpipjangbedkaaGreat
set_option maxRecDepth 8000
open Go Go.RowKit
set_option linter.unusedVariables false

theorem ok_ins {x : Ins} (h : x.Ok) : insOk x = true := by
  obtain ⟨h1, h2, h3, h4⟩ := h
  simp only [insOk, wIn, Bool.and_eq_true, decide_eq_true_eq]
  omega
theorem ok_plan {c : Cfg} (h : c.Ok) : planOk c = true := by
  have h1 := h.cnt; have h2 := h.skin; have h3 := h.times; have h4 := h.port; have h5 := h.bid; have h6 := h.lot; have h7 := h.hedge
  rw [plan_all ⟨h1.1, by omega⟩ (fun i hi => ok_ins (h.each _ (by rw [List.getD_eq_getElem?_getD, List.getElem?_eq_getElem hi]; exact List.getElem_mem hi)))]
  simp only [restOk, wIn, Bool.and_eq_true, decide_eq_true_eq]
  omega
theorem ok_cfgI {c : Cfg} (h : c.Ok) : CfgI c := by
  have h2 := h.skin; have h3 := h.times; have h4 := h.port; have h5 := h.bid; have h6 := h.lot; have h7 := h.hedge
  refine ⟨fun x hx => ?_, ?_, ?_, ?_, ?_, ?_, ?_⟩
  · obtain ⟨k1, k2, k3, k4⟩ := h.each x hx
    unfold I64
    omega
  all_goals (unfold I64; omega)
theorem Nums.below {W W' : World} {A : Option Addr} {l : List Int} (h : Nums W A l) (hb : Below W.heap.size W W') : Nums W' A l := ⟨h.1.below hb, h.2, h.3⟩
end Go.Proofs.YtmpipjangbedkaaGreat

/-
  Journals that are started, added to and opened, as plain data; the walk of novationlaw9's small.
-/
namespace Go.Proofs.YtmpipjangbedkaaGreat
set_option maxRecDepth 8000
open Go Go.RowKit
set_option linter.unusedVariables false

/-- A tape of some room that has a journal. -/
def tjr (room : Int) (cf : Cfg) (es : List Ev) : Tp := { newTp room with all := catJ (jls cf es) }
section
variable {room : Int} {cf : Cfg} {es : List Ev}
theorem append_plain {t : Tp} (hd : t.down = false) (ha : t.armed = false) {x : List Nat} (hr : t.all.length + x.length ≤ t.room) : t.append x = ({ t with all := t.all ++ x }, 0) := by
  obtain ⟨all, rm, down, armed, left, keep⟩ := t
  simp only at hd ha hr
  subst hd
  subst ha
  unfold Tp.append
  rw [if_neg Bool.false_ne_true, if_neg (show ¬ rm < all.length + x.length by omega)]
  rfl
theorem tjr_start (hp : planOk cf = true) (hl : (catJ (jls cf [])).length ≤ roomOf room) : (newTp room).jstart cf = (tjr room cf [], 0) := by
  unfold Tp.jstart
  rw [if_pos hp, if_neg (show ¬ ((newTp room).down = true) from Bool.false_ne_true), if_neg (show ¬ (0 < (newTp room).all.length) from Nat.lt_irrefl 0)]
  rw [jls_one] at hl
  rw [append_plain rfl rfl (show 0 + _ ≤ roomOf room by omega)]
  unfold tjr
  rw [jls_one]
  rfl
theorem tjr_add {e : Ev} (he : rightE e = true) (hl : (catJ (jls cf (es ++ [e]))).length ≤ roomOf room) : (tjr room cf es).jadd e = (tjr room cf (es ++ [e]), 0) := by
  unfold Tp.jadd
  rw [if_pos he]
  rw [jls_add, List.length_append] at hl
  rw [append_plain (t := tjr room cf es) rfl rfl hl]
  unfold tjr
  rw [jls_add]
theorem tjr_open (ok : CfgI cf) (hp : planOk cf = true) (hg : ∀ x ∈ es, Good x) : (tjr room cf es).jopen = (tjr room cf es, cf, es, 0) := by
  have h := jour_jls ok hp hg [] next_nil
  rw [List.append_nil] at h
  obtain ⟨h1, h2, h3⟩ := h
  unfold Tp.jopen
  rw [if_neg (show ¬ ((tjr room cf es).down = true) from Bool.false_ne_true), show (tjr room cf es).all = catJ (jls cf es) from rfl, if_neg (by rw [h2]; omega)]
  unfold openL
  rw [if_neg h3, h1]
  rfl
theorem new_open : (newTp room).jopen = (newTp room, Cfg.zero, [], 3) := by
  unfold Tp.jopen
  rw [if_neg (show ¬ ((newTp room).down = true) from Bool.false_ne_true)]
  rfl
theorem tjr_all (ok : CfgI cf) (hp : planOk cf = true) (hg : ∀ x ∈ es, Good x) : allL (catJ (jls cf es)) = es := by
  have h := jour_jls ok hp hg [] next_nil
  rw [List.append_nil] at h
  unfold allL
  rw [h.1]
end
/-- A Start that writes nothing. -/
theorem jstart_no (w : World) (base b : Nat) (v : Value) (t : Tp) (cf : Cfg) (ok : CfgI cf) (A : Option Addr) (n c : Nat) (hn : n = cf.insts.length) (hI : InsM w A cf.insts) (h : TapeAt false w base b v t) (h0 : 0 < t.all.length) (hd : t.down = false) (K : Int) (hK : K = if planOk cf then 4 else 1) :
    Calls Tryz.prog 24 #[.pointer (some ⟨b, 0, none⟩), cf.v (.slice A n c)] w fun e w' => e = .returned (.int .i64 K) ∧ Below w.heap.size w w' := by
  subst hK
  have HC0 : Hid (CfAt (w.alloc (.cells (cf.cells (.slice A n c)).toArray 31)) w.heap.size cf (.slice A n c)) := Lib.hid (Rec.new w _ (cf.cells (.slice A n c)) _ rfl)
  have HB0 : Hid (Below w.heap.size w (w.alloc (.cells (cf.cells (.slice A n c)).toArray 31))) := Lib.hid ((Below.refl _ _).alloc (Nat.le_refl _) _)
  have CP := Lib.hid (pputplan_any cf ok A n c _ hn (hI.below HB0.out))
  have H := Lib.hid h
  cases hr : planOk cf with
  | false =>
    rw [show putP cf = ([], 1) from by unfold putP; rw [hr]; rfl] at CP
    obtain ⟨c0, c1, c2, c3, c4, c5, c6⟩ := HC0.out.reads
    unfold Cfg.cells at c0 c1 c2 c3 c4 c5 c6
    unfold Cfg.v Cfg.cells at CP
    unfold Cfg.v
    clear h hr ok hn hI
    go_enter Tryz.func24, Tryz.ntmps24
    go_wp2_with (go_at_call 56; (with_reducible refine CP.out.mono ?_); rintro r w1 ⟨v1, rfl, hv, hb⟩; have HB1 := Lib.hid (HB0.out.trans (hb.mono HB0.out.size)); clear hv hb)
    go_ret
    exact ⟨rfl, HB1.out⟩
  | true =>
    rw [show putP cf = (planB cf 6, 0) from by unfold putP; rw [hr]; rfl] at CP
    obtain ⟨c0, c1, c2, c3, c4, c5, c6⟩ := HC0.out.reads
    unfold Cfg.cells at c0 c1 c2 c3 c4 c5 c6
    unfold Cfg.v Cfg.cells at CP
    unfold Cfg.v
    have CD := Lib.hid (fun W (hb : Below w.heap.size w W) => down_any W base b v t (H.out.keep hb))
    have CL := Lib.hid (fun W (hb : Below w.heap.size w W) => len_any W base b v t (H.out.keep hb))
    rw [hd] at CD
    have hg : decide ((t.all.length : Int) > 0) = true := decide_eq_true (by omega)
    clear h hr ok hn hI hd
    go_enter Tryz.func24, Tryz.ntmps24
    go_wp2_with (first
      | (go_at_call 56; (with_reducible refine CP.out.mono ?_); rintro r w1 ⟨v1, rfl, hv, hb⟩; have HB1 := Lib.hid (HB0.out.trans (hb.mono HB0.out.size)); have CD1 := Lib.hid (CD.out w1 HB1.out); have CL1 := Lib.hid (CL.out w1 HB1.out); clear hv hb)
      | (go_at_call 37; (with_reducible refine CD1.out.mono ?_); rintro r wq ⟨rfl, hwq⟩; obtain rfl : w1 = wq := hwq)
      | (go_at_call 57; (with_reducible refine CL1.out.mono ?_); rintro r wq ⟨rfl, hwq⟩; obtain rfl : w1 = wq := hwq))
    go_ret
    exact ⟨rfl, HB1.out⟩
/-- The config of novationlaw9's small. -/
def cfS : Cfg := ⟨[⟨0, 5, 0, 0⟩], 0, 0, 0, 0, 1, 0⟩
theorem cfS_ok : CfgI cfS := by refine ⟨fun x hx => ?_, ?_, ?_, ?_, ?_, ?_, ?_⟩ <;> (try (simp [cfS] at hx; subst hx)) <;> (unfold I64; simp [cfS])
theorem cfS_plan : planOk cfS = true := by decide
theorem cfZ_ok : CfgI Cfg.zero := by refine ⟨fun x hx => ?_, ?_, ?_, ?_, ?_, ?_, ?_⟩ <;> (try (simp [Cfg.zero] at hx)) <;> (unfold I64; simp [Cfg.zero])
theorem cfZ_plan : planOk Cfg.zero = false := by decide
def evT : Ev := ⟨10, 0, 0, 0, 0, 0, 3, 0⟩
theorem evT_good : Good evT := ⟨by constructor <;> (unfold I64 evT; simp), by decide⟩
set_option maxRecDepth 8000 in
set_option maxHeartbeats 2000000 in
theorem small_any (w : World) : Calls Tryz.prog 25 #[] w fun r w' => ∃ A c, r = .returned (cfS.v (.slice A 1 c)) ∧ InsM w' A cfS.insts ∧ Below w.heap.size w w' := by
  go_enter Tryz.func25, Tryz.ntmps25
  go_wp2
  have hC : CfAt ((w.alloc (.cells #[.slice (some ⟨w.heap.size + 1, 0, none⟩) 1 1, .int .i64 0, .int .i64 0, .int .i64 0, .int .i64 0, .int .i64 1, .int .i64 0] 31)).alloc (.cells #[.int .i64 0, .int .i64 5, .int .i64 0, .int .i64 0] 70)) w.heap.size cfS (.slice (some ⟨w.heap.size + 1, 0, none⟩) 1 1) := Rec.keep (Rec.new w _ (cfS.cells (.slice (some ⟨w.heap.size + 1, 0, none⟩) 1 1)) _ rfl) ((Below.refl _ _).alloc (Nat.le_refl _) _)
  have hI : Rec ((w.alloc (.cells #[.slice (some ⟨w.heap.size + 1, 0, none⟩) 1 1, .int .i64 0, .int .i64 0, .int .i64 0, .int .i64 0, .int .i64 1, .int .i64 0] 31)).alloc (.cells #[.int .i64 0, .int .i64 5, .int .i64 0, .int .i64 0] 70)) (w.heap.size + 1) 70 [.int .i64 0, .int .i64 5, .int .i64 0, .int .i64 0] := Rec.new _ _ [.int .i64 0, .int .i64 5, .int .i64 0, .int .i64 0] _ (by simp)
  obtain ⟨g0, g1, g2, g3, g4, g5, g6⟩ := hC.reads
  refine bodyPost_ret (v := .agg #[.slice (some ⟨w.heap.size + 1, 0, none⟩) 1 1, .int .i64 0, .int .i64 0, .int .i64 0, .int .i64 0, .int .i64 1, .int .i64 0]) (by simp only [cfS] at g0 g1 g2 g3 g4 g5 g6; simp [results, Tryz.results25, go_sem, g0, g1, g2, g3, g4, g5, g6]) rfl ?_
  refine ⟨_, 1, rfl, fun _ => ⟨_, 0, rfl, fun i hi => ?_⟩, ((Below.refl _ _).alloc (Nat.le_refl _) _).alloc (by simp) _⟩
  obtain rfl : i = 0 := by simp [cfS] at hi; exact hi
  exact ⟨hI.cell 0 rfl, hI.cell 1 rfl, hI.cell 2 rfl, hI.cell 3 rfl⟩
end Go.Proofs.YtmpipjangbedkaaGreat

/-
  What a call on a tape leaves as it was, by the types of what lies there alone.
-/
namespace Go.Proofs.YtmpipjangbedkaaGreat
set_option maxRecDepth 8000
open Go Go.RowKit
set_option linter.unusedVariables false

section
variable {r : Bool} {w w' : World} {base b : Nat} {v : Value} {t t' : Tp}
theorem foot_rec (h : TapeAt r w base b v t) {k : Nat} {T : TypeId} {cs : List Value} (hr : Rec w k T cs) (h1 : T ≠ 5) (h2 : T ≠ tyOf r) : ¬ foot b v k := by
  intro hf
  rcases hf with e | hf
  · exact Rec.ne hr h.box h2 e
  · exact Rec.not_row hr h1 h.own hf
theorem went_rec (h : TapeAt r w base b v t) {k : Nat} {T : TypeId} {cs : List Value} (hr : Rec w k T cs) (h1 : T ≠ 5) (h2 : T ≠ tyOf r) (hW : Went r w base b v t' w') : Rec w' k T cs := hr.touch (went_touch hW) (foot_rec h hr h1 h2)
theorem went_own {α : Type} {enc : α → List Value} {e sz bs : Nat} {l : List α} {u : Value} (h : TapeAt r w base b v t) (ho : OwnL enc e sz w bs u l) (h1 : e ≠ 5) (h2 : tyOf r ≠ e) (hW : Went r w base b v t' w') : OwnL enc e sz w' bs u l := by
  refine OwnL.touch ho (went_touch hW) (fun k hk hf => ?_)
  rcases hf with rfl | hf
  · exact Rec.not_rowL h.box h2 ho hk
  · rcases ho.2 with ⟨rfl, _⟩ | ⟨g, cap, cur, rfl, _, hgb, _⟩
    · simp [Value.ownBlock] at hk
    · obtain rfl : g = k := by simpa [Value.ownBlock] using hk
      exact Rec.not_row (cs := cur.toList) (t := e) (by simpa [Rec] using hgb) h1 h.own hf
end
theorem went_low {r : Bool} {w w' w0 : World} {base b B : Nat} {v : Value} {t t' : Tp} (h : TapeAt r w base b v t) (hW : Went r w base b v t' w') (hb : Below B w0 w) (hB : B ≤ base) : Below B w0 w' := by
  refine hb.trans ((went_touch hW).below ?_ (fun k hk => Nat.le_trans hB (h.lt hk).1))
  have := h.low; have := h.box.lt; omega
end Go.Proofs.YtmpipjangbedkaaGreat

/-
  The walks of the reference's Append in flight, and of its Cut.
-/
namespace Go.Proofs.YtmpipjangbedkaaGreat
set_option maxRecDepth 8000
open Go.RowKit
set_option linter.unusedVariables false

set_option maxRecDepth 8000 in
set_option maxHeartbeats 4000000 in
theorem rappend_flies (w : World) (base b : Nat) (v : Value) (t : Tp) (A : Option Addr) (c : Nat) (x : List Nat) (hx : Byts w A x) (hxo : Oct x) (hA : A = none → c = 0) (hxc : x.length ≤ c) (hcm : c ≤ 9223372036854775807) (hap : ∀ bb off, A = some ⟨bb, off, none⟩ → 0 < x.length → ¬ foot b v bb) (h : TapeAt true w base b v t) (hd : t.down = false) (hf : ¬ t.room < t.all.length + x.length) (hg : t.rgoes.2 = true) :
    Calls Tryz.prog 19 #[.pointer (some ⟨b, 0, none⟩), .slice A x.length c] w (WentC true w base b v { t.rgoes.1 with all := t.all ++ x.take (frontN t.keep x.length) } 15) := by
  obtain ⟨c0, c1, _, _, _, c2, _⟩ := h.rreads
  obtain ⟨A1, k, rfl, _⟩ := h.own.form
  have h1 := h.ok.len
  have h2 := h.ok.room
  have hkp := h.ok.keep
  rw [hd] at c2
  obtain ⟨n, hn⟩ : ∃ n, n = x.length := ⟨_, rfl⟩
  obtain ⟨m, hm⟩ : ∃ m, m = t.all.length := ⟨_, rfl⟩
  obtain ⟨R, hR⟩ : ∃ R, R = t.room := ⟨_, rfl⟩
  rw [← hm] at c0 h1
  rw [← hR] at c1 h1 h2
  rw [← hm, ← hn, ← hR] at hf
  have hlt : decide ((R : Int) - (m : Int) < (n : Int)) = false := by simp; omega
  have C : Hid (∀ j, Calls Tryz.prog 48 #[.pointer (some ⟨b, 0, none⟩)] (w.drewN j) fun e w' => e = .returned (.bool true) ∧ Went true (w.drewN j) base b (.slice A1 t.all.length k) t.rgoes.1 w') := Lib.hid (fun j => by have := falls_any _ base b _ t (h.drewN j); rw [hg] at this; exact this)
  obtain ⟨ga, gr, gk⟩ := t.rgoes_all
  have gok := Tp.rgoes_ok h.ok
  obtain ⟨kp, hkpe⟩ : ∃ kp, kp = t.keep := ⟨_, rfl⟩
  rw [← hkpe] at hkp gk ⊢
  obtain ⟨f, hfe⟩ : ∃ f, f = frontN kp x.length := ⟨_, rfl⟩
  have hfn : f ≤ n := by rw [hfe, hn]; exact frontN_le _ _
  obtain ⟨q, hq⟩ : ∃ q, q = max kp 0 := ⟨_, rfl⟩
  have e1 : (if kp < 0 then 0 else kp) = q := by rw [hq]; split <;> omega
  have e2 : (if (n : Int) < q then (n : Int) else q) = (f : Int) := by rw [hfe, hq]; unfold frontN; rw [← hn]; split <;> omega
  rw [← hfe]
  have HX : Hid (Byts w A (x.take f)) := Lib.hid (by
    intro h0
    obtain ⟨b1, off, e, hc⟩ := hx (by rw [List.length_take] at h0; omega)
    refine ⟨b1, off, e, fun i hi => ?_⟩
    rw [List.length_take] at hi
    rw [hc i (by omega), List.getD_eq_getElem?_getD, List.getD_eq_getElem?_getD, List.getElem?_take_of_lt (by omega)])
  have HA := Lib.hid hA
  have HP := Lib.hid hap
  have HG := Lib.hid ga
  have hfl : (x.take f).length = f := by rw [List.length_take]; omega
  have HF := Lib.hid hfl
  have HOK : Hid ({ t.rgoes.1 with all := t.all ++ x.take f } : Tp).Ok := Lib.hid (by have := gok.app (hxo.take f) (by rw [ga, gr, hfl, ← hm, ← hR]; omega); rw [ga] at this; exact this)
  have HL : Hid (t.all.length + f ≤ 1048576) := Lib.hid (by omega)
  have HK := Lib.hid gk
  rw [← hn] at hxc
  generalize t.rgoes.1 = t1 at *
  rw [← hn]
  clear h hd hg hx hA hap hn hm hR ga gr gok hfe hq hkpe hfl gk
  unfold I64 at hkp
  have hfc : f ≤ c := by omega
  go_enter Tryz.func19, Tryz.ntmps19
  go_wp2
  go_quiet (fail)
  go_wp2_with (go_at_call 48; refine (C.out _).mono ?_; rintro e w1 ⟨rfl, v1, h1', ht1, hn1⟩; have HT := Lib.hid h1'; have HT1 := Lib.hid ht1; have HN1 := Lib.hid hn1; have z0 := h1'.box.cell 0 rfl; have z4 := h1'.box.cell 4 rfl; rw [HK.out] at z4; have zf := h1'.box.frozen 0; have zlt := h1'.box.lt; clear h1' ht1 hn1)
  obtain ⟨A4, k4, rfl, hB4, _, _, hA4, _⟩ := OwnB.form HT.out.own
  have hdr : Below w1.heap.size w1 w1.drew := ⟨rfl, rfl, rfl, Nat.le_refl _, fun _ _ => rfl⟩
  have HD := Lib.hid hdr
  have HB4 : Hid (Byts (w1.drew.alloc (.cells #[] 5)) A4 t1.all) := Lib.hid (hB4.below (hdr.alloc (Nat.le_refl _) _))
  have HA4 := Lib.hid hA4
  have HTd : Hid (TapeAt true w1.drew base b (.slice A4 t1.all.length k4) t1) := Lib.hid (HT.out.keep hdr)
  have HL4 : Hid (([] : List Nat).length + t1.all.length ≤ 140737488355328) := Lib.hid (by rw [HG.out]; have := HL.out; simp; omega)
  have HL5 : Hid (t1.all.length + (x.take f).length ≤ 140737488355328) := Lib.hid (by rw [HG.out, HF.out]; have := HL.out; omega)
  have HBx : Hid (Byts w1 A (x.take f)) := Lib.hid ((HX.out.drewN nq).touch HT1.out (fun bb off e h0 => HP.out bb off e (by rw [List.length_take] at h0; omega)))
  clear C c0 c1 c2 hlt hf hB4 hA4 hdr
  go_region_law (first
    | (refine step_app rfl (.tmp 25) (.tmp 29) rfl w1.heap.size (.slice (some ⟨w1.heap.size, 0, none⟩) 0 0) [] (by first | (simp [Act.eval]; done) | (simp [Act.eval, Act.put]; done)) (ownB_lit w1.drew _ _ [] (Nat.le_refl _) (by simp) rfl _ rfl _ rfl) A4 t1.all.length k4 t1.all (by first | (simp [Act.eval]; done) | (simp [Act.eval, Act.put]; done)) rfl HB4.out HA4.out HL4.out (by simp) ?_; intro A2 n2 k2 w2 ho2 hn2 hg2 hm2; rw [List.length_nil, Nat.zero_add] at hn2; subst hn2; rw [List.nil_append] at ho2; have hb2 : Below w1.heap.size w1 w2 := HD.out.trans (below_one (grown_below (ownB_lit w1.drew w1.heap.size #[] [] (Nat.le_refl _) (by simp) rfl _ rfl 0 rfl) hg2 (by simp))); have y4 := (hb2.cell (p := ⟨b, 4, none⟩) zlt).trans z4; have HO2 := Lib.hid ho2; have HB2 := Lib.hid hb2; clear ho2 hg2 hm2 hb2)
    | (refine step_app rfl (.tmp 30) (.tmp 40) rfl w1.heap.size (.slice A2 t1.all.length k2) t1.all (by first | (simp [Act.eval]; done) | (simp [Act.eval, Act.put]; done)) HO2.out A f c (x.take f) (by first | (simp [Act.eval]; done) | (simp [Act.eval, Act.put]; done)) HF.out.symm (HBx.out.below HB2.out) HA.out HL5.out HB2.out.size ?_; intro A3 n3 k3 w3 ho3 hn3 hg3 hm3; rw [HF.out, HG.out] at hn3; subst hn3; rw [HG.out] at ho3; have hb3 : Below w1.heap.size w1 w3 := HB2.out.trans (grown_below HO2.out hg3 HB2.out.size); have x0 := ((HT.out.box.keep hb3).cell 0 rfl); have xf := ((HT.out.box.keep hb3).frozen 0); have HO3 := Lib.hid ho3; have HB3 := Lib.hid hb3; clear ho3 hg3 hm3 hb3))
  all_goals go_wp2
  all_goals go_ret
  all_goals exact ⟨rfl, Went.from ((((Touch.refl _ w).drewN nq).trans HT1.out (fun _ _ h => h))) HN1.out (put_new HT.out HO3.out HB3.out rfl HOK.out)⟩
theorem rappend_any (w : World) (base b : Nat) (v : Value) (t : Tp) (A : Option Addr) (n c : Nat) (x : List Nat) (hnx : n = x.length) (hx : Byts w A x) (hxo : Oct x) (hA : A = none → c = 0) (hxc : x.length ≤ c) (hcm : c ≤ 9223372036854775807) (hap : ∀ bb off, A = some ⟨bb, off, none⟩ → 0 < x.length → ¬ foot b v bb) (h : TapeAt true w base b v t) :
    Calls Tryz.prog 19 #[.pointer (some ⟨b, 0, none⟩), .slice A n c] w (WentC true w base b v (t.rappend x).1 (t.rappend x).2) := by
  subst hnx
  unfold Tp.rappend
  by_cases hd : t.down = true
  · rw [if_pos hd]; exact rappend_down w base b v t A c x.length h hd
  rw [if_neg hd]
  have hd' : t.down = false := by simpa using hd
  by_cases hf : t.room < t.all.length + x.length
  · rw [if_pos hf]; exact rappend_full w base b v t A c x.length (by omega) h hd' hf
  rw [if_neg hf]
  by_cases hg : t.rgoes.2 = true
  · rw [if_pos hg]; exact rappend_flies w base b v t A c x hx hxo hA hxc hcm hap h hd' hf hg
  · rw [if_neg hg]; exact rappend_goes w base b v t A c x hx hxo hA hap h hd' hf (by simpa using hg)
end Go.Proofs.YtmpipjangbedkaaGreat

/-
  The program's tape and the reference's tell the same; two tapes in memory beside each other; the walks of novationlaw5's light and do.
-/
namespace Go.Proofs.YtmpipjangbedkaaGreat
set_option maxRecDepth 8000
open Go Go.RowKit
set_option linter.unusedVariables false

/-- They tell the same. -/
structure Same (t s : Tp) : Prop where
  all : t.all = s.all
  room : t.room = s.room
  down : t.down = s.down
  armed : t.armed = s.armed
  arm : s.armed = true → t.left = s.left ∧ t.keep = s.keep
theorem same_new (r : Int) : Same (newTp r) (newTp r) := ⟨rfl, rfl, rfl, rfl, fun _ => ⟨rfl, rfl⟩⟩
section
variable {t s : Tp} (h : Same t s)
include h
theorem Same.harm (n k : Int) : Same (t.arm n k) (s.rarm n k) := by
  unfold Tp.arm Tp.rarm
  rw [h.down]
  cases hd : s.down with
  | true => exact h
  | false =>
    simp only [Bool.false_eq_true, if_false]
    by_cases h0 : 0 ≤ n
    · rw [if_pos h0]; exact ⟨h.all, h.room, h.down.trans hd ▸ rfl, by simp [h0], fun _ => ⟨by simp only; omega, rfl⟩⟩
    · rw [if_neg h0]; exact ⟨h.all, h.room, h.down.trans hd ▸ rfl, by simp [Tp.off, h0], fun e => by simp at e; omega⟩
theorem Same.wake : Same t.wake s.rwake := ⟨h.all, h.room, rfl, rfl, fun e => by cases e⟩
theorem Same.goes : Same t.goes.1 s.rgoes.1 ∧ t.goes.2.2 = s.rgoes.2 ∧ (s.rgoes.2 = true → t.goes.2.1 = s.keep) := by
  unfold Tp.goes Tp.rgoes
  rw [h.armed]
  cases ha : s.armed with
  | false => exact ⟨h, rfl, fun e => by cases e⟩
  | true =>
    obtain ⟨h1, h2⟩ := h.arm ha
    rw [if_pos rfl, if_pos rfl, h1]
    by_cases h0 : 0 < s.left
    · rw [if_pos h0, if_pos h0]; exact ⟨⟨h.all, h.room, h.down, rfl, fun _ => ⟨rfl, h2⟩⟩, rfl, fun e => by cases e⟩
    · rw [if_neg h0, if_neg h0]; exact ⟨⟨h.all, h.room, rfl, rfl, fun e => by cases e⟩, rfl, fun _ => h2⟩
theorem Same.put (l : List Nat) : Same { t with all := l } { s with all := l } := ⟨rfl, h.room, h.down, h.armed, h.arm⟩
theorem Same.append (x : List Nat) : Same (t.append x).1 (s.rappend x).1 ∧ (t.append x).2 = (s.rappend x).2 := by
  unfold Tp.append Tp.rappend
  obtain ⟨g1, g2, g3⟩ := h.goes
  rw [h.down, h.room, h.all, g2]
  cases hd : s.down with
  | true => exact ⟨h, rfl⟩
  | false =>
    simp only [Bool.false_eq_true, if_false]
    by_cases hf : s.room < s.all.length + x.length
    · rw [if_pos hf, if_pos hf]; exact ⟨h, rfl⟩
    · rw [if_neg hf, if_neg hf]
      cases hg : s.rgoes.2 with
      | false => exact ⟨g1.put _, rfl⟩
      | true => rw [if_pos rfl, if_pos rfl, g3 hg]; exact ⟨g1.put _, rfl⟩
theorem Same.cut (n : Int) : Same (t.cut n).1 (s.rcut n).1 ∧ (t.cut n).2 = (s.rcut n).2 := by
  unfold Tp.cut Tp.rcut
  obtain ⟨g1, g2, g3⟩ := h.goes
  rw [h.down, h.all, g2]
  cases hd : s.down with
  | true => exact ⟨h, rfl⟩
  | false =>
    simp only [Bool.false_eq_true, if_false]
    by_cases hf : n < 0 ∨ (s.all.length : Int) < n
    · rw [if_pos hf, if_pos hf]; exact ⟨h, rfl⟩
    · rw [if_neg hf, if_neg hf]
      cases hg : s.rgoes.2 with
      | false => exact ⟨g1.put _, rfl⟩
      | true =>
        rw [if_pos rfl, if_pos rfl, g3 hg]
        by_cases hk : 0 < s.keep
        · rw [if_pos hk, if_pos hk]; exact ⟨g1.put _, rfl⟩
        · rw [if_neg hk, if_neg hk]; exact ⟨g1, rfl⟩
theorem Same.readL : t.readL = s.readL := by unfold Tp.readL; rw [h.down, h.all]
end
end Go.Proofs.YtmpipjangbedkaaGreat
