import Derived.Test.YtmpipjangbedkaaMDk5
import Derived.Test.YtmpipjangbedkaaMDag4
import Derived.Test.YtmpipjangbedkaaJw6
import Derived.Test.YtmpipjangbedkaaMJw7
/-
  Drawn configs are right.
-/
namespace Go.Proofs.Ytmpipjangbedkaa
set_option maxRecDepth 8000
open Go Go.RowKit
set_option linter.unusedVariables false

theorem ok_ins {x : Ins} (h : x.Ok) : insOk x = true := by
  obtain ⟨h1, h2, h3, h4⟩ := h
  simp only [insOk, wIn, Bool.and_eq_true, decide_eq_true_eq]
  omega
theorem ok_plan {c : Cfg} (h : c.Ok) : planOk c = true := by
  have h1 := h.cnt; have h2 := h.skin; have h3 := h.times; have h4 := h.port; have h5 := h.bid; have h6 := h.lot; have h7 := h.hedge
  rw [plan_all ⟨h1.1, by omega⟩ (fun i hi => ok_ins (h.each _ (by rw [List.getD_eq_getElem?_getD, List.getElem?_eq_getElem hi]; exact List.getElem_mem hi)))]
  simp only [restOk, wIn, Bool.and_eq_true, decide_eq_true_eq]
  omega
theorem ok_cfgI {c : Cfg} (h : c.Ok) : CfgI c := by
  have h2 := h.skin; have h3 := h.times; have h4 := h.port; have h5 := h.bid; have h6 := h.lot; have h7 := h.hedge
  refine ⟨fun x hx => ?_, ?_, ?_, ?_, ?_, ?_, ?_⟩
  · obtain ⟨k1, k2, k3, k4⟩ := h.each x hx
    unfold I64
    omega
  all_goals (unfold I64; omega)
theorem Nums.below {W W' : World} {A : Option Addr} {l : List Int} (h : Nums W A l) (hb : Below W.heap.size W W') : Nums W' A l := ⟨h.1.below hb, h.2, h.3⟩
end Go.Proofs.Ytmpipjangbedkaa

/-
  Journals that are started, added to and opened, as plain data; the walk of novationlaw9's small.
-/
namespace Go.Proofs.Ytmpipjangbedkaa
set_option maxRecDepth 8000
open Go Go.RowKit
set_option linter.unusedVariables false

/-- A tape of some room that has a journal. -/
def tjr (room : Int) (cf : Cfg) (es : List Ev) : Tp := { newTp room with all := catJ (jls cf es) }
section
variable {room : Int} {cf : Cfg} {es : List Ev}
theorem append_plain {t : Tp} (hd : t.down = false) (ha : t.armed = false) {x : List Nat} (hr : t.all.length + x.length ≤ t.room) : t.append x = ({ t with all := t.all ++ x }, 0) := by
  obtain ⟨all, rm, down, armed, left, keep⟩ := t
  simp only at hd ha hr
  subst hd
  subst ha
  unfold Tp.append
  rw [if_neg Bool.false_ne_true, if_neg (show ¬ rm < all.length + x.length by omega)]
  rfl
theorem tjr_start (hp : planOk cf = true) (hl : (catJ (jls cf [])).length ≤ roomOf room) : (newTp room).jstart cf = (tjr room cf [], 0) := by
  unfold Tp.jstart
  rw [if_pos hp, if_neg (show ¬ ((newTp room).down = true) from Bool.false_ne_true), if_neg (show ¬ (0 < (newTp room).all.length) from Nat.lt_irrefl 0)]
  rw [jls_one] at hl
  rw [append_plain rfl rfl (show 0 + _ ≤ roomOf room by omega)]
  unfold tjr
  rw [jls_one]
  rfl
theorem tjr_add {e : Ev} (he : rightE e = true) (hl : (catJ (jls cf (es ++ [e]))).length ≤ roomOf room) : (tjr room cf es).jadd e = (tjr room cf (es ++ [e]), 0) := by
  unfold Tp.jadd
  rw [if_pos he]
  rw [jls_add, List.length_append] at hl
  rw [append_plain (t := tjr room cf es) rfl rfl hl]
  unfold tjr
  rw [jls_add]
theorem tjr_open (ok : CfgI cf) (hp : planOk cf = true) (hg : ∀ x ∈ es, Good x) : (tjr room cf es).jopen = (tjr room cf es, cf, es, 0) := by
  have h := jour_jls ok hp hg [] next_nil
  rw [List.append_nil] at h
  obtain ⟨h1, h2, h3⟩ := h
  unfold Tp.jopen
  rw [if_neg (show ¬ ((tjr room cf es).down = true) from Bool.false_ne_true), show (tjr room cf es).all = catJ (jls cf es) from rfl, if_neg (by rw [h2]; omega)]
  unfold openL
  rw [if_neg h3, h1]
  rfl
theorem new_open : (newTp room).jopen = (newTp room, Cfg.zero, [], 3) := by
  unfold Tp.jopen
  rw [if_neg (show ¬ ((newTp room).down = true) from Bool.false_ne_true)]
  rfl
theorem tjr_all (ok : CfgI cf) (hp : planOk cf = true) (hg : ∀ x ∈ es, Good x) : allL (catJ (jls cf es)) = es := by
  have h := jour_jls ok hp hg [] next_nil
  rw [List.append_nil] at h
  unfold allL
  rw [h.1]
end
/-- A Start that writes nothing. -/
theorem jstart_no (w : World) (base b : Nat) (v : Value) (t : Tp) (cf : Cfg) (ok : CfgI cf) (A : Option Addr) (n c : Nat) (hn : n = cf.insts.length) (hI : InsM w A cf.insts) (h : TapeAt false w base b v t) (h0 : 0 < t.all.length) (hd : t.down = false) (K : Int) (hK : K = if planOk cf then 4 else 1) :
    Calls Try.prog 11 #[.pointer (some ⟨b, 0, none⟩), cf.v (.slice A n c)] w fun e w' => e = .returned (.int .i64 K) ∧ Below w.heap.size w w' := by
  subst hK
  have HC0 : Hid (CfAt (w.alloc (.cells (cf.cells (.slice A n c)).toArray 28)) w.heap.size cf (.slice A n c)) := Lib.hid (Rec.new w _ (cf.cells (.slice A n c)) _ rfl)
  have HB0 : Hid (Below w.heap.size w (w.alloc (.cells (cf.cells (.slice A n c)).toArray 28))) := Lib.hid ((Below.refl _ _).alloc (Nat.le_refl _) _)
  have CP := Lib.hid (pputplan_any cf ok A n c _ hn (hI.below HB0.out))
  have H := Lib.hid h
  cases hr : planOk cf with
  | false =>
    rw [show putP cf = ([], 1) from by unfold putP; rw [hr]; rfl] at CP
    obtain ⟨c0, c1, c2, c3, c4, c5, c6⟩ := HC0.out.reads
    unfold Cfg.cells at c0 c1 c2 c3 c4 c5 c6
    unfold Cfg.v Cfg.cells at CP
    unfold Cfg.v
    clear h hr ok hn hI
    go_enter Try.func11, Try.ntmps11
    go_wp2_with (go_at_call 28; (with_reducible refine CP.out.mono ?_); rintro r w1 ⟨v1, rfl, hv, hb⟩; have HB1 := Lib.hid (HB0.out.trans (hb.mono HB0.out.size)); clear hv hb)
    go_ret
    exact ⟨rfl, HB1.out⟩
  | true =>
    rw [show putP cf = (planB cf 6, 0) from by unfold putP; rw [hr]; rfl] at CP
    obtain ⟨c0, c1, c2, c3, c4, c5, c6⟩ := HC0.out.reads
    unfold Cfg.cells at c0 c1 c2 c3 c4 c5 c6
    unfold Cfg.v Cfg.cells at CP
    unfold Cfg.v
    have CD := Lib.hid (fun W (hb : Below w.heap.size w W) => down_any W base b v t (H.out.keep hb))
    have CL := Lib.hid (fun W (hb : Below w.heap.size w W) => len_any W base b v t (H.out.keep hb))
    rw [hd] at CD
    have hg : decide ((t.all.length : Int) > 0) = true := decide_eq_true (by omega)
    clear h hr ok hn hI hd
    go_enter Try.func11, Try.ntmps11
    go_wp2_with (first
      | (go_at_call 28; (with_reducible refine CP.out.mono ?_); rintro r w1 ⟨v1, rfl, hv, hb⟩; have HB1 := Lib.hid (HB0.out.trans (hb.mono HB0.out.size)); have CD1 := Lib.hid (CD.out w1 HB1.out); have CL1 := Lib.hid (CL.out w1 HB1.out); clear hv hb)
      | (go_at_call 21; (with_reducible refine CD1.out.mono ?_); rintro r wq ⟨rfl, hwq⟩; obtain rfl : w1 = wq := hwq)
      | (go_at_call 18; (with_reducible refine CL1.out.mono ?_); rintro r wq ⟨rfl, hwq⟩; obtain rfl : w1 = wq := hwq))
    go_ret
    exact ⟨rfl, HB1.out⟩
/-- The config of novationlaw9's small. -/
def cfS : Cfg := ⟨[⟨0, 5, 0, 0⟩], 0, 0, 0, 0, 1, 0⟩
theorem cfS_ok : CfgI cfS := by refine ⟨fun x hx => ?_, ?_, ?_, ?_, ?_, ?_, ?_⟩ <;> (try (simp [cfS] at hx; subst hx)) <;> (unfold I64; simp [cfS])
theorem cfS_plan : planOk cfS = true := by decide
theorem cfZ_ok : CfgI Cfg.zero := by refine ⟨fun x hx => ?_, ?_, ?_, ?_, ?_, ?_, ?_⟩ <;> (try (simp [Cfg.zero] at hx)) <;> (unfold I64; simp [Cfg.zero])
theorem cfZ_plan : planOk Cfg.zero = false := by decide
def evT : Ev := ⟨10, 0, 0, 0, 0, 0, 3, 0⟩
theorem evT_good : Good evT := ⟨by constructor <;> (unfold I64 evT; simp), by decide⟩
set_option maxRecDepth 8000 in
set_option maxHeartbeats 2000000 in
theorem small_any (w : World) : Calls Try.prog 23 #[] w fun r w' => ∃ A c, r = .returned (cfS.v (.slice A 1 c)) ∧ InsM w' A cfS.insts ∧ Below w.heap.size w w' := by
  go_enter Try.func23, Try.ntmps23
  go_wp2
  have hC : CfAt ((w.alloc (.cells #[.slice (some ⟨w.heap.size + 1, 0, none⟩) 1 1, .int .i64 0, .int .i64 0, .int .i64 0, .int .i64 0, .int .i64 1, .int .i64 0] 28)).alloc (.cells #[.int .i64 0, .int .i64 5, .int .i64 0, .int .i64 0] 61)) w.heap.size cfS (.slice (some ⟨w.heap.size + 1, 0, none⟩) 1 1) := Rec.keep (Rec.new w _ (cfS.cells (.slice (some ⟨w.heap.size + 1, 0, none⟩) 1 1)) _ rfl) ((Below.refl _ _).alloc (Nat.le_refl _) _)
  have hI : Rec ((w.alloc (.cells #[.slice (some ⟨w.heap.size + 1, 0, none⟩) 1 1, .int .i64 0, .int .i64 0, .int .i64 0, .int .i64 0, .int .i64 1, .int .i64 0] 28)).alloc (.cells #[.int .i64 0, .int .i64 5, .int .i64 0, .int .i64 0] 61)) (w.heap.size + 1) 61 [.int .i64 0, .int .i64 5, .int .i64 0, .int .i64 0] := Rec.new _ _ [.int .i64 0, .int .i64 5, .int .i64 0, .int .i64 0] _ (by simp)
  obtain ⟨g0, g1, g2, g3, g4, g5, g6⟩ := hC.reads
  refine bodyPost_ret (v := .agg #[.slice (some ⟨w.heap.size + 1, 0, none⟩) 1 1, .int .i64 0, .int .i64 0, .int .i64 0, .int .i64 0, .int .i64 1, .int .i64 0]) (by simp only [cfS] at g0 g1 g2 g3 g4 g5 g6; simp [results, Try.results23, go_sem, g0, g1, g2, g3, g4, g5, g6]) rfl ?_
  refine ⟨_, 1, rfl, fun _ => ⟨_, 0, rfl, fun i hi => ?_⟩, ((Below.refl _ _).alloc (Nat.le_refl _) _).alloc (by simp) _⟩
  obtain rfl : i = 0 := by simp [cfS] at hi; exact hi
  exact ⟨hI.cell 0 rfl, hI.cell 1 rfl, hI.cell 2 rfl, hI.cell 3 rfl⟩
end Go.Proofs.Ytmpipjangbedkaa

/-
  What a call on a tape leaves as it was, by the types of what lies there alone.
-/
namespace Go.Proofs.Ytmpipjangbedkaa
set_option maxRecDepth 8000
open Go Go.RowKit
set_option linter.unusedVariables false

section
variable {r : Bool} {w w' : World} {base b : Nat} {v : Value} {t t' : Tp}
theorem foot_rec (h : TapeAt r w base b v t) {k : Nat} {T : TypeId} {cs : List Value} (hr : Rec w k T cs) (h1 : T ≠ 5) (h2 : T ≠ tyOf r) : ¬ foot b v k := by
  intro hf
  rcases hf with e | hf
  · exact Rec.ne hr h.box h2 e
  · exact Rec.not_row hr h1 h.own hf
theorem went_rec (h : TapeAt r w base b v t) {k : Nat} {T : TypeId} {cs : List Value} (hr : Rec w k T cs) (h1 : T ≠ 5) (h2 : T ≠ tyOf r) (hW : Went r w base b v t' w') : Rec w' k T cs := hr.touch (went_touch hW) (foot_rec h hr h1 h2)
theorem went_own {α : Type} {enc : α → List Value} {e sz bs : Nat} {l : List α} {u : Value} (h : TapeAt r w base b v t) (ho : OwnL enc e sz w bs u l) (h1 : e ≠ 5) (h2 : tyOf r ≠ e) (hW : Went r w base b v t' w') : OwnL enc e sz w' bs u l := by
  refine OwnL.touch ho (went_touch hW) (fun k hk hf => ?_)
  rcases hf with rfl | hf
  · exact Rec.not_rowL h.box h2 ho hk
  · rcases ho.2 with ⟨rfl, _⟩ | ⟨g, cap, cur, rfl, _, hgb, _⟩
    · simp [Value.ownBlock] at hk
    · obtain rfl : g = k := by simpa [Value.ownBlock] using hk
      exact Rec.not_row (cs := cur.toList) (t := e) (by simpa [Rec] using hgb) h1 h.own hf
end
theorem went_low {r : Bool} {w w' w0 : World} {base b B : Nat} {v : Value} {t t' : Tp} (h : TapeAt r w base b v t) (hW : Went r w base b v t' w') (hb : Below B w0 w) (hB : B ≤ base) : Below B w0 w' := by
  refine hb.trans ((went_touch hW).below ?_ (fun k hk => Nat.le_trans hB (h.lt hk).1))
  have := h.low; have := h.box.lt; omega
end Go.Proofs.Ytmpipjangbedkaa
