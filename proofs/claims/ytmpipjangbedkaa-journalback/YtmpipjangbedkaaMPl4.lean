import Derived.Test.YtmpipjangbedkaaPl3
import Derived.Test.YtmpipjangbedkaaJk2
import Derived.Test.YtmpipjangbedkaaMTp7
/-
  The walks of the reference's Bucket, of novationhelp's Nums.
-/
namespace Go.Proofs.Ytmpipjangbedkaa
set_option maxRecDepth 8000
open Go Go.RowKit
set_option linter.unusedVariables false

/-- A place in a slice of numbers. -/
def encN (i : Nat) : List Value := [.int .i64 (i : Int)]
theorem lay_nat : Lay encN 52 3 1 8 := by
  refine ⟨Try.underlying52, ?_, by omega, fun _ => rfl, fun x u hu => ?_⟩
  · have h : (Try.prog.info? 3).map (fun i => (i.zero, i.size, i.bytes)) = some (some (.int .i64 0), 1, 8) := by kernel_rfl
    obtain ⟨i, h1, h2, h3, h4⟩ := parts_of h
    exact ⟨i, _, h1, h2, h3, h4, rfl⟩
  · simp [encN] at hu
    subst hu; rfl
def OwnN (w : World) (base : Nat) (v : Value) (l : List Nat) : Prop := OwnL encN 3 1 w base v l
/-- The places below n of the instruments of a bucket. -/
def buckL (l : List Ins) (k : Int) (n : Nat) : List Nat := (List.range n).filter fun i => decide ((l.getD i Ins.zero).bucket = k)
theorem buck_succ (l : List Ins) (k : Int) (n : Nat) : buckL l k (n + 1) = if (l.getD n Ins.zero).bucket = k then buckL l k n ++ [n] else buckL l k n := by
  unfold buckL
  rw [List.range_succ, List.filter_append]
  by_cases h : (l.getD n Ins.zero).bucket = k
  · rw [if_pos h, List.filter_cons_of_pos (by simpa using h)]; rfl
  · rw [if_neg h, List.filter_cons_of_neg (by simpa using h), List.filter_nil, List.append_nil]
theorem buck_len (l : List Ins) (k : Int) (n : Nat) : (buckL l k n).length ≤ n := by
  unfold buckL
  have := List.length_filter_le (fun i => decide ((l.getD i Ins.zero).bucket = k)) (List.range n)
  simpa using this
/-- What Bucket answers. -/
def buckP (cf : Cfg) (k : Int) : List Nat := if planOk cf then buckL cf.insts k cf.insts.length else []
/-- New numbers. -/
def NatsN (w : World) (l : List Nat) (e : Ending) (w' : World) : Prop := ∃ v, e = .returned v ∧ OwnN w' w.heap.size v l ∧ Below w.heap.size w w'
end Go.Proofs.Ytmpipjangbedkaa

/-
  Journals that are cut off, and opened: as plain data; all that the laws of journals keep in memory.
-/
namespace Go.Proofs.Ytmpipjangbedkaa
set_option maxRecDepth 8000
open Go Go.RowKit
set_option linter.unusedVariables false

def tat (room : Int) (L : List Nat) : Tp := { newTp room with all := L }
section
variable {room : Int} {cf : Cfg} {es : List Ev} {L : List Nat}
theorem tat_cut (n : Nat) (hn : n ≤ L.length) : (tat room L).cut (n : Int) = (tat room (L.take n), 0) := by
  unfold Tp.cut
  rw [if_neg (show ¬ ((tat room L).down = true) from Bool.false_ne_true), if_neg (show ¬ ((n : Int) < 0 ∨ ((tat room L).all.length : Int) < (n : Int)) by rw [show (tat room L).all = L from rfl]; omega), if_neg (show ¬ ((tat room L).goes.2.2 = true) from Bool.false_ne_true)]
  rfl
theorem tat_open (ok : CfgI cf) (hp : planOk cf = true) (hg : ∀ x ∈ es, Good x) {r : List Nat} (h : ¬ (nextL r).2.2 = 0) : (tat room (catJ (jls cf es) ++ r)).jopen = (tat room (catJ (jls cf es)), cf, es, 0) := by
  obtain ⟨h1, h2, h3⟩ := jour_jls ok hp hg r h
  have ho : openL (catJ (jls cf es) ++ r) = (cf, es, 0) := by unfold openL; rw [if_neg h3, h1]; rfl
  unfold Tp.jopen
  rw [if_neg (show ¬ ((tat room (catJ (jls cf es) ++ r)).down = true) from Bool.false_ne_true), show (tat room (catJ (jls cf es) ++ r)).all = catJ (jls cf es) ++ r from rfl, h2, ho]
  have hl : (catJ (jls cf es) ++ r).length = (catJ (jls cf es)).length + r.length := List.length_append
  by_cases hr : r = []
  · subst hr
    rw [if_neg (by rw [hl]; simp), List.append_nil]
  · have : 0 < r.length := List.length_pos_iff.2 hr
    rw [if_pos (by omega), tat_cut _ (by omega), if_pos rfl, List.take_left]
theorem tat_none (h : ¬ (nextL L).2.2 = 0) : (tat room L).jopen = (tat room [], Cfg.zero, [], 3) := by
  have h1 : recs L = [] := recF_short _ _ _ h
  have ho : openL L = (Cfg.zero, [], 3) := by unfold openL; rw [if_pos h1]
  unfold Tp.jopen
  rw [if_neg (show ¬ ((tat room L).down = true) from Bool.false_ne_true), show (tat room L).all = L from rfl, ho, whole_zero.2 h1]
  by_cases hl : 0 < L.length
  · rw [if_pos hl]
    have e := tat_cut (room := room) (L := L) 0 (Nat.zero_le _)
    rw [show (((0 : Nat) : Nat) : Int) = 0 from rfl] at e
    rw [show ((0 : Nat) : Int) = 0 from rfl, e, if_pos rfl, List.take_zero]
  · rw [if_neg hl, List.eq_nil_of_length_eq_zero (by omega : L.length = 0)]
theorem jls_take (cf : Cfg) (es : List Ev) (k : Nat) : (jls cf es).take (k + 1) = jls cf (es.take k) := by simp [jls]
end
/-- What the laws of journals keep: the tape, boxes, configs, lists of events, lists of numbers. -/
structure JW (w : World) (B : Nat) (t : Tp) (R : List (Nat × TypeId × List Value)) (C : List (Nat × Cfg × Value)) (O : List (Value × List Ev)) (N : List (Value × List Nat)) (W : World) : Prop where
  tape : ∃ v, TapeAt false W B B v t
  box : ∀ x ∈ R, Rec W x.1 x.2.1 x.2.2 ∧ x.2.1 ≠ 5 ∧ x.2.1 ≠ tyOf false
  cfg : ∀ x ∈ C, CfAt W x.1 x.2.1 x.2.2 ∧ OwnI W w.heap.size x.2.2 x.2.1.insts
  evs : ∀ x ∈ O, OwnE W w.heap.size x.1 x.2
  num : ∀ x ∈ N, OwnN W w.heap.size x.1 x.2
  below : Below w.heap.size w W
  low : w.heap.size ≤ B
section
variable {w W W' : World} {B : Nat} {t t' : Tp} {R : List (Nat × TypeId × List Value)} {C : List (Nat × Cfg × Value)} {O : List (Value × List Ev)} {N : List (Value × List Nat)} {v : Value}
theorem JW.keep (h : JW w B t R C O N W) (hb : Below W.heap.size W W') : JW w B t R C O N W' :=
  ⟨by obtain ⟨v, ht⟩ := h.tape; exact ⟨v, ht.keep hb⟩, fun x hx => ⟨(h.box x hx).1.keep hb, (h.box x hx).2⟩, fun x hx => ⟨CfAt.keep (h.cfg x hx).1 hb, OwnL.keep (h.cfg x hx).2 hb⟩, fun x hx => OwnL.keep (h.evs x hx) hb, fun x hx => OwnL.keep (h.num x hx) hb, h.below.trans (hb.mono h.below.size), h.low⟩
theorem JW.went (h : JW w B t R C O N W) (ht : TapeAt false W B B v t) (hW : Went false W B B v t' W') : JW w B t' R C O N W' := by
  refine ⟨by obtain ⟨v', h', _⟩ := hW; exact ⟨v', h'⟩, fun x hx => ?_, fun x hx => ?_, fun x hx => ?_, fun x hx => ?_, went_low ht hW h.below h.low, h.low⟩
  · obtain ⟨h1, h2, h3⟩ := h.box x hx
    exact ⟨went_rec ht h1 h2 h3 hW, h2, h3⟩
  · obtain ⟨h1, h2⟩ := h.cfg x hx
    exact ⟨went_rec ht h1 (by decide) (by decide) hW, went_own ht h2 (by decide) (by decide) hW⟩
  · exact went_own ht (h.evs x hx) (by decide) (by decide) hW
  · exact went_own ht (h.num x hx) (by decide) (by decide) hW
theorem JW.moreR (h : JW w B t R C O N W) {b : Nat} {T : TypeId} {cs : List Value} (hr : Rec W b T cs) (h1 : T ≠ 5) (h2 : T ≠ tyOf false) : JW w B t ((b, T, cs) :: R) C O N W :=
  ⟨h.tape, fun x hx => by
    rcases List.mem_cons.1 hx with rfl | hx
    · exact ⟨hr, h1, h2⟩
    · exact h.box x hx, h.cfg, h.evs, h.num, h.below, h.low⟩
theorem JW.moreC (h : JW w B t R C O N W) {b : Nat} {cf : Cfg} {u : Value} (hr : CfAt W b cf u) (ho : OwnI W w.heap.size u cf.insts) : JW w B t R ((b, cf, u) :: C) O N W :=
  ⟨h.tape, h.box, fun x hx => by
    rcases List.mem_cons.1 hx with rfl | hx
    · exact ⟨hr, ho⟩
    · exact h.cfg x hx, h.evs, h.num, h.below, h.low⟩
theorem JW.moreO (h : JW w B t R C O N W) {u : Value} {es : List Ev} (ho : OwnE W w.heap.size u es) : JW w B t R C ((u, es) :: O) N W :=
  ⟨h.tape, h.box, h.cfg, fun x hx => by
    rcases List.mem_cons.1 hx with rfl | hx
    · exact ho
    · exact h.evs x hx, h.num, h.below, h.low⟩
theorem JW.setN (h : JW w B t R C O N W) {N' : List (Value × List Nat)} (ho : ∀ x ∈ N', OwnN W w.heap.size x.1 x.2) : JW w B t R C O N' W := ⟨h.tape, h.box, h.cfg, h.evs, ho, h.below, h.low⟩
theorem JW.size (h : JW w B t R C O N W) : B < W.heap.size := by obtain ⟨v, ht⟩ := h.tape; exact ht.box.lt
/-- The calls. -/
theorem JW.add (h : JW w B t R C O N W) (e : Ev) (ok : e.Ok) : Calls Try.prog 12 #[.pointer (some ⟨B, 0, none⟩), e.v] W fun r w' => r = .returned (.int .i64 (t.jadd e).2) ∧ JW w B (t.jadd e).1 R C O N w' := by
  obtain ⟨v, ht⟩ := h.tape
  exact (jadd_any W B B v t e ok ht).mono (fun r w' ⟨h1, h2⟩ => ⟨h1, h.went ht h2⟩)
theorem JW.open (h : JW w B t R C O N W) : Calls Try.prog 13 #[.pointer (some ⟨B, 0, none⟩)] W fun r w' => ∃ A c A' c', r = .returned (.tuple #[t.jopen.2.1.v (.slice A t.jopen.2.1.insts.length c), .slice A' t.jopen.2.2.1.length c', .int .i64 t.jopen.2.2.2]) ∧ OwnI w' w.heap.size (.slice A t.jopen.2.1.insts.length c) t.jopen.2.1.insts ∧ OwnE w' w.heap.size (.slice A' t.jopen.2.2.1.length c') t.jopen.2.2.1 ∧ JW w B t.jopen.1 R C O N w' := by
  obtain ⟨v, ht⟩ := h.tape
  refine (jopen_any W B B v t ht).mono ?_
  rintro r w' ⟨V, X, rfl, hoi, hoe, hW⟩
  obtain ⟨A, c, rfl, _⟩ := OwnL.form hoi lay_ins
  obtain ⟨A', c', rfl, _⟩ := OwnL.form hoe lay_ev
  have hs := h.below.size
  exact ⟨A, c, A', c', rfl, OwnL.lower hoi hs, OwnL.lower hoe hs, h.went ht hW⟩
theorem JW.len (h : JW w B t R C O N W) : Calls Try.prog 18 #[.pointer (some ⟨B, 0, none⟩)] W fun r w' => r = .returned (.int .i64 (t.all.length : Int)) ∧ W = w' := by
  obtain ⟨v, ht⟩ := h.tape
  exact len_any W B B v t ht
theorem JW.cut (h : JW w B t R C O N W) (n : Int) : Calls Try.prog 19 #[.pointer (some ⟨B, 0, none⟩), .int .i64 n] W fun r w' => r = .returned (.int .i64 (t.cut n).2) ∧ JW w B (t.cut n).1 R C O N w' := by
  obtain ⟨v, ht⟩ := h.tape
  exact (cut_any W B B v t n ht).mono (fun r w' ⟨h1, h2⟩ => ⟨h1, h.went ht h2⟩)
theorem JW.arm (h : JW w B t R C O N W) (n k : Int) (hn : I64 n) (hk : I64 k) : Calls Try.prog 20 #[.pointer (some ⟨B, 0, none⟩), .int .i64 n, .int .i64 k] W fun r w' => r = .returned (.tuple #[]) ∧ JW w B (t.arm n k) R C O N w' := by
  obtain ⟨v, ht⟩ := h.tape
  exact (arm_any W B B v t n k hn hk ht).mono (fun r w' ⟨h1, h2⟩ => ⟨h1, h.went ht h2⟩)
theorem JW.wake (h : JW w B t R C O N W) : Calls Try.prog 22 #[.pointer (some ⟨B, 0, none⟩)] W fun r w' => r = .returned (.tuple #[]) ∧ JW w B t.wake R C O N w' := by
  obtain ⟨v, ht⟩ := h.tape
  exact (wake_any W B B v t ht).mono (fun r w' ⟨h1, h2⟩ => ⟨h1, h.went ht h2⟩)
theorem JW.down (h : JW w B t R C O N W) : Calls Try.prog 21 #[.pointer (some ⟨B, 0, none⟩)] W fun r w' => r = .returned (.bool t.down) ∧ W = w' := by
  obtain ⟨v, ht⟩ := h.tape
  exact down_any W B B v t ht
theorem JW.read (h : JW w B t R C O N W) : Calls Try.prog 14 #[.pointer (some ⟨B, 0, none⟩)] W (BytesC W t.readL.1 t.readL.2) := by
  obtain ⟨v, ht⟩ := h.tape
  exact read_any W B B v t ht
end
end Go.Proofs.Ytmpipjangbedkaa

/-
  The walk of novationlaw9's events: some drawn events.
-/
namespace Go.Proofs.Ytmpipjangbedkaa
set_option maxRecDepth 8000
open Go Go.RowKit
set_option linter.unusedVariables false

/-- Some right events, drawn. -/
def EvsD (W0 : World) (A : Option Addr) (l : List Int) (c b m : Nat) (W : World) (r : Ending) (W' : World) : Prop :=
  ∃ V es, r = .returned V ∧ OwnE W' W.heap.size V es ∧ (∀ x ∈ es, Good x) ∧ es.length ≤ 11 ∧ Deck W0 A l c b m W' ∧ Touch (fun k => k = b) W W'
set_option maxRecDepth 100000 in
set_option maxHeartbeats 16000000 in
theorem devents_any (W0 W : World) (A : Option Addr) (l : List Int) (c b m : Nat) (h : Deck W0 A l c b m W) (hm : m < 700000000) (cf : Cfg) (v : Value) (hv : CfgIn b v cf W) :
    Calls Try.prog 9 #[.pointer (some ⟨b, 0, none⟩), cf.v v] W (EvsD W0 A l c b (m + 2000) W) := by
  have hlt : b < W.heap.size := by obtain ⟨i, _, hr⟩ := h.box; exact Rec.lt hr
  have hW0 := h.below.size
  have hbn : Below W.heap.size W (W.alloc (.cells (cf.cells v).toArray 28)) := (Below.refl _ _).alloc (Nat.le_refl _) _
  have HD0 := Lib.hid (h.keep hbn)
  have HC0 : Hid (CfAt (W.alloc (.cells (cf.cells v).toArray 28)) W.heap.size cf v) := Lib.hid (Rec.new W _ (cf.cells v) _ rfl)
  have HT0 : Hid (Touch (fun k => k = b) W (W.alloc (.cells (cf.cells v).toArray 28))) := Lib.hid ((Touch.of_below (fun _ => False) hbn).mono (fun _ h => h.elim))
  have HV := Lib.hid hv
  have CN := Lib.hid (deck_nI 12 12 rfl W0 _ A l c b m HD0.out (by omega) (by omega) (by omega))
  have CE := Lib.hid (fun (W' : World) (j : Nat) (hj : j < 800000000) (hd : Deck W0 A l c b j W') (ht : Touch (fun k => k = b) W W') => deck_event W0 W' A l c b j hd hj cf v (HV.out.touch ht))
  unfold Cfg.v at CE ⊢
  simp only [Cfg.cells] at CN
  clear h hv hbn
  obtain ⟨s, hs⟩ : ∃ s, s = W.heap.size := ⟨_, rfl⟩
  go_enter Try.func9, Try.ntmps9
  go_wp2_with (go_at_call 24; (with_reducible refine CN.out.mono ?_); rintro r w1 ⟨_, rfl, ⟨q, rfl, hq⟩, hd1, ht1⟩; have HD1 := Lib.hid hd1; have HT1 := Lib.hid (HT0.out.trans ht1 (fun i _ hi => hi)); have HC1 := Lib.hid (Rec.touch HC0.out ht1 (by omega)); clear hd1 ht1)
  go_loopw [5, 6] (fun out i wr => ∃ (y : Nat) (X : Value) (es : List Ev), X = out ∧ i = .int .i64 (y : Int) ∧ es.length + y = q ∧ Hid (OwnE wr (W.heap.size + 1) X es) ∧ Hid (∀ x ∈ es, Good x) ∧ Hid (Deck W0 A l c b (m + 1 + es.length * 100) wr) ∧ Hid (Touch (fun k => k = b) W wr) ∧ Hid (CfAt wr W.heap.size cf v)) (fun _ i _ => (intOf i).toNat)
  case atStart => exact ⟨q, _, [], rfl, rfl, by simp, Lib.hid (ownL_nil _ _), Lib.hid (fun x hx => by cases hx), HD1, HT1, HC1⟩
  case round =>
    obtain ⟨y, X, es, rfl, rfl, hes, HE, HG, HD, HT, HC⟩ := hrel
    obtain ⟨e0, e1, e2, e3, e4, e5, e6⟩ := HC.out.reads
    have hE1 := CE.out wr (m + 1 + es.length * 100) (by omega) HD.out HT.out
    have CE1 := Lib.hid hE1
    clear hE1
    by_cases hy : y = 0
    · subst hy
      have hdl : es.length ≤ 11 := by omega
      go_wp2
      go_ret
      exact ⟨X, es, rfl, OwnL.lower HE.out (by omega), HG.out, hdl, HD.out.more (by omega), HT.out⟩
    · have hgt : decide ((y : Int) > 0) = true := decide_eq_true (by omega)
      have hel : es.length ≤ 11 := by omega
      go_wp2_with (first
        | (go_at_call 27; (with_reducible refine CE1.out.mono ?_); rintro r w4 ⟨ev, rfl, hok, hri, hd4, ht4⟩; simp only [Ev.v]; have HD4 := Lib.hid hd4; have HGE : Hid (Good ev) := Lib.hid ⟨hok, hri⟩; have HT4 := Lib.hid (HT.out.trans ht4 (fun i _ hi => hi)); have HE4 := Lib.hid (OwnL.touch HE.out ht4 (fun k hk e => by have := (OwnL.lt HE.out k hk).1; omega)); have HC4 := Lib.hid (Rec.touch HC.out ht4 (by omega)); clear hd4 ht4 hok hri)
        | (at_builtin; refine wpList_appL lay_ev rfl (.tmp 13) (.tmp 17) rfl (W.heap.size + 1) _ es rfl (HE4.out.alloc _) _ 1 ev rfl (lit_one _ _ _ (Ev.cells ev) rfl _ (by simp)) (by omega) (by omega) (by have h1 := Rec.lt HC4.out; simp; omega) ?_; rintro v' w' ho hg _; have HO5 := Lib.hid ho; have HG5 := Lib.hid hg; clear ho hg))
      have hown : ∀ k, (X.ownBlock = some k) → W.heap.size + 1 ≤ k := fun k hk => (OwnL.lt HE4.out k hk).1
      go_roundw
      case rel =>
        have hal : Below w4.heap.size w4 (w4.alloc (.cells (Ev.cells ev).toArray 38)) := (Below.refl _ _).alloc (Nat.le_refl _) _
        have htg := Touch.grown HG5.out
        exact ⟨y - 1, _, es ++ [ev], rfl, by go_num, by simp; omega, HO5, Lib.hid (fun x hx => by
            rcases List.mem_append.1 hx with h | h
            · exact HG.out x h
            · rw [List.mem_singleton.1 h]; exact HGE.out),
          Lib.hid (((HD4.out.keep hal).touch htg (fun k hk => by have := hown k hk; omega) (fun hk => by have := hown b hk; omega)).more (by simp; omega)),
          Lib.hid ((HT4.out.trans (Touch.of_below (fun k => k = b) hal) (fun i _ hi => hi)).trans htg (fun i hi hk => by have := hown i hk; omega)),
          Lib.hid (Rec.touch (CfAt.keep HC4.out hal) htg (fun hk => by have := hown _ hk; omega))⟩
      case measure => simp [intOf]; omega
end Go.Proofs.Ytmpipjangbedkaa

/-
  A journal with the power going at a write, as plain data; a config's journal started.
-/
namespace Go.Proofs.Ytmpipjangbedkaa
set_option maxRecDepth 8000
open Go Go.RowKit
set_option linter.unusedVariables false

/-- So many events are in, the power goes at the write behind so many more. -/
def tfl (cf : Cfg) (es : List Ev) (left keep : Int) : Tp := { newTp 100000 with all := catJ (jls cf es), armed := true, left := left, keep := keep }
/-- It went: a front of the record is there. -/
def tdn (cf : Cfg) (es : List Ev) (e : Ev) (q : Nat) : Tp := { newTp 100000 with all := catJ (jls cf es) ++ (recL (textE e)).take q, down := true }
section
variable {cf : Cfg} {es : List Ev} {e : Ev} {left keep : Int}
theorem tfl_arm (h : 0 ≤ left) : (tat 100000 (catJ (jls cf es))).arm left keep = tfl cf es left keep := by
  unfold Tp.arm
  rw [if_neg (show ¬ ((tat 100000 (catJ (jls cf es))).down = true) from Bool.false_ne_true), if_pos h]
  rfl
theorem jls_room (ok : CfgI cf) (hp : planOk cf = true) (hg : ∀ x ∈ es, Good x) (hl : es.length ≤ 11) : (catJ (jls cf es)).length ≤ 4872 := by
  have := jls_long ok hp hg
  omega
theorem tfl_add (he : rightE e = true) (hr : (catJ (jls cf (es ++ [e]))).length ≤ 100000) (h : 0 < left) : (tfl cf es left keep).jadd e = (tfl cf (es ++ [e]) (left - 1) keep, 0) := by
  unfold Tp.jadd
  rw [if_pos he]
  rw [jls_add, List.length_append] at hr
  unfold Tp.append
  have hg : (tfl cf es left keep).goes = ({ tfl cf es left keep with left := left - 1 }, 0, false) := by
    unfold Tp.goes
    rw [if_pos (show (tfl cf es left keep).armed = true from rfl), if_pos (show 0 < (tfl cf es left keep).left from h)]
    rfl
  rw [if_neg (show ¬ ((tfl cf es left keep).down = true) from Bool.false_ne_true), if_neg (show ¬ ((tfl cf es left keep).room < (tfl cf es left keep).all.length + (recL (textE e)).length) from Nat.not_lt.2 hr), hg]
  unfold tfl
  rw [jls_add]
  rfl
theorem tfl_gone (he : rightE e = true) (hr : (catJ (jls cf (es ++ [e]))).length ≤ 100000) (h : left = 0) : (tfl cf es left keep).jadd e = (tdn cf es e (frontN keep (recL (textE e)).length), 15) := by
  subst h
  unfold Tp.jadd
  rw [if_pos he]
  rw [jls_add, List.length_append] at hr
  unfold Tp.append
  have hg : (tfl cf es 0 keep).goes = ({ (tfl cf es 0 keep).off with down := true }, keep, true) := by
    unfold Tp.goes
    rw [if_pos (show (tfl cf es 0 keep).armed = true from rfl), if_neg (show ¬ (0 < (tfl cf es 0 keep).left) from Int.lt_irrefl 0)]
    rfl
  rw [if_neg (show ¬ ((tfl cf es 0 keep).down = true) from Bool.false_ne_true), if_neg (show ¬ ((tfl cf es 0 keep).room < (tfl cf es 0 keep).all.length + (recL (textE e)).length) from Nat.not_lt.2 hr), hg, if_pos rfl]
  rfl
theorem tfl_wake : (tfl cf es left keep).wake = tat 100000 (catJ (jls cf es)) := rfl
theorem tdn_wake {q : Nat} : (tdn cf es e q).wake = tat 100000 (catJ (jls cf es) ++ (recL (textE e)).take q) := rfl
theorem tat_whole (ok : CfgI cf) (hp : planOk cf = true) (hg : ∀ x ∈ es, Good x) : (tat 100000 (catJ (jls cf es))).jopen = (tat 100000 (catJ (jls cf es)), cf, es, 0) := by
  have := tat_open (room := 100000) ok hp hg next_nil
  rwa [List.append_nil] at this
theorem tat_front (ok : CfgI cf) (hp : planOk cf = true) (hg : ∀ x ∈ es, Good x) (he : Good e) {q : Nat} (hq : q < (recL (textE e)).length) : (tat 100000 (catJ (jls cf es) ++ (recL (textE e)).take q)).jopen = (tat 100000 (catJ (jls cf es)), cf, es, 0) := by
  rw [recL_length] at hq
  exact tat_open ok hp hg (by rw [next_cut _ (textE_len he) _ hq]; simp)
theorem tat_full (ok : CfgI cf) (hp : planOk cf = true) (hg : ∀ x ∈ es, Good x) (he : Good e) {q : Nat} (hq : q = (recL (textE e)).length) : (tat 100000 (catJ (jls cf es) ++ (recL (textE e)).take q)).jopen = (tat 100000 (catJ (jls cf (es ++ [e]))), cf, es ++ [e], 0) := by
  rw [hq, List.take_length, ← jls_add]
  exact tat_whole ok hp (fun x hx => by
    rcases List.mem_append.1 hx with h | h
    · exact hg x h
    · rw [List.mem_singleton.1 h]; exact he)
theorem take_next {k : Nat} (h : k < es.length) : es.take (k + 1) = es.take k ++ [es.getD k Ev.zero] := by
  rw [List.take_succ_eq_append_getElem h, List.getD_eq_getElem?_getD, List.getElem?_eq_getElem h]
  rfl
theorem good_take (hg : ∀ x ∈ es, Good x) (k : Nat) : ∀ x ∈ es.take k, Good x := fun x hx => hg x (List.mem_of_mem_take hx)
theorem good_at (hg : ∀ x ∈ es, Good x) {k : Nat} (h : k < es.length) : Good (es.getD k Ev.zero) := by
  rw [List.getD_eq_getElem?_getD, List.getElem?_eq_getElem h]
  exact hg _ (List.getElem_mem h)
theorem tat_start (ok : CfgI cf) (hp : planOk cf = true) : (newTp 100000).jstart cf = (tat 100000 (catJ (jls cf [])), 0) :=
  tjr_start hp (by have := jls_room (es := []) ok hp (fun x hx => by cases hx) (by simp); show _ ≤ 100000; omega)
theorem tat_add (he : rightE e = true) (hr : (catJ (jls cf (es ++ [e]))).length ≤ 100000) : (tat 100000 (catJ (jls cf es))).jadd e = (tat 100000 (catJ (jls cf (es ++ [e]))), 0) := tjr_add he hr
end
theorem EvM.take {W : World} {A : Option Addr} {l : List Ev} (h : EvM W A l) (k : Nat) : EvM W A (l.take k) := by
  intro h0
  rw [List.length_take] at h0
  obtain ⟨b, off, e, hc⟩ := h (by omega)
  refine ⟨b, off, e, fun i hi => ?_⟩
  rw [List.length_take] at hi
  have := hc i (by omega)
  rwa [show (l.take k).getD i Ev.zero = l.getD i Ev.zero from by rw [List.getD_eq_getElem?_getD, List.getD_eq_getElem?_getD, List.getElem?_take_of_lt (by omega)]]
section
variable {w W W' : World} {B : Nat} {t t' : Tp} {R : List (Nat × TypeId × List Value)} {C : List (Nat × Cfg × Value)} {O : List (Value × List Ev)} {N : List (Value × List Nat)} {v : Value}
theorem JW.start (h : JW w B t R C O N W) (cb : Nat) (cf : Cfg) (A : Option Addr) (c : Nat) (hx : (cb, cf, Value.slice A cf.insts.length c) ∈ C) (ok : CfgI cf) : Calls Try.prog 11 #[.pointer (some ⟨B, 0, none⟩), cf.v (.slice A cf.insts.length c)] W fun r w' => r = .returned (.int .i64 (t.jstart cf).2) ∧ JW w B (t.jstart cf).1 R C O N w' := by
  obtain ⟨v, ht⟩ := h.tape
  exact (jstart_any W B B v t cf ok A _ c rfl (own_insM (h.cfg _ hx).2) ht).mono (fun r w' ⟨h1, h2⟩ => ⟨h1, h.went ht h2⟩)
/-- What the laws have when the tape is new. -/
theorem jw_new {W0 w2 w3 w4 w5 : World} {b : Nat} {cf : Cfg} {vI vE : Value} {es : List Ev} (hb : b < w2.heap.size) (hw2 : W0.heap.size ≤ w2.heap.size) (hI : OwnI w3 w2.heap.size vI cf.insts) (ht4 : Touch (fun k => k = b) (w3.alloc (.cells (cf.cells vI).toArray 28)) w4) (hsz : w2.heap.size ≤ w3.heap.size) (hE : OwnE w4 (w3.alloc (.cells (cf.cells vI).toArray 28)).heap.size vE es) (hbl : Below W0.heap.size W0 w4) (ht : TapeAt false w5 w4.heap.size w4.heap.size (.slice none 0 0) (newTp 100000)) (hb5 : Below w4.heap.size w4 w5) :
    JW W0 w4.heap.size (newTp 100000) [] [(w3.heap.size, cf, vI)] [(vE, es)] [] w5 := by
  have e1 : (w3.alloc (.cells (cf.cells vI).toArray 28)).heap.size = w3.heap.size + 1 := by simp
  refine ⟨⟨_, ht⟩, fun x hx => (by cases hx), fun x hx => ?_, fun x hx => ?_, fun x hx => (by cases hx), hbl.trans (hb5.mono hbl.size), hbl.size⟩
  · obtain rfl := List.mem_singleton.1 hx
    refine ⟨?_, ?_⟩
    · exact CfAt.keep (show CfAt w4 w3.heap.size cf vI from Rec.touch (show CfAt _ _ _ _ from Rec.new w3 _ (cf.cells vI) _ rfl) ht4 (by omega)) hb5
    · exact OwnL.lower (OwnL.keep (OwnL.touch (OwnL.keep hI (alloc_below _ _)) ht4 (fun k hk e => by have := (OwnL.lt hI k hk).1; omega)) hb5) hw2
  · obtain rfl := List.mem_singleton.1 hx
    exact OwnL.lower (OwnL.keep hE hb5) (by omega)
end
end Go.Proofs.Ytmpipjangbedkaa
