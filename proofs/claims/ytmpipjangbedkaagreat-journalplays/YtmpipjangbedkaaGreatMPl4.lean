import Derived.Test.YtmpipjangbedkaaGreatMPl2
import Derived.Test.YtmpipjangbedkaaGreatMJk2
/-
  The walks of the reference's Bucket, of novationhelp's Nums.
-/
namespace Go.Proofs.YtmpipjangbedkaaGreat
set_option maxRecDepth 8000
open Go Go.RowKit
set_option linter.unusedVariables false

/-- A place in a slice of numbers. -/
def encN (i : Nat) : List Value := [.int .i64 (i : Int)]
theorem lay_nat : Lay encN 96 3 1 8 := by
  refine ⟨Tryz.underlying96, ?_, by omega, fun _ => rfl, fun x u hu => ?_⟩
  · have h : (Tryz.prog.info? 3).map (fun i => (i.zero, i.size, i.bytes)) = some (some (.int .i64 0), 1, 8) := by kernel_rfl
    obtain ⟨i, h1, h2, h3, h4⟩ := parts_of h
    exact ⟨i, _, h1, h2, h3, h4, rfl⟩
  · simp [encN] at hu
    subst hu; rfl
def OwnN (w : World) (base : Nat) (v : Value) (l : List Nat) : Prop := OwnL encN 3 1 w base v l
/-- The places below n of the instruments of a bucket. -/
def buckL (l : List Ins) (k : Int) (n : Nat) : List Nat := (List.range n).filter fun i => decide ((l.getD i Ins.zero).bucket = k)
theorem buck_succ (l : List Ins) (k : Int) (n : Nat) : buckL l k (n + 1) = if (l.getD n Ins.zero).bucket = k then buckL l k n ++ [n] else buckL l k n := by
  unfold buckL
  rw [List.range_succ, List.filter_append]
  by_cases h : (l.getD n Ins.zero).bucket = k
  · rw [if_pos h, List.filter_cons_of_pos (by simpa using h)]; rfl
  · rw [if_neg h, List.filter_cons_of_neg (by simpa using h), List.filter_nil, List.append_nil]
theorem buck_len (l : List Ins) (k : Int) (n : Nat) : (buckL l k n).length ≤ n := by
  unfold buckL
  have := List.length_filter_le (fun i => decide ((l.getD i Ins.zero).bucket = k)) (List.range n)
  simpa using this
/-- What Bucket answers. -/
def buckP (cf : Cfg) (k : Int) : List Nat := if planOk cf then buckL cf.insts k cf.insts.length else []
/-- New numbers. -/
def NatsN (w : World) (l : List Nat) (e : Ending) (w' : World) : Prop := ∃ v, e = .returned v ∧ OwnN w' w.heap.size v l ∧ Below w.heap.size w w'
end Go.Proofs.YtmpipjangbedkaaGreat

/-
  Journals that are cut off, and opened: as plain data; all that the laws of journals keep in memory.
-/
namespace Go.Proofs.YtmpipjangbedkaaGreat
set_option maxRecDepth 8000
open Go Go.RowKit
set_option linter.unusedVariables false

def tat (room : Int) (L : List Nat) : Tp := { newTp room with all := L }
section
variable {room : Int} {cf : Cfg} {es : List Ev} {L : List Nat}
theorem tat_cut (n : Nat) (hn : n ≤ L.length) : (tat room L).cut (n : Int) = (tat room (L.take n), 0) := by
  unfold Tp.cut
  rw [if_neg (show ¬ ((tat room L).down = true) from Bool.false_ne_true), if_neg (show ¬ ((n : Int) < 0 ∨ ((tat room L).all.length : Int) < (n : Int)) by rw [show (tat room L).all = L from rfl]; omega), if_neg (show ¬ ((tat room L).goes.2.2 = true) from Bool.false_ne_true)]
  rfl
theorem tat_open (ok : CfgI cf) (hp : planOk cf = true) (hg : ∀ x ∈ es, Good x) {r : List Nat} (h : ¬ (nextL r).2.2 = 0) : (tat room (catJ (jls cf es) ++ r)).jopen = (tat room (catJ (jls cf es)), cf, es, 0) := by
  obtain ⟨h1, h2, h3⟩ := jour_jls ok hp hg r h
  have ho : openL (catJ (jls cf es) ++ r) = (cf, es, 0) := by unfold openL; rw [if_neg h3, h1]; rfl
  unfold Tp.jopen
  rw [if_neg (show ¬ ((tat room (catJ (jls cf es) ++ r)).down = true) from Bool.false_ne_true), show (tat room (catJ (jls cf es) ++ r)).all = catJ (jls cf es) ++ r from rfl, h2, ho]
  have hl : (catJ (jls cf es) ++ r).length = (catJ (jls cf es)).length + r.length := List.length_append
  by_cases hr : r = []
  · subst hr
    rw [if_neg (by rw [hl]; simp), List.append_nil]
  · have : 0 < r.length := List.length_pos_iff.2 hr
    rw [if_pos (by omega), tat_cut _ (by omega), if_pos rfl, List.take_left]
theorem tat_none (h : ¬ (nextL L).2.2 = 0) : (tat room L).jopen = (tat room [], Cfg.zero, [], 3) := by
  have h1 : recs L = [] := recF_short _ _ _ h
  have ho : openL L = (Cfg.zero, [], 3) := by unfold openL; rw [if_pos h1]
  unfold Tp.jopen
  rw [if_neg (show ¬ ((tat room L).down = true) from Bool.false_ne_true), show (tat room L).all = L from rfl, ho, whole_zero.2 h1]
  by_cases hl : 0 < L.length
  · rw [if_pos hl]
    have e := tat_cut (room := room) (L := L) 0 (Nat.zero_le _)
    rw [show (((0 : Nat) : Nat) : Int) = 0 from rfl] at e
    rw [show ((0 : Nat) : Int) = 0 from rfl, e, if_pos rfl, List.take_zero]
  · rw [if_neg hl, List.eq_nil_of_length_eq_zero (by omega : L.length = 0)]
theorem jls_take (cf : Cfg) (es : List Ev) (k : Nat) : (jls cf es).take (k + 1) = jls cf (es.take k) := by simp [jls]
end
/-- What the laws of journals keep: the tape, boxes, configs, lists of events, lists of numbers. -/
structure JW (w : World) (B : Nat) (t : Tp) (R : List (Nat × TypeId × List Value)) (C : List (Nat × Cfg × Value)) (O : List (Value × List Ev)) (N : List (Value × List Nat)) (W : World) : Prop where
  tape : ∃ v, TapeAt false W B B v t
  box : ∀ x ∈ R, Rec W x.1 x.2.1 x.2.2 ∧ x.2.1 ≠ 5 ∧ x.2.1 ≠ tyOf false
  cfg : ∀ x ∈ C, CfAt W x.1 x.2.1 x.2.2 ∧ OwnI W w.heap.size x.2.2 x.2.1.insts
  evs : ∀ x ∈ O, OwnE W w.heap.size x.1 x.2
  num : ∀ x ∈ N, OwnN W w.heap.size x.1 x.2
  below : Below w.heap.size w W
  low : w.heap.size ≤ B
section
variable {w W W' : World} {B : Nat} {t t' : Tp} {R : List (Nat × TypeId × List Value)} {C : List (Nat × Cfg × Value)} {O : List (Value × List Ev)} {N : List (Value × List Nat)} {v : Value}
theorem JW.keep (h : JW w B t R C O N W) (hb : Below W.heap.size W W') : JW w B t R C O N W' :=
  ⟨by obtain ⟨v, ht⟩ := h.tape; exact ⟨v, ht.keep hb⟩, fun x hx => ⟨(h.box x hx).1.keep hb, (h.box x hx).2⟩, fun x hx => ⟨CfAt.keep (h.cfg x hx).1 hb, OwnL.keep (h.cfg x hx).2 hb⟩, fun x hx => OwnL.keep (h.evs x hx) hb, fun x hx => OwnL.keep (h.num x hx) hb, h.below.trans (hb.mono h.below.size), h.low⟩
theorem JW.went (h : JW w B t R C O N W) (ht : TapeAt false W B B v t) (hW : Went false W B B v t' W') : JW w B t' R C O N W' := by
  refine ⟨by obtain ⟨v', h', _⟩ := hW; exact ⟨v', h'⟩, fun x hx => ?_, fun x hx => ?_, fun x hx => ?_, fun x hx => ?_, went_low ht hW h.below h.low, h.low⟩
  · obtain ⟨h1, h2, h3⟩ := h.box x hx
    exact ⟨went_rec ht h1 h2 h3 hW, h2, h3⟩
  · obtain ⟨h1, h2⟩ := h.cfg x hx
    exact ⟨went_rec ht h1 (by decide) (by decide) hW, went_own ht h2 (by decide) (by decide) hW⟩
  · exact went_own ht (h.evs x hx) (by decide) (by decide) hW
  · exact went_own ht (h.num x hx) (by decide) (by decide) hW
theorem JW.moreR (h : JW w B t R C O N W) {b : Nat} {T : TypeId} {cs : List Value} (hr : Rec W b T cs) (h1 : T ≠ 5) (h2 : T ≠ tyOf false) : JW w B t ((b, T, cs) :: R) C O N W :=
  ⟨h.tape, fun x hx => by
    rcases List.mem_cons.1 hx with rfl | hx
    · exact ⟨hr, h1, h2⟩
    · exact h.box x hx, h.cfg, h.evs, h.num, h.below, h.low⟩
theorem JW.moreC (h : JW w B t R C O N W) {b : Nat} {cf : Cfg} {u : Value} (hr : CfAt W b cf u) (ho : OwnI W w.heap.size u cf.insts) : JW w B t R ((b, cf, u) :: C) O N W :=
  ⟨h.tape, h.box, fun x hx => by
    rcases List.mem_cons.1 hx with rfl | hx
    · exact ⟨hr, ho⟩
    · exact h.cfg x hx, h.evs, h.num, h.below, h.low⟩
theorem JW.moreO (h : JW w B t R C O N W) {u : Value} {es : List Ev} (ho : OwnE W w.heap.size u es) : JW w B t R C ((u, es) :: O) N W :=
  ⟨h.tape, h.box, h.cfg, fun x hx => by
    rcases List.mem_cons.1 hx with rfl | hx
    · exact ho
    · exact h.evs x hx, h.num, h.below, h.low⟩
theorem JW.setN (h : JW w B t R C O N W) {N' : List (Value × List Nat)} (ho : ∀ x ∈ N', OwnN W w.heap.size x.1 x.2) : JW w B t R C O N' W := ⟨h.tape, h.box, h.cfg, h.evs, ho, h.below, h.low⟩
theorem JW.size (h : JW w B t R C O N W) : B < W.heap.size := by obtain ⟨v, ht⟩ := h.tape; exact ht.box.lt
/-- The calls. -/
theorem JW.add (h : JW w B t R C O N W) (e : Ev) (ok : e.Ok) : Calls Tryz.prog 26 #[.pointer (some ⟨B, 0, none⟩), e.v] W fun r w' => r = .returned (.int .i64 (t.jadd e).2) ∧ JW w B (t.jadd e).1 R C O N w' := by
  obtain ⟨v, ht⟩ := h.tape
  exact (jadd_any W B B v t e ok ht).mono (fun r w' ⟨h1, h2⟩ => ⟨h1, h.went ht h2⟩)
theorem JW.open (h : JW w B t R C O N W) : Calls Tryz.prog 20 #[.pointer (some ⟨B, 0, none⟩)] W fun r w' => ∃ A c A' c', r = .returned (.tuple #[t.jopen.2.1.v (.slice A t.jopen.2.1.insts.length c), .slice A' t.jopen.2.2.1.length c', .int .i64 t.jopen.2.2.2]) ∧ OwnI w' w.heap.size (.slice A t.jopen.2.1.insts.length c) t.jopen.2.1.insts ∧ OwnE w' w.heap.size (.slice A' t.jopen.2.2.1.length c') t.jopen.2.2.1 ∧ JW w B t.jopen.1 R C O N w' := by
  obtain ⟨v, ht⟩ := h.tape
  refine (jopen_any W B B v t ht).mono ?_
  rintro r w' ⟨V, X, rfl, hoi, hoe, hW⟩
  obtain ⟨A, c, rfl, _⟩ := OwnL.form hoi lay_ins
  obtain ⟨A', c', rfl, _⟩ := OwnL.form hoe lay_ev
  have hs := h.below.size
  exact ⟨A, c, A', c', rfl, OwnL.lower hoi hs, OwnL.lower hoe hs, h.went ht hW⟩
theorem JW.len (h : JW w B t R C O N W) : Calls Tryz.prog 57 #[.pointer (some ⟨B, 0, none⟩)] W fun r w' => r = .returned (.int .i64 (t.all.length : Int)) ∧ W = w' := by
  obtain ⟨v, ht⟩ := h.tape
  exact len_any W B B v t ht
theorem JW.cut (h : JW w B t R C O N W) (n : Int) : Calls Tryz.prog 50 #[.pointer (some ⟨B, 0, none⟩), .int .i64 n] W fun r w' => r = .returned (.int .i64 (t.cut n).2) ∧ JW w B (t.cut n).1 R C O N w' := by
  obtain ⟨v, ht⟩ := h.tape
  exact (cut_any W B B v t n ht).mono (fun r w' ⟨h1, h2⟩ => ⟨h1, h.went ht h2⟩)
theorem JW.arm (h : JW w B t R C O N W) (n k : Int) (hn : I64 n) (hk : I64 k) : Calls Tryz.prog 30 #[.pointer (some ⟨B, 0, none⟩), .int .i64 n, .int .i64 k] W fun r w' => r = .returned (.tuple #[]) ∧ JW w B (t.arm n k) R C O N w' := by
  obtain ⟨v, ht⟩ := h.tape
  exact (arm_any W B B v t n k hn hk ht).mono (fun r w' ⟨h1, h2⟩ => ⟨h1, h.went ht h2⟩)
theorem JW.wake (h : JW w B t R C O N W) : Calls Tryz.prog 32 #[.pointer (some ⟨B, 0, none⟩)] W fun r w' => r = .returned (.tuple #[]) ∧ JW w B t.wake R C O N w' := by
  obtain ⟨v, ht⟩ := h.tape
  exact (wake_any W B B v t ht).mono (fun r w' ⟨h1, h2⟩ => ⟨h1, h.went ht h2⟩)
theorem JW.down (h : JW w B t R C O N W) : Calls Tryz.prog 37 #[.pointer (some ⟨B, 0, none⟩)] W fun r w' => r = .returned (.bool t.down) ∧ W = w' := by
  obtain ⟨v, ht⟩ := h.tape
  exact down_any W B B v t ht
theorem JW.read (h : JW w B t R C O N W) : Calls Tryz.prog 27 #[.pointer (some ⟨B, 0, none⟩)] W (BytesC W t.readL.1 t.readL.2) := by
  obtain ⟨v, ht⟩ := h.tape
  exact read_any W B B v t ht
end
end Go.Proofs.YtmpipjangbedkaaGreat
