/-
  The walk of the reference's Capped, over its Split by what is told of it.
-/
import Derived.Test.YtnfoneeplkjhbaaRfSp1
import Derived.Deep.LoopGhost
namespace Go.Proofs.Ytnfoneeplkjhbaa
open Go.RowKit

/-- What is told of the reference's Split. -/
def RSplitSaid : Prop := ∀ (t : Int) (A : Option Addr) (l : List Int) (c : Nat) (w : World), I64 t → Ints w .i64 A l → (∀ x ∈ l, I64 x) → l.length ≤ 9223372036854775807 →
  Calls Try.prog 12 #[.int .i64 t, .slice A l.length c] w (SliceC w (splitV t l) (splitC t l))

/-- Shares in their block. -/
structure CapG (w : World) (g : Nat) (s : List Int) (W : World) : Prop where
  row : RowK W .i64 g s
  old : Below w.heap.size w W
  lt : g < W.heap.size
  ge : w.heap.size ≤ g
theorem CapG.below {w W W' : World} {g : Nat} {s : List Int} (h : CapG w g s W) (hb : Below W.heap.size W W') : CapG w g s W' :=
  ⟨h.row.below hb, grew h.old hb, Nat.lt_of_lt_of_le h.lt hb.size, h.ge⟩
theorem CapG.set {w W : World} {g : Nat} {s : List Int} (h : CapG w g s W) (k : Nat) (hk : k < s.length) (x : Int) : CapG w g (s.set k x) (W.setCell ⟨g, k, none⟩ (.int .i64 x)) :=
  ⟨h.row.set k hk x, h.old.setCell (p := ⟨g, k, none⟩) h.ge _, by simpa [World.setCell] using h.lt, h.ge⟩
theorem CapG.other {w W : World} {g : Nat} {s : List Int} (h : CapG w g s W) {b : Nat} (hb : g < b) (o : Nat) (v : Value) : CapG w g s (W.setCell ⟨b, o, none⟩ v) :=
  ⟨h.row.other (by omega) _ _, h.old.setCell (p := ⟨b, o, none⟩) (Nat.le_trans h.ge (Nat.le_of_lt hb)) _, by simpa [World.setCell] using h.lt, h.ge⟩
theorem CapG.new {w W : World} (hb : Below w.heap.size w W) (n : Nat) (t : TypeId) : CapG w W.heap.size (List.replicate n 0) (W.alloc (.cells (madeCells #[.int .i64 0] n) t)) :=
  ⟨RowK.new W .i64 n t _ rfl, grew1 hb _, by simp, hb.size⟩

theorem wrong_caps {l c : List Int} (h : areW l = true) (hl : c.length = l.length) : wrongB 0 c = anyNeg c := by
  have := (areW_parts h).1
  unfold wrongB areW
  rw [decide_eq_true (p := c.length ≤ 64) (by omega)]
  simp

set_option maxRecDepth 8000 in
set_option maxHeartbeats 1000000 in
theorem rcapped_form (t : Int) (A B : Option Addr) (l c : List Int) (c1 c2 : Nat) (w : World) (hr : Ints w .i64 A l) (hq : Ints w .i64 B c) (hn : l.length ≤ 9223372036854775807) (hn2 : c.length ≤ 9223372036854775807) (h : ¬ MayC t l c) :
    Calls Try.prog 20 #[.int .i64 t, .slice A l.length c1, .slice B c.length c2] w (SliceFC w [] 0 1) := by
  have C1 := wrong_any t A l c1 w hr hn
  have C2 := wrong_any 0 B c c2 w hq hn2
  have F := Lib.hid (sliceFC_nil w w 1 (Below.refl _ _))
  clear hr hq
  cases hw : wrongB t l
  · rw [hw] at C1
    have ht : 0 ≤ t ∧ areW l = true := by
      unfold wrongB at hw
      simp at hw
      exact ⟨hw.1, hw.2⟩
    have H1 := Lib.hid C1
    by_cases hl : c.length = l.length
    · have hc : anyNeg c = true := by
        cases hc : anyNeg c
        · exact absurd ⟨ht.1, ht.2, hl, hc⟩ h
        · rfl
      rw [wrong_caps ht.2 hl, hc] at C2
      have H2 := Lib.hid C2
      rw [hl] at H2 ⊢
      clear h ht hc hl C1 C2 hw
      go_enter Try.func20, Try.ntmps20
      go_wp2_with (go_at_call 49; first | ((with_reducible refine H1.out.mono ?_); rintro e w' ⟨rfl, rfl⟩) | ((with_reducible refine H2.out.mono ?_); rintro e w' ⟨rfl, rfl⟩))
      go_ret3
      exact F.out
    · have d2 : (((c.length : Nat) : Int) != ((l.length : Nat) : Int)) = true := by rw [bne_iff_ne]; omega
      clear h ht C1 C2 hw
      go_enter Try.func20, Try.ntmps20
      go_wp2_with (go_at_call 49; (with_reducible refine H1.out.mono ?_); rintro e w' ⟨rfl, rfl⟩)
      go_ret3
      exact F.out
  · rw [hw] at C1
    have H1 := Lib.hid C1
    clear h C1 C2 hw
    go_enter Try.func20, Try.ntmps20
    go_wp2_with (go_at_call 49; (with_reducible refine H1.out.mono ?_); rintro e w' ⟨rfl, rfl⟩)
    go_ret3
    exact F.out

theorem mayC_wrong {t : Int} {l c : List Int} (h : MayC t l c) : wrongB t l = false ∧ wrongB 0 c = false := by
  refine ⟨?_, by rw [wrong_caps h.2.1 h.2.2.1]; exact h.2.2.2⟩
  have := h.1
  unfold wrongB
  rw [h.2.1, decide_eq_false (p := t < 0) (by omega)]; rfl

set_option maxRecDepth 8000 in
set_option maxHeartbeats 1000000 in
theorem rcapped_over (t : Int) (A B : Option Addr) (l c : List Int) (c1 c2 : Nat) (w : World) (hr : Ints w .i64 A l) (hq : Ints w .i64 B c) (hx : ∀ x ∈ l, I64 x) (h : MayC t l c) (hs : fits l.sum = false) :
    Calls Try.prog 20 #[.int .i64 t, .slice A l.length c1, .slice B c.length c2] w (SliceFC w [] 0 2) := by
  have hn := (areW_parts h.2.1).1
  have hl := h.2.2.1
  have C1 := wrong_any t A l c1 w hr (by omega)
  have C2 := wrong_any 0 B c c2 w hq (by omega)
  rw [(mayC_wrong h).1] at C1
  rw [(mayC_wrong h).2, hl] at C2
  have H1 := Lib.hid C1
  have H2 := Lib.hid C2
  have H3 := Lib.hid (sum_told A l c1 w hr hx hn)
  have H4 : Hid (∀ W v, BigV W v l.sum 66 → Calls Try.prog 38 #[v] W fun e w' => e = .returned (.tuple #[.int .i64 (held l.sum), .bool false]) ∧ Below W.heap.size W w') := Lib.hid fun W v hv => by
    have := int_any v _ 66 W hv
    rw [hs] at this
    exact this
  have F := Lib.hid (fun w' => sliceFC_nil w w' 2)
  rw [hl]
  clear hr hq hx h hs C1 C2 hl
  generalize held l.sum = sm at *
  go_enter Try.func20, Try.ntmps20
  go_wp2_with (first
    | (go_at_call 49; first | ((with_reducible refine H1.out.mono ?_); rintro e w' ⟨rfl, rfl⟩) | ((with_reducible refine H2.out.mono ?_); rintro e w' ⟨rfl, rfl⟩))
    | (go_at_call 22; refine H3.out.mono ?_; rintro e w1 ⟨ng, A1, n1, k1, rfl, hV, hb⟩; have HV := Lib.hid hV; have HB1 := Lib.hid hb; clear hV hb)
    | (go_at_call 38; refine (H4.out _ _ HV.out).mono ?_; rintro e w2 ⟨rfl, hb⟩; have HB2 := Lib.hid (grew HB1.out hb); clear hb))
  go_ret3
  exact F.out _ HB2.out
end Go.Proofs.Ytnfoneeplkjhbaa
