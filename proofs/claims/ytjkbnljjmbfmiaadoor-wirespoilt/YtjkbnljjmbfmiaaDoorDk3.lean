/-
  The walk of novationseat's Config.
-/
import Derived.Test.YtjkbnljjmbfmiaaDoorDk2
namespace Go.Proofs.YtjkbnljjmbfmiaaDoor
open Go Go.RowKit
set_option linter.unusedVariables false

theorem Rec.not_rowL {α : Type} {enc : α → List Value} {e : TypeId} {sz : Nat} {w : World} {b : Nat} {t : TypeId} {cs : List Value} (h : Rec w b t cs) (ht : t ≠ e) {base : Nat} {v : Value} {l : List α} (ho : OwnL enc e sz w base v l) : v.ownBlock ≠ some b := by
  rcases ho.2 with ⟨rfl, _⟩ | ⟨g, cap, cur, rfl, _, hgb, _⟩
  · simp [Value.ownBlock]
  · intro e1
    obtain rfl : g = b := by simpa [Value.ownBlock] using e1
    have := (show w.heap[g]? = _ from h).symm.trans hgb
    simp at this
    exact ht this.2
/-- Config under way: from the world W1 on. -/
structure CS (W0 : World) (A : Option Addr) (l : List Int) (c b : Nat) (W1 : World) (bR bC m : Nat) (v : Value) (cf : Cfg) (W : World) : Prop where
  deck : Deck W0 A l c b m W
  res : Rec W bR 31 (Cfg.zero.cells (.slice none 0 0))
  box : Rec W bC 31 (cf.cells v)
  own : OwnI W W1.heap.size v cf.insts
  b_lt : b < W1.heap.size
  r_ge : W1.heap.size ≤ bR
  c_ge : W1.heap.size ≤ bC
  ne : bR ≠ bC
  touch : Touch (fun k => k = b) W1 W
section
variable {W0 W1 W W' : World} {A : Option Addr} {l : List Int} {c b bR bC m m' : Nat} {v v' : Value} {cf cf' : Cfg}
theorem CS.draw (h : CS W0 A l c b W1 bR bC m v cf W) (hd : Deck W0 A l c b m' W') (ht : Touch (fun k => k = b) W W') : CS W0 A l c b W1 bR bC m' v cf W' := by
  have := h.b_lt; have := h.r_ge; have := h.c_ge
  refine ⟨hd, h.res.touch ht (by omega), h.box.touch ht (by omega), OwnL.touch h.own ht (fun k hk e => ?_), h.b_lt, h.r_ge, h.c_ge, h.ne, h.touch.trans ht (fun _ _ h => h)⟩
  have := (OwnL.lt h.own k hk).1
  omega
theorem CS.keep (h : CS W0 A l c b W1 bR bC m v cf W) (hb : Below W.heap.size W W') : CS W0 A l c b W1 bR bC m v cf W' :=
  ⟨h.deck.keep hb, h.res.keep hb, h.box.keep hb, OwnL.keep h.own hb, h.b_lt, h.r_ge, h.c_ge, h.ne, h.touch.trans (Touch.of_below (fun _ => False) hb) (fun _ _ h => h.elim)⟩
/-- A field's store. -/
theorem CS.set (h : CS W0 A l c b W1 bR bC m v cf W) (i : Nat) (u : Value) (hc : (cf.cells v).set i u = cf'.cells v) (hi : cf'.insts = cf.insts) : CS W0 A l c b W1 bR bC m v cf' (W.setCell ⟨bC, i, none⟩ u) := by
  have ht := Touch.setCell W ⟨bC, i, none⟩ u
  have h1 := h.b_lt; have h2 := h.c_ge
  have hne := h.ne
  refine ⟨h.deck.touch ht (fun k e => by simp only at e; have := h.deck.below.size; have := h.deck.low; omega) (fun e => by simp only at e; omega), h.res.touch ht (fun e => hne e), by rw [← hc]; exact h.box.set i u, ?_, h.b_lt, h.r_ge, h.c_ge, h.ne, h.touch.trans ht (fun k hk e => by simp only at e; omega)⟩
  rw [show OwnI _ _ _ cf'.insts = OwnI _ _ _ cf.insts from by rw [hi]]
  exact OwnL.touch h.own ht (fun k hk e => Rec.not_rowL h.box (by decide) h.own (by rw [hk]; simp only at e; rw [e]))
/-- A store elsewhere in new memory. -/
theorem CS.other (h : CS W0 A l c b W1 bR bC m v cf W) {bX i : Nat} (u : Value) (hx : W1.heap.size ≤ bX) (h1 : bX ≠ bR) (h2 : bX ≠ bC) (h3 : v.ownBlock ≠ some bX) : CS W0 A l c b W1 bR bC m v cf (W.setCell ⟨bX, i, none⟩ u) := by
  have ht := Touch.setCell W ⟨bX, i, none⟩ u
  have k1 := h.b_lt
  refine ⟨h.deck.touch ht (fun k e => by simp only at e; have := h.deck.below.size; have := h.deck.low; omega) (fun e => by simp only at e; omega), h.res.touch ht (fun e => h1 e.symm), h.box.touch ht (fun e => h2 e.symm), OwnL.touch h.own ht (fun k hk e => h3 (by rw [hk]; simp only at e; rw [e])), h.b_lt, h.r_ge, h.c_ge, h.ne, h.touch.trans ht (fun k hk e => by simp only at e; omega)⟩
/-- One more instrument. -/
theorem CS.more (h : CS W0 A l c b W1 bR bC m v cf W) {x : Ins} (hb : W.grownBy W' v.ownBlock) (ho : OwnI W' W1.heap.size v' (cf.insts ++ [x])) : CS W0 A l c b W1 bR bC m v' { cf with insts := cf.insts ++ [x] } (W'.setCell ⟨bC, 0, none⟩ v') := by
  have ht : Touch (fun k => v.ownBlock = some k) W W' := Touch.grown hb
  have k1 := h.b_lt; have k2 := h.r_ge; have k3 := h.c_ge
  have hlt := OwnL.lt h.own
  have hres := h.res.touch ht (Rec.not_rowL h.res (by decide) h.own)
  have hbox := h.box.touch ht (Rec.not_rowL h.box (by decide) h.own)
  have hdk := h.deck.touch ht (fun k e => by have := (hlt k e).1; have := h.deck.low; omega) (fun e => by have := (hlt b e).1; omega)
  have hts := h.touch.trans ht (fun k hk e => by have := (hlt k e).1; omega)
  have ht2 := Touch.setCell W' ⟨bC, 0, none⟩ v'
  have hne := h.ne
  refine ⟨hdk.touch ht2 (fun k e => by simp only at e; have := h.deck.low; omega) (fun e => by simp only at e; omega), hres.touch ht2 (fun e => hne e), hbox.set 0 v', OwnL.touch ho ht2 (fun k hk e => Rec.not_rowL hbox (by decide) ho (by rw [hk]; simp only at e; rw [e])), h.b_lt, h.r_ge, h.c_ge, h.ne, hts.trans ht2 (fun k hk e => by simp only at e; omega)⟩
end
end Go.Proofs.YtjkbnljjmbfmiaaDoor
