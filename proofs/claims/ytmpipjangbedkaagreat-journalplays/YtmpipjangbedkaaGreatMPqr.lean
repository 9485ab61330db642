import Derived.Test.YtmpipjangbedkaaGreatMPl9
import Derived.Test.YtmpipjangbedkaaGreatMDk1
/-
  The reference's ReadPlan of any bytes.
-/
namespace Go.Proofs.YtmpipjangbedkaaGreat
set_option maxRecDepth 8000
open Go Go.RowKit
set_option linter.unusedVariables false

theorem rreadplan_any (A : Option Addr) (b : List Nat) (c : Nat) (w : World) (hB : Byts w A b) (hO : Oct b) (hl : b.length ≤ 1000000000000) : Calls Tryz.prog 71 #[.slice A b.length c] w (PlanK w (readP b)) := by
  cases hr : readN b 0 with
  | none =>
    rw [show readP b = none from by unfold readP; rw [hr]]
    exact rreadplan_count A b c w hB hO hl (by rw [hr]; trivial)
  | some y =>
    obtain ⟨n, a⟩ := y
    by_cases hn : 1 ≤ n ∧ n ≤ 6
    · obtain ⟨m, rfl⟩ : ∃ m : Nat, n = (m : Int) := ⟨n.toNat, by omega⟩
      exact rreadplan_main A b c w m a hB hO hl hr (by omega)
    · rw [show readP b = none from by unfold readP; rw [hr]; simp only; rw [if_neg hn]]
      exact rreadplan_count A b c w hB hO hl (by rw [hr]; exact hn)
end Go.Proofs.YtmpipjangbedkaaGreat

/-
  The walk of novationseat's Config.
-/
namespace Go.Proofs.YtmpipjangbedkaaGreat
set_option maxRecDepth 8000
open Go Go.RowKit
set_option linter.unusedVariables false

theorem Rec.not_rowL {α : Type} {enc : α → List Value} {e : TypeId} {sz : Nat} {w : World} {b : Nat} {t : TypeId} {cs : List Value} (h : Rec w b t cs) (ht : t ≠ e) {base : Nat} {v : Value} {l : List α} (ho : OwnL enc e sz w base v l) : v.ownBlock ≠ some b := by
  rcases ho.2 with ⟨rfl, _⟩ | ⟨g, cap, cur, rfl, _, hgb, _⟩
  · simp [Value.ownBlock]
  · intro e1
    obtain rfl : g = b := by simpa [Value.ownBlock] using e1
    have := (show w.heap[g]? = _ from h).symm.trans hgb
    simp at this
    exact ht this.2
/-- Config under way: from the world W1 on. -/
structure CS (W0 : World) (A : Option Addr) (l : List Int) (c b : Nat) (W1 : World) (bR bC m : Nat) (v : Value) (cf : Cfg) (W : World) : Prop where
  deck : Deck W0 A l c b m W
  res : Rec W bR 31 (Cfg.zero.cells (.slice none 0 0))
  box : Rec W bC 31 (cf.cells v)
  own : OwnI W W1.heap.size v cf.insts
  b_lt : b < W1.heap.size
  r_ge : W1.heap.size ≤ bR
  c_ge : W1.heap.size ≤ bC
  ne : bR ≠ bC
  touch : Touch (fun k => k = b) W1 W
section
variable {W0 W1 W W' : World} {A : Option Addr} {l : List Int} {c b bR bC m m' : Nat} {v v' : Value} {cf cf' : Cfg}
theorem CS.draw (h : CS W0 A l c b W1 bR bC m v cf W) (hd : Deck W0 A l c b m' W') (ht : Touch (fun k => k = b) W W') : CS W0 A l c b W1 bR bC m' v cf W' := by
  have := h.b_lt; have := h.r_ge; have := h.c_ge
  refine ⟨hd, h.res.touch ht (by omega), h.box.touch ht (by omega), OwnL.touch h.own ht (fun k hk e => ?_), h.b_lt, h.r_ge, h.c_ge, h.ne, h.touch.trans ht (fun _ _ h => h)⟩
  have := (OwnL.lt h.own k hk).1
  omega
theorem CS.keep (h : CS W0 A l c b W1 bR bC m v cf W) (hb : Below W.heap.size W W') : CS W0 A l c b W1 bR bC m v cf W' :=
  ⟨h.deck.keep hb, h.res.keep hb, h.box.keep hb, OwnL.keep h.own hb, h.b_lt, h.r_ge, h.c_ge, h.ne, h.touch.trans (Touch.of_below (fun _ => False) hb) (fun _ _ h => h.elim)⟩
/-- A field's store. -/
theorem CS.set (h : CS W0 A l c b W1 bR bC m v cf W) (i : Nat) (u : Value) (hc : (cf.cells v).set i u = cf'.cells v) (hi : cf'.insts = cf.insts) : CS W0 A l c b W1 bR bC m v cf' (W.setCell ⟨bC, i, none⟩ u) := by
  have ht := Touch.setCell W ⟨bC, i, none⟩ u
  have h1 := h.b_lt; have h2 := h.c_ge
  have hne := h.ne
  refine ⟨h.deck.touch ht (fun k e => by simp only at e; have := h.deck.below.size; have := h.deck.low; omega) (fun e => by simp only at e; omega), h.res.touch ht (fun e => hne e), by rw [← hc]; exact h.box.set i u, ?_, h.b_lt, h.r_ge, h.c_ge, h.ne, h.touch.trans ht (fun k hk e => by simp only at e; omega)⟩
  rw [show OwnI _ _ _ cf'.insts = OwnI _ _ _ cf.insts from by rw [hi]]
  exact OwnL.touch h.own ht (fun k hk e => Rec.not_rowL h.box (by decide) h.own (by rw [hk]; simp only at e; rw [e]))
/-- A store elsewhere in new memory. -/
theorem CS.other (h : CS W0 A l c b W1 bR bC m v cf W) {bX i : Nat} (u : Value) (hx : W1.heap.size ≤ bX) (h1 : bX ≠ bR) (h2 : bX ≠ bC) (h3 : v.ownBlock ≠ some bX) : CS W0 A l c b W1 bR bC m v cf (W.setCell ⟨bX, i, none⟩ u) := by
  have ht := Touch.setCell W ⟨bX, i, none⟩ u
  have k1 := h.b_lt
  refine ⟨h.deck.touch ht (fun k e => by simp only at e; have := h.deck.below.size; have := h.deck.low; omega) (fun e => by simp only at e; omega), h.res.touch ht (fun e => h1 e.symm), h.box.touch ht (fun e => h2 e.symm), OwnL.touch h.own ht (fun k hk e => h3 (by rw [hk]; simp only at e; rw [e])), h.b_lt, h.r_ge, h.c_ge, h.ne, h.touch.trans ht (fun k hk e => by simp only at e; omega)⟩
/-- One more instrument. -/
theorem CS.more (h : CS W0 A l c b W1 bR bC m v cf W) {x : Ins} (hb : W.grownBy W' v.ownBlock) (ho : OwnI W' W1.heap.size v' (cf.insts ++ [x])) : CS W0 A l c b W1 bR bC m v' { cf with insts := cf.insts ++ [x] } (W'.setCell ⟨bC, 0, none⟩ v') := by
  have ht : Touch (fun k => v.ownBlock = some k) W W' := Touch.grown hb
  have k1 := h.b_lt; have k2 := h.r_ge; have k3 := h.c_ge
  have hlt := OwnL.lt h.own
  have hres := h.res.touch ht (Rec.not_rowL h.res (by decide) h.own)
  have hbox := h.box.touch ht (Rec.not_rowL h.box (by decide) h.own)
  have hdk := h.deck.touch ht (fun k e => by have := (hlt k e).1; have := h.deck.low; omega) (fun e => by have := (hlt b e).1; omega)
  have hts := h.touch.trans ht (fun k hk e => by have := (hlt k e).1; omega)
  have ht2 := Touch.setCell W' ⟨bC, 0, none⟩ v'
  have hne := h.ne
  refine ⟨hdk.touch ht2 (fun k e => by simp only at e; have := h.deck.low; omega) (fun e => by simp only at e; omega), hres.touch ht2 (fun e => hne e), hbox.set 0 v', OwnL.touch ho ht2 (fun k hk e => Rec.not_rowL hbox (by decide) ho (by rw [hk]; simp only at e; rw [e])), h.b_lt, h.r_ge, h.c_ge, h.ne, hts.trans ht2 (fun k hk e => by simp only at e; omega)⟩
end
end Go.Proofs.YtmpipjangbedkaaGreat

/-
  The walk of novationseat's Config: a config that is right, in new memory.
-/
namespace Go.Proofs.YtmpipjangbedkaaGreat
set_option maxRecDepth 8000
open Go Go.RowKit
set_option linter.unusedVariables false

/-- What holds of drawn configs. -/
structure Cfg.Ok (c : Cfg) : Prop where
  cnt : 1 ≤ c.insts.length ∧ c.insts.length ≤ 4
  each : ∀ x ∈ c.insts, x.Ok
  skin : 0 ≤ c.skin ∧ c.skin ≤ 9223372036854775807
  times : 0 ≤ c.times ∧ c.times ≤ 4
  port : 0 ≤ c.port ∧ c.port ≤ 2
  bid : 0 ≤ c.bid ∧ c.bid ≤ 2
  lot : 1 ≤ c.lot ∧ c.lot ≤ 20
  hedge : 0 ≤ c.hedge ∧ c.hedge ≤ 99
/-- What Config answers. -/
def CfgC (W0 : World) (A : Option Addr) (l : List Int) (c b m : Nat) (W : World) (r : Ending) (W' : World) : Prop := ∃ (cf : Cfg) (v : Value), r = .returned (cf.v v) ∧ cf.Ok ∧ OwnI W' W.heap.size v cf.insts ∧ Deck W0 A l c b m W' ∧ Touch (fun k => k = b) W W'
theorem cs_start (W0 W1 : World) (A : Option Addr) (l : List Int) (c b m : Nat) (h : Deck W0 A l c b m W1) : CS W0 A l c b W1 W1.heap.size (W1.heap.size + 1) m (.slice none 0 0) Cfg.zero ((W1.alloc (.cells (Cfg.zero.cells (.slice none 0 0)).toArray 31)).alloc (.cells (Cfg.zero.cells (.slice none 0 0)).toArray 31)) := by
  have hb : Below W1.heap.size W1 ((W1.alloc (.cells (Cfg.zero.cells (.slice none 0 0)).toArray 31)).alloc (.cells (Cfg.zero.cells (.slice none 0 0)).toArray 31)) := ((Below.refl _ _).alloc (Nat.le_refl _) _).alloc (by simp) _
  have hlt : b < W1.heap.size := by obtain ⟨i, _, hr⟩ := h.box; exact hr.lt
  exact ⟨h.keep hb, Rec.keep (Rec.new W1 _ _ _ rfl) ((Below.refl _ _).alloc (Nat.le_refl _) _), Rec.new _ _ _ _ (by simp), ownL_nil _ _, hlt, Nat.le_refl _, by omega, by omega, Touch.of_below _ hb⟩
/-- With an instrument beside it, in a block of its own. -/
structure XS (W0 : World) (A : Option Addr) (l : List Int) (c b : Nat) (W1 : World) (bR bC m : Nat) (v : Value) (cf : Cfg) (bX : Nat) (x : Ins) (W : World) : Prop where
  cs : CS W0 A l c b W1 bR bC m v cf W
  xb : Rec W bX 70 x.cells
  ge : W1.heap.size ≤ bX
  nr : bX ≠ bR
  nc : bX ≠ bC
  nv : v.ownBlock ≠ some bX
section
variable {W0 W1 W W' : World} {A : Option Addr} {l : List Int} {c b bR bC m m' bX : Nat} {v : Value} {cf : Cfg} {x x' : Ins}
theorem XS.draw (h : XS W0 A l c b W1 bR bC m v cf bX x W) (hd : Deck W0 A l c b m' W') (ht : Touch (fun k => k = b) W W') : XS W0 A l c b W1 bR bC m' v cf bX x W' := by
  have := h.cs.b_lt; have := h.ge
  exact ⟨h.cs.draw hd ht, h.xb.touch ht (by omega), h.ge, h.nr, h.nc, h.nv⟩
theorem XS.set (h : XS W0 A l c b W1 bR bC m v cf bX x W) (i : Nat) (u : Value) (hc : x.cells.set i u = x'.cells) : XS W0 A l c b W1 bR bC m v cf bX x' (W.setCell ⟨bX, i, none⟩ u) :=
  ⟨h.cs.other u h.ge h.nr h.nc h.nv, by rw [← hc]; exact h.xb.set i u, h.ge, h.nr, h.nc, h.nv⟩
theorem XS.start (h : CS W0 A l c b W1 bR bC m v cf W) (x : Ins) : XS W0 A l c b W1 bR bC m v cf W.heap.size x (W.alloc (.cells x.cells.toArray 70)) := by
  have h1 := h.res.lt; have h2 := h.box.lt
  refine ⟨h.keep ((Below.refl _ _).alloc (Nat.le_refl _) _), Rec.new W _ _ _ rfl, h.touch.size, by omega, by omega, fun e => ?_⟩
  have := (OwnL.lt h.own _ e).2
  omega
theorem XS.yes (h : XS W0 A l c b W1 bR bC m v cf bX x W) (hm : m < 1000000000) : Calls Tryz.prog 12 #[.pointer (some ⟨b, 0, none⟩), .int .i64 12] W fun e W' => (e = .returned (.bool true) ∨ e = .returned (.bool false)) ∧ XS W0 A l c b W1 bR bC (m + 1) v cf bX x W' :=
  (deck_yesI 12 12 rfl W0 W A l c b m h.cs.deck hm (by omega) (by omega)).mono (fun e W' ⟨y, h1, h2, h3, h4⟩ => ⟨h2.imp (fun e => by rw [h1, e]) (fun e => by rw [h1, e]), h.draw h3 h4⟩)
theorem XS.drawn (h : XS W0 A l c b W1 bR bC m v cf bX x W) (hm : m < 1000000000) : Calls Tryz.prog 29 #[.pointer (some ⟨b, 0, none⟩)] W fun e W' => ∃ s : Nat, e = .returned (.int .i64 (s : Int)) ∧ s < 9223372036854775808 ∧ XS W0 A l c b W1 bR bC (m + 1) v cf bX x W' :=
  (deck_some W0 W A l c b m h.cs.deck hm).mono (fun e W' ⟨y, h1, ⟨s, h2, h3⟩, h4, h5⟩ => ⟨s, by rw [h1, h2], h3, h.draw h4 h5⟩)
theorem XS.reads (h : XS W0 A l c b W1 bR bC m v cf bX x W) : (W.cell? ⟨bX, 0, none⟩ = some (.int .i64 x.bucket) ∧ W.cell? ⟨bX, 1, none⟩ = some (.int .i64 x.price) ∧ W.cell? ⟨bX, 2, none⟩ = some (.int .i64 x.rate) ∧ W.cell? ⟨bX, 3, none⟩ = some (.int .i64 x.slip)) ∧ (W.cell? ⟨bC, 0, none⟩ = some v ∧ W.frozen? ⟨bC, 0, none⟩ = false) ∧ ∀ i, W.frozen? ⟨bX, i, none⟩ = false :=
  ⟨⟨h.xb.cell 0 rfl, h.xb.cell 1 rfl, h.xb.cell 2 rfl, h.xb.cell 3 rfl⟩, ⟨h.cs.box.cell 0 rfl, h.cs.box.frozen 0⟩, h.xb.frozen⟩
theorem CS.later (h : CS W0 A l c b W1 bR bC m v cf W) (hm : m ≤ m') : CS W0 A l c b W1 bR bC m' v cf W := ⟨h.deck.more hm, h.res, h.box, h.own, h.b_lt, h.r_ge, h.c_ge, h.ne, h.touch⟩
theorem each_more {L : List Ins} {j : Nat} (h : L.length = j ∧ ∀ x ∈ L, x.Ok) {x : Ins} (hx : x.Ok) : (L ++ [x]).length = j + 1 ∧ ∀ y ∈ L ++ [x], y.Ok := ⟨by rw [List.length_append, h.1]; rfl, fun y hy => by
  rcases List.mem_append.1 hy with h1 | h1
  · exact h.2 y h1
  · rw [List.mem_singleton.1 h1]; exact hx⟩
theorem CS.creads (h : CS W0 A l c b W1 bR bC m v cf W) : (W.cell? ⟨bC, 0, none⟩ = some v ∧ W.cell? ⟨bC, 1, none⟩ = some (.int .i64 cf.skin) ∧ W.cell? ⟨bC, 2, none⟩ = some (.int .i64 cf.times) ∧ W.cell? ⟨bC, 3, none⟩ = some (.int .i64 cf.port) ∧ W.cell? ⟨bC, 4, none⟩ = some (.int .i64 cf.bid) ∧ W.cell? ⟨bC, 5, none⟩ = some (.int .i64 cf.lot) ∧ W.cell? ⟨bC, 6, none⟩ = some (.int .i64 cf.hedge)) ∧ ∀ i, W.frozen? ⟨bC, i, none⟩ = false :=
  ⟨⟨h.box.cell 0 rfl, h.box.cell 1 rfl, h.box.cell 2 rfl, h.box.cell 3 rfl, h.box.cell 4 rfl, h.box.cell 5 rfl, h.box.cell 6 rfl⟩, h.box.frozen⟩
theorem CS.n (h : CS W0 A l c b W1 bR bC m v cf W) (hm : m < 1000000000) (n : Nat) (N : Int) (hN : N = (n : Int)) (hn : 0 < n) (hn2 : n ≤ 1000000000000) : Calls Tryz.prog 15 #[.pointer (some ⟨b, 0, none⟩), .int .i64 N] W fun e W' => ∃ s : Nat, e = .returned (.int .i64 (s : Int)) ∧ s < n ∧ CS W0 A l c b W1 bR bC (m + 1) v cf W' :=
  (deck_nI n N hN W0 W A l c b m h.deck hm hn hn2).mono (fun e W' ⟨y, h1, ⟨s, h2, h3⟩, h4, h5⟩ => ⟨s, by rw [h1, h2], h3, h.draw h4 h5⟩)
theorem CS.drawn (h : CS W0 A l c b W1 bR bC m v cf W) (hm : m < 1000000000) : Calls Tryz.prog 29 #[.pointer (some ⟨b, 0, none⟩)] W fun e W' => ∃ s : Nat, e = .returned (.int .i64 (s : Int)) ∧ s < 9223372036854775808 ∧ CS W0 A l c b W1 bR bC (m + 1) v cf W' :=
  (deck_some W0 W A l c b m h.deck hm).mono (fun e W' ⟨y, h1, ⟨s, h2, h3⟩, h4, h5⟩ => ⟨s, by rw [h1, h2], h3, h.draw h4 h5⟩)
theorem CS.yes (h : CS W0 A l c b W1 bR bC m v cf W) (hm : m < 1000000000) : Calls Tryz.prog 12 #[.pointer (some ⟨b, 0, none⟩), .int .i64 15] W fun e W' => (e = .returned (.bool true) ∨ e = .returned (.bool false)) ∧ CS W0 A l c b W1 bR bC (m + 1) v cf W' :=
  (deck_yesI 15 15 rfl W0 W A l c b m h.deck hm (by omega) (by omega)).mono (fun e W' ⟨y, h1, h2, h3, h4⟩ => ⟨h2.imp (fun e => by rw [h1, e]) (fun e => by rw [h1, e]), h.draw h3 h4⟩)
/-- The result's store. -/
def putCd (W : World) (b : Nat) (cf : Cfg) (v : Value) : World := ((((((W.setCell ⟨b, 0, none⟩ v).setCell ⟨b, 1, none⟩ (.int .i64 cf.skin)).setCell ⟨b, 2, none⟩ (.int .i64 cf.times)).setCell ⟨b, 3, none⟩ (.int .i64 cf.port)).setCell ⟨b, 4, none⟩ (.int .i64 cf.bid)).setCell ⟨b, 5, none⟩ (.int .i64 cf.lot)).setCell ⟨b, 6, none⟩ (.int .i64 cf.hedge)
theorem putCd_touch (W : World) (b : Nat) (cf : Cfg) (v : Value) : Touch (fun k => k = b) W (putCd W b cf v) := by
  unfold putCd
  refine (((((((Touch.setCell W ⟨b, 0, none⟩ _).trans (Touch.setCell _ ⟨b, 1, none⟩ _) ?_).trans (Touch.setCell _ ⟨b, 2, none⟩ _) ?_).trans (Touch.setCell _ ⟨b, 3, none⟩ _) ?_).trans (Touch.setCell _ ⟨b, 4, none⟩ _) ?_).trans (Touch.setCell _ ⟨b, 5, none⟩ _) ?_).trans (Touch.setCell _ ⟨b, 6, none⟩ _) ?_) <;> exact fun _ _ h => h
theorem CS.ends (h : CS W0 A l c b W1 bR bC m v cf W) : Rec (putCd W bR cf v) bR 31 (cf.cells v) ∧ OwnI (putCd W bR cf v) W1.heap.size v cf.insts ∧ Deck W0 A l c b m (putCd W bR cf v) ∧ Touch (fun k => k = b) W1 (putCd W bR cf v) := by
  have ht := putCd_touch W bR cf v
  have k1 := h.b_lt; have k2 := h.r_ge
  refine ⟨?_, OwnL.touch h.own ht (fun k hk e => Rec.not_rowL h.res (by decide) h.own (by rw [hk, e])), h.deck.touch ht (fun k e => by have := h.deck.low; omega) (by omega), h.touch.trans ht (fun k hk e => by omega)⟩
  exact ((((((h.res.set 0 v).set 1 (.int .i64 cf.skin)).set 2 (.int .i64 cf.times)).set 3 (.int .i64 cf.port)).set 4 (.int .i64 cf.bid)).set 5 (.int .i64 cf.lot)).set 6 (.int .i64 cf.hedge)
theorem CS.rreads (h : CS W0 A l c b W1 bR bC m v cf W) : (W.cell? ⟨bR, 0, none⟩ = some (.slice none 0 0) ∧ W.cell? ⟨bR, 1, none⟩ = some (.int .i64 0) ∧ W.cell? ⟨bR, 2, none⟩ = some (.int .i64 0) ∧ W.cell? ⟨bR, 3, none⟩ = some (.int .i64 0) ∧ W.cell? ⟨bR, 4, none⟩ = some (.int .i64 0) ∧ W.cell? ⟨bR, 5, none⟩ = some (.int .i64 0) ∧ W.cell? ⟨bR, 6, none⟩ = some (.int .i64 0)) ∧ ∀ i, W.frozen? ⟨bR, i, none⟩ = false :=
  ⟨⟨h.res.cell 0 rfl, h.res.cell 1 rfl, h.res.cell 2 rfl, h.res.cell 3 rfl, h.res.cell 4 rfl, h.res.cell 5 rfl, h.res.cell 6 rfl⟩, h.res.frozen⟩
/-- The append of the instrument, ahead of its store. -/
theorem XS.app {Av : Option Addr} {n cv : Nat} (h : XS W0 A l c b W1 bR bC m (.slice Av n cv) cf bX x W) (hlen : cf.insts.length ≤ 100) {ops : Array Oper} {rest : List Oper} {o : Oper} {a : Act} {Q : Exit → Act → World → Prop} (hgd : o.guard = none) (s y : Operand)
    (ho : o.op = .call { callee := .builtin .append, args := #[s, y], argTypes := #[29, 29] }) (hs : a.eval s = .slice Av n cv) (N k : Nat) (hN : N = W.heap.size) (hy : a.eval y = .slice (some ⟨N, 0, none⟩) 1 k)
    (hk : ∀ A' n' c' w', w'.cell? ⟨bC, 0, none⟩ = some (.slice Av n cv) → w'.frozen? ⟨bC, 0, none⟩ = false → Hid (CS W0 A l c b W1 bR bC m (.slice A' n' c') { cf with insts := cf.insts ++ [x] } (w'.setCell ⟨bC, 0, none⟩ (.slice A' n' c'))) → wpList Tryz.prog ops Q rest (a.put o.dst (.slice A' n' c')) w') :
    wpList Tryz.prog ops Q (o :: rest) a (W.alloc (.cells x.cells.toArray 70)) := by
  have hb : Below W.heap.size W (W.alloc (.cells x.cells.toArray 70)) := (Below.refl _ _).alloc (Nat.le_refl _) _
  have hc := h.cs.keep hb
  refine wpList_appL lay_ins hgd s y ho W1.heap.size _ cf.insts hs hc.own ⟨N, 0, none⟩ k x hy (lit_one W _ _ _ (by simp) N hN) (by omega) (by omega) hc.touch.size ?_
  intro v' w' ho' hg' _
  have hbx := hc.box.touch (Touch.grown hg') (Rec.not_rowL hc.box (by decide) hc.own)
  have hm := hc.more hg' ho'
  obtain ⟨A', c', rfl, _⟩ := OwnL.form ho' lay_ins
  exact hk _ _ _ w' (hbx.cell 0 rfl) (hbx.frozen 0) (Lib.hid hm)
end
end Go.Proofs.YtmpipjangbedkaaGreat
