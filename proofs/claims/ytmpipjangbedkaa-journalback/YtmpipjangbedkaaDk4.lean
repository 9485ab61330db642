/-
  The walk of novationseat's Config: a config that is right, in new memory.
-/
import Derived.Test.YtmpipjangbedkaaMPq6
namespace Go.Proofs.Ytmpipjangbedkaa
set_option maxRecDepth 8000
open Go Go.RowKit
set_option linter.unusedVariables false

/-- What holds of drawn configs. -/
structure Cfg.Ok (c : Cfg) : Prop where
  cnt : 1 ≤ c.insts.length ∧ c.insts.length ≤ 4
  each : ∀ x ∈ c.insts, x.Ok
  skin : 0 ≤ c.skin ∧ c.skin ≤ 9223372036854775807
  times : 0 ≤ c.times ∧ c.times ≤ 4
  port : 0 ≤ c.port ∧ c.port ≤ 2
  bid : 0 ≤ c.bid ∧ c.bid ≤ 2
  lot : 1 ≤ c.lot ∧ c.lot ≤ 20
  hedge : 0 ≤ c.hedge ∧ c.hedge ≤ 99
/-- What Config answers. -/
def CfgC (W0 : World) (A : Option Addr) (l : List Int) (c b m : Nat) (W : World) (r : Ending) (W' : World) : Prop := ∃ (cf : Cfg) (v : Value), r = .returned (cf.v v) ∧ cf.Ok ∧ OwnI W' W.heap.size v cf.insts ∧ Deck W0 A l c b m W' ∧ Touch (fun k => k = b) W W'
theorem cs_start (W0 W1 : World) (A : Option Addr) (l : List Int) (c b m : Nat) (h : Deck W0 A l c b m W1) : CS W0 A l c b W1 W1.heap.size (W1.heap.size + 1) m (.slice none 0 0) Cfg.zero ((W1.alloc (.cells (Cfg.zero.cells (.slice none 0 0)).toArray 28)).alloc (.cells (Cfg.zero.cells (.slice none 0 0)).toArray 28)) := by
  have hb : Below W1.heap.size W1 ((W1.alloc (.cells (Cfg.zero.cells (.slice none 0 0)).toArray 28)).alloc (.cells (Cfg.zero.cells (.slice none 0 0)).toArray 28)) := ((Below.refl _ _).alloc (Nat.le_refl _) _).alloc (by simp) _
  have hlt : b < W1.heap.size := by obtain ⟨i, _, hr⟩ := h.box; exact hr.lt
  exact ⟨h.keep hb, Rec.keep (Rec.new W1 _ _ _ rfl) ((Below.refl _ _).alloc (Nat.le_refl _) _), Rec.new _ _ _ _ (by simp), ownL_nil _ _, hlt, Nat.le_refl _, by omega, by omega, Touch.of_below _ hb⟩
/-- With an instrument beside it, in a block of its own. -/
structure XS (W0 : World) (A : Option Addr) (l : List Int) (c b : Nat) (W1 : World) (bR bC m : Nat) (v : Value) (cf : Cfg) (bX : Nat) (x : Ins) (W : World) : Prop where
  cs : CS W0 A l c b W1 bR bC m v cf W
  xb : Rec W bX 61 x.cells
  ge : W1.heap.size ≤ bX
  nr : bX ≠ bR
  nc : bX ≠ bC
  nv : v.ownBlock ≠ some bX
section
variable {W0 W1 W W' : World} {A : Option Addr} {l : List Int} {c b bR bC m m' bX : Nat} {v : Value} {cf : Cfg} {x x' : Ins}
theorem XS.draw (h : XS W0 A l c b W1 bR bC m v cf bX x W) (hd : Deck W0 A l c b m' W') (ht : Touch (fun k => k = b) W W') : XS W0 A l c b W1 bR bC m' v cf bX x W' := by
  have := h.cs.b_lt; have := h.ge
  exact ⟨h.cs.draw hd ht, h.xb.touch ht (by omega), h.ge, h.nr, h.nc, h.nv⟩
theorem XS.set (h : XS W0 A l c b W1 bR bC m v cf bX x W) (i : Nat) (u : Value) (hc : x.cells.set i u = x'.cells) : XS W0 A l c b W1 bR bC m v cf bX x' (W.setCell ⟨bX, i, none⟩ u) :=
  ⟨h.cs.other u h.ge h.nr h.nc h.nv, by rw [← hc]; exact h.xb.set i u, h.ge, h.nr, h.nc, h.nv⟩
theorem XS.start (h : CS W0 A l c b W1 bR bC m v cf W) (x : Ins) : XS W0 A l c b W1 bR bC m v cf W.heap.size x (W.alloc (.cells x.cells.toArray 61)) := by
  have h1 := h.res.lt; have h2 := h.box.lt
  refine ⟨h.keep ((Below.refl _ _).alloc (Nat.le_refl _) _), Rec.new W _ _ _ rfl, h.touch.size, by omega, by omega, fun e => ?_⟩
  have := (OwnL.lt h.own _ e).2
  omega
theorem XS.yes (h : XS W0 A l c b W1 bR bC m v cf bX x W) (hm : m < 1000000000) : Calls Try.prog 25 #[.pointer (some ⟨b, 0, none⟩), .int .i64 12] W fun e W' => (e = .returned (.bool true) ∨ e = .returned (.bool false)) ∧ XS W0 A l c b W1 bR bC (m + 1) v cf bX x W' :=
  (deck_yesI 12 12 rfl W0 W A l c b m h.cs.deck hm (by omega) (by omega)).mono (fun e W' ⟨y, h1, h2, h3, h4⟩ => ⟨h2.imp (fun e => by rw [h1, e]) (fun e => by rw [h1, e]), h.draw h3 h4⟩)
theorem XS.drawn (h : XS W0 A l c b W1 bR bC m v cf bX x W) (hm : m < 1000000000) : Calls Try.prog 26 #[.pointer (some ⟨b, 0, none⟩)] W fun e W' => ∃ s : Nat, e = .returned (.int .i64 (s : Int)) ∧ s < 9223372036854775808 ∧ XS W0 A l c b W1 bR bC (m + 1) v cf bX x W' :=
  (deck_some W0 W A l c b m h.cs.deck hm).mono (fun e W' ⟨y, h1, ⟨s, h2, h3⟩, h4, h5⟩ => ⟨s, by rw [h1, h2], h3, h.draw h4 h5⟩)
theorem XS.reads (h : XS W0 A l c b W1 bR bC m v cf bX x W) : (W.cell? ⟨bX, 0, none⟩ = some (.int .i64 x.bucket) ∧ W.cell? ⟨bX, 1, none⟩ = some (.int .i64 x.price) ∧ W.cell? ⟨bX, 2, none⟩ = some (.int .i64 x.rate) ∧ W.cell? ⟨bX, 3, none⟩ = some (.int .i64 x.slip)) ∧ (W.cell? ⟨bC, 0, none⟩ = some v ∧ W.frozen? ⟨bC, 0, none⟩ = false) ∧ ∀ i, W.frozen? ⟨bX, i, none⟩ = false :=
  ⟨⟨h.xb.cell 0 rfl, h.xb.cell 1 rfl, h.xb.cell 2 rfl, h.xb.cell 3 rfl⟩, ⟨h.cs.box.cell 0 rfl, h.cs.box.frozen 0⟩, h.xb.frozen⟩
theorem CS.later (h : CS W0 A l c b W1 bR bC m v cf W) (hm : m ≤ m') : CS W0 A l c b W1 bR bC m' v cf W := ⟨h.deck.more hm, h.res, h.box, h.own, h.b_lt, h.r_ge, h.c_ge, h.ne, h.touch⟩
theorem each_more {L : List Ins} {j : Nat} (h : L.length = j ∧ ∀ x ∈ L, x.Ok) {x : Ins} (hx : x.Ok) : (L ++ [x]).length = j + 1 ∧ ∀ y ∈ L ++ [x], y.Ok := ⟨by rw [List.length_append, h.1]; rfl, fun y hy => by
  rcases List.mem_append.1 hy with h1 | h1
  · exact h.2 y h1
  · rw [List.mem_singleton.1 h1]; exact hx⟩
theorem CS.creads (h : CS W0 A l c b W1 bR bC m v cf W) : (W.cell? ⟨bC, 0, none⟩ = some v ∧ W.cell? ⟨bC, 1, none⟩ = some (.int .i64 cf.skin) ∧ W.cell? ⟨bC, 2, none⟩ = some (.int .i64 cf.times) ∧ W.cell? ⟨bC, 3, none⟩ = some (.int .i64 cf.port) ∧ W.cell? ⟨bC, 4, none⟩ = some (.int .i64 cf.bid) ∧ W.cell? ⟨bC, 5, none⟩ = some (.int .i64 cf.lot) ∧ W.cell? ⟨bC, 6, none⟩ = some (.int .i64 cf.hedge)) ∧ ∀ i, W.frozen? ⟨bC, i, none⟩ = false :=
  ⟨⟨h.box.cell 0 rfl, h.box.cell 1 rfl, h.box.cell 2 rfl, h.box.cell 3 rfl, h.box.cell 4 rfl, h.box.cell 5 rfl, h.box.cell 6 rfl⟩, h.box.frozen⟩
theorem CS.n (h : CS W0 A l c b W1 bR bC m v cf W) (hm : m < 1000000000) (n : Nat) (N : Int) (hN : N = (n : Int)) (hn : 0 < n) (hn2 : n ≤ 1000000000000) : Calls Try.prog 24 #[.pointer (some ⟨b, 0, none⟩), .int .i64 N] W fun e W' => ∃ s : Nat, e = .returned (.int .i64 (s : Int)) ∧ s < n ∧ CS W0 A l c b W1 bR bC (m + 1) v cf W' :=
  (deck_nI n N hN W0 W A l c b m h.deck hm hn hn2).mono (fun e W' ⟨y, h1, ⟨s, h2, h3⟩, h4, h5⟩ => ⟨s, by rw [h1, h2], h3, h.draw h4 h5⟩)
theorem CS.drawn (h : CS W0 A l c b W1 bR bC m v cf W) (hm : m < 1000000000) : Calls Try.prog 26 #[.pointer (some ⟨b, 0, none⟩)] W fun e W' => ∃ s : Nat, e = .returned (.int .i64 (s : Int)) ∧ s < 9223372036854775808 ∧ CS W0 A l c b W1 bR bC (m + 1) v cf W' :=
  (deck_some W0 W A l c b m h.deck hm).mono (fun e W' ⟨y, h1, ⟨s, h2, h3⟩, h4, h5⟩ => ⟨s, by rw [h1, h2], h3, h.draw h4 h5⟩)
theorem CS.yes (h : CS W0 A l c b W1 bR bC m v cf W) (hm : m < 1000000000) : Calls Try.prog 25 #[.pointer (some ⟨b, 0, none⟩), .int .i64 15] W fun e W' => (e = .returned (.bool true) ∨ e = .returned (.bool false)) ∧ CS W0 A l c b W1 bR bC (m + 1) v cf W' :=
  (deck_yesI 15 15 rfl W0 W A l c b m h.deck hm (by omega) (by omega)).mono (fun e W' ⟨y, h1, h2, h3, h4⟩ => ⟨h2.imp (fun e => by rw [h1, e]) (fun e => by rw [h1, e]), h.draw h3 h4⟩)
/-- The result's store. -/
def putCd (W : World) (b : Nat) (cf : Cfg) (v : Value) : World := ((((((W.setCell ⟨b, 0, none⟩ v).setCell ⟨b, 1, none⟩ (.int .i64 cf.skin)).setCell ⟨b, 2, none⟩ (.int .i64 cf.times)).setCell ⟨b, 3, none⟩ (.int .i64 cf.port)).setCell ⟨b, 4, none⟩ (.int .i64 cf.bid)).setCell ⟨b, 5, none⟩ (.int .i64 cf.lot)).setCell ⟨b, 6, none⟩ (.int .i64 cf.hedge)
theorem putCd_touch (W : World) (b : Nat) (cf : Cfg) (v : Value) : Touch (fun k => k = b) W (putCd W b cf v) := by
  unfold putCd
  refine (((((((Touch.setCell W ⟨b, 0, none⟩ _).trans (Touch.setCell _ ⟨b, 1, none⟩ _) ?_).trans (Touch.setCell _ ⟨b, 2, none⟩ _) ?_).trans (Touch.setCell _ ⟨b, 3, none⟩ _) ?_).trans (Touch.setCell _ ⟨b, 4, none⟩ _) ?_).trans (Touch.setCell _ ⟨b, 5, none⟩ _) ?_).trans (Touch.setCell _ ⟨b, 6, none⟩ _) ?_) <;> exact fun _ _ h => h
theorem CS.ends (h : CS W0 A l c b W1 bR bC m v cf W) : Rec (putCd W bR cf v) bR 28 (cf.cells v) ∧ OwnI (putCd W bR cf v) W1.heap.size v cf.insts ∧ Deck W0 A l c b m (putCd W bR cf v) ∧ Touch (fun k => k = b) W1 (putCd W bR cf v) := by
  have ht := putCd_touch W bR cf v
  have k1 := h.b_lt; have k2 := h.r_ge
  refine ⟨?_, OwnL.touch h.own ht (fun k hk e => Rec.not_rowL h.res (by decide) h.own (by rw [hk, e])), h.deck.touch ht (fun k e => by have := h.deck.low; omega) (by omega), h.touch.trans ht (fun k hk e => by omega)⟩
  exact ((((((h.res.set 0 v).set 1 (.int .i64 cf.skin)).set 2 (.int .i64 cf.times)).set 3 (.int .i64 cf.port)).set 4 (.int .i64 cf.bid)).set 5 (.int .i64 cf.lot)).set 6 (.int .i64 cf.hedge)
theorem CS.rreads (h : CS W0 A l c b W1 bR bC m v cf W) : (W.cell? ⟨bR, 0, none⟩ = some (.slice none 0 0) ∧ W.cell? ⟨bR, 1, none⟩ = some (.int .i64 0) ∧ W.cell? ⟨bR, 2, none⟩ = some (.int .i64 0) ∧ W.cell? ⟨bR, 3, none⟩ = some (.int .i64 0) ∧ W.cell? ⟨bR, 4, none⟩ = some (.int .i64 0) ∧ W.cell? ⟨bR, 5, none⟩ = some (.int .i64 0) ∧ W.cell? ⟨bR, 6, none⟩ = some (.int .i64 0)) ∧ ∀ i, W.frozen? ⟨bR, i, none⟩ = false :=
  ⟨⟨h.res.cell 0 rfl, h.res.cell 1 rfl, h.res.cell 2 rfl, h.res.cell 3 rfl, h.res.cell 4 rfl, h.res.cell 5 rfl, h.res.cell 6 rfl⟩, h.res.frozen⟩
/-- The append of the instrument, ahead of its store. -/
theorem XS.app {Av : Option Addr} {n cv : Nat} (h : XS W0 A l c b W1 bR bC m (.slice Av n cv) cf bX x W) (hlen : cf.insts.length ≤ 100) {ops : Array Oper} {rest : List Oper} {o : Oper} {a : Act} {Q : Exit → Act → World → Prop} (hgd : o.guard = none) (s y : Operand)
    (ho : o.op = .call { callee := .builtin .append, args := #[s, y], argTypes := #[26, 26] }) (hs : a.eval s = .slice Av n cv) (N k : Nat) (hN : N = W.heap.size) (hy : a.eval y = .slice (some ⟨N, 0, none⟩) 1 k)
    (hk : ∀ A' n' c' w', w'.cell? ⟨bC, 0, none⟩ = some (.slice Av n cv) → w'.frozen? ⟨bC, 0, none⟩ = false → Hid (CS W0 A l c b W1 bR bC m (.slice A' n' c') { cf with insts := cf.insts ++ [x] } (w'.setCell ⟨bC, 0, none⟩ (.slice A' n' c'))) → wpList Try.prog ops Q rest (a.put o.dst (.slice A' n' c')) w') :
    wpList Try.prog ops Q (o :: rest) a (W.alloc (.cells x.cells.toArray 61)) := by
  have hb : Below W.heap.size W (W.alloc (.cells x.cells.toArray 61)) := (Below.refl _ _).alloc (Nat.le_refl _) _
  have hc := h.cs.keep hb
  refine wpList_appL lay_ins hgd s y ho W1.heap.size _ cf.insts hs hc.own ⟨N, 0, none⟩ k x hy (lit_one W _ _ _ (by simp) N hN) (by omega) (by omega) hc.touch.size ?_
  intro v' w' ho' hg' _
  have hbx := hc.box.touch (Touch.grown hg') (Rec.not_rowL hc.box (by decide) hc.own)
  have hm := hc.more hg' ho'
  obtain ⟨A', c', rfl, _⟩ := OwnL.form ho' lay_ins
  exact hk _ _ _ w' (hbx.cell 0 rfl) (hbx.frozen 0) (Lib.hid hm)
end
end Go.Proofs.Ytmpipjangbedkaa
