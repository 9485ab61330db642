/-
  Of, and what is told of values in drawn regions that draw from a deck; drawn events that are right.
-/
import Derived.Test.YtjkbnljjmbfmiaaDoorDk5
import Derived.Test.YtjkbnljjmbfmiaaDoorDag3
import Derived.Test.YtjkbnljjmbfmiaaDoorRegD
import Derived.Test.YtjkbnljjmbfmiaaDoorPv3
namespace Go.Proofs.YtjkbnljjmbfmiaaDoor
open Go Go.RowKit
set_option linter.unusedVariables false

theorem EvAt.touch {X : Nat → Prop} {w w' : World} {b : Nat} {e : Ev} (h : EvAt w b e) (ht : Touch X w w') (hx : ¬ X b) : EvAt w' b e := Rec.touch h ht hx
/-- Something that is told of a value, and lasts while only the deck is turned. -/
structure SpT (b : Nat) where
  p : Value → World → Prop
  st : ∀ v W W', Touch (fun k => k = b) W W' → p v W → p v W'
/-- A number between two. -/
def isR (lo hi : Int) (v : Value) : Prop := ∃ x : Int, v = .int .i64 x ∧ lo ≤ x ∧ x ≤ hi
def SpT.val {b : Nat} (u : Value) : SpT b := ⟨fun v _ => v = u, fun _ _ _ _ h => h⟩
def SpT.such {b : Nat} (q : Value → Prop) : SpT b := ⟨fun v _ => q v, fun _ _ _ _ h => h⟩
def SpT.rng {b : Nat} (lo hi : Int) : SpT b := ⟨fun v _ => isR lo hi v, fun _ _ _ _ h => h⟩
/-- A new event of noughts. -/
def SpT.box {b : Nat} (lo : Nat) (h : b < lo) : SpT b := ⟨fun v W => ∃ bX, v = .pointer (some ⟨bX, 0, none⟩) ∧ lo ≤ bX ∧ EvAt W bX Ev.zero, fun v W W' ht hp => by
  obtain ⟨bX, e, h1, h2⟩ := hp
  exact ⟨bX, e, h1, Rec.touch h2 ht (by omega)⟩⟩
def spT {b : Nat} (l : List (SpT b)) (i : Nat) (v : Value) (W : World) : Prop := (l.getD i (.val undef)).p v W
theorem spT_st {b : Nat} (l : List (SpT b)) (i : Nat) (v : Value) (W W' : World) (ht : Touch (fun k => k = b) W W') (h : spT l i v W) : spT l i v W' := (l.getD i (.val undef)).st v W W' ht h
/-- A deck within a drawn region of N operations of which r are still to come. -/
def DW (W0 : World) (A : Option Addr) (l : List Int) (c b m N : Nat) (W1 : World) (r : Nat) (W : World) : Prop := Deck W0 A l c b (m + (N - r)) W ∧ Touch (fun k => k = b) W1 W
section
variable {W0 W1 W W' : World} {A : Option Addr} {l : List Int} {c b m N r : Nat}
theorem DW.less (h : DW W0 A l c b m N W1 r W) : ∀ r', r' < r → DW W0 A l c b m N W1 r' W := fun r' hr => ⟨h.1.more (by omega), h.2⟩
theorem touch_drawn (b : Nat) (W : World) : Touch (fun k => k = b) W { W with drawn := W.drawn + 1 } := ⟨rfl, rfl, rfl, Nat.le_refl _, fun _ _ _ => rfl⟩
theorem DW.start (h : Deck W0 A l c b m W1) : ∀ r, DW W0 A l c b m N W1 r { W1 with drawn := W1.drawn + 1 } := fun r =>
  ⟨(h.keep (⟨rfl, rfl, rfl, Nat.le_refl _, fun _ _ => rfl⟩ : Below W1.heap.size W1 { W1 with drawn := W1.drawn + 1 })).more (by omega), touch_drawn b W1⟩
theorem DW.next (h : DW W0 A l c b m N W1 r W) (h0 : 0 < r) (hN : r ≤ N) (hd : Deck W0 A l c b (m + (N - r) + 1) W') (ht : Touch (fun k => k = b) W W') : ∀ r', r' < r → DW W0 A l c b m N W1 r' W' := fun r' hr => ⟨hd.more (by omega), h.2.trans ht (fun _ _ h => h)⟩
/-- A step that turns neither the deck nor what is elder. -/
theorem DW.keep (h : DW W0 A l c b m N W1 r W) (hb : Below W.heap.size W W') : ∀ r', r' < r → DW W0 A l c b m N W1 r' W' := fun r' hr => ⟨(h.1.keep hb).more (by omega), h.2.trans (Touch.of_below (fun _ => False) hb) (fun _ _ h => h.elim)⟩
/-- A config whose instruments lie apart from the deck. -/
structure CfgIn (b : Nat) (v : Value) (cf : Cfg) (W : World) : Prop where
  ok : cf.Ok
  lay : ∃ g cc, v = .slice (some ⟨g, 0, none⟩) cf.insts.length cc ∧ g ≠ b ∧ g < W.heap.size ∧ cf.insts.length ≤ cc ∧ cc ≤ 9223372036854775807 ∧ ∀ i (h : i < cf.insts.length), W.cell? ⟨g, i * 4 + 1, none⟩ = some (.int .i64 (cf.insts[i].price))
variable {v : Value} {cf : Cfg}
theorem CfgIn.touch (h : CfgIn b v cf W) (ht : Touch (fun k => k = b) W W') : CfgIn b v cf W' := by
  obtain ⟨g, cc, e, h1, h2, h3, h4, h5⟩ := h.lay
  refine ⟨h.ok, g, cc, e, h1, Nat.lt_of_lt_of_le h2 ht.size, h3, h4, fun i hi => ?_⟩
  rw [← h5 i hi]
  unfold World.cell?
  simp only
  rw [ht.block g h2 h1]
theorem CfgIn.keep (h : CfgIn b v cf W) (hb : Below W.heap.size W W') : CfgIn b v cf W' := h.touch ((Touch.of_below (fun _ => False) hb).mono (fun _ h => h.elim))
theorem CfgIn.of (hc : cf.Ok) {base : Nat} (ho : OwnI W base v cf.insts) (hd : Deck W0 A l c b m W) : CfgIn b v cf W := by
  obtain ⟨_, _, hr⟩ := hd.box
  have hne := hr.not_rowL (by decide) ho
  obtain ⟨A', c', rfl, h1, h2, _, h3⟩ := OwnL.form ho lay_ins
  have h0 := hc.cnt.1
  obtain ⟨g, rfl, _, hg, hcell⟩ := h3 (by omega)
  refine ⟨hc, g, c', rfl, fun e => hne (by rw [← e]; rfl), hg, h1, h2, fun i hi => ?_⟩
  exact (hcell i hi 1 (by omega)).1
theorem CfgIn.opened (h : CfgIn b v cf W) : ∃ (g n cc : Nat) (pr : Nat → Int), v = .slice (some ⟨g, 0, none⟩) n cc ∧ 1 ≤ n ∧ n ≤ 4 ∧ n = cf.insts.length ∧ n ≤ cc ∧ cc ≤ 9223372036854775807 ∧ (∀ i, i < n → 1 ≤ pr i ∧ pr i ≤ 1000000000000) ∧ ∀ W', Touch (fun k => k = b) W W' → ∀ i, i < n → W'.cell? ⟨g, i * 4 + 1, none⟩ = some (.int .i64 (pr i)) := by
  have hc := h.ok
  obtain ⟨g, cc, e, h1, h2, h3, h4, h5⟩ := h.lay
  refine ⟨g, _, cc, fun i => (cf.insts.getD i ⟨0, 0, 0, 0⟩).price, e, hc.cnt.1, hc.cnt.2, rfl, h3, h4, fun i hi => ?_, fun W' ht i hi => ?_⟩
  · dsimp only
    rw [List.getD_eq_getElem?_getD, List.getElem?_eq_getElem hi]
    exact (hc.each _ (List.getElem_mem hi)).price
  · dsimp only
    rw [List.getD_eq_getElem?_getD, List.getElem?_eq_getElem hi]
    rw [Option.getD_some, ← h5 i hi]
    unfold World.cell?
    simp only
    rw [ht.block g h2 h1]
theorem touch_keep {b : Nat} {W W' : World} (hb : Below W.heap.size W W') : Touch (fun k => k = b) W W' := (Touch.of_below (fun _ => False) hb).mono (fun _ h => h.elim)
/-- What is drawn: an event that is right, and the deck is further. -/
def EvD (W0 : World) (A : Option Addr) (l : List Int) (c b m : Nat) (W : World) (r : Ending) (W' : World) : Prop := ∃ e : Ev, r = .returned e.v ∧ e.Ok ∧ rightE e = true ∧ Deck W0 A l c b m W' ∧ Touch (fun k => k = b) W W'
end
end Go.Proofs.YtjkbnljjmbfmiaaDoor
