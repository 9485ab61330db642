/-
  A law for a range over a function whose iterator hands on new memory: what holds of an element in the world in which it is handed on is told to the loop's body. No program is named here.
-/
import Derived.RangeFuncNested
import Derived.RangeFuncBox
import Derived.RangeFuncBound
import Derived.RangeFuncCalls
import Derived.RangeFuncLeaves
import Derived.Shelf.Abstract
import Derived.WalkKit
import Derived.OwnWalkIn
import Derived.TacticsInMore
import Derived.LoopNIn
import Derived.LoopIn
namespace Go.Proofs.Ytmopipclheohcaa
open Go Go.RowKit Go.Shelf

variable {F : Fence} {n : Nat} {P : Program}

/-- An iterator's word: the rounds are asked only of elements of which Hx holds where they are handed on. -/
def SeqX {α : Type} (F : Fence) (n : Nat) (P : Program) (g : Nat) (lb : Array Value) (encs : α → Array Value) (Hx : List α → α → World → Prop) (Kp : World → World → Prop) (S Sp : List α → Prop) (w : World) : Prop :=
  ∀ (l : Nat) (J Jx : List α → World → Prop) (W : World), Below w.heap.size w W → AbidesFrom W.heap.size J → AbidesFrom W.heap.size Jx →
    (∀ pre x W1, J pre W1 → Hx pre x W1 → YieldAt F (n - 1) P l (encs x) W1 fun e W' =>
      (e = .returned (.bool true) ∧ J (pre ++ [x]) W' ∧ Kp W1 W') ∨ (e = .returned (.bool false) ∧ Jx (pre ++ [x]) W')) →
    J [] W →
    CallsIn F n P g (#[.func (.yield l) #[] #[]] ++ lb) W fun e W' => (∃ v, e = .returned v) ∧ ((∃ xs, S xs ∧ J xs W') ∨ (∃ pre, Sp pre ∧ Jx pre W'))

/-- The two blocks that the loop itself lays: its record, and where its rounds' deferred calls would be. -/
def Laid (rec : LoopState → Option Code → Loop) (B : Nat) (st : LoopState) (pe : Option Code) (W : World) : Prop :=
  W.heap[B + 1]? = some (.loop (rec st pe)) ∧ W.heap[B]? = some (.deferred (some []))
theorem Laid.grown {rec : LoopState → Option Code → Loop} {B : Nat} {st : LoopState} {pe : Option Code} {W W' : World} {row : Option Nat} (h : Laid rec B st pe W) (hg : W.grownBy W' row)
    (hr : ∀ r, row = some r → ∃ o : Obj, W.heap[r]? = some o ∧ o.isWalk = true) : Laid rec B st pe W' :=
  ⟨(grownBy_keeps hg hr h.1 rfl).trans h.1, (grownBy_keeps hg hr h.2 rfl).trans h.2⟩
theorem Laid.put {rec : LoopState → Option Code → Loop} {B : Nat} {st st' : LoopState} {pe pe' : Option Code} {W : World} (h : Laid rec B st pe W) : Laid rec B st' pe' (W.putObj (B + 1) (.loop (rec st' pe'))) :=
  ⟨World.putObj_heap_same (Array.getElem?_eq_some_iff.1 h.1).1, (World.putObj_heap_other (by omega)).trans h.2⟩
theorem Laid.keep {rec : LoopState → Option Code → Loop} {B : Nat} {st : LoopState} {pe : Option Code} {W W' : World} (h : Laid rec B st pe W) (hk : KeepsFrom B W W') : Laid rec B st pe W' :=
  ⟨hk.same _ _ (by omega) h.1 rfl, hk.same _ _ (Nat.le_refl _) h.2 rfl⟩

/-- THE LAW. -/
theorem wpIn_rangeX {α : Type} {g : Operand} {ps : Array Tmp} {assign body : Code} {Q : Exit → Act → World → Prop} {a : Act} {w : World}
    (hro : F.round = none) (h1 : 1 ≤ n) {gf : Nat} {lb : Array Value} (hg : a.eval g = .func (.func gf) #[] lb) (hFg : F.fn gf) (eg : ∀ args w, (callFunc gf args).run P w = .ok (.enter gf args) w)
    {encs : α → Array Value} {Hx : List α → α → World → Prop} {Kp : World → World → Prop} {S Sp : List α → Prop} {w0 : World} (hseq : SeqX F (n - 1) P gf lb encs Hx Kp S Sp w0)
    (hH : ∀ (pre : List α) (x : α) (W : World) (l : Nat) (o o' : Obj), Hx pre x W → W.heap[l]? = some o → o.isCells = false → Hx pre x (W.putObj l o'))
    (hKt : ∀ {A B C : World}, Kp A B → Kp B C → Kp A C) (hKb : ∀ (W : World) (l : Nat) (o o' : Obj), w.heap.size ≤ l → W.heap[l]? = some o → o.isCells = false → o.isWalk = false → Kp W (W.putObj l o')) (hb0 : Below w0.heap.size w0 w) (hps : ∀ x, (encs x).size = ps.size)
    (I : List α → World → Prop) (Ix : Code → List α → World → Prop) (hI : OwnFrom w.heap.size I) (hIx : ∀ c, OwnFrom w.heap.size (Ix c)) (h0 : I [] w) (a₁ : α → Act)
    (hassign : ∀ (l : Nat) (x : α) (W : World) (K : Act → World → Prop), K (a₁ x) W →
      assign.wpIn (F.inRound l) (n - 1 - 1) P (Exit.then K (fun _ _ _ => False)) { tmps := (ps.zip (encs x)).foldl (fun t (p, v) => t.setIfInBounds p v) a.tmps, defers := [] } W)
    (hbody : ∀ (l : Nat) (pre : List α) (x : α) (W : World), I pre W → Hx pre x W → body.wpIn (F.inRound l) (n - 1 - 1) P (ownPostG w.heap.size Kp I Ix (pre ++ [x]) W) (a₁ x) W)
    (hdone : ∀ (D : Nat) (xs : List α) (W : World), w.heap.size ≤ D → S xs → I xs W → W.heap[D]? = some (.deferred (some [])) → Q .normal { a with defers := { target := .collected D, args := #[] } :: a.defers } W)
    (hstop : ∀ (D : Nat) (c : Code) (pre : List α) (W : World), w.heap.size ≤ D → Sp pre → Ix c pre W → W.heap[D]? = some (.deferred (some [])) → c.wpIn F n P Q { a with defers := { target := .collected D, args := #[] } :: a.defers } W) :
    (Code.rangeFunc g ps assign body).wpIn F n P Q a w := by
  refine wpIn_rangeFunc fun fn hfn => ?_
  rw [hro]
  obtain ⟨rec, hrec⟩ : ∃ rec : LoopState → Option Code → Loop, rec = fun st pe => { state := st, pending := pe, fn, tmps := a.tmps, params := ps, assign, body, defers := w.heap.size } := ⟨_, rfl⟩
  obtain ⟨W1, hW1⟩ : ∃ W1, W1 = (w.alloc (.deferred (some []))).alloc (.loop (rec .ready none)) := ⟨_, rfl⟩
  have hL1 : Laid rec w.heap.size .ready none W1 := by
    rw [hW1]
    refine ⟨?_, (Below.heap_alloc _ _ _ (by simp)).trans (World.alloc_heap_new w _)⟩
    have := World.alloc_heap_new (w.alloc (.deferred (some []))) (.loop (rec .ready none))
    rwa [World.size_alloc] at this
  have hsz1 : W1.heap.size = w.heap.size + 1 + 1 := by rw [hW1]; simp
  have hI1 : I [] W1 := by rw [hW1]; exact hI.alloc _ (hI.alloc _ h0)
  have hb1 : Below w0.heap.size w0 W1 := by rw [hW1]; exact hb0.trans ((((Below.refl _ w).alloc (Nat.le_refl _) _).alloc (by simp) _).mono hb0.size)
  refine ⟨w.heap.size + 1, [{ target := .collected w.heap.size, args := #[] }], W1, { target := .fn (.func gf) lb, args := #[.func (.yield (w.heap.size + 1)) #[] #[]] }, W1, gf,
    #[.func (.yield (w.heap.size + 1)) #[] #[]] ++ lb, W1, by rw [hW1, hrec]; exact run_enterLoop_outer _ _ _ _ _, by simp only [resolve, hg]; simp [go_sem], fun f' hf' => by simp [Target.leads] at hf'; subst hf'; exact hFg, by simp [invoke, go_sem, eg], fun _ => h1, ?_⟩
  -- the iterator, at the caller's invariant beside the loop's own two blocks
  refine (hseq (w.heap.size + 1) (fun pre W => I pre W ∧ Laid rec w.heap.size .ready none W) (fun pre W => ∃ c, Ix c pre W ∧ Laid rec w.heap.size .done (some c) W) W1 hb1 ?own ?ownX ?round ⟨hI1, hL1⟩).mono ?_
  case own =>
    intro s A B row hs hgr hr
    exact ⟨hI s A B row hs.1 hgr (fun r e => by obtain ⟨hB, o, ho, hw⟩ := hr r e; exact ⟨by omega, o, ho, Obj.not_cells_of_walk hw⟩), hs.2.grown hgr (fun r e => (hr r e).2)⟩
  case ownX =>
    rintro s A B row ⟨c, hc, hl⟩ hgr hr
    exact ⟨c, hIx c s A B row hc hgr (fun r e => by obtain ⟨hB, o, ho, hw⟩ := hr r e; exact ⟨by omega, o, ho, Obj.not_cells_of_walk hw⟩), hl.grown hgr (fun r e => (hr r e).2)⟩
  case round =>
    rintro pre x W ⟨hi, hl⟩ hx
    have hy := run_yield (P := P) (args := encs x) hl.1 (by rw [hrec]; exact hps x)
    rw [hrec] at hy
    refine ⟨fn, _, assign, body, hy, roundIn_of_wpIn hfn (hassign _ x W _ ⟨_, run_beginRound hl.1 (by rw [hrec]), ?_⟩)⟩
    have hl2 : Laid rec w.heap.size .busy none (W.putObj (w.heap.size + 1) (.loop { rec .ready none with state := .busy })) := by
      have := hl.put (st' := .busy) (pe' := none)
      rw [hrec] at this ⊢
      exact this
    have hw2 : Kp W (W.putObj (w.heap.size + 1) (.loop { rec .ready none with state := .busy })) := hKb _ _ _ _ (by omega) hl.1 rfl rfl
    refine wpIn_mono (hbody _ pre x _ (hI.putObj _ hi (by omega) hl.1 rfl) (hH pre x W _ _ _ hx hl.1 rfl)) ?_
    have hend : ∀ (jump : Option Code) (W3 : World), Laid rec w.heap.size .busy none W3 →
        (Instr.endRound (w.heap.size + 1) jump).run P W3 = .ok (.bool jump.isNone) (W3.putObj (w.heap.size + 1) (.loop (rec (if jump.isNone then .ready else .done) jump))) := fun jump W3 h3 => by
      have := run_endRound (P := P) jump h3.1
      rw [hrec] at this ⊢
      exact this
    rintro e a3 W3 hp
    cases e with
    | normal =>
      have h3 := hl2.keep hp.1
      exact ⟨_, _, hend none W3 h3, .inl ⟨rfl, ⟨hI.putObj _ hp.2.2 (by omega) h3.1 rfl, h3.put⟩, hKt (hKt hw2 hp.2.1) (hKb _ _ _ _ (by omega) h3.1 rfl rfl)⟩⟩
    | ret =>
      have h3 := hl2.keep hp.1
      exact ⟨_, _, hend (some .ret) W3 h3, .inr ⟨rfl, .ret, (hIx _).putObj _ hp.2 (by omega) h3.1 rfl, h3.put⟩⟩
    | exit id =>
      have h3 := hl2.keep hp.1
      exact ⟨_, _, hend (some (.exit id)) W3 h3, .inr ⟨rfl, .exit id, (hIx _).putObj _ hp.2 (by omega) h3.1 rfl, h3.put⟩⟩
    | goto t =>
      have h3 := hl2.keep hp.1
      exact ⟨_, _, hend (some (.goto t)) W3 h3, .inr ⟨rfl, .goto t, (hIx _).putObj _ hp.2 (by omega) h3.1 rfl, h3.put⟩⟩
    | panic ch => exact hp.elim
    | outgrown => exact hp.elim
  -- behind the iterator
  rintro e W2 ⟨⟨v, rfl⟩, (⟨xs, hS, hi, hl⟩ | ⟨pre, hSp, c, hi, hl⟩)⟩
  · exact ⟨none, _, by have := run_endLoop (P := P) hl.1 (by rw [hrec]; simp); rw [hrec] at this; exact this, hdone _ xs _ (Nat.le_refl _) hS (hI.putObj _ hi (by omega) hl.1 rfl) ((World.putObj_heap_other (by omega)).trans hl.2)⟩
  · exact ⟨some c, _, by have := run_endLoop (P := P) hl.1 (by rw [hrec]; simp); rw [hrec] at this; exact this, hstop _ c pre _ (Nat.le_refl _) hSp ((hIx c).putObj _ hi (by omega) hl.1 rfl) ((World.putObj_heap_other (by omega)).trans hl.2)⟩
end Go.Proofs.Ytmopipclheohcaa
