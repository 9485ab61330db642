/-
  A law for a range over a function whose iterator itself ranges over a function: the rounds tell it that what it has laid stays, and its caller's state may be turned by its own loop's book-keeping. No program is named here.
-/
import Derived.Test.YtmpipjangbedkaaMFr6
namespace Go.Proofs.Ytmpipjangbedkaa
set_option maxRecDepth 8000
open Go Go.RowKit Go.Shelf

set_option linter.unusedVariables false
variable {F : Fence} {n : Nat} {P : Program}

theorem Kept.narrow {lo hi lo' hi' : Nat} {W W' : World} (h : Kept lo hi W W') (h1 : lo ≤ lo') (h2 : hi' ≤ hi) : Kept lo' hi' W W' := ⟨h.size, fun k k1 k2 => h.block k (by omega) (by omega)⟩
theorem Kept.putLow {lo hi : Nat} {W : World} {l : Nat} (o : Obj) (h : l < lo) : Kept lo hi W (W.putObj l o) := ⟨by simp, fun k h1 h2 => World.putObj_heap_other (by omega)⟩
theorem Kept.from {B : Nat} {W W' : World} (h : Kept B W.heap.size W W') : KeepsFrom B W W' := ⟨h.size, fun k o h1 h2 _ => (h.block k h1 (Array.getElem?_eq_some_iff.1 h2).1).trans h2⟩
theorem roundIn_any {m m' l f : Nat} {tmps : Array Value} {assign body : Code} {w : World} {R : Ending → World → Prop} (h : RoundIn Fence.wide m P l f tmps assign body w R) : RoundIn Fence.wide m' P l f tmps assign body w R := ⟨h.1, fun c cs _ => h.2 c cs (room_wide _)⟩

theorem roundIn_round {l2 m m' l f : Nat} {tmps : Array Value} {assign body : Code} {w : World} {R : Ending → World → Prop} (h : RoundIn Fence.wide m P l f tmps assign body w R) : RoundIn (Fence.wide.inRound l2) m' P l f tmps assign body w R := ⟨h.1, fun c cs _ => h.2 c cs (room_wide _)⟩
theorem callsIn_round {l m f : Nat} {args : Array Value} {w : World} {R : Ending → World → Prop} (h : Calls P f args w R) : CallsIn (Fence.wide.inRound l) m P f args w R := (callsIn_wide (n := m)).2 h
theorem act_name {c : Code} {Q : Exit → Act → World → Prop} {a : Act} {w : World} (h : ∀ a0, a0 = a → c.wpIn F n P Q a0 w) : c.wpIn F n P Q a w := h a rfl
/-- What speaks of what is elder than B alone. -/
def Lasts {β : Type} (B : Nat) (J : β → World → Prop) : Prop := ∀ s A A', J s A → Below B A A' → J s A'
/-- An iterator's word: the rounds keep what it has laid. -/
def SeqY {α : Type} (F : Fence) (n : Nat) (P : Program) (g : Nat) (lb : Array Value) (encs : α → Array Value) (Hx : List α → α → Prop) (Kp : World → World → Prop) (S Sp : List α → Prop) (w : World) : Prop :=
  ∀ (l : Nat) (J Jx : List α → World → Prop) (W : World), Below w.heap.size w W → Lasts W.heap.size J → Lasts W.heap.size Jx →
    (∀ pre x W1, J pre W1 → Hx pre x → W.heap.size ≤ W1.heap.size → YieldAt F (n - 1) P l (encs x) W1 fun e W' =>
      (e = .returned (.bool true) ∧ J (pre ++ [x]) W' ∧ Kp W1 W' ∧ Kept W.heap.size W1.heap.size W1 W') ∨ (e = .returned (.bool false) ∧ Jx (pre ++ [x]) W' ∧ Kept W.heap.size W1.heap.size W1 W')) →
    J [] W →
    CallsIn F n P g (#[.func (.yield l) #[] #[]] ++ lb) W fun e W' => (∃ v, e = .returned v) ∧ ((∃ xs, S xs ∧ J xs W') ∨ (∃ pre, Sp pre ∧ Jx pre W'))

/-- How the body of a round may be left. -/
def postY {α : Type} (B : Nat) (Kp : World → World → Prop) (I : List α → World → Prop) (Ix : Code → List α → World → Prop) (xs : List α) (W : World) : Exit → Act → World → Prop
  | .normal, _, W' => Kept B W.heap.size W W' ∧ Kp W W' ∧ I xs W'
  | .ret, _, W' => Kept B W.heap.size W W' ∧ Ix .ret xs W'
  | .exit id, _, W' => Kept B W.heap.size W W' ∧ Ix (.exit id) xs W'
  | .goto t, _, W' => Kept B W.heap.size W W' ∧ Ix (.goto t) xs W'
  | .panic _, _, _ => False
  | .outgrown, _, _ => False

theorem Laid.same {rec : LoopState → Option Code → Loop} {B : Nat} {st : LoopState} {pe : Option Code} {W W' : World} (h : Laid rec B st pe W) (hb : Below (B + 2) W W') : Laid rec B st pe W' :=
  ⟨(hb.block _ (by omega)).trans h.1, (hb.block _ (by omega)).trans h.2⟩
theorem Laid.away {rec : LoopState → Option Code → Loop} {B : Nat} {st : LoopState} {pe : Option Code} {W W' : World} {row : Option Nat} (h : Laid rec B st pe W) (hg : W.grownBy W' row) (hr : ∀ r, row = some r → B + 2 ≤ r) : Laid rec B st pe W' :=
  ⟨(hg.block _ (Array.getElem?_eq_some_iff.1 h.1).1 (fun e => by have := hr _ e.symm; omega)).trans h.1, (hg.block _ (Array.getElem?_eq_some_iff.1 h.2).1 (fun e => by have := hr _ e.symm; omega)).trans h.2⟩

/-- THE LAW. -/
theorem wpIn_rangeY {α : Type} {g : Operand} {ps : Array Tmp} {assign body : Code} {Q : Exit → Act → World → Prop} {a : Act} {w : World}
    (hro : F.round = none) (h1 : 1 ≤ n) {gf : Nat} {lb : Array Value} (hg : a.eval g = .func (.func gf) #[] lb) (hFg : F.fn gf) (eg : ∀ args w, (callFunc gf args).run P w = .ok (.enter gf args) w)
    {encs : α → Array Value} {Hx : List α → α → Prop} {Kp : World → World → Prop} {S Sp : List α → Prop} {w0 : World} (hseq : SeqY F (n - 1) P gf lb encs Hx Kp S Sp w0)
    (hKt : ∀ {A B C : World}, Kp A B → Kp B C → Kp A C) (hKb : ∀ (W : World) (l : Nat) (o' : Obj), w.heap.size ≤ l → Kp W (W.putObj l o')) (hb0 : Below w0.heap.size w0 w) (hps : ∀ x, (encs x).size = ps.size)
    (I : List α → World → Prop) (Ix : Code → List α → World → Prop) (hI : Lasts w.heap.size I) (hIx : ∀ c, Lasts w.heap.size (Ix c)) (h0 : I [] w) (Ax : α → Act → World → Prop) (hAx : ∀ x a' (W : World) (l : Nat) (o o' : Obj), Ax x a' W → W.heap[l]? = some o → o.isCells = false → Ax x a' (W.putObj l o'))
    (hassign : ∀ (l : Nat) (pre : List α) (x : α) (W : World) (K : Act → World → Prop), w.heap.size ≤ W.heap.size → I pre W → Hx pre x → (∀ a' W', Kept w.heap.size W.heap.size W W' → Kp W W' → I pre W' → Ax x a' W' → K a' W') →
      assign.wpIn (F.inRound l) (n - 1 - 1) P (Exit.then K (fun _ _ _ => False)) { tmps := (ps.zip (encs x)).foldl (fun t (p, v) => t.setIfInBounds p v) a.tmps, defers := [] } W)
    (hbody : ∀ (l : Nat) (pre : List α) (x : α) (a' : Act) (W : World), w.heap.size ≤ W.heap.size → I pre W → Hx pre x → Ax x a' W → body.wpIn (F.inRound l) (n - 1 - 1) P (postY w.heap.size Kp I Ix (pre ++ [x]) W) a' W)
    (hdone : ∀ (D : Nat) (xs : List α) (W : World), w.heap.size ≤ D → S xs → I xs W → W.heap[D]? = some (.deferred (some [])) → Q .normal { a with defers := { target := .collected D, args := #[] } :: a.defers } W)
    (hstop : ∀ (D : Nat) (c : Code) (pre : List α) (W : World), w.heap.size ≤ D → Sp pre → Ix c pre W → W.heap[D]? = some (.deferred (some [])) → c.wpIn F n P Q { a with defers := { target := .collected D, args := #[] } :: a.defers } W) :
    (Code.rangeFunc g ps assign body).wpIn F n P Q a w := by
  refine wpIn_rangeFunc fun fn hfn => ?_
  rw [hro]
  obtain ⟨rec, hrec⟩ : ∃ rec : LoopState → Option Code → Loop, rec = fun st pe => { state := st, pending := pe, fn, tmps := a.tmps, params := ps, assign, body, defers := w.heap.size } := ⟨_, rfl⟩
  obtain ⟨W1, hW1⟩ : ∃ W1, W1 = (w.alloc (.deferred (some []))).alloc (.loop (rec .ready none)) := ⟨_, rfl⟩
  have hL1 : Laid rec w.heap.size .ready none W1 := by
    rw [hW1]
    refine ⟨?_, (Below.heap_alloc _ _ _ (by simp)).trans (World.alloc_heap_new w _)⟩
    have := World.alloc_heap_new (w.alloc (.deferred (some []))) (.loop (rec .ready none))
    rwa [World.size_alloc] at this
  have hsz1 : W1.heap.size = w.heap.size + 1 + 1 := by rw [hW1]; simp
  have hI1 : I [] W1 := by rw [hW1]; exact hI _ _ _ (hI _ _ _ h0 ((Below.refl _ _).alloc (Nat.le_refl _) _)) ((Below.refl _ _).alloc (by simp) _)
  have hb1 : Below w0.heap.size w0 W1 := by rw [hW1]; exact hb0.trans ((((Below.refl _ w).alloc (Nat.le_refl _) _).alloc (by simp) _).mono hb0.size)
  refine ⟨w.heap.size + 1, [{ target := .collected w.heap.size, args := #[] }], W1, { target := .fn (.func gf) lb, args := #[.func (.yield (w.heap.size + 1)) #[] #[]] }, W1, gf,
    #[.func (.yield (w.heap.size + 1)) #[] #[]] ++ lb, W1, by rw [hW1, hrec]; exact run_enterLoop_outer _ _ _ _ _, by simp only [resolve, hg]; simp [go_sem], fun f' hf' => by simp [Target.leads] at hf'; subst hf'; exact hFg, by simp [invoke, go_sem, eg], fun _ => h1, ?_⟩
  have hput : ∀ (W : World) (l : Nat) (o' : Obj) {o : Obj}, w.heap.size ≤ l → W.heap[l]? = some o → Below w.heap.size W (W.putObj l o') := fun W l o' o hl h => (Below.refl w.heap.size W).grown (grownBy_putObj' W l o') (by have := (Array.getElem?_eq_some_iff.1 h).1; omega) (fun k e => by cases e; omega)
  refine (hseq (w.heap.size + 1) (fun pre W => I pre W ∧ Laid rec w.heap.size .ready none W) (fun pre W => ∃ c, Ix c pre W ∧ Laid rec w.heap.size .done (some c) W) W1 hb1 ?own ?ownX ?round ⟨hI1, hL1⟩).mono ?_
  case own =>
    intro s A B hs hb
    exact ⟨hI s A B hs.1 (hb.mono (by omega)), hs.2.same (hb.mono (by omega))⟩
  case ownX =>
    rintro s A B ⟨c, hc, hl⟩ hb
    exact ⟨c, hIx c s A B hc (hb.mono (by omega)), hl.same (hb.mono (by omega))⟩
  case round =>
    rintro pre x Wz ⟨hi, hl⟩ hx hsz
    have hy := run_yield (P := P) (args := encs x) hl.1 (by rw [hrec]; exact hps x)
    rw [hrec] at hy
    refine ⟨fn, _, assign, body, hy, roundIn_of_wpIn hfn (hassign _ pre x Wz _ (by omega) hi hx ?_)⟩
    clear hy
    intro a' W hkz hkpz hi hax
    have hl : Laid rec w.heap.size .ready none W := hl.keep hkz.from
    refine ⟨_, run_beginRound hl.1 (by rw [hrec]), ?_⟩
    have hl2 : Laid rec w.heap.size .busy none (W.putObj (w.heap.size + 1) (.loop { rec .ready none with state := .busy })) := by
      have := hl.put (st' := .busy) (pe' := none)
      rw [hrec] at this ⊢
      exact this
    have hw2 : Kp W (W.putObj (w.heap.size + 1) (.loop { rec .ready none with state := .busy })) := hKb _ _ _ (by omega)
    have hsW := hkz.size
    refine wpIn_mono (hbody _ pre x a' _ (by simp; omega) (hI _ _ _ hi (hput W _ _ (by omega) hl.1)) hx (hAx x a' _ _ _ _ hax hl.1 rfl)) ?_
    have hend : ∀ (jump : Option Code) (W3 : World), Laid rec w.heap.size .busy none W3 →
        (Instr.endRound (w.heap.size + 1) jump).run P W3 = .ok (.bool jump.isNone) (W3.putObj (w.heap.size + 1) (.loop (rec (if jump.isNone then .ready else .done) jump))) := fun jump W3 h3 => by
      have := run_endRound (P := P) jump h3.1
      rw [hrec] at this ⊢
      exact this
    have hkk : ∀ (W3 : World) (o : Obj), Kept w.heap.size (W.putObj (w.heap.size + 1) (.loop { rec .ready none with state := .busy })).heap.size (W.putObj (w.heap.size + 1) (.loop { rec .ready none with state := .busy })) W3 → Kept W1.heap.size Wz.heap.size Wz (W3.putObj (w.heap.size + 1) o) := fun W3 o hk =>
      (((hkz.narrow (by omega) (Nat.le_refl _)).trans (Kept.putLow _ (by omega))).trans (hk.narrow (by omega) (by simp; omega))).trans (Kept.putLow _ (by omega))
    rintro e a3 W3 hp
    cases e with
    | normal =>
      have h3 := hl2.keep hp.1.from
      exact ⟨_, _, hend none W3 h3, .inl ⟨rfl, ⟨hI _ _ _ hp.2.2 (hput _ _ _ (by omega) h3.1), h3.put⟩, hKt hkpz (hKt (hKt hw2 hp.2.1) (hKb _ _ _ (by omega))), hkk _ _ hp.1⟩⟩
    | ret =>
      have h3 := hl2.keep hp.1.from
      exact ⟨_, _, hend (some .ret) W3 h3, .inr ⟨rfl, ⟨.ret, hIx _ _ _ _ hp.2 (hput _ _ _ (by omega) h3.1), h3.put⟩, hkk _ _ hp.1⟩⟩
    | exit id =>
      have h3 := hl2.keep hp.1.from
      exact ⟨_, _, hend (some (.exit id)) W3 h3, .inr ⟨rfl, ⟨.exit id, hIx _ _ _ _ hp.2 (hput _ _ _ (by omega) h3.1), h3.put⟩, hkk _ _ hp.1⟩⟩
    | goto t =>
      have h3 := hl2.keep hp.1.from
      exact ⟨_, _, hend (some (.goto t)) W3 h3, .inr ⟨rfl, ⟨.goto t, hIx _ _ _ _ hp.2 (hput _ _ _ (by omega) h3.1), h3.put⟩, hkk _ _ hp.1⟩⟩
    | panic ch => exact hp.elim
    | outgrown => exact hp.elim
  rintro e W2 ⟨⟨v, rfl⟩, (⟨xs, hS, hi, hl⟩ | ⟨pre, hSp, c, hi, hl⟩)⟩
  · exact ⟨none, _, by have := run_endLoop (P := P) hl.1 (by rw [hrec]; simp); rw [hrec] at this; exact this, hdone _ xs _ (Nat.le_refl _) hS (hI _ _ _ hi (hput _ _ _ (by omega) hl.1)) ((World.putObj_heap_other (by omega)).trans hl.2)⟩
  · exact ⟨some c, _, by have := run_endLoop (P := P) hl.1 (by rw [hrec]; simp); rw [hrec] at this; exact this, hstop _ c pre _ (Nat.le_refl _) hSp (hIx c _ _ _ hi (hput _ _ _ (by omega) hl.1)) ((World.putObj_heap_other (by omega)).trans hl.2)⟩
end Go.Proofs.Ytmpipjangbedkaa
