import Derived.Test.YtmpipjangbedkaaGreatMJw2
import Derived.Test.YtmpipjangbedkaaGreatMFr6
/-
  The reference's OpenJournal: what it answers, as plain data; its walk on a tape that is down.
-/
namespace Go.Proofs.YtmpipjangbedkaaGreat
set_option maxRecDepth 8000
open Go Go.RowKit
set_option linter.unusedVariables false

/-- What the bytes are opened as: the config, the events, the code. -/
def openL (L : List Nat) : Cfg × List Ev × Int :=
  if recs L = [] then (Cfg.zero, [], 3) else match jour L with
  | some (cf, es, 0) => (cf, es, 0)
  | _ => (Cfg.zero, [], 13)
/-- A tape opened. -/
def Tp.ropen (t : Tp) : Tp × Cfg × List Ev × Int :=
  if t.down then (t, Cfg.zero, [], 15) else
  if wholeOf (recs t.all) < t.all.length then
    (if (t.rcut (wholeOf (recs t.all))).2 = 0 then ((t.rcut (wholeOf (recs t.all))).1, openL t.all) else ((t.rcut (wholeOf (recs t.all))).1, Cfg.zero, [], (t.rcut (wholeOf (recs t.all))).2))
  else (t, openL t.all)
/-- What it answers, and the tape behind it. -/
def OpenC (r : Bool) (w : World) (base b : Nat) (v : Value) (x : Tp × Cfg × List Ev × Int) (e : Ending) (w' : World) : Prop :=
  ∃ V X, e = .returned (.tuple #[x.2.1.v V, X, .int .i64 x.2.2.2]) ∧ OwnI w' w.heap.size V x.2.1.insts ∧ OwnE w' w.heap.size X x.2.2.1 ∧ Went r w base b v x.1 w'
theorem openC_none {r : Bool} {w w' : World} {base b : Nat} {v : Value} {t : Tp} {K : Int} (h : Went r w base b v t w') : OpenC r w base b v (t, Cfg.zero, [], K) (.returned (.tuple #[.agg #[.slice none 0 0, .int .i64 0, .int .i64 0, .int .i64 0, .int .i64 0, .int .i64 0, .int .i64 0], .slice none 0 0, .int .i64 K])) w' := ⟨_, _, rfl, ownL_nil _ _, ownL_nil _ _, h⟩
theorem went_below {r : Bool} {w w' : World} {base b : Nat} {v : Value} {t : Tp} (h : TapeAt r w base b v t) (hb : Below w.heap.size w w') : Went r w base b v t w' := ⟨v, h.keep hb, (Touch.of_below (fun _ => False) hb).mono (fun _ h => h.elim), Near.refl _ _⟩
set_option maxRecDepth 100000 in
set_option maxHeartbeats 8000000 in
theorem ropen_down (w : World) (base b : Nat) (v : Value) (t : Tp) (h : TapeAt true w base b v t) (hd : t.down = true) :
    Calls Tryz.prog 21 #[.pointer (some ⟨b, 0, none⟩)] w (OpenC true w base b v t.ropen) := by
  rw [show t.ropen = (t, Cfg.zero, [], 15) from by unfold Tp.ropen; rw [hd]; rfl]
  have HB0 : Hid (Below w.heap.size w (w.alloc (.cells (Cfg.zero.cells (.slice none 0 0)).toArray 31))) := Lib.hid ((Below.refl _ _).alloc (Nat.le_refl _) _)
  have HR0 : Hid (CfAt (w.alloc (.cells (Cfg.zero.cells (.slice none 0 0)).toArray 31)) w.heap.size Cfg.zero (.slice none 0 0)) := Lib.hid (Rec.new w _ (Cfg.zero.cells (.slice none 0 0)) _ rfl)
  have hcr := rread_any _ base b v t (h.keep HB0.out)
  rw [show t.readL = ([], 15) from by unfold Tp.readL; rw [hd]; rfl] at hcr
  have CR := Lib.hid hcr
  simp only [Cfg.cells, Cfg.zero] at CR
  have H := Lib.hid h
  clear hcr h hd
  go_enter Tryz.func21, Tryz.ntmps21
  go_wp2_with (go_at_call 52; (with_reducible refine CR.out.mono ?_); rintro e w1 ⟨x, rfl, hx, hb1⟩; have HB1 := Lib.hid (HB0.out.trans (hb1.mono HB0.out.size)); have HR1 := Lib.hid (CfAt.keep HR0.out hb1); obtain ⟨d0, d1, d2, d3, d4, d5, d6⟩ := HR1.out.reads; simp only [Cfg.zero] at d0 d1 d2 d3 d4 d5 d6; have fz0 := Rec.frozen HR1.out 0; have fz1 := Rec.frozen HR1.out 1; have fz2 := Rec.frozen HR1.out 2; have fz3 := Rec.frozen HR1.out 3; have fz4 := Rec.frozen HR1.out 4; have fz5 := Rec.frozen HR1.out 5; have fz6 := Rec.frozen HR1.out 6; clear hx hb1)
  have hPB := putC_below HB1.out (Nat.le_refl _) (.slice none 0 0) Cfg.zero
  obtain ⟨g0, g1, g2, g3, g4, g5, g6⟩ := (putC_at HR1.out (.slice none 0 0) Cfg.zero).reads
  simp only [putC, Cfg.zero] at g0 g1 g2 g3 g4 g5 g6
  simp only [putC, Cfg.zero] at hPB
  refine bodyPost_ret (v := .tuple #[.agg #[.slice none 0 0, .int .i64 0, .int .i64 0, .int .i64 0, .int .i64 0, .int .i64 0, .int .i64 0], .slice none 0 0, .int .i64 15]) (by simp [results, Tryz.results21, go_sem, g0, g1, g2, g3, g4, g5, g6]) rfl ?_
  exact openC_none (went_below H.out hPB)
end Go.Proofs.YtmpipjangbedkaaGreat

/-
  A law for a range over a function whose iterator itself ranges over a function: the rounds tell it that what it has laid stays, and its caller's state may be turned by its own loop's book-keeping. No program is named here.
-/
namespace Go.Proofs.YtmpipjangbedkaaGreat
set_option maxRecDepth 8000
open Go Go.RowKit Go.Shelf

set_option linter.unusedVariables false
variable {F : Fence} {n : Nat} {P : Program}

theorem Kept.narrow {lo hi lo' hi' : Nat} {W W' : World} (h : Kept lo hi W W') (h1 : lo ≤ lo') (h2 : hi' ≤ hi) : Kept lo' hi' W W' := ⟨h.size, fun k k1 k2 => h.block k (by omega) (by omega)⟩
theorem Kept.putLow {lo hi : Nat} {W : World} {l : Nat} (o : Obj) (h : l < lo) : Kept lo hi W (W.putObj l o) := ⟨by simp, fun k h1 h2 => World.putObj_heap_other (by omega)⟩
theorem Kept.from {B : Nat} {W W' : World} (h : Kept B W.heap.size W W') : KeepsFrom B W W' := ⟨h.size, fun k o h1 h2 _ => (h.block k h1 (Array.getElem?_eq_some_iff.1 h2).1).trans h2⟩
theorem roundIn_any {m m' l f : Nat} {tmps : Array Value} {assign body : Code} {w : World} {R : Ending → World → Prop} (h : RoundIn Fence.wide m P l f tmps assign body w R) : RoundIn Fence.wide m' P l f tmps assign body w R := ⟨h.1, fun c cs _ => h.2 c cs (room_wide _)⟩

theorem roundIn_round {l2 m m' l f : Nat} {tmps : Array Value} {assign body : Code} {w : World} {R : Ending → World → Prop} (h : RoundIn Fence.wide m P l f tmps assign body w R) : RoundIn (Fence.wide.inRound l2) m' P l f tmps assign body w R := ⟨h.1, fun c cs _ => h.2 c cs (room_wide _)⟩
theorem callsIn_round {l m f : Nat} {args : Array Value} {w : World} {R : Ending → World → Prop} (h : Calls P f args w R) : CallsIn (Fence.wide.inRound l) m P f args w R := (callsIn_wide (n := m)).2 h
theorem act_name {c : Code} {Q : Exit → Act → World → Prop} {a : Act} {w : World} (h : ∀ a0, a0 = a → c.wpIn F n P Q a0 w) : c.wpIn F n P Q a w := h a rfl
/-- What speaks of what is elder than B alone. -/
def Lasts {β : Type} (B : Nat) (J : β → World → Prop) : Prop := ∀ s A A', J s A → Below B A A' → J s A'
/-- An iterator's word: the rounds keep what it has laid. -/
def SeqY {α : Type} (F : Fence) (n : Nat) (P : Program) (g : Nat) (lb : Array Value) (encs : α → Array Value) (Hx : List α → α → Prop) (Kp : World → World → Prop) (S Sp : List α → Prop) (w : World) : Prop :=
  ∀ (l : Nat) (J Jx : List α → World → Prop) (W : World), Below w.heap.size w W → Lasts W.heap.size J → Lasts W.heap.size Jx →
    (∀ pre x W1, J pre W1 → Hx pre x → W.heap.size ≤ W1.heap.size → YieldAt F (n - 1) P l (encs x) W1 fun e W' =>
      (e = .returned (.bool true) ∧ J (pre ++ [x]) W' ∧ Kp W1 W' ∧ Kept W.heap.size W1.heap.size W1 W') ∨ (e = .returned (.bool false) ∧ Jx (pre ++ [x]) W' ∧ Kept W.heap.size W1.heap.size W1 W')) →
    J [] W →
    CallsIn F n P g (#[.func (.yield l) #[] #[]] ++ lb) W fun e W' => (∃ v, e = .returned v) ∧ ((∃ xs, S xs ∧ J xs W') ∨ (∃ pre, Sp pre ∧ Jx pre W'))

/-- How the body of a round may be left. -/
def postY {α : Type} (B : Nat) (Kp : World → World → Prop) (I : List α → World → Prop) (Ix : Code → List α → World → Prop) (xs : List α) (W : World) : Exit → Act → World → Prop
  | .normal, _, W' => Kept B W.heap.size W W' ∧ Kp W W' ∧ I xs W'
  | .ret, _, W' => Kept B W.heap.size W W' ∧ Ix .ret xs W'
  | .exit id, _, W' => Kept B W.heap.size W W' ∧ Ix (.exit id) xs W'
  | .goto t, _, W' => Kept B W.heap.size W W' ∧ Ix (.goto t) xs W'
  | .panic _, _, _ => False
  | .outgrown, _, _ => False

theorem Laid.same {rec : LoopState → Option Code → Loop} {B : Nat} {st : LoopState} {pe : Option Code} {W W' : World} (h : Laid rec B st pe W) (hb : Below (B + 2) W W') : Laid rec B st pe W' :=
  ⟨(hb.block _ (by omega)).trans h.1, (hb.block _ (by omega)).trans h.2⟩
theorem Laid.away {rec : LoopState → Option Code → Loop} {B : Nat} {st : LoopState} {pe : Option Code} {W W' : World} {row : Option Nat} (h : Laid rec B st pe W) (hg : W.grownBy W' row) (hr : ∀ r, row = some r → B + 2 ≤ r) : Laid rec B st pe W' :=
  ⟨(hg.block _ (Array.getElem?_eq_some_iff.1 h.1).1 (fun e => by have := hr _ e.symm; omega)).trans h.1, (hg.block _ (Array.getElem?_eq_some_iff.1 h.2).1 (fun e => by have := hr _ e.symm; omega)).trans h.2⟩

/-- THE LAW. -/
theorem wpIn_rangeY {α : Type} {g : Operand} {ps : Array Tmp} {assign body : Code} {Q : Exit → Act → World → Prop} {a : Act} {w : World}
    (hro : F.round = none) (h1 : 1 ≤ n) {gf : Nat} {lb : Array Value} (hg : a.eval g = .func (.func gf) #[] lb) (hFg : F.fn gf) (eg : ∀ args w, (callFunc gf args).run P w = .ok (.enter gf args) w)
    {encs : α → Array Value} {Hx : List α → α → Prop} {Kp : World → World → Prop} {S Sp : List α → Prop} {w0 : World} (hseq : SeqY F (n - 1) P gf lb encs Hx Kp S Sp w0)
    (hKt : ∀ {A B C : World}, Kp A B → Kp B C → Kp A C) (hKb : ∀ (W : World) (l : Nat) (o' : Obj), w.heap.size ≤ l → Kp W (W.putObj l o')) (hb0 : Below w0.heap.size w0 w) (hps : ∀ x, (encs x).size = ps.size)
    (I : List α → World → Prop) (Ix : Code → List α → World → Prop) (hI : Lasts w.heap.size I) (hIx : ∀ c, Lasts w.heap.size (Ix c)) (h0 : I [] w) (Ax : α → Act → World → Prop) (hAx : ∀ x a' (W : World) (l : Nat) (o o' : Obj), Ax x a' W → W.heap[l]? = some o → o.isCells = false → Ax x a' (W.putObj l o'))
    (hassign : ∀ (l : Nat) (pre : List α) (x : α) (W : World) (K : Act → World → Prop), w.heap.size ≤ W.heap.size → I pre W → Hx pre x → (∀ a' W', Kept w.heap.size W.heap.size W W' → Kp W W' → I pre W' → Ax x a' W' → K a' W') →
      assign.wpIn (F.inRound l) (n - 1 - 1) P (Exit.then K (fun _ _ _ => False)) { tmps := (ps.zip (encs x)).foldl (fun t (p, v) => t.setIfInBounds p v) a.tmps, defers := [] } W)
    (hbody : ∀ (l : Nat) (pre : List α) (x : α) (a' : Act) (W : World), w.heap.size ≤ W.heap.size → I pre W → Hx pre x → Ax x a' W → body.wpIn (F.inRound l) (n - 1 - 1) P (postY w.heap.size Kp I Ix (pre ++ [x]) W) a' W)
    (hdone : ∀ (D : Nat) (xs : List α) (W : World), w.heap.size ≤ D → S xs → I xs W → W.heap[D]? = some (.deferred (some [])) → Q .normal { a with defers := { target := .collected D, args := #[] } :: a.defers } W)
    (hstop : ∀ (D : Nat) (c : Code) (pre : List α) (W : World), w.heap.size ≤ D → Sp pre → Ix c pre W → W.heap[D]? = some (.deferred (some [])) → c.wpIn F n P Q { a with defers := { target := .collected D, args := #[] } :: a.defers } W) :
    (Code.rangeFunc g ps assign body).wpIn F n P Q a w := by
  refine wpIn_rangeFunc fun fn hfn => ?_
  rw [hro]
  obtain ⟨rec, hrec⟩ : ∃ rec : LoopState → Option Code → Loop, rec = fun st pe => { state := st, pending := pe, fn, tmps := a.tmps, params := ps, assign, body, defers := w.heap.size } := ⟨_, rfl⟩
  obtain ⟨W1, hW1⟩ : ∃ W1, W1 = (w.alloc (.deferred (some []))).alloc (.loop (rec .ready none)) := ⟨_, rfl⟩
  have hL1 : Laid rec w.heap.size .ready none W1 := by
    rw [hW1]
    refine ⟨?_, (Below.heap_alloc _ _ _ (by simp)).trans (World.alloc_heap_new w _)⟩
    have := World.alloc_heap_new (w.alloc (.deferred (some []))) (.loop (rec .ready none))
    rwa [World.size_alloc] at this
  have hsz1 : W1.heap.size = w.heap.size + 1 + 1 := by rw [hW1]; simp
  have hI1 : I [] W1 := by rw [hW1]; exact hI _ _ _ (hI _ _ _ h0 ((Below.refl _ _).alloc (Nat.le_refl _) _)) ((Below.refl _ _).alloc (by simp) _)
  have hb1 : Below w0.heap.size w0 W1 := by rw [hW1]; exact hb0.trans ((((Below.refl _ w).alloc (Nat.le_refl _) _).alloc (by simp) _).mono hb0.size)
  refine ⟨w.heap.size + 1, [{ target := .collected w.heap.size, args := #[] }], W1, { target := .fn (.func gf) lb, args := #[.func (.yield (w.heap.size + 1)) #[] #[]] }, W1, gf,
    #[.func (.yield (w.heap.size + 1)) #[] #[]] ++ lb, W1, by rw [hW1, hrec]; exact run_enterLoop_outer _ _ _ _ _, by simp only [resolve, hg]; simp [go_sem], fun f' hf' => by simp [Target.leads] at hf'; subst hf'; exact hFg, by simp [invoke, go_sem, eg], fun _ => h1, ?_⟩
  have hput : ∀ (W : World) (l : Nat) (o' : Obj) {o : Obj}, w.heap.size ≤ l → W.heap[l]? = some o → Below w.heap.size W (W.putObj l o') := fun W l o' o hl h => (Below.refl w.heap.size W).grown (grownBy_putObj' W l o') (by have := (Array.getElem?_eq_some_iff.1 h).1; omega) (fun k e => by cases e; omega)
  refine (hseq (w.heap.size + 1) (fun pre W => I pre W ∧ Laid rec w.heap.size .ready none W) (fun pre W => ∃ c, Ix c pre W ∧ Laid rec w.heap.size .done (some c) W) W1 hb1 ?own ?ownX ?round ⟨hI1, hL1⟩).mono ?_
  case own =>
    intro s A B hs hb
    exact ⟨hI s A B hs.1 (hb.mono (by omega)), hs.2.same (hb.mono (by omega))⟩
  case ownX =>
    rintro s A B ⟨c, hc, hl⟩ hb
    exact ⟨c, hIx c s A B hc (hb.mono (by omega)), hl.same (hb.mono (by omega))⟩
  case round =>
    rintro pre x Wz ⟨hi, hl⟩ hx hsz
    have hy := run_yield (P := P) (args := encs x) hl.1 (by rw [hrec]; exact hps x)
    rw [hrec] at hy
    refine ⟨fn, _, assign, body, hy, roundIn_of_wpIn hfn (hassign _ pre x Wz _ (by omega) hi hx ?_)⟩
    clear hy
    intro a' W hkz hkpz hi hax
    have hl : Laid rec w.heap.size .ready none W := hl.keep hkz.from
    refine ⟨_, run_beginRound hl.1 (by rw [hrec]), ?_⟩
    have hl2 : Laid rec w.heap.size .busy none (W.putObj (w.heap.size + 1) (.loop { rec .ready none with state := .busy })) := by
      have := hl.put (st' := .busy) (pe' := none)
      rw [hrec] at this ⊢
      exact this
    have hw2 : Kp W (W.putObj (w.heap.size + 1) (.loop { rec .ready none with state := .busy })) := hKb _ _ _ (by omega)
    have hsW := hkz.size
    refine wpIn_mono (hbody _ pre x a' _ (by simp; omega) (hI _ _ _ hi (hput W _ _ (by omega) hl.1)) hx (hAx x a' _ _ _ _ hax hl.1 rfl)) ?_
    have hend : ∀ (jump : Option Code) (W3 : World), Laid rec w.heap.size .busy none W3 →
        (Instr.endRound (w.heap.size + 1) jump).run P W3 = .ok (.bool jump.isNone) (W3.putObj (w.heap.size + 1) (.loop (rec (if jump.isNone then .ready else .done) jump))) := fun jump W3 h3 => by
      have := run_endRound (P := P) jump h3.1
      rw [hrec] at this ⊢
      exact this
    have hkk : ∀ (W3 : World) (o : Obj), Kept w.heap.size (W.putObj (w.heap.size + 1) (.loop { rec .ready none with state := .busy })).heap.size (W.putObj (w.heap.size + 1) (.loop { rec .ready none with state := .busy })) W3 → Kept W1.heap.size Wz.heap.size Wz (W3.putObj (w.heap.size + 1) o) := fun W3 o hk =>
      (((hkz.narrow (by omega) (Nat.le_refl _)).trans (Kept.putLow _ (by omega))).trans (hk.narrow (by omega) (by simp; omega))).trans (Kept.putLow _ (by omega))
    rintro e a3 W3 hp
    cases e with
    | normal =>
      have h3 := hl2.keep hp.1.from
      exact ⟨_, _, hend none W3 h3, .inl ⟨rfl, ⟨hI _ _ _ hp.2.2 (hput _ _ _ (by omega) h3.1), h3.put⟩, hKt hkpz (hKt (hKt hw2 hp.2.1) (hKb _ _ _ (by omega))), hkk _ _ hp.1⟩⟩
    | ret =>
      have h3 := hl2.keep hp.1.from
      exact ⟨_, _, hend (some .ret) W3 h3, .inr ⟨rfl, ⟨.ret, hIx _ _ _ _ hp.2 (hput _ _ _ (by omega) h3.1), h3.put⟩, hkk _ _ hp.1⟩⟩
    | exit id =>
      have h3 := hl2.keep hp.1.from
      exact ⟨_, _, hend (some (.exit id)) W3 h3, .inr ⟨rfl, ⟨.exit id, hIx _ _ _ _ hp.2 (hput _ _ _ (by omega) h3.1), h3.put⟩, hkk _ _ hp.1⟩⟩
    | goto t =>
      have h3 := hl2.keep hp.1.from
      exact ⟨_, _, hend (some (.goto t)) W3 h3, .inr ⟨rfl, ⟨.goto t, hIx _ _ _ _ hp.2 (hput _ _ _ (by omega) h3.1), h3.put⟩, hkk _ _ hp.1⟩⟩
    | panic ch => exact hp.elim
    | outgrown => exact hp.elim
  rintro e W2 ⟨⟨v, rfl⟩, (⟨xs, hS, hi, hl⟩ | ⟨pre, hSp, c, hi, hl⟩)⟩
  · exact ⟨none, _, by have := run_endLoop (P := P) hl.1 (by rw [hrec]; simp); rw [hrec] at this; exact this, hdone _ xs _ (Nat.le_refl _) hS (hI _ _ _ hi (hput _ _ _ (by omega) hl.1)) ((World.putObj_heap_other (by omega)).trans hl.2)⟩
  · exact ⟨some c, _, by have := run_endLoop (P := P) hl.1 (by rw [hrec]; simp); rw [hrec] at this; exact this, hstop _ c pre _ (Nat.le_refl _) hSp (hIx c _ _ _ hi (hput _ _ _ (by omega) hl.1)) ((World.putObj_heap_other (by omega)).trans hl.2)⟩
end Go.Proofs.YtmpipjangbedkaaGreat

/-
  The walk of the program's journal.contents: whole records, as a config and events.
-/
namespace Go.Proofs.YtmpipjangbedkaaGreat
set_option maxRecDepth 8000
open Go Go.RowKit Go.Shelf
attribute [local go_sem] Oper.semAt_some
set_option linter.unusedVariables false

/-- What bytes hold, the first record a config, the others events. -/
def contL (L : List Nat) : Cfg × List Ev × Int := match (recs L).map (·.2) with
  | [] => (Cfg.zero, [], 0)
  | b :: bs => match readP b with
    | none => (Cfg.zero, [], 13)
    | some cf => if (evs bs).2 = 0 then (cf, (evs bs).1, 0) else (Cfg.zero, [], 13)
theorem cont_open {L : List Nat} (h : recs L ≠ []) : contL L = openL L := by
  unfold contL openL jour
  rw [if_neg h]
  cases hr : (recs L).map (·.2) with
  | nil => simp at hr; exact absurd hr h
  | cons b bs =>
    unfold jourL
    dsimp only
    cases hp : readP b with
    | none => rfl
    | some cf =>
      rcases hk : evs bs with ⟨es, k⟩
      rw [Option.map_some]
      dsimp only
      cases k with
      | zero => rfl
      | succ k => rfl
/-- What has come so far. -/
def PreJ (pre : List Elem) (cf : Cfg) (es : List Ev) : Prop := (pre = [] ∧ cf = Cfg.zero ∧ es = []) ∨ ∃ x rest, pre = x :: rest ∧ readP x.2.2 = some cf ∧ evs (rest.map (·.2.2)) = (es, 0)
theorem evs_app (ls ms : List (List Nat)) (es : List Ev) (h : evs ls = (es, 0)) : evs (ls ++ ms) = preE es (evs ms) := by
  induction ls generalizing es with
  | nil => cases h; rfl
  | cons b ls ih =>
    cases hr : readE b with
    | none => rw [evs_none hr] at h; injection h with _ h; omega
    | some e =>
      rw [evs_some hr] at h
      injection h with h1 h2
      subst h1
      rw [List.cons_append, evs_some hr, ih (evs ls).1 (by rw [← h2])]
      rfl
theorem preJ_first {x : Elem} {cf : Cfg} (h : readP x.2.2 = some cf) : PreJ ([] ++ [x]) cf [] := .inr ⟨x, [], rfl, h, rfl⟩
theorem preJ_next {pre : List Elem} {x : Elem} {cf : Cfg} {es : List Ev} {e : Ev} (h : PreJ pre cf es) (h0 : pre ≠ []) (hr : readE x.2.2 = some e) : PreJ (pre ++ [x]) cf (es ++ [e]) := by
  rcases h with ⟨h1, _⟩ | ⟨y, rest, rfl, h1, h2⟩
  · exact absurd h1 h0
  · refine .inr ⟨y, rest ++ [x], rfl, h1, ?_⟩
    rw [List.map_append, evs_app _ _ _ h2]
    show preE es (evs [x.2.2]) = _
    rw [evs_some hr]
    rfl
theorem snd_elem (xs : List Elem) : (xs.map elemOf).map (·.2) = xs.map (·.2.2) := by rw [List.map_map]; rfl
theorem preJ_done {xs : List Elem} {cf : Cfg} {es : List Ev} {L : List Nat} (h : PreJ xs cf es) (hL : xs.map elemOf = recs L) : contL L = (cf, es, 0) := by
  unfold contL
  rw [← hL, snd_elem]
  rcases h with ⟨rfl, rfl, rfl⟩ | ⟨x, rest, rfl, h1, h2⟩
  · rfl
  · show (match readP x.2.2 with | none => _ | some cf => _) = _
    rw [h1]
    show (if (evs (rest.map (·.2.2))).2 = 0 then _ else _) = _
    rw [h2]; rfl
theorem preJ_bad0 {x : Elem} {L : List Nat} (hL : ([] ++ [x]).map elemOf <+: recs L) (h : readP x.2.2 = none) : contL L = (Cfg.zero, [], 13) := by
  obtain ⟨t, ht⟩ := hL
  unfold contL
  rw [← ht]
  show (match readP x.2.2 with | none => _ | some cf => _) = _
  rw [h]
theorem preJ_bad {pre : List Elem} {x : Elem} {cf : Cfg} {es : List Ev} {L : List Nat} (hp : PreJ pre cf es) (h0 : pre ≠ []) (hL : (pre ++ [x]).map elemOf <+: recs L) (h : readE x.2.2 = none) : contL L = (Cfg.zero, [], 13) := by
  obtain ⟨t, ht⟩ := hL
  rcases hp with ⟨h1, _⟩ | ⟨y, rest, rfl, h1, h2⟩
  · exact absurd h1 h0
  · unfold contL
    rw [← ht, List.map_append, snd_elem]
    show (match readP y.2.2 with | none => _ | some cf => _) = _
    rw [h1]
    show (if (evs (((rest ++ [x]).map (·.2.2)) ++ t.map (·.2))).2 = 0 then _ else _) = _
    rw [List.map_append, List.append_assoc, evs_app _ _ _ h2]
    show (if (preE es (evs (x.2.2 :: t.map (·.2)))).2 = 0 then _ else _) = _
    rw [evs_none h]
    simp [preE]
theorem recF_low (f : Nat) : ∀ (p : Nat) (l : List Nat), ∀ e ∈ recF f p l, p ≤ e.1 := by
  induction f with
  | zero => intro p l e he; simp [recF] at he
  | succ f ih =>
    intro p l e he
    by_cases h : (nextL l).2.2 = 0
    · rw [recF_more h] at he
      rcases List.mem_cons.1 he with rfl | he
      · exact Nat.le_refl _
      · exact Nat.le_trans (Nat.le_add_right _ _) (ih _ _ e he)
    · rw [recF_end h] at he; cases he
/-- The first record alone stands at 0. -/
theorem first_place {pre : List Elem} {x : Elem} {L : List Nat} (h : (pre ++ [x]).map elemOf <+: recs L) : (pre = [] → x.1 = 0) ∧ (pre ≠ [] → 0 < x.1) := by
  obtain ⟨t, ht⟩ := h
  unfold recs at ht
  by_cases h0 : (nextL L).2.2 = 0
  · rw [recF_more h0] at ht
    have hn := (next_fact L h0).1
    cases pre with
    | nil =>
      simp only [List.nil_append, List.map_cons, List.map_nil, List.cons_append, List.cons.injEq] at ht
      exact ⟨fun _ => congrArg Prod.fst ht.1, fun h => absurd rfl h⟩
    | cons y pre =>
      refine ⟨fun h => (by cases h), fun _ => ?_⟩
      simp only [List.cons_append, List.map_cons, List.cons.injEq] at ht
      have hm : elemOf x ∈ recF L.length (0 + (nextL L).2.1) (L.drop (nextL L).2.1) := by rw [← ht.2]; simp
      have := recF_low _ _ _ _ hm
      simp only [elemOf] at this
      omega
  · rw [recF_end h0] at ht
    simp at ht
theorem elem_fact {pre : List Elem} {x : Elem} {L : List Nat} (hl : Oct L) (h : (pre ++ [x]).map elemOf <+: recs L) : Oct x.2.2 ∧ x.2.2.length ≤ 400 := by
  have hm : (elemOf x).2 ∈ (recs L).map (·.2) := List.mem_map_of_mem (next_in h)
  exact recs_oct hl _ hm

theorem rec_kept {W W' : World} {row : Option Nat} {b : Nat} {t : TypeId} {cs : List Value} (h : Rec W b t cs) (hg : W.grownBy W' row) (hr : ∀ r, row = some r → ∃ o : Obj, W.heap[r]? = some o ∧ o.isCells = false) : Rec W' b t cs :=
  (hg.block b h.lt (fun e => by obtain ⟨o, ho, hc⟩ := hr b e.symm; rw [show W.heap[b]? = _ from h] at ho; cases ho; cases hc)).trans h
theorem ownL_kept {α : Type} {enc : α → List Value} {e sz : Nat} {W W' : World} {base : Nat} {v : Value} {l : List α} {row : Option Nat} (h : OwnL enc e sz W base v l) (hg : W.grownBy W' row) (hr : ∀ r, row = some r → ∃ o : Obj, W.heap[r]? = some o ∧ o.isCells = false) : OwnL enc e sz W' base v l := by
  refine OwnL.touch h (Touch.grown hg) (fun k hk hrow => ?_)
  obtain ⟨o, ho, hc⟩ := hr k hrow
  rcases h.2 with ⟨rfl, _⟩ | ⟨g, cap, cur, rfl, _, hgb, _⟩
  · simp [Value.ownBlock] at hk
  · obtain rfl : g = k := by simpa [Value.ownBlock] using hk
    rw [hgb] at ho
    cases ho
    cases hc
/-- The three cells of the answer. -/
structure Res (s : Nat) (cf : Cfg) (v X : Value) (k : Int) (W : World) : Prop where
  c : CfAt W s cf v
  x : Rec W (s + 1) 54 [X]
  k : Rec W (s + 2) 44 [.int .i64 k]
def putR (W : World) (s : Nat) (cf : Cfg) (v X : Value) (k : Int) : World := ((putC W s v cf).setCell ⟨s + 1, 0, none⟩ X).setCell ⟨s + 2, 0, none⟩ (.int .i64 k)
section
variable {s : Nat} {cf cf' : Cfg} {v v' X X' : Value} {k k' : Int} {W W' : World} {row : Option Nat} {Y : Nat → Prop}
theorem Res.touch (h : Res s cf v X k W) (ht : Touch Y W W') (hy : ∀ i, i < 3 → ¬ Y (s + i)) : Res s cf v X k W' := ⟨Rec.touch h.c ht (hy 0 (by omega)), h.x.touch ht (hy 1 (by omega)), h.k.touch ht (hy 2 (by omega))⟩
theorem Res.keep (h : Res s cf v X k W) (hb : Below W.heap.size W W') : Res s cf v X k W' := ⟨CfAt.keep h.c hb, h.x.keep hb, h.k.keep hb⟩
theorem Res.kept (h : Res s cf v X k W) (hg : W.grownBy W' row) (hr : ∀ r, row = some r → ∃ o : Obj, W.heap[r]? = some o ∧ o.isCells = false) : Res s cf v X k W' := ⟨rec_kept h.c hg hr, rec_kept h.x hg hr, rec_kept h.k hg hr⟩
theorem Res.store (h : Res s cf v X k W) (cf' : Cfg) (v' X' : Value) (k' : Int) : Res s cf' v' X' k' (putR W s cf' v' X' k') := by
  have h1 := putC_at h.c v' cf'
  have t1 := putC_touch W s v' cf'
  have x1 := h.x.touch t1 (by omega)
  have k1 := h.k.touch t1 (by omega)
  have t2 := Touch.setCell (putC W s v' cf') ⟨s + 1, 0, none⟩ X'
  have x2 := x1.set 0 X'
  have t3 := Touch.setCell ((putC W s v' cf').setCell ⟨s + 1, 0, none⟩ X') ⟨s + 2, 0, none⟩ (.int .i64 k')
  exact ⟨Rec.touch (Rec.touch h1 t2 (by simp)) t3 (by simp), x2.touch t3 (by simp), (k1.touch t2 (by simp)).set 0 _⟩
theorem putR_touch (W : World) (s : Nat) (cf : Cfg) (v X : Value) (k : Int) : Touch (fun i => s ≤ i ∧ i < s + 3) W (putR W s cf v X k) :=
  (((putC_touch W s v cf).mono (fun i h => by have h' : i = s := h; omega)).trans (Touch.setCell _ ⟨s + 1, 0, none⟩ X) (fun i _ h => by have h' : i = s + 1 := h; omega)).trans (Touch.setCell _ ⟨s + 2, 0, none⟩ _) (fun i _ h => by have h' : i = s + 2 := h; omega)
end
theorem keeps_touch {Y : Nat → Prop} {W W' : World} (ht : Touch Y W W') (hy : ∀ i o, Y i → W.heap[i]? = some o → o.isCells = true) : KeepsOthers W W' :=
  ⟨ht.size, fun k o hk ho => (ht.block k (Array.getElem?_eq_some_iff.1 hk).1 (fun h => by rw [hy k o h hk] at ho; cases ho)).trans hk⟩
theorem rec_cells {W : World} {b : Nat} {t : TypeId} {cs : List Value} (h : Rec W b t cs) : ∀ o, W.heap[b]? = some o → o.isCells = true := by
  intro o ho
  rw [show W.heap[b]? = _ from h] at ho
  cases ho
  rfl
theorem kept_touch {Y : Nat → Prop} {W W' : World} {lo hi : Nat} (ht : Touch Y W W') (hhi : hi ≤ W.heap.size) (hy : ∀ i, lo ≤ i → i < hi → ¬ Y i) : Kept lo hi W W' :=
  ⟨ht.size, fun k h1 h2 => ht.block k (by omega) (hy k h1 h2)⟩
theorem lt_of_kept {lo hi : Nat} {W W' : World} (h : Kept lo hi W W') : W.heap.size ≤ W'.heap.size := h.size
end Go.Proofs.YtmpipjangbedkaaGreat

/-
  The walk of the program's journal.contents.
-/
namespace Go.Proofs.YtmpipjangbedkaaGreat
set_option maxRecDepth 8000
open Go Go.RowKit Go.Shelf
attribute [local go_sem] Oper.semAt_some
set_option linter.unusedVariables false

/-- What contents answers. -/
def ContC (w : World) (x : Cfg × List Ev × Int) (e : Ending) (w' : World) : Prop :=
  ∃ V X, e = .returned (.tuple #[x.1.v V, X, .int .i64 x.2.2]) ∧ OwnI w' w.heap.size V x.1.insts ∧ OwnE w' w.heap.size X x.2.1 ∧ Below w.heap.size w w'
/-- Under way: the answer's cells, the config and the events that have come. -/
structure ConB (s base : Nat) (cf : Cfg) (v X : Value) (es : List Ev) (W : World) : Prop where
  res : Res s Cfg.zero (.slice none 0 0) (.slice none 0 0) 0 W
  m : CfAt W (s + 3) cf v
  e : Rec W (s + 4) 54 [X]
  ov : OwnI W base v cf.insts
  oe : OwnE W base X es
  sb : s + 5 ≤ base
  sz : base ≤ W.heap.size
section
variable {s base : Nat} {cf cf' : Cfg} {v v' X X' : Value} {es : List Ev} {W W' : World} {row : Option Nat} {e : Ev}
theorem ConB.keep (h : ConB s base cf v X es W) (hb : Below W.heap.size W W') : ConB s base cf v X es W' := ⟨h.res.keep hb, CfAt.keep h.m hb, h.e.keep hb, OwnL.keep h.ov hb, OwnL.keep h.oe hb, h.sb, Nat.le_trans h.sz hb.size⟩
theorem ConB.kept (h : ConB s base cf v X es W) (hg : W.grownBy W' row) (hr : ∀ r, row = some r → ∃ o : Obj, W.heap[r]? = some o ∧ o.isCells = false) : ConB s base cf v X es W' :=
  ⟨h.res.kept hg hr, rec_kept h.m hg hr, rec_kept h.e hg hr, ownL_kept h.ov hg hr, ownL_kept h.oe hg hr, h.sb, Nat.le_trans h.sz hg.size⟩
theorem ConB.ltv (h : ConB s base cf v X es W) : ∀ k, v.ownBlock = some k → s + 5 ≤ k := fun k hk => Nat.le_trans h.sb (OwnL.lt h.ov k hk).1
theorem ConB.ltx (h : ConB s base cf v X es W) : ∀ k, X.ownBlock = some k → s + 5 ≤ k := fun k hk => Nat.le_trans h.sb (OwnL.lt h.oe k hk).1
/-- The config is stored. -/
theorem ConB.setM (h : ConB s base cf v X es W) (ho : OwnI W base v' cf'.insts) : ConB s base cf' v' X es (putC W (s + 3) v' cf') := by
  have t := putC_touch W (s + 3) v' cf'
  exact ⟨h.res.touch t (fun i hi e => by omega), putC_at h.m v' cf', h.e.touch t (fun e => by omega), OwnL.touch ho t (fun k hk e => by have h1 := (OwnL.lt ho k hk).1; have := h.sb; omega), OwnL.touch h.oe t (fun k hk e => by have := h.ltx k hk; omega), h.sb, by rw [putC_size]; exact h.sz⟩
/-- The events' slice has grown, and is stored. -/
theorem ConB.addE (h : ConB s base cf v X es W) (ho : OwnE W' base X' (es ++ [e])) (hg : W.grownBy W' X.ownBlock) : ConB s base cf v X' (es ++ [e]) (W'.setCell ⟨s + 4, 0, none⟩ X') := by
  have t := Touch.grown hg
  have hv : ∀ k, v.ownBlock = some k → ¬ X.ownBlock = some k := fun k hk hx => by
    rcases h.ov.2 with ⟨rfl, _⟩ | ⟨g, cap, cur, rfl, _, hgb, _⟩
    · simp [Value.ownBlock] at hk
    · obtain rfl : g = k := by simpa [Value.ownBlock] using hk
      exact Rec.not_rowL (cs := cur.toList) (t := 70) (by simpa [Rec] using hgb) (by decide) h.oe hx
  have t2 := Touch.setCell W' ⟨s + 4, 0, none⟩ X'
  have nb : ∀ j, j < 5 → ¬ X.ownBlock = some (s + j) := fun j hj e => by have := h.ltx _ e; omega
  exact ⟨(h.res.touch t (fun i hi => nb i (by omega))).touch t2 (fun i hi e => by simp at e; omega), Rec.touch (Rec.touch h.m t (nb 3 (by omega))) t2 (by simp), (h.e.touch t (nb 4 (by omega))).set 0 X', OwnL.touch (OwnL.touch h.ov t hv) t2 (fun k hk e => by have := h.ltv k hk; simp at e; omega), OwnL.touch ho t2 (fun k hk e => by have h1 := (OwnL.lt ho k hk).1; have := h.sb; simp at e; omega), h.sb, by simp; exact Nat.le_trans h.sz hg.size⟩
end
theorem wpListIn_appL {α : Type} {enc : α → List Value} {t e : TypeId} {sz bts : Nat} (hL : Lay enc t e sz bts) {F : Fence} {n' : Nat} {w : World} {ops : Array Oper} {rest : List Oper} {o : Oper} {a : Act} {Q : Exit → Act → World → Prop} (hgd : o.guard = none) (s x : Operand)
    (ho : o.op = .call { callee := .builtin .append, args := #[s, x], argTypes := #[t, t] }) (base : Nat) (v : Value) (l : List α) (hs : a.eval s = v) (hown : OwnL enc e sz w base v l)
    (ad : Addr) (c : Nat) (y : α) (hx : a.eval x = .slice (some ad) 1 c) (hy : ∀ j u, (enc y)[j]? = some u → w.cell? (ad.add j) = some u) (hb : (l.length + 1) * bts ≤ 140737488355328) (hl : l.length + 1 ≤ 140737488355328) (hbase : base ≤ w.heap.size)
    (h : ∀ v' w', OwnL enc e sz w' base v' (l ++ [y]) → w.grownBy w' v.ownBlock → Moved w v v' → wpListIn F n' Tryz.prog ops Q rest (a.put o.dst v') w') : wpListIn F n' Tryz.prog ops Q (o :: rest) a w := by
  refine wpListIn_plain hgd fun _ hK => ?_
  obtain ⟨v', w', hr, h2, h3, h4⟩ := run_appL hL w o.type base v l hown ad c y hy hb hl hbase
  unfold Oper.wpIn
  refine ⟨?_, ?_⟩
  · simp [Oper.about, ho, resolve, Target.leads, Sem.run_pure]
  · rw [Oper.semAt_plain F _ _ (by rw [ho]; intro c hc'; cases hc')]
    simp [execOp, ho, resolve, invoke, builtin, hs, hx, hr, Result.andThen]
    exact hK _ _ (h v' w' h2 h3 h4)
end Go.Proofs.YtmpipjangbedkaaGreat
