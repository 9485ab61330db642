import Derived.Test.YtmpipjangbedkaaGreatMDkO
import Derived.WalkSmall
import Derived.RangeFuncNested
import Derived.RangeFuncBox
import Derived.RangeFuncBound
import Derived.RangeFuncCalls
import Derived.RangeFuncLeaves
import Derived.Shelf.Abstract
import Derived.WalkKit
import Derived.OwnWalkIn
import Derived.TacticsInMore
import Derived.LoopNIn
import Derived.LoopIn
/-
  The walks of frame.Next and of the reference's Next.
-/
namespace Go.Proofs.YtmpipjangbedkaaGreat
set_option maxRecDepth 8000
open Go.RowKit

/-- How many bytes the record at the beginning has. -/
def sizeL (l : List Nat) : Nat := 256 * l.getD 0 0 + l.getD 1 0
/-- What stands at the beginning: its bytes, its length, the code. -/
def nextL (l : List Nat) : List Nat × Nat × Nat :=
  if l.length < 2 then ([], 0, 12) else if 400 < sizeL l then ([], 0, 13) else if l.length < sizeL l + 6 then ([], 0, 12)
  else if crc (l.take (sizeL l + 2)) = stored (l.drop (sizeL l + 2)) then ((l.drop 2).take (sizeL l), sizeL l + 6, 0) else ([], 0, 13)
/-- New bytes, a length and a code. -/
def NextC (w : World) (l : List Nat) (e : Ending) (w' : World) : Prop :=
  ∃ v, e = .returned (.tuple #[v, .int .i64 (((nextL l).2.1 : Nat) : Int), .int .i64 (((nextL l).2.2 : Nat) : Int)]) ∧ OwnB w' w.heap.size v (nextL l).1 ∧ Below w.heap.size w w'
theorem nextC_nil (w w' : World) (l : List Nat) (code : Nat) (h : nextL l = ([], 0, code)) (hb : Below w.heap.size w w') : NextC w l (.returned (.tuple #[.slice none 0 0, .int .i64 0, .int .i64 (code : Int)])) w' := by
  unfold NextC
  rw [h]
  exact ⟨_, rfl, ownB_nil w' _, hb⟩
theorem next_short0 {l : List Nat} (h : l.length < 2) : nextL l = ([], 0, 12) := by unfold nextL; rw [if_pos h]
theorem next_bad0 {l : List Nat} (h : ¬ l.length < 2) (h1 : 400 < sizeL l) : nextL l = ([], 0, 13) := by unfold nextL; rw [if_neg h, if_pos h1]
theorem next_short1 {l : List Nat} (h : ¬ l.length < 2) (h1 : ¬ 400 < sizeL l) (h2 : l.length < sizeL l + 6) : nextL l = ([], 0, 12) := by unfold nextL; rw [if_neg h, if_neg h1, if_pos h2]
theorem next_ok {l : List Nat} (h : ¬ l.length < 2) (h1 : ¬ 400 < sizeL l) (h2 : ¬ l.length < sizeL l + 6) (h3 : crc (l.take (sizeL l + 2)) = stored (l.drop (sizeL l + 2))) : nextL l = ((l.drop 2).take (sizeL l), sizeL l + 6, 0) := by
  unfold nextL; rw [if_neg h, if_neg h1, if_neg h2, if_pos h3]
theorem next_bad1 {l : List Nat} (h : ¬ l.length < 2) (h1 : ¬ 400 < sizeL l) (h2 : ¬ l.length < sizeL l + 6) (h3 : ¬ crc (l.take (sizeL l + 2)) = stored (l.drop (sizeL l + 2))) : nextL l = ([], 0, 13) := by
  unfold nextL; rw [if_neg h, if_neg h1, if_neg h2, if_neg h3]

set_option maxRecDepth 8000 in
set_option maxHeartbeats 1000000 in
theorem next_tiny (A : Option Addr) (l : List Nat) (c : Nat) (w : World) (h : l.length < 2) :
    Calls Tryz.prog 82 #[.slice A l.length c] w (NextC w l) := by
  have F := Lib.hid (nextC_nil w w l 12 (next_short0 h) (Below.refl _ _))
  go_enter Tryz.func82, Tryz.ntmps82
  go_wp2
  exact bodyPost_ret (v := .tuple #[.slice none 0 0, .int .i64 0, .int .i64 12]) (by simp [results, Tryz.results82, go_sem]) rfl F.out
theorem i64w (x : Int) (h0 : 0 ≤ x) (h : x < 9223372036854775808) : IntKind.i64.wrap x = x := by rw [IntKind.wrap_i64]; omega
theorem join2 (x0 x1 : Nat) (h0 : x0 < 256) (h1 : x1 < 256) : bits .or .i64 ((x0 : Int) * 256) (x1 : Int) = ((256 * x0 + x1 : Nat) : Int) := by
  rw [bits_join .i64 63 (by decide) (fun n a b => i64w n a (by omega)) 8 _ _ (by omega) (by omega) (by omega) (by omega) (by omega) (by omega)]
  omega
theorem sum_quiet (A : Option Addr) (l : List Nat) (m c : Nat) (hm : m = l.length) (w : World) (hr : Byts w A l) (hl : Oct l) (hn : l.length ≤ 9223372036854775807) (n : Nat) :
    Calls Tryz.prog 91 #[.slice A m c] (w.drewN n) fun e w' => e = .returned (.int .u32 ((crc l : Nat) : Int)) ∧ w' = w.drewN n := by
  subst hm
  exact (sum_any A l c (w.drewN n) (hr.drewN n) hl hn).mono fun e w' ⟨he, hw⟩ => ⟨he, hw.symm⟩
theorem stored_quiet (b off : Nat) (r : List Nat) (m c : Nat) (hm : m = r.length) (w : World) (hr : Byts w (some ⟨b, off, none⟩) r) (hl : Oct r) (hn : 4 ≤ r.length) (hn2 : r.length ≤ 9223372036854775807) (n : Nat) :
    Calls Tryz.prog 95 #[.slice (some ⟨b, off, none⟩) m c] (w.drewN n) fun e w' => e = .returned (.int .u32 ((stored r : Nat) : Int)) ∧ ∃ m, w' = (w.drewN n).drewN m := by
  subst hm
  exact stored_any b off r c (w.drewN n) (hr.drewN n) hl hn hn2
set_option maxRecDepth 8000 in
set_option maxHeartbeats 1000000 in
theorem next_bad (b off : Nat) (l : List Nat) (c : Nat) (w : World) (hr : Byts w (some ⟨b, off, none⟩) l) (hl : Oct l) (h2 : ¬ l.length < 2) (hn2 : l.length ≤ 1000000000000) (h : 400 < sizeL l ∨ (¬ 400 < sizeL l ∧ l.length < sizeL l + 6)) :
    Calls Tryz.prog 82 #[.slice (some ⟨b, off, none⟩) l.length c] w (NextC w l) := by
  obtain ⟨b', off', e, hc⟩ := hr (by omega)
  injection e with e; injection e with e1 e2; subst e1; subst e2
  have c0 := hc 0 (by omega)
  have c1 := hc 1 (by omega)
  have g0 := getD_oct hl 0
  have g1 := getD_oct hl 1
  rw [Nat.add_zero] at c0
  obtain ⟨N, hN⟩ : ∃ N, N = sizeL l := ⟨_, rfl⟩
  have hJ := join2 (l.getD 0 0) (l.getD 1 0) g0 g1
  rw [show 256 * l.getD 0 0 + l.getD 1 0 = sizeL l from rfl, ← hN] at hJ
  have j1 := i64w ((l.getD 0 0 : Int)) (by omega) (by omega)
  have j2 := i64w ((l.getD 1 0 : Int)) (by omega) (by omega)
  have j3 := i64w ((l.getD 0 0 : Int) * 256) (by omega) (by omega)
  rw [← hN] at h
  by_cases h4 : 400 < N
  · have F := Lib.hid (fun nq => nextC_nil w (w.drewN nq) l 13 (next_bad0 h2 (by rw [← hN]; exact h4)) (below_drewN (Below.refl _ _) nq))
    generalize l.getD 0 0 = x0 at *
    generalize l.getD 1 0 = x1 at *
    clear hN hc hr hl h
    go_enter Tryz.func82, Tryz.ntmps82
    go_wp2
    go_quiet (fail)
    go_wp2
    go_ret3
    exact F.out _
  · have h5 : l.length < N + 6 := by omega
    have F := Lib.hid (fun nq => nextC_nil w (w.drewN nq) l 12 (next_short1 h2 (by rw [← hN]; exact h4) (by rw [← hN]; exact h5)) (below_drewN (Below.refl _ _) nq))
    generalize l.getD 0 0 = x0 at *
    generalize l.getD 1 0 = x1 at *
    clear hN hc hr hl h
    go_enter Tryz.func82, Tryz.ntmps82
    go_wp2
    go_quiet (fail)
    go_wp2
    go_ret3
    exact F.out _
theorem ownB_base {w : World} {b b' : Nat} {v : Value} {l : List Nat} (h : OwnB w b v l) (hb : b' ≤ b) : OwnB w b' v l := by
  refine ⟨h.1, ?_⟩
  rcases h.2 with e | ⟨g, cap, cur, e, h1, h2⟩
  · exact .inl e
  · exact .inr ⟨g, cap, cur, e, Nat.le_trans hb h1, h2⟩
set_option maxRecDepth 8000 in
set_option maxHeartbeats 2000000 in
theorem next_full (b off : Nat) (l : List Nat) (c : Nat) (w : World) (hr : Byts w (some ⟨b, off, none⟩) l) (hl : Oct l) (h2 : ¬ l.length < 2) (hn2 : l.length ≤ 1000000000000) (hcap : l.length ≤ c) (h4 : ¬ 400 < sizeL l) (h5 : ¬ l.length < sizeL l + 6) :
    Calls Tryz.prog 82 #[.slice (some ⟨b, off, none⟩) l.length c] w (NextC w l) := by
  obtain ⟨b', off', e, hc⟩ := hr (by omega)
  injection e with e; injection e with e1 e2; subst e1; subst e2
  have c0 := hc 0 (by omega)
  have c1 := hc 1 (by omega)
  have g0 := getD_oct hl 0
  have g1 := getD_oct hl 1
  rw [Nat.add_zero] at c0
  obtain ⟨N, hN⟩ : ∃ N, N = sizeL l := ⟨_, rfl⟩
  have hJ := join2 (l.getD 0 0) (l.getD 1 0) g0 g1
  rw [show 256 * l.getD 0 0 + l.getD 1 0 = sizeL l from rfl, ← hN] at hJ
  have j1 := i64w ((l.getD 0 0 : Int)) (by omega) (by omega)
  have j2 := i64w ((l.getD 1 0 : Int)) (by omega) (by omega)
  have j3 := i64w ((l.getD 0 0 : Int) * 256) (by omega) (by omega)
  have hp1 : Byts w (some ⟨b, off, none⟩) (l.take (N + 2)) := by have := hr.part 0 (N + 2) (by omega); simpa using this
  have hp2 : Byts w (some ⟨b, off + (N + 2), none⟩) (l.drop (N + 2)) := by
    have := hr.part (N + 2) (l.length - (N + 2)) (by omega)
    rwa [List.take_of_length_le (by simp)] at this
  have hp3 : Byts w (some ⟨b, off + 2, none⟩) ((l.drop 2).take N) := hr.part 2 N (by omega)
  have HC1 := Lib.hid (fun (w' : World) (hb : Below w.heap.size w w') c => sum_quiet (some ⟨b, off, none⟩) (l.take (N + 2)) (N + 2) c (by rw [List.length_take]; omega) w' (hp1.below hb) (hl.take _) (by rw [List.length_take]; omega))
  have HC2 := Lib.hid (fun (w' : World) (hb : Below w.heap.size w w') c => stored_quiet b (off + (N + 2)) (l.drop (N + 2)) (l.length - (N + 2)) c (by rw [List.length_drop]) w' (hp2.below hb) (hl.drop _) (by rw [List.length_drop]; omega) (by rw [List.length_drop]; omega))
  have hlen : ((l.drop 2).take N).length = N := by rw [List.length_take, List.length_drop]; omega
  have HC3 := Lib.hid (fun (w' : World) (hb : Below w.heap.size w w') c => by have := clone_anyF (some ⟨b, off + 2, none⟩) ((l.drop 2).take N) c w' (hp3.below hb) (by omega); rw [hlen] at this; exact this)
  by_cases h6 : crc (l.take (N + 2)) = stored (l.drop (N + 2))
  · have hX : nextL l = ((l.drop 2).take N, N + 6, 0) := by rw [hN] at h6 ⊢; exact next_ok h2 h4 h5 h6
    rw [h6] at HC1
    rw [← hN] at h4 h5
    have HX := Lib.hid hX
    generalize l.getD 0 0 = x0 at *
    generalize l.getD 1 0 = x1 at *
    generalize stored (l.drop (N + 2)) = S at *
    clear hN hc hr hl hp1 hp2 hp3 h6 hX hlen
    go_enter Tryz.func82, Tryz.ntmps82
    go_wp2
    go_quiet (fail)
    have q2 : Below w.heap.size w (w.drewN nq) := below_drewN (Below.refl _ _) nq
    clear c0 c1
    generalize w.drewN nq = wq at *
    have C1 := Lib.hid (HC1.out wq q2)
    have C2 := Lib.hid (HC2.out wq q2)
    clear HC1 HC2
    have t1 : (2 + (N : Int)).toNat = N + 2 := by omega
    have t2 : ¬ c = N + 2 := by omega
    go_wp2
    go_quiet (first | (go_at_call 91; exact Calls.quiet_of_same (C1.out _ _)) | (go_at_call 95; exact Calls.quiet_of (C2.out _ _)))
    have q3 : Below w.heap.size w (wq.drewN nq) := below_drewN q2 nq
    clear q2 C1 C2
    generalize wq.drewN nq = wz at *
    have C3 := Lib.hid (HC3.out wz q3)
    clear HC3
    have t3 : N + 2 - 2 = N := by omega
    go_wp2_with (go_at_call 60; refine (C3.out _).mono ?_; rintro e w' ⟨v, rfl, hv, hb⟩)
    go_ret3
    refine ⟨v, ?_, ?_, q3.trans (hb.mono q3.size)⟩
    · rw [HX.out]
      have : (2 : Int) + N + 4 = ((N + 6 : Nat) : Int) := by omega
      rw [this]
      rfl
    · rw [HX.out]; exact ownB_base hv q3.size
  · have hX : nextL l = ([], 0, 13) := by rw [hN] at h6; exact next_bad1 h2 h4 h5 h6
    rw [← hN] at h4 h5
    have HX := Lib.hid hX
    have h7 : (((crc (l.take (N + 2)) : Nat) : Int) == ((stored (l.drop (N + 2)) : Nat) : Int)) = false := by rw [beq_eq_false_iff_ne]; exact fun e => h6 (by exact_mod_cast e)
    have h8 : (((crc (l.take (N + 2)) : Nat) : Int) != ((stored (l.drop (N + 2)) : Nat) : Int)) = true := by rw [bne_iff_ne]; exact fun e => h6 (by exact_mod_cast e)
    generalize l.getD 0 0 = x0 at *
    generalize l.getD 1 0 = x1 at *
    generalize stored (l.drop (N + 2)) = S at *
    generalize crc (l.take (N + 2)) = T at *
    clear hN hc hr hl hp1 hp2 hp3 hX hlen HC3
    go_enter Tryz.func82, Tryz.ntmps82
    go_wp2
    go_quiet (fail)
    have q2 : Below w.heap.size w (w.drewN nq) := below_drewN (Below.refl _ _) nq
    clear c0 c1
    generalize w.drewN nq = wq at *
    have C1 := Lib.hid (HC1.out wq q2)
    have C2 := Lib.hid (HC2.out wq q2)
    clear HC1 HC2
    have t1 : (2 + (N : Int)).toNat = N + 2 := by omega
    have t2 : ¬ c = N + 2 := by omega
    go_wp2
    go_quiet (first | (go_at_call 91; exact Calls.quiet_of_same (C1.out _ _)) | (go_at_call 95; exact Calls.quiet_of (C2.out _ _)))
    have q3 : Below w.heap.size w (wq.drewN nq) := below_drewN q2 nq
    clear q2 C1 C2
    generalize wq.drewN nq = wz at *
    go_wp2
    go_ret3
    exact nextC_nil w wz l 13 HX.out q3
theorem next_any (A : Option Addr) (l : List Nat) (c : Nat) (w : World) (hr : Byts w A l) (hl : Oct l) (hn2 : l.length ≤ 1000000000000) (hcap : l.length ≤ c) :
    Calls Tryz.prog 82 #[.slice A l.length c] w (NextC w l) := by
  by_cases h2 : l.length < 2
  · exact next_tiny A l c w h2
  · obtain ⟨b, off, rfl, _⟩ := hr (by omega)
    by_cases h4 : 400 < sizeL l
    · exact next_bad b off l c w hr hl h2 hn2 (.inl h4)
    · by_cases h5 : l.length < sizeL l + 6
      · exact next_bad b off l c w hr hl h2 hn2 (.inr ⟨h4, h5⟩)
      · exact next_full b off l c w hr hl h2 hn2 hcap h4 h5
end Go.Proofs.YtmpipjangbedkaaGreat

/-
  A law for a range over a function whose iterator hands on new memory: what holds of an element in the world in which it is handed on is told to the loop's body. No program is named here.
-/
namespace Go.Proofs.YtmpipjangbedkaaGreat
set_option maxRecDepth 8000
open Go Go.RowKit Go.Shelf

variable {F : Fence} {n : Nat} {P : Program}

/-- An iterator's word: the rounds are asked only of elements of which Hx holds where they are handed on. -/
def SeqX {α : Type} (F : Fence) (n : Nat) (P : Program) (g : Nat) (lb : Array Value) (encs : α → Array Value) (Hx : List α → α → World → Prop) (Kp : World → World → Prop) (S Sp : List α → Prop) (w : World) : Prop :=
  ∀ (l : Nat) (J Jx : List α → World → Prop) (W : World), Below w.heap.size w W → AbidesFrom W.heap.size J → AbidesFrom W.heap.size Jx →
    (∀ pre x W1, J pre W1 → Hx pre x W1 → YieldAt F (n - 1) P l (encs x) W1 fun e W' =>
      (e = .returned (.bool true) ∧ J (pre ++ [x]) W' ∧ Kp W1 W') ∨ (e = .returned (.bool false) ∧ Jx (pre ++ [x]) W')) →
    J [] W →
    CallsIn F n P g (#[.func (.yield l) #[] #[]] ++ lb) W fun e W' => (∃ v, e = .returned v) ∧ ((∃ xs, S xs ∧ J xs W') ∨ (∃ pre, Sp pre ∧ Jx pre W'))

/-- The two blocks that the loop itself lays: its record, and where its rounds' deferred calls would be. -/
def Laid (rec : LoopState → Option Code → Loop) (B : Nat) (st : LoopState) (pe : Option Code) (W : World) : Prop :=
  W.heap[B + 1]? = some (.loop (rec st pe)) ∧ W.heap[B]? = some (.deferred (some []))
theorem Laid.grown {rec : LoopState → Option Code → Loop} {B : Nat} {st : LoopState} {pe : Option Code} {W W' : World} {row : Option Nat} (h : Laid rec B st pe W) (hg : W.grownBy W' row)
    (hr : ∀ r, row = some r → ∃ o : Obj, W.heap[r]? = some o ∧ o.isWalk = true) : Laid rec B st pe W' :=
  ⟨(grownBy_keeps hg hr h.1 rfl).trans h.1, (grownBy_keeps hg hr h.2 rfl).trans h.2⟩
theorem Laid.put {rec : LoopState → Option Code → Loop} {B : Nat} {st st' : LoopState} {pe pe' : Option Code} {W : World} (h : Laid rec B st pe W) : Laid rec B st' pe' (W.putObj (B + 1) (.loop (rec st' pe'))) :=
  ⟨World.putObj_heap_same (Array.getElem?_eq_some_iff.1 h.1).1, (World.putObj_heap_other (by omega)).trans h.2⟩
theorem Laid.keep {rec : LoopState → Option Code → Loop} {B : Nat} {st : LoopState} {pe : Option Code} {W W' : World} (h : Laid rec B st pe W) (hk : KeepsFrom B W W') : Laid rec B st pe W' :=
  ⟨hk.same _ _ (by omega) h.1 rfl, hk.same _ _ (Nat.le_refl _) h.2 rfl⟩

/-- THE LAW. -/
theorem wpIn_rangeX {α : Type} {g : Operand} {ps : Array Tmp} {assign body : Code} {Q : Exit → Act → World → Prop} {a : Act} {w : World}
    (hro : F.round = none) (h1 : 1 ≤ n) {gf : Nat} {lb : Array Value} (hg : a.eval g = .func (.func gf) #[] lb) (hFg : F.fn gf) (eg : ∀ args w, (callFunc gf args).run P w = .ok (.enter gf args) w)
    {encs : α → Array Value} {Hx : List α → α → World → Prop} {Kp : World → World → Prop} {S Sp : List α → Prop} {w0 : World} (hseq : SeqX F (n - 1) P gf lb encs Hx Kp S Sp w0)
    (hH : ∀ (pre : List α) (x : α) (W : World) (l : Nat) (o o' : Obj), Hx pre x W → W.heap[l]? = some o → o.isCells = false → Hx pre x (W.putObj l o'))
    (hKt : ∀ {A B C : World}, Kp A B → Kp B C → Kp A C) (hKb : ∀ (W : World) (l : Nat) (o o' : Obj), w.heap.size ≤ l → W.heap[l]? = some o → o.isCells = false → o.isWalk = false → Kp W (W.putObj l o')) (hb0 : Below w0.heap.size w0 w) (hps : ∀ x, (encs x).size = ps.size)
    (I : List α → World → Prop) (Ix : Code → List α → World → Prop) (hI : OwnFrom w.heap.size I) (hIx : ∀ c, OwnFrom w.heap.size (Ix c)) (h0 : I [] w) (a₁ : α → Act)
    (hassign : ∀ (l : Nat) (x : α) (W : World) (K : Act → World → Prop), K (a₁ x) W →
      assign.wpIn (F.inRound l) (n - 1 - 1) P (Exit.then K (fun _ _ _ => False)) { tmps := (ps.zip (encs x)).foldl (fun t (p, v) => t.setIfInBounds p v) a.tmps, defers := [] } W)
    (hbody : ∀ (l : Nat) (pre : List α) (x : α) (W : World), I pre W → Hx pre x W → body.wpIn (F.inRound l) (n - 1 - 1) P (ownPostG w.heap.size Kp I Ix (pre ++ [x]) W) (a₁ x) W)
    (hdone : ∀ (D : Nat) (xs : List α) (W : World), w.heap.size ≤ D → S xs → I xs W → W.heap[D]? = some (.deferred (some [])) → Q .normal { a with defers := { target := .collected D, args := #[] } :: a.defers } W)
    (hstop : ∀ (D : Nat) (c : Code) (pre : List α) (W : World), w.heap.size ≤ D → Sp pre → Ix c pre W → W.heap[D]? = some (.deferred (some [])) → c.wpIn F n P Q { a with defers := { target := .collected D, args := #[] } :: a.defers } W) :
    (Code.rangeFunc g ps assign body).wpIn F n P Q a w := by
  refine wpIn_rangeFunc fun fn hfn => ?_
  rw [hro]
  obtain ⟨rec, hrec⟩ : ∃ rec : LoopState → Option Code → Loop, rec = fun st pe => { state := st, pending := pe, fn, tmps := a.tmps, params := ps, assign, body, defers := w.heap.size } := ⟨_, rfl⟩
  obtain ⟨W1, hW1⟩ : ∃ W1, W1 = (w.alloc (.deferred (some []))).alloc (.loop (rec .ready none)) := ⟨_, rfl⟩
  have hL1 : Laid rec w.heap.size .ready none W1 := by
    rw [hW1]
    refine ⟨?_, (Below.heap_alloc _ _ _ (by simp)).trans (World.alloc_heap_new w _)⟩
    have := World.alloc_heap_new (w.alloc (.deferred (some []))) (.loop (rec .ready none))
    rwa [World.size_alloc] at this
  have hsz1 : W1.heap.size = w.heap.size + 1 + 1 := by rw [hW1]; simp
  have hI1 : I [] W1 := by rw [hW1]; exact hI.alloc _ (hI.alloc _ h0)
  have hb1 : Below w0.heap.size w0 W1 := by rw [hW1]; exact hb0.trans ((((Below.refl _ w).alloc (Nat.le_refl _) _).alloc (by simp) _).mono hb0.size)
  refine ⟨w.heap.size + 1, [{ target := .collected w.heap.size, args := #[] }], W1, { target := .fn (.func gf) lb, args := #[.func (.yield (w.heap.size + 1)) #[] #[]] }, W1, gf,
    #[.func (.yield (w.heap.size + 1)) #[] #[]] ++ lb, W1, by rw [hW1, hrec]; exact run_enterLoop_outer _ _ _ _ _, by simp only [resolve, hg]; simp [go_sem], fun f' hf' => by simp [Target.leads] at hf'; subst hf'; exact hFg, by simp [invoke, go_sem, eg], fun _ => h1, ?_⟩
  -- the iterator, at the caller's invariant beside the loop's own two blocks
  refine (hseq (w.heap.size + 1) (fun pre W => I pre W ∧ Laid rec w.heap.size .ready none W) (fun pre W => ∃ c, Ix c pre W ∧ Laid rec w.heap.size .done (some c) W) W1 hb1 ?own ?ownX ?round ⟨hI1, hL1⟩).mono ?_
  case own =>
    intro s A B row hs hgr hr
    exact ⟨hI s A B row hs.1 hgr (fun r e => by obtain ⟨hB, o, ho, hw⟩ := hr r e; exact ⟨by omega, o, ho, Obj.not_cells_of_walk hw⟩), hs.2.grown hgr (fun r e => (hr r e).2)⟩
  case ownX =>
    rintro s A B row ⟨c, hc, hl⟩ hgr hr
    exact ⟨c, hIx c s A B row hc hgr (fun r e => by obtain ⟨hB, o, ho, hw⟩ := hr r e; exact ⟨by omega, o, ho, Obj.not_cells_of_walk hw⟩), hl.grown hgr (fun r e => (hr r e).2)⟩
  case round =>
    rintro pre x W ⟨hi, hl⟩ hx
    have hy := run_yield (P := P) (args := encs x) hl.1 (by rw [hrec]; exact hps x)
    rw [hrec] at hy
    refine ⟨fn, _, assign, body, hy, roundIn_of_wpIn hfn (hassign _ x W _ ⟨_, run_beginRound hl.1 (by rw [hrec]), ?_⟩)⟩
    have hl2 : Laid rec w.heap.size .busy none (W.putObj (w.heap.size + 1) (.loop { rec .ready none with state := .busy })) := by
      have := hl.put (st' := .busy) (pe' := none)
      rw [hrec] at this ⊢
      exact this
    have hw2 : Kp W (W.putObj (w.heap.size + 1) (.loop { rec .ready none with state := .busy })) := hKb _ _ _ _ (by omega) hl.1 rfl rfl
    refine wpIn_mono (hbody _ pre x _ (hI.putObj _ hi (by omega) hl.1 rfl) (hH pre x W _ _ _ hx hl.1 rfl)) ?_
    have hend : ∀ (jump : Option Code) (W3 : World), Laid rec w.heap.size .busy none W3 →
        (Instr.endRound (w.heap.size + 1) jump).run P W3 = .ok (.bool jump.isNone) (W3.putObj (w.heap.size + 1) (.loop (rec (if jump.isNone then .ready else .done) jump))) := fun jump W3 h3 => by
      have := run_endRound (P := P) jump h3.1
      rw [hrec] at this ⊢
      exact this
    rintro e a3 W3 hp
    cases e with
    | normal =>
      have h3 := hl2.keep hp.1
      exact ⟨_, _, hend none W3 h3, .inl ⟨rfl, ⟨hI.putObj _ hp.2.2 (by omega) h3.1 rfl, h3.put⟩, hKt (hKt hw2 hp.2.1) (hKb _ _ _ _ (by omega) h3.1 rfl rfl)⟩⟩
    | ret =>
      have h3 := hl2.keep hp.1
      exact ⟨_, _, hend (some .ret) W3 h3, .inr ⟨rfl, .ret, (hIx _).putObj _ hp.2 (by omega) h3.1 rfl, h3.put⟩⟩
    | exit id =>
      have h3 := hl2.keep hp.1
      exact ⟨_, _, hend (some (.exit id)) W3 h3, .inr ⟨rfl, .exit id, (hIx _).putObj _ hp.2 (by omega) h3.1 rfl, h3.put⟩⟩
    | goto t =>
      have h3 := hl2.keep hp.1
      exact ⟨_, _, hend (some (.goto t)) W3 h3, .inr ⟨rfl, .goto t, (hIx _).putObj _ hp.2 (by omega) h3.1 rfl, h3.put⟩⟩
    | panic ch => exact hp.elim
    | outgrown => exact hp.elim
  -- behind the iterator
  rintro e W2 ⟨⟨v, rfl⟩, (⟨xs, hS, hi, hl⟩ | ⟨pre, hSp, c, hi, hl⟩)⟩
  · exact ⟨none, _, by have := run_endLoop (P := P) hl.1 (by rw [hrec]; simp); rw [hrec] at this; exact this, hdone _ xs _ (Nat.le_refl _) hS (hI.putObj _ hi (by omega) hl.1 rfl) ((World.putObj_heap_other (by omega)).trans hl.2)⟩
  · exact ⟨some c, _, by have := run_endLoop (P := P) hl.1 (by rw [hrec]; simp); rw [hrec] at this; exact this, hstop _ c pre _ (Nat.le_refl _) hSp ((hIx c).putObj _ hi (by omega) hl.1 rfl) ((World.putObj_heap_other (by omega)).trans hl.2)⟩
end Go.Proofs.YtmpipjangbedkaaGreat
