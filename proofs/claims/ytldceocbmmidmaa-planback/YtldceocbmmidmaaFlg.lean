/-
  Worlds by flags, for drawn regions: a list's literal and its append and a last store; stores into one block. No program is named here.
-/
import Derived.Test.YtldceocbmmidmaaDag5
import Derived.Test.YtldceocbmmidmaaTpB
namespace Go.Proofs.Ytldceocbmmidmaa
open Go

/-- Values by place. -/
def spV (l : List Value) (i : Nat) (v : Value) (_ : World) : Prop := v = l.getD i undef
theorem upd_at {α : Type} (f : Nat → α) (d : Nat) (v : α) : upd f d v d = v := by unfold upd; rw [if_pos rfl]
theorem upd_ne {α : Type} (f : Nat → α) {d e : Nat} (v : α) (h : e ≠ d) : upd f d v e = f e := by unfold upd; rw [if_neg h]
theorem waits_up {n : Nat} {o : Oper} {L : Nat → Bool} (h : waitsB n o = true) (hup : ∀ e ∈ o.after, Region.binds .any e = true → L e.on = true) : ∀ j, j < n → L j = true := by
  intro j hj
  obtain ⟨e, he, h1, h2⟩ := waitsB_get h j hj
  have h3 := hup e (by simpa using he) h2
  rw [h1] at h3
  exact h3
/-- A region in which operation b makes a literal (world W1), c appends it (W2), z stores (W3) behind all others. -/
structure FlA (b c z : Nat) (W0 W1 W2 W3 : World) (L : Nat → Bool) (W : World) : Prop where
  lo : L z = false → W = if L c = true then W2 else if L b = true then W1 else W0
  hi : L z = true → W = W3 ∧ ∀ j, j < z → L j = true
  bc : L c = true → L b = true
section
variable {b c z : Nat} {W0 W1 W2 W3 : World} {L : Nat → Bool} {W : World}
theorem FlA.start : FlA b c z W0 W1 W2 W3 (fun _ => false) W0 := ⟨fun _ => rfl, fun h => (by cases h), fun h => (by cases h)⟩
theorem FlA.low (h : FlA b c z W0 W1 W2 W3 L W) {i : Nat} (hi : i < z) (hL : L i = false) : L z = false := by
  cases hz : L z
  · rfl
  · rw [(h.hi hz).2 i hi] at hL; cases hL
/-- An operation that leaves the world as it is. -/
theorem FlA.keep (h : FlA b c z W0 W1 W2 W3 L W) {i : Nat} (hi : i < z) (hL : L i = false) (hb : i ≠ b) (hc : i ≠ c) : FlA b c z W0 W1 W2 W3 (upd L i true) W := by
  have hz := h.low hi hL
  refine ⟨fun _ => ?_, fun hzz => ?_, fun hcc => ?_⟩
  · rw [upd_ne _ _ (Ne.symm hb), upd_ne _ _ (Ne.symm hc)]; exact h.lo hz
  · rw [upd_ne _ _ (by omega : z ≠ i), hz] at hzz; cases hzz
  · rw [upd_ne _ _ (Ne.symm hc)] at hcc
    rw [upd_ne _ _ (Ne.symm hb)]; exact h.bc hcc
theorem FlA.one (h : FlA b c z W0 W1 W2 W3 L W) {i : Nat} (hi : i < z) (hL : L i = false) : W = W0 ∨ W = W1 ∨ W = W2 := by
  have := h.lo (h.low hi hL)
  split at this
  · exact .inr (.inr this)
  · split at this
    · exact .inr (.inl this)
    · exact .inl this
theorem FlA.lit (h : FlA b c z W0 W1 W2 W3 L W) (hb : b < z) (hbc : b ≠ c) (hL : L b = false) : W = W0 ∧ FlA b c z W0 W1 W2 W3 (upd L b true) W1 := by
  have hz := h.low hb hL
  have hc : L c = false := by
    cases hc : L c
    · rfl
    · rw [h.bc hc] at hL; cases hL
  have hW := h.lo hz
  rw [hc, hL] at hW
  refine ⟨by simpa using hW, fun _ => ?_, fun hzz => ?_, fun hcc => ?_⟩
  · rw [upd_at, upd_ne _ _ (Ne.symm hbc), hc]; simp
  · rw [upd_ne _ _ (by omega : z ≠ b), hz] at hzz; cases hzz
  · rw [upd_at]
theorem FlA.app (h : FlA b c z W0 W1 W2 W3 L W) (hc : c < z) (hbc : b ≠ c) (hL : L c = false) (hB : L b = true) : W = W1 ∧ FlA b c z W0 W1 W2 W3 (upd L c true) W2 := by
  have hz := h.low hc hL
  have hW := h.lo hz
  rw [hL, hB] at hW
  refine ⟨by simpa using hW, fun _ => ?_, fun hzz => ?_, fun _ => ?_⟩
  · rw [upd_at]; simp
  · rw [upd_ne _ _ (by omega : z ≠ c), hz] at hzz; cases hzz
  · rw [upd_ne _ _ hbc]; exact hB
theorem FlA.store (h : FlA b c z W0 W1 W2 W3 L W) (hc : c < z) (hL : L z = false) (hall : ∀ j, j < z → L j = true) (hb : b < z) : W = W2 ∧ FlA b c z W0 W1 W2 W3 (upd L z true) W3 := by
  have hW := h.lo hL
  rw [hall c hc] at hW
  refine ⟨by simpa using hW, fun hzz => ?_, fun _ => ⟨rfl, fun j hj => ?_⟩, fun _ => ?_⟩
  · rw [upd_at] at hzz; cases hzz
  · rw [upd_ne _ _ (by omega : j ≠ z)]; exact hall j hj
  · rw [upd_ne _ _ (by omega : b ≠ z)]; exact hall b hb
theorem FlA.last (h : FlA b c z W0 W1 W2 W3 L W) (hL : L z = true) : W = W3 := (h.hi hL).1
end
/-- A block of six cells behind its first, each of which one operation stores. -/
def sixC (s : List Nat) (v : Value) (o n : List Value) (L : Nat → Bool) : List Value :=
  v :: (List.range 6).map fun j => if L (s.getD j 0) = true then n.getD j undef else o.getD j undef
structure FlS (s : List Nat) (B : Nat) (t : TypeId) (v : Value) (o n : List Value) (W0 : World) (L : Nat → Bool) (W : World) : Prop where
  rec' : Rec W B t (sixC s v o n L)
  touch : Touch (fun k => k = B) W0 W
  size : W.heap.size = W0.heap.size
section
variable {s : List Nat} {B : Nat} {t : TypeId} {v : Value} {o n : List Value} {W0 : World} {L : Nat → Bool} {W : World}
theorem FlS.keep (h : FlS s B t v o n W0 L W) {i : Nat} (hs : s.length = 6) (hi : i ∉ s) : FlS s B t v o n W0 (upd L i true) W := by
  refine ⟨?_, h.touch, h.size⟩
  have e : sixC s v o n (upd L i true) = sixC s v o n L := by
    unfold sixC
    congr 1
    refine List.map_congr_left fun j hj => ?_
    have hj6 : j < 6 := List.mem_range.1 hj
    rw [upd_ne _ _ (fun e => hi (by rw [← e, List.getD_eq_getElem?_getD, List.getElem?_eq_getElem (by omega)]; exact List.getElem_mem _))]
  rw [e]
  exact h.rec'
/-- One of the stores. -/
theorem FlS.set (h : FlS s B t v o n W0 L W) (hs : s.length = 6) (hn : s.Nodup) {j : Nat} (hj : j < 6) : FlS s B t v o n W0 (upd L (s.getD j 0) true) (W.setCell ⟨B, j + 1, none⟩ (n.getD j undef)) := by
  refine ⟨?_, ?_, by rw [← h.size]; simp [World.setCell]⟩
  · have hr := Rec.set h.rec' (j + 1) (n.getD j undef)
    have e : (sixC s v o n L).set (j + 1) (n.getD j undef) = sixC s v o n (upd L (s.getD j 0) true) := by
      unfold sixC
      rw [List.set_cons_succ]
      congr 1
      refine List.ext_getElem (by simp) fun i h1 h2 => ?_
      have hi6 : i < 6 := by simpa using h2
      rw [List.getElem_set]
      simp only [List.getElem_map, List.getElem_range]
      by_cases e : j = i
      · subst e
        rw [if_pos rfl, upd_at, if_pos rfl]
      · rw [if_neg e, upd_ne]
        intro he
        rw [List.getD_eq_getElem?_getD, List.getD_eq_getElem?_getD, List.getElem?_eq_getElem (by omega : i < s.length), List.getElem?_eq_getElem (by omega : j < s.length)] at he
        have hp := List.pairwise_iff_getElem.1 hn
        rcases Nat.lt_or_gt_of_ne e with h9 | h9
        · exact hp j i (by omega) (by omega) h9 he.symm
        · exact hp i j (by omega) (by omega) h9 he
    rw [← e]
    exact hr
  · exact h.touch.trans (Touch.setCell W ⟨B, j + 1, none⟩ _) (fun _ _ h => h)
/-- When all have been stored. -/
theorem FlS.all (h : FlS s B t v o n W0 L W) (hL : ∀ j, j < 6 → L (s.getD j 0) = true) : Rec W B t (v :: (List.range 6).map fun j => n.getD j undef) := by
  have e : sixC s v o n L = v :: (List.range 6).map fun j => n.getD j undef := by
    unfold sixC
    congr 1
    refine List.map_congr_left fun j hj => ?_
    rw [if_pos (hL j (List.mem_range.1 hj))]
  rw [← e]
  exact h.rec'
end
end Go.Proofs.Ytldceocbmmidmaa
