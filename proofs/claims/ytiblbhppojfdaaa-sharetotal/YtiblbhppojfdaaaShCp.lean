/-
  Plain numbers: a total cut by weights up to caps, in rounds. No program is named here.
-/
import Derived.Test.YtiblbhppojfdaaaShPr
import Derived.Test.YtiblbhppojfdaaaSh2
namespace Go.Proofs.Ytiblbhppojfdaaa
open Go.RowKit

/-- The first k of b; then those of a. -/
def mix (a b : List Int) (k : Nat) : List Int := (List.range a.length).map fun i => if i < k then b.getD i 0 else a.getD i 0
theorem mix_length (a b : List Int) (k : Nat) : (mix a b k).length = a.length := by simp [mix]
theorem mix_getD (a b : List Int) (k i : Nat) (h : i < a.length) : (mix a b k).getD i 0 = if i < k then b.getD i 0 else a.getD i 0 := by
  unfold mix
  rw [getD_map _ _ _ 0 (by simpa using h)]
  simp [List.getD_eq_getElem?_getD, h]
theorem mix_zero (a b : List Int) : mix a b 0 = a := by
  apply ext_getD (mix_length _ _ _)
  intro i hi
  rw [mix_length] at hi
  rw [mix_getD _ _ _ _ hi, if_neg (by omega)]
theorem mix_all (a b : List Int) (h : a.length = b.length) (k : Nat) (hk : k = a.length) : mix a b k = b := by
  subst hk
  apply ext_getD ((mix_length _ _ _).trans h)
  intro i hi
  rw [mix_length] at hi
  rw [mix_getD _ _ _ _ hi, if_pos hi]
theorem mix_step (a b : List Int) (k : Nat) (h : k < a.length) : (mix a b k).set k (b.getD k 0) = mix a b (k + 1) := by
  apply ext_getD (by simp [mix])
  intro i hi
  rw [List.length_set, mix_length] at hi
  rw [mix_getD _ _ _ _ hi]
  by_cases e : k = i
  · subst e
    rw [getD_set_same _ (by rw [mix_length]; exact h), if_pos (by omega)]
  · rw [getD_set_ne _ e, mix_getD _ _ _ _ hi]
    by_cases h1 : i < k
    · rw [if_pos h1, if_pos (by omega)]
    · rw [if_neg h1, if_neg (by omega)]

/-- What each gets of its part, up to what it lacks. -/
def gotL (p s c : List Int) : List Int := (List.range s.length).map fun i => min (p.getD i 0) (c.getD i 0 - s.getD i 0)
def addL (s g : List Int) : List Int := (List.range s.length).map fun i => s.getD i 0 + g.getD i 0
theorem gotL_length (p s c : List Int) : (gotL p s c).length = s.length := by simp [gotL]
theorem addL_length (s g : List Int) : (addL s g).length = s.length := by simp [addL]
theorem gotL_getD (p s c : List Int) (i : Nat) (h : i < s.length) : (gotL p s c).getD i 0 = min (p.getD i 0) (c.getD i 0 - s.getD i 0) := by
  unfold gotL
  rw [getD_map _ _ _ 0 (by simpa using h)]
  simp [List.getD_eq_getElem?_getD, h]
theorem addL_getD (s g : List Int) (i : Nat) (h : i < s.length) : (addL s g).getD i 0 = s.getD i 0 + g.getD i 0 := by
  unfold addL
  rw [getD_map _ _ _ 0 (by simpa using h)]
  simp [List.getD_eq_getElem?_getD, h]
/-- One round: what each gets; the shares; what is left. -/
def stepG (w c s : List Int) (f : Int) : List Int := gotL (splitL f (openL w s c)) s c
def stepS (w c s : List Int) (f : Int) : List Int := addL s (stepG w c s f)
def stepF (w c s : List Int) (f : Int) : Int := f - (stepG w c s f).sum
/-- Is there another round? -/
def goes (w c s : List Int) (f : Int) : Bool := decide (0 < f) && anyPos (openL w s c)
def capRun (w c : List Int) : Nat → List Int → Int → List Int × Int
  | 0, s, f => (s, f)
  | n + 1, s, f => if goes w c s f then capRun w c n (stepS w c s f) (stepF w c s f) else (s, f)
/-- Shares up to caps, and what is left. -/
def cappedL (t : Int) (w c : List Int) : List Int × Int := capRun w c (w.length + 1) (List.replicate w.length 0) t

/-- What stands between two rounds. -/
structure CapI (t : Int) (w c s : List Int) (f : Int) : Prop where
  ht : I64 t
  f0 : 0 ≤ f
  ft : f ≤ t
  len : s.length = w.length
  clen : c.length = w.length
  s0 : ∀ i, i < w.length → 0 ≤ s.getD i 0
  sc : ∀ i, i < w.length → s.getD i 0 ≤ c.getD i 0
  c1 : ∀ x ∈ c, I64 x
  w0 : ∀ x ∈ w, 0 ≤ x
  wS : I64 w.sum
  wn : w.length ≤ 64
  wz : ∀ i, i < w.length → w.getD i 0 = 0 → s.getD i 0 = 0
  sum : s.sum + f = t

theorem zeros_getD (n i : Nat) : (List.replicate n (0 : Int)).getD i 0 = 0 := by
  by_cases h : i < n
  · simp [List.getD_eq_getElem?_getD, h]
  · rw [List.getD_eq_getElem?_getD, List.getElem?_eq_none (by simpa using h)]; rfl
theorem CapI.start (t : Int) (w c : List Int) (ht : I64 t) (h0 : 0 ≤ t) (hc : c.length = w.length) (hc0 : ∀ x ∈ c, 0 ≤ x) (hc1 : ∀ x ∈ c, I64 x) (hw : ∀ x ∈ w, 0 ≤ x) (hS : I64 w.sum) (hn : w.length ≤ 64) : CapI t w c (List.replicate w.length 0) t where
  ht := ht
  f0 := h0
  ft := Int.le_refl _
  len := by simp
  clen := hc
  s0 := fun i _ => by rw [zeros_getD]; omega
  sc := fun i hi => by rw [zeros_getD]; exact hc0 _ (getD_mem (by omega))
  c1 := hc1
  w0 := hw
  wS := hS
  wn := hn
  wz := fun i _ _ => zeros_getD _ _
  sum := by rw [sum_zeros]; omega

theorem openL_nn (w s c : List Int) (hw : ∀ x ∈ w, 0 ≤ x) : ∀ x ∈ openL w s c, 0 ≤ x := by
  intro x hx
  unfold openL at hx
  obtain ⟨i, hi, rfl⟩ := List.mem_map.1 hx
  split
  · exact hw _ (getD_mem (by simpa using hi))
  · omega
theorem openL_sum_le (w s c : List Int) (hw : ∀ x ∈ w, 0 ≤ x) : (openL w s c).sum ≤ w.sum := by
  rw [← range_sum w]
  unfold openL
  refine sum_map_le _ _ _ (fun i hi => ?_)
  have := hw _ (getD_mem (l := w) (i := i) (by simpa using hi))
  split <;> omega

section
variable {t : Int} {w c s : List Int} {f : Int} (h : CapI t w c s f)
include h
theorem CapI.open_i64 : I64 (openL w s c).sum := by
  have h1 := openL_sum_le w s c h.w0
  have h2 := sum_nn _ (openL_nn w s c h.w0)
  have h3 := h.wS
  unfold I64 at *
  omega
theorem CapI.open_pos (hg : goes w c s f = true) : 0 < (openL w s c).sum ∧ 0 < f := by
  unfold goes at hg
  simp at hg
  exact ⟨pos_sum (openL_nn w s c h.w0) (anyPos_true hg.2), hg.1⟩
theorem CapI.part_nn (hg : goes w c s f = true) (i : Nat) : 0 ≤ (splitL f (openL w s c)).getD i 0 := by
  by_cases hi : i < (splitL f (openL w s c)).length
  · exact splitL_nn f _ h.f0 (openL_nn w s c h.w0) (h.open_pos hg).1 _ (getD_mem hi)
  · rw [List.getD_eq_getElem?_getD, List.getElem?_eq_none (by omega)]; simp
theorem CapI.got (hg : goes w c s f = true) (i : Nat) (hi : i < w.length) : 0 ≤ (stepG w c s f).getD i 0 ∧ (stepG w c s f).getD i 0 ≤ (splitL f (openL w s c)).getD i 0 ∧ (stepG w c s f).getD i 0 ≤ c.getD i 0 - s.getD i 0 := by
  have h1 := h.part_nn hg i
  have h2 := h.sc i hi
  unfold stepG
  rw [gotL_getD _ _ _ _ (by rw [h.len]; exact hi)]
  omega
theorem CapI.got_nn (hg : goes w c s f = true) : ∀ x ∈ stepG w c s f, 0 ≤ x := by
  intro x hx
  obtain ⟨i, hi, rfl⟩ := List.getElem_of_mem hx
  have hl : i < w.length := by unfold stepG at hi; rw [gotL_length, h.len] at hi; exact hi
  have := (h.got hg i hl).1
  rw [List.getD_eq_getElem?_getD, List.getElem?_eq_getElem hi] at this
  exact this
theorem CapI.got_sum (hg : goes w c s f = true) : (stepG w c s f).sum ≤ f := by
  have hp := h.open_pos hg
  have e := splitL_sum f (openL w s c) h.f0 (openL_nn w s c h.w0) hp.1
  have h1 : (stepG w c s f).length = w.length := by unfold stepG; rw [gotL_length, h.len]
  have h2 : (splitL f (openL w s c)).length = w.length := by rw [splitL_length, openL_length]
  have h3 : (stepG w c s f).sum ≤ (splitL f (openL w s c)).sum := by
    rw [← range_sum (stepG w c s f), ← range_sum (splitL f (openL w s c)), h1, h2]
    exact sum_map_le _ _ _ (fun i hi => (h.got hg i (by simpa using hi)).2.1)
  omega
theorem CapI.next (hg : goes w c s f = true) : CapI t w c (stepS w c s f) (stepF w c s f) where
  ht := h.ht
  f0 := by have := h.got_sum hg; unfold stepF; omega
  ft := by have := sum_nn _ (h.got_nn hg); have := h.ft; unfold stepF; omega
  len := by unfold stepS; rw [addL_length]; exact h.len
  clen := h.clen
  s0 := fun i hi => by
    have h1 := h.got hg i hi
    have h2 := h.s0 i hi
    unfold stepS
    rw [addL_getD _ _ _ (by rw [h.len]; exact hi)]
    omega
  sc := fun i hi => by
    have h1 := h.got hg i hi
    unfold stepS
    rw [addL_getD _ _ _ (by rw [h.len]; exact hi)]
    omega
  c1 := h.c1
  w0 := h.w0
  wS := h.wS
  wn := h.wn
  wz := fun i hi hz => by
    have h1 := h.got hg i hi
    have h2 := h.wz i hi hz
    have h3 := splitL_none f (openL w s c) h.f0 (openL_nn w s c h.w0) (h.open_pos hg).1 i (by rw [openL_length]; exact hi) (by rw [openL_getD _ _ _ _ hi, hz]; split <;> rfl)
    unfold stepS
    rw [addL_getD _ _ _ (by rw [h.len]; exact hi)]
    omega
  sum := by
    have h1 := h.sum
    have h2 : (stepS w c s f).sum = s.sum + (stepG w c s f).sum := by
      unfold stepS addL
      rw [sum_map_add, range_sum]
      congr 1
      have : s.length = (stepG w c s f).length := by unfold stepG; rw [gotL_length]
      rw [this, range_sum]
    unfold stepF
    omega
theorem CapI.code (hg : goes w c s f = true) : splitC f (openL w s c) = 0 ∧ splitV f (openL w s c) = splitL f (openL w s c) := by
  have hf := (h.open_pos hg).2
  have e : splitC f (openL w s c) = 0 := by
    have ha : anyPos (openL w s c) = true := by unfold goes at hg; simp at hg; exact hg.2
    have hb : (openL w s c).any (fun x => decide (x < 0)) = false := by
      rw [List.any_eq_false]
      intro x hx
      have := openL_nn w s c h.w0 x hx
      simp; omega
    unfold splitC
    rw [hb, openL_length, decide_eq_true h.wn, decide_eq_false (p := f < 0) (by omega), fits_of h.open_i64]
    change (if (false || !(true && !false) || (decide (0 < f) && !(anyPos (openL w s c)))) = true then (1 : Int) else if true = true then 0 else 2) = 0
    rw [ha]
    simp
  exact ⟨e, by unfold splitV; rw [if_pos e]⟩
end

/-- How many lack something to their cap. -/
def openCnt (s c : List Int) : Nat := (List.range s.length).countP fun i => decide (s.getD i 0 < c.getD i 0)
def mu (s c : List Int) (f : Int) : Nat := openCnt s c + if 0 < f then 1 else 0
theorem countP_le_of {α : Type} (p q : α → Bool) (l : List α) (hpq : ∀ x ∈ l, p x = true → q x = true) : l.countP p ≤ l.countP q := by
  induction l with
  | nil => simp
  | cons x l ih =>
    have h1 := ih (fun y hy => hpq y (List.mem_cons_of_mem _ hy))
    have h2 := hpq x List.mem_cons_self
    rw [List.countP_cons, List.countP_cons]
    cases hp : p x
    · simp; omega
    · rw [h2 hp]; simp; omega
theorem countP_lt_of {α : Type} (p q : α → Bool) (l : List α) (hpq : ∀ x ∈ l, p x = true → q x = true) (x : α) (hx : x ∈ l) (h1 : p x = false) (h2 : q x = true) : l.countP p < l.countP q := by
  induction l with
  | nil => simp at hx
  | cons y l ih =>
    rw [List.countP_cons, List.countP_cons]
    rcases List.mem_cons.1 hx with rfl | hx
    · have := countP_le_of p q l (fun z hz => hpq z (List.mem_cons_of_mem _ hz))
      rw [h1, h2]; simp; omega
    · have h3 := ih (fun z hz => hpq z (List.mem_cons_of_mem _ hz)) hx
      have h4 := hpq y List.mem_cons_self
      cases hp : p y
      · simp; omega
      · rw [h4 hp]; simp; omega
theorem CapI.less {t : Int} {w c s : List Int} {f : Int} (h : CapI t w c s f) (hg : goes w c s f = true) : mu (stepS w c s f) c (stepF w c s f) < mu s c f := by
  have hp := h.open_pos hg
  have hn := h.next hg
  have hl : (stepS w c s f).length = s.length := by unfold stepS; rw [addL_length]
  have hsub : ∀ i ∈ List.range s.length, decide ((stepS w c s f).getD i 0 < c.getD i 0) = true → decide (s.getD i 0 < c.getD i 0) = true := by
    intro i hi
    have hi' : i < w.length := by rw [← h.len]; simpa using hi
    have h1 := h.got hg i hi'
    unfold stepS
    rw [addL_getD _ _ _ (by rw [h.len]; exact hi'), decide_eq_true_eq, decide_eq_true_eq]
    omega
  unfold mu openCnt
  rw [hl, if_pos hp.2]
  by_cases h0 : 0 < stepF w c s f
  · rw [if_pos h0]
    -- one that was open has its cap
    have e := splitL_sum f (openL w s c) h.f0 (openL_nn w s c h.w0) hp.1
    have h1 : (stepG w c s f).length = w.length := by unfold stepG; rw [gotL_length, h.len]
    have h2 : (splitL f (openL w s c)).length = w.length := by rw [splitL_length, openL_length]
    have hex : ∃ i, i < w.length ∧ (stepG w c s f).getD i 0 < (splitL f (openL w s c)).getD i 0 := by
      refine Classical.byContradiction fun hno => ?_
      have h3 : (splitL f (openL w s c)).sum ≤ (stepG w c s f).sum := by
        rw [← range_sum (stepG w c s f), ← range_sum (splitL f (openL w s c)), h1, h2]
        refine sum_map_le _ _ _ (fun i hi => ?_)
        have hi' : i < w.length := by simpa using hi
        exact Int.not_lt.1 fun hlt => hno ⟨i, hi', hlt⟩
      unfold stepF at h0
      omega
    obtain ⟨i, hi, hlt⟩ := hex
    have hgi := h.got hg i hi
    have he : (stepG w c s f).getD i 0 = c.getD i 0 - s.getD i 0 := by
      unfold stepG at hlt ⊢
      rw [gotL_getD _ _ _ _ (by rw [h.len]; exact hi)] at hlt ⊢
      omega
    have hopen : s.getD i 0 < c.getD i 0 := by
      refine Classical.byContradiction fun hno => ?_
      have hz : (openL w s c).getD i 0 = 0 := by rw [openL_getD _ _ _ _ hi, if_neg hno]
      have := splitL_none f (openL w s c) h.f0 (openL_nn w s c h.w0) hp.1 i (by rw [openL_length]; exact hi) hz
      omega
    have := countP_lt_of _ _ _ hsub i (by rw [h.len]; simpa using hi) (by
      unfold stepS
      rw [addL_getD _ _ _ (by rw [h.len]; exact hi)]
      exact decide_eq_false (by omega)) (decide_eq_true hopen)
    omega
  · rw [if_neg h0]
    have := countP_le_of _ _ _ hsub
    omega
theorem goes_not {w c s : List Int} {f : Int} (h : goes w c s f = false) (n : Nat) : capRun w c n s f = (s, f) := by
  cases n with
  | zero => rfl
  | succ n => simp [capRun, h]
theorem capRun_enough {t : Int} {w c : List Int} : ∀ (n m : Nat) (s : List Int) (f : Int), CapI t w c s f → mu s c f ≤ n → mu s c f ≤ m → capRun w c n s f = capRun w c m s f := by
  intro n
  induction n with
  | zero =>
    intro m s f h hn hm
    have hg : goes w c s f = false := by
      cases hg : goes w c s f
      · rfl
      · have := h.less hg; omega
    rw [goes_not hg, goes_not hg]
  | succ n ih =>
    intro m s f h hn hm
    cases hg : goes w c s f
    · rw [goes_not hg, goes_not hg]
    · have hl := h.less hg
      cases m with
      | zero => omega
      | succ m =>
        simp only [capRun, hg, if_true]
        exact ih m _ _ (h.next hg) (by omega) (by omega)
theorem mu_le (s c : List Int) (f : Int) : mu s c f ≤ s.length + 1 := by
  unfold mu openCnt
  have := List.countP_le_length (p := fun i => decide (s.getD i 0 < c.getD i 0)) (l := List.range s.length)
  rw [List.length_range] at this
  split <;> omega
theorem CapI.end_ {t : Int} {w c s : List Int} {f : Int} (h : CapI t w c s f) (hg : goes w c s f = true) : capRun w c (w.length + 1) s f = capRun w c (w.length + 1) (stepS w c s f) (stepF w c s f) := by
  have h1 := mu_le s c f
  rw [h.len] at h1
  have h2 := h.less hg
  rw [capRun_enough (w.length + 1 + 1) (w.length + 1) s f h (by omega) h1 |>.symm]
  simp only [capRun, hg, if_true]
end Go.Proofs.Ytiblbhppojfdaaa
