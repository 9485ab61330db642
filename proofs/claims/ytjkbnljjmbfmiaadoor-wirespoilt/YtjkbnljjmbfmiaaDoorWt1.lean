/-
  Lines of text: a word and fields, each behind a blank. (No program is named here.)
-/
import Derived.Test.YtjkbnljjmbfmiaaDoorWr4
import Derived.Test.YtjkbnljjmbfmiaaDoorPv3
import Derived.Lib.ParseIntB
import Derived.Lib.ItoaNum
namespace Go.Proofs.YtjkbnljjmbfmiaaDoor
open Go Go.RowKit
set_option linter.unusedVariables false

/-- Fields, each behind a blank. -/
def tailOf : List (List Nat) → List Nat
  | [] => []
  | f :: fs => 32 :: (f ++ tailOf fs)
def fieldL (e : Ev) (f : Nat) : List Nat := if f = 83 then sideOf e.kind e.side else dec (e.val f)
/-- The line of an event. -/
def textL (e : Ev) : List Nat := wordOf e.kind ++ tailOf ((fieldsOf e.kind).map (fieldL e))
theorem tail_app (a b : List (List Nat)) : tailOf (a ++ b) = tailOf a ++ tailOf b := by
  induction a with
  | nil => rfl
  | cons f a ih => rw [List.cons_append, tailOf, ih, tailOf, List.cons_append, List.append_assoc]
/-- What stands between blanks. -/
def cutB : List Nat → List (List Nat)
  | [] => [[]]
  | c :: r => if c = 32 then [] :: cutB r else (match cutB r with | [] => [[c]] | h :: t => (c :: h) :: t)
def Solid (l : List Nat) : Prop := ∀ x ∈ l, x ≠ 32
theorem cut_ne (l : List Nat) : cutB l ≠ [] := by
  cases l with
  | nil => simp [cutB]
  | cons c r =>
    rw [cutB]
    split
    · simp
    · split <;> simp
theorem cut_solid {l : List Nat} (h : Solid l) : cutB l = [l] := by
  induction l with
  | nil => rfl
  | cons c r ih =>
    rw [cutB, if_neg (h c (List.mem_cons_self ..)), ih (fun x hx => h x (List.mem_cons_of_mem _ hx))]
theorem cut_at {a : List Nat} (h : Solid a) (r : List Nat) : cutB (a ++ 32 :: r) = a :: cutB r := by
  induction a with
  | nil => rw [List.nil_append, cutB, if_pos rfl]
  | cons c a ih =>
    rw [List.cons_append, cutB, if_neg (h c (List.mem_cons_self ..)), ih (fun x hx => h x (List.mem_cons_of_mem _ hx))]
theorem cut_tail : ∀ (fs : List (List Nat)) (w : List Nat), Solid w → (∀ f ∈ fs, Solid f) → cutB (w ++ tailOf fs) = w :: fs
  | [], w, hw, _ => by rw [tailOf, List.append_nil, cut_solid hw]
  | f :: fs, w, hw, h => by
    rw [tailOf, cut_at hw, cut_tail fs f (h f (List.mem_cons_self ..)) (fun x hx => h x (List.mem_cons_of_mem _ hx))]
theorem solid_take {l : List Nat} {i : Nat} (h : ∀ j, j < i → j < l.length → l.getD j 0 ≠ 32) : Solid (l.take i) := by
  intro x hx
  obtain ⟨j, hj, rfl⟩ := List.getElem_of_mem hx
  rw [List.length_take] at hj
  have := h j (by omega) (by omega)
  rw [List.getD_eq_getElem?_getD, List.getElem?_eq_getElem (by omega)] at this
  rw [List.getElem_take]
  exact this
theorem cut_find {l : List Nat} {i : Nat} (hi : i < l.length) (h : ∀ j, j < i → j < l.length → l.getD j 0 ≠ 32) (h0 : l.getD i 0 = 32) : cutB l = l.take i :: cutB (l.drop (i + 1)) := by
  have h1 : l = l.take i ++ 32 :: l.drop (i + 1) := by
    have h2 : l.drop i = 32 :: l.drop (i + 1) := by
      rw [List.drop_eq_getElem_cons hi]
      rw [List.getD_eq_getElem?_getD, List.getElem?_eq_getElem hi] at h0
      rw [show l[i] = 32 from h0]
    rw [← h2, List.take_append_drop]
  have h2 := cut_at (solid_take h) (l.drop (i + 1))
  rw [← h1] at h2
  exact h2
theorem cut_none {l : List Nat} (h : ∀ j, j < l.length → l.getD j 0 ≠ 32) : cutB l = [l] := by
  have := cut_solid (solid_take (l := l) (i := l.length) (fun j hj _ => h j hj))
  rw [List.take_length] at this
  exact this
theorem cut_one {l x : List Nat} (h : cutB l = [x]) : l = x := by
  induction l generalizing x with
  | nil => simp [cutB] at h; exact h.symm
  | cons c r ih =>
    rw [cutB] at h
    split at h
    · simp at h; exact absurd h.2 (cut_ne r)
    · split at h
      · rename_i h1
        exact absurd h1 (cut_ne r)
      · rename_i y t h1
        simp only [List.cons.injEq] at h
        obtain ⟨rfl, rfl⟩ := h
        rw [ih h1]
theorem cut_bound (l : List Nat) : (∀ x ∈ cutB l, x.length ≤ l.length) ∧ (cutB l).length ≤ l.length + 1 := by
  induction l with
  | nil => simp [cutB]
  | cons c r ih =>
    rw [cutB]
    split
    · refine ⟨fun x hx => ?_, by simp only [List.length_cons]; omega⟩
      rcases List.mem_cons.1 hx with rfl | hx
      · simp
      · have := ih.1 x hx; simp only [List.length_cons]; omega
    · cases h1 : cutB r with
      | nil => exact absurd h1 (cut_ne r)
      | cons y t =>
        rw [h1] at ih
        simp only
        refine ⟨fun x hx => ?_, by have := ih.2; simp only [List.length_cons] at *; omega⟩
        rcases List.mem_cons.1 hx with rfl | hx
        · have := ih.1 y (List.mem_cons_self ..); simp only [List.length_cons] at *; omega
        · have := ih.1 x (List.mem_cons_of_mem _ hx); simp only [List.length_cons] at *; omega
theorem cut_oct {l : List Nat} (h : Oct l) : ∀ x ∈ cutB l, Oct x := by
  induction l with
  | nil => intro x hx; simp [cutB] at hx; subst hx; intro y hy; exact absurd hy List.not_mem_nil
  | cons c r ih =>
    have ih := ih (fun y hy => h y (List.mem_cons_of_mem _ hy))
    rw [cutB]
    split
    · intro x hx
      rcases List.mem_cons.1 hx with rfl | hx
      · intro y hy; exact absurd hy List.not_mem_nil
      · exact ih x hx
    · cases h1 : cutB r with
      | nil => exact absurd h1 (cut_ne r)
      | cons y t =>
        rw [h1] at ih
        simp only
        intro x hx
        rcases List.mem_cons.1 hx with rfl | hx
        · intro z hz
          rcases List.mem_cons.1 hz with rfl | hz
          · exact h z (List.mem_cons_self ..)
          · exact ih y (List.mem_cons_self ..) z hz
        · exact ih x (List.mem_cons_of_mem _ hx)
/-! Words, sides, numbers bear no blank. -/
theorem digs_solid (u : Nat) : Solid (digs u) := fun x hx => by have := digs_oct u x hx; omega
theorem dec_solid (n : Int) : Solid (dec n) := by
  unfold dec
  split
  · intro x hx
    rcases List.mem_cons.1 hx with rfl | hx
    · omega
    · exact digs_solid _ x hx
  · exact digs_solid _
theorem dec_oct (n : Int) : Oct (dec n) := by
  unfold dec
  split
  · intro x hx
    rcases List.mem_cons.1 hx with rfl | hx
    · omega
    · have := digs_oct _ x hx; omega
  · intro x hx
    have := digs_oct _ x hx; omega
theorem word_az (k : Int) : ∀ x ∈ wordOf k, 97 ≤ x ∧ x ≤ 122 := by
  unfold wordOf
  split
  · intro x hx
    by_cases h : k.toNat - 1 < wordsL.length
    · rw [List.getD_eq_getElem?_getD, List.getElem?_eq_getElem h] at hx
      exact words_oct _ (List.getElem_mem h) x hx
    · rw [List.getD_eq_getElem?_getD, List.getElem?_eq_none (by omega)] at hx
      exact absurd hx List.not_mem_nil
  · intro x hx; exact absurd hx List.not_mem_nil
theorem word_solid (k : Int) : Solid (wordOf k) := fun x hx => by have := word_az k x hx; omega
theorem word_octs (k : Int) : Oct (wordOf k) := fun x hx => by have := word_az k x hx; omega
theorem word_len (k : Int) : (wordOf k).length ≤ 9 := by
  unfold wordOf
  split
  · by_cases h : k.toNat - 1 < wordsL.length
    · rw [List.getD_eq_getElem?_getD, List.getElem?_eq_getElem h]
      exact (words_len _ (List.getElem_mem h)).2
    · rw [List.getD_eq_getElem?_getD, List.getElem?_eq_none (by omega)]
      simp
  · simp
theorem word_inj {j k : Int} (hj : 1 ≤ j ∧ j ≤ 22) (hk : 1 ≤ k ∧ k ≤ 22) (h : wordOf j = wordOf k) : j = k := by
  unfold wordOf at h
  rw [if_pos hj, if_pos hk] at h
  have hl : wordsL.length = 22 := by decide
  rw [List.getD_eq_getElem?_getD, List.getD_eq_getElem?_getD, List.getElem?_eq_getElem (by omega), List.getElem?_eq_getElem (by omega)] at h
  have := (List.getElem_inj words_nodup).1 h
  omega
theorem side_solid (k n : Int) : Solid (sideOf k n) := fun x hx => by have := side_oct k n x hx; omega
theorem field_solid (e : Ev) (f : Nat) : Solid (fieldL e f) := by
  unfold fieldL
  split
  · exact side_solid _ _
  · exact dec_solid _
theorem field_oct (e : Ev) (f : Nat) : Oct (fieldL e f) := by
  unfold fieldL
  split
  · intro x hx; have := side_oct _ _ x hx; omega
  · exact dec_oct _
theorem tail_oct {l : List (List Nat)} (h : ∀ x ∈ l, Oct x) : Oct (tailOf l) := by
  induction l with
  | nil => intro x hx; exact absurd hx List.not_mem_nil
  | cons f l ih =>
    intro x hx
    rw [tailOf] at hx
    rcases List.mem_cons.1 hx with rfl | hx
    · omega
    · rcases List.mem_append.1 hx with hx | hx
      · exact h f (List.mem_cons_self ..) x hx
      · exact ih (fun y hy => h y (List.mem_cons_of_mem _ hy)) x hx
theorem text_oct (e : Ev) : Oct (textL e) := by
  intro x hx
  rcases List.mem_append.1 hx with hx | hx
  · exact word_octs _ x hx
  · refine tail_oct ?_ x hx
    intro y hy
    obtain ⟨f, _, rfl⟩ := List.mem_map.1 hy
    exact field_oct e f
theorem cut_text (e : Ev) : cutB (textL e) = wordOf e.kind :: (fieldsOf e.kind).map (fieldL e) := by
  refine cut_tail _ _ (word_solid _) ?_
  intro y hy
  obtain ⟨f, _, rfl⟩ := List.mem_map.1 hy
  exact field_solid e f
theorem dec_len {n : Int} (h : I64 n) : (dec n).length ≤ 20 := by
  unfold I64 at h
  have := digs_len 18 n.natAbs (by omega)
  unfold dec
  split
  · simp only [List.length_cons]; omega
  · omega
theorem field_len {e : Ev} (ok : e.Ok) (f : Nat) : (fieldL e f).length ≤ 20 := by
  unfold fieldL
  split
  · have := (side_len e.kind e.side).2; omega
  · exact dec_len (ok.val f)
theorem tail_len {n : Nat} {l : List (List Nat)} (h : ∀ x ∈ l, x.length ≤ n) : (tailOf l).length ≤ (n + 1) * l.length := by
  induction l with
  | nil => simp [tailOf]
  | cons f l ih =>
    have h1 := h f (List.mem_cons_self ..)
    have h2 := ih (fun y hy => h y (List.mem_cons_of_mem _ hy))
    rw [tailOf, List.length_cons, List.length_append, List.length_cons, Nat.mul_succ]
    omega
theorem text_len {e : Ev} (ok : e.Ok) : (textL e).length ≤ 114 := by
  unfold textL
  rw [List.length_append]
  have h1 := word_len e.kind
  have h2 := tail_len (n := 20) (l := (fieldsOf e.kind).map (fieldL e)) (by
    intro y hy
    obtain ⟨f, _, rfl⟩ := List.mem_map.1 hy
    exact field_len ok f)
  rw [List.length_map] at h2
  have h3 := fields_len e.kind
  have : (20 + 1) * (fieldsOf e.kind).length ≤ 105 := by omega
  omega
/-! Numbers are read as they are written. -/
theorem pu_app (M : Nat) (a b : List UInt8) : ∀ x, Lib.parseUintM M x (a ++ b) = (match Lib.parseUintM M x a with | .ok y => Lib.parseUintM M y b | e => e) := by
  induction a with
  | nil => intro x; rfl
  | cons c a ih =>
    intro x
    rw [List.cons_append, Lib.parseUintM, Lib.parseUintM]
    split
    · split
      · rfl
      · split
        · rfl
        · exact ih _
    · rfl
theorem ofNat_digit {d : Nat} (h : d < 10) : (UInt8.ofNat (48 + d)).toNat = 48 + d := by
  simp
  omega
theorem pu_digs {M : Nat} (hM : M < 18446744073709551616) (u : Nat) (h : u ≤ M) : Lib.parseUintM M 0 ((digs u).map UInt8.ofNat) = .ok u := by
  induction u using Nat.strongRecOn with
  | ind u ih =>
    by_cases h1 : u < 10
    · rw [digs_small h1]
      simp only [List.map_cons, List.map_nil]
      rw [Lib.parseUintM, ofNat_digit h1, if_pos (by omega), if_neg (by omega), if_neg (by omega), Lib.parseUintM]
      congr 1
      omega
    · rw [digs_great h1, List.map_append, pu_app, ih (u / 10) (by omega) (by omega)]
      simp only [List.map_cons, List.map_nil]
      rw [Lib.parseUintM, ofNat_digit (by omega), if_pos (by omega), if_neg (by omega), if_neg (by omega), Lib.parseUintM]
      congr 1
      omega
theorem digs_cons (u : Nat) : ∃ c r, digs u = c :: r ∧ 48 ≤ c ∧ c < 58 ∧ (1 ≤ u → c ≠ 48) := by
  induction u using Nat.strongRecOn with
  | ind u ih =>
    by_cases h : u < 10
    · exact ⟨48 + u, [], digs_small h, by omega, by omega, fun _ => by omega⟩
    · obtain ⟨c, r, h1, h2, h3, h4⟩ := ih (u / 10) (by omega)
      refine ⟨c, r ++ [48 + u % 10], ?_, h2, h3, fun _ => h4 (by omega)⟩
      rw [digs_great h, h1, List.cons_append]
theorem parse_dec {n : Int} (h : I64 n) : Lib.parseIntB 64 ((dec n).map UInt8.ofNat) = .ok n := by
  unfold I64 at h
  obtain ⟨c, r, h1, h2, h3, _⟩ := digs_cons n.natAbs
  have hc : (UInt8.ofNat c).toNat = c := by simp; omega
  have hp := pu_digs (M := 2 ^ 64 - 1) (by decide) n.natAbs (by omega)
  have hne : (digs n.natAbs).map UInt8.ofNat ≠ [] := by rw [h1]; simp
  have hu : Lib.parseUintB 64 ((digs n.natAbs).map UInt8.ofNat) = .ok n.natAbs := by
    unfold Lib.parseUintB
    rw [if_neg hne, hp]
  unfold dec
  by_cases h0 : n < 0
  · rw [if_pos h0, List.map_cons, Lib.parseIntB]
    simp [hu]
    rw [if_neg (by omega)]
    congr 1
    omega
  · rw [if_neg h0]
    rw [h1, List.map_cons] at hu ⊢
    rw [Lib.parseIntB]
    simp only [hc]
    rw [if_neg (by omega), hu]
    simp only
    rw [if_neg (by omega), if_neg (by omega), if_neg (by omega)]
    congr 1
    omega
theorem dec_inj {n m : Int} (hn : I64 n) (hm : I64 m) (h : dec n = dec m) : n = m := by
  have h1 := parse_dec hn
  rw [h, parse_dec hm] at h1
  injection h1 with h1
  exact h1.symm
theorem digs_lib (u : Nat) : (digs u).map UInt8.ofNat = Lib.decDigits u := by
  induction u using Nat.strongRecOn with
  | ind u ih =>
    by_cases h : u < 10
    · rw [digs_small h, Lib.decDigits, dif_pos h]; rfl
    · rw [digs_great h, Lib.decDigits, dif_neg h, List.map_append, ih (u / 10) (by omega)]; rfl
theorem dec_lib (n : Int) : bstr (dec n) = ⟨(Lib.itoa n).toArray⟩ := by
  refine Go.WideShapes.bytes_inj ?_
  rw [bstr_list]
  unfold dec Lib.itoa
  split
  · rw [List.map_cons, digs_lib]; rfl
  · rw [show n.natAbs = n.toNat by omega, digs_lib]
end Go.Proofs.YtjkbnljjmbfmiaaDoor
