/-
  The library's sort by its contract, at the places of numbers; package share's Order for any numbers.
-/
import Derived.Test.YtiblbhppojfdaaaShOr2
import Derived.Test.YtiblbhppojfdaaaShelf
namespace Go.Proofs.Ytiblbhppojfdaaa
open Go.RowKit Go.Sort Go.Lib Go.Shelf

/-- A place as a cell. -/
def encF (n : Nat) (x : Fin n) : Value := .int .i64 (x.val : Int)
def cfF (l : List Int) (x y : Fin l.length) : Int := cfo l x.val y.val
theorem ltF (l : List Int) (x y : Fin l.length) : ltOf (cfF l) x y = decide (leq l x.val y.val ∧ x.val ≠ y.val) := by
  unfold ltOf cfF
  have := cfo_lt l x.val y.val
  by_cases h : cfo l x.val y.val < 0
  · rw [decide_eq_true h, decide_eq_true (this.1 h)]
  · rw [decide_eq_false h, decide_eq_false (fun e => h (this.2 e))]
theorem leq_total (l : List Int) (x y : Nat) : leq l x y ∨ leq l y x := by unfold leq; omega
theorem swoF (l : List Int) : SWO (ltOf (cfF l)) where
  irrefl x := by rw [ltF]; simp
  trans x y z h1 h2 := by
    rw [ltF] at *
    simp at *
    refine ⟨leq_trans h1.1 h2.1, fun e => ?_⟩
    rw [e] at h1
    exact h2.2 (leq_anti l _ _ h2.1 h1.1)
  ntrans x y z h1 h2 := by
    rw [ltF] at *
    simp at *
    intro h3
    by_cases hxy : leq l x.val y.val
    · rw [h1 hxy] at h3 ⊢
      exact h2 h3
    · have hyx := (leq_total l x.val y.val).resolve_left hxy
      have hyz := leq_trans hyx h3
      rw [h2 hyz] at hyx
      exact leq_anti l _ _ h3 hyx
theorem totF (l : List Int) (x y : Fin l.length) (h1 : ltOf (cfF l) x y = false) (h2 : ltOf (cfF l) y x = false) : x = y := by
  rw [ltF] at *
  simp at *
  rcases leq_total l x.val y.val with h | h
  · exact Fin.ext (h1 h)
  · exact Fin.ext (h2 h).symm

/-- The places from 0 on. -/
def placesF (n : Nat) : Array (Fin n) := Array.ofFn id
theorem placesF_size (n : Nat) : (placesF n).size = n := by simp [placesF]

theorem sorted_places (l : List Int) : (((placesF l.length).toList.mergeSort fun x y => !(ltOf (cfF l)) y x).map (·.val)) = ordL l := by
  apply ordL_unique
  · refine (List.Perm.map _ (List.mergeSort_perm _ _)).trans ?_
    have : (placesF l.length).toList.map (·.val) = List.range l.length := by
      apply List.ext_getElem (by simp [placesF])
      intro i h1 h2
      simp [placesF]
    rw [this]
  · rw [List.pairwise_map]
    have h := List.pairwise_mergeSort (le := fun x y => !(ltOf (cfF l)) y x) ?_ ?_ (placesF l.length).toList
    · refine h.imp ?_
      intro a b hab
      rw [ltF] at hab
      simp at hab
      rcases leq_total l a.val b.val with h | h
      · exact h
      · rcases hab with h' | h'
        · exact absurd h h'
        · rw [h']; exact (leq_total l _ _).elim id id
    · intro a b c h1 h2
      simp only [Bool.not_eq_true'] at *
      exact (swoF l).ntrans _ _ _ h2 h1
    · intro a b
      simp only [Bool.or_eq_true, Bool.not_eq_true']
      rw [ltF, ltF]
      simp
      by_cases h : a.val = b.val
      · exact .inl fun _ => h.symm
      · by_cases h1 : leq l b.val a.val
        · right; intro h2; exact leq_anti l _ _ h2 h1
        · left; intro h2; exact absurd h2 h1

theorem sortPlaces : SortPlaces := by
  intro l A c lb g cap w hn hI hbox hlg hg hA hR
  by_cases h0 : l.length = 0
  · have hS := AnyF.slices_SortFunc_none (P := Try.prog) (ρ := Try.sortL_ren) { Try.sortL with } (some ⟨g, 0, none⟩) cap (.func (.func 70) #[] #[.pointer (some ⟨lb, 0, none⟩)]) w
    change Calls Try.prog 69 _ _ _ at hS
    rw [h0]
    refine hS.mono ?_
    rintro e w' ⟨rfl, rfl⟩
    refine ⟨rfl, fun i hi => ?_, Below.refl _ _⟩
    rw [ordI_length] at hi
    omega
  · have hpos : 0 < l.length := by omega
    haveI : Inhabited (Fin l.length) := ⟨⟨0, hpos⟩⟩
    have eg : ∀ args w, (callFunc 70 args).run Try.prog w = .ok (.enter 70 args) w := enters_of Try.func70 (by kernel_rfl) rfl
    have hH : Holds (encF l.length) w g 0 (placesF l.length) := by
      intro j hj
      rw [placesF_size] at hj
      obtain ⟨h1, h2⟩ := hR j (by rw [upTo_length]; exact hj)
      rw [Nat.zero_add]
      refine ⟨?_, h2⟩
      rw [h1, upTo_getD _ _ _ hj, if_pos hj, getElem!_pos _ j (by rw [placesF_size]; exact hj)]
      simp [placesF, encF]
    obtain ⟨b, off, eA, hc⟩ := hI hpos
    have hbg := hA hpos _ _ _ eA
    have hcmp : CmpLays1 Try.prog 70 #[.pointer (some ⟨lb, 0, none⟩)] (encF l.length) (cfF l) g 0 (placesF l.length).size w := by
      intro m os dk hs x y
      rw [placesF_size] at hs
      have hb1 := block_lt hbox
      have k1 : ∀ b' o, b' ≠ g → b' < w.heap.size → (sortWorld (encF l.length) w g 0 m dk os).cell? ⟨b', o, none⟩ = w.cell? ⟨b', o, none⟩ := fun b' o h h' => by
        unfold sortWorld
        rw [cell?_grow _ _ _ (by simpa using h'), cell?_putRow_other _ _ _ _ _ _ (.inl h)]
        rfl
      have hp := place_any l A c lb x.val y.val x.isLt y.isLt (by omega) (sortWorld (encF l.length) w g 0 m dk os) (by rw [k1 _ _ hlg hb1]; exact hbox) (fun _ => ⟨b, off, eA, fun i hi => by rw [k1 _ _ hbg (block_lt (hc i hi))]; exact hc i hi⟩)
      refine hp.mono ?_
      rintro e w' ⟨rfl, o, rfl⟩
      exact ⟨rfl, 1, #[o], by rw [alloc_eq_grow]; rfl⟩
    have hS := Any.slices_SortFunc_total Try.sortL (encF l.length) (fun _ => rfl) (cfF l) (swoF l) 70 #[.pointer (some ⟨lb, 0, none⟩)] g 0 cap (placesF l.length) w eg hcmp hH hg (by rw [placesF_size]; omega) (totF l)
    rw [placesF_size] at hS
    change Calls Try.prog 69 _ _ _ at hS
    refine hS.mono ?_
    rintro e w' ⟨rfl, n, os, rfl⟩
    have hsp := sorted_places l
    generalize ((placesF l.length).toList.mergeSort fun x y => !(ltOf (cfF l)) y x) = d at *
    have hd : d.length = l.length := by have := congrArg List.length hsp; simpa [ordL_length] using this
    have hH2 := holds_putRow (encF l.length) (Sort.ahead w n) g 0 (placesF l.length) d.toArray (holds_ahead _ _ _ _ _ _ hH) (by simp [placesF_size, hd])
    refine ⟨rfl, fun i hi => ?_, ?_⟩
    · rw [ordI_length] at hi
      obtain ⟨h1, h2⟩ := hH2 i (by simpa [hd] using hi)
      rw [Nat.zero_add] at h1 h2
      unfold sortWorld
      rw [cell?_grow _ _ _ (by simpa using hg), frozen?_grow _ _ _ (by simpa using hg), h1, h2, ordI_getD _ _ hi, ← hsp]
      refine ⟨?_, rfl⟩
      rw [getElem!_pos _ i (by simpa [hd] using hi)]
      simp [encF, List.getD_eq_getElem?_getD, hd, hi]
    · refine ⟨rfl, rfl, rfl, by simp [sortWorld], fun k hk => ?_⟩
      unfold sortWorld
      rw [heap_grow_old _ _ (by simp; omega)]
      have : g ≠ k := by omega
      simp [putRow, mapBlock, Sort.ahead, Array.getElem?_modify, this]

theorem order_any (A : Option Addr) (l : List Int) (c : Nat) (w : World) (hr : Ints w .i64 A l) (hn : l.length ≤ 1000000) :
    Calls Try.prog 54 #[.slice A l.length c] w (OrderR w l) := order_walk (Lib.hid sortPlaces) A l c w hr hn
end Go.Proofs.Ytiblbhppojfdaaa
