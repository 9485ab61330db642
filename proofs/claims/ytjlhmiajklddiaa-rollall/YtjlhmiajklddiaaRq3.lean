/-
  Package roll: a list with one more at a place.
-/
import Derived.Test.YtjlhmiajklddiaaRq2
namespace Go.Proofs.Ytjlhmiajklddiaa
set_option maxRecDepth 8000
open Go Go.RowKit
set_option linter.unusedVariables false

theorem drew_belowR (w : World) : Below w.heap.size w w.drew := ⟨rfl, rfl, rfl, Nat.le_refl _, fun _ _ => rfl⟩
theorem cell_drewR (w : World) (a : Addr) : w.drew.cell? a = w.cell? a := rfl
set_option maxRecDepth 8000 in
set_option maxHeartbeats 4000000 in
theorem joinMember_any (A AX : Option Addr) (l : List SMember) (n c p cX B B1 : Nat) (x : SMember) (w W : World) (hW : Below w.heap.size w W) (hn : n = l.length) (hI : MemL SMember.cells 2 w A l) (hA : c = 0 ∨ ∃ b off, A = some ⟨b, off, none⟩) (hA0 : A = none → c = 0) (hc : n ≤ c) (hc2 : c ≤ 9223372036854775807) (hl : n ≤ 1000000000000) (hp : p ≤ n)
    (hJ : MemL SMember.cells 2 w AX (l.drop p)) (hX : cX = 0 ∨ ∃ b off, AX = some ⟨b, off, none⟩) (hX0 : AX = none → cX = 0) (hcX : n - p ≤ cX) (hcX2 : cX ≤ 9223372036854775807)
    (h0 : W.cell? ⟨B, 0, none⟩ = some (.slice A p c)) (h1 : W.cell? ⟨B, 1, none⟩ = some (.slice (some ⟨B1, 0, none⟩) 1 1)) (h2 : W.cell? ⟨B, 2, none⟩ = some (.slice AX (n - p) cX)) (hx : MemL SMember.cells 2 W (some ⟨B1, 0, none⟩) [x]) :
    Calls Try.prog 50 #[.slice (some ⟨B, 0, none⟩) 3 3] W fun r w' => ∃ v, r = .returned v ∧ OwnL SMember.cells 39 2 w' w.heap.size v (l.take p ++ x :: l.drop p) ∧ Below w.heap.size w w' := by
  have e0 : (.slice A p c : Value) = .slice A (l.take p).length c := by rw [List.length_take, show min p l.length = p by omega]
  have e2 : (.slice AX (n - p) cX : Value) = .slice AX (l.drop p).length cX := by rw [List.length_drop, hn]
  have L0 : LstV SMember.cells 2 W (.slice A p c) (l.take p) := ⟨A, c, e0, (hI.front p).below hW (fun _ => rfl), hA0, by rw [List.length_take]; omega, hc2, hA⟩
  have L1 : LstV SMember.cells 2 W (.slice (some ⟨B1, 0, none⟩) 1 1) [x] := ⟨_, _, rfl, hx, fun h => by (cases h), Nat.le_refl _, by omega, .inr ⟨_, _, rfl⟩⟩
  have L2 : LstV SMember.cells 2 W (.slice AX (n - p) cX) (l.drop p) := ⟨AX, cX, e2, hJ.below hW (fun _ => rfl), hX0, by rw [List.length_drop]; omega, hcX2, hX⟩
  refine (concatMember_any B 3 [(.slice A p c, l.take p), (.slice (some ⟨B1, 0, none⟩) 1 1, [x]), (.slice AX (n - p) cX, l.drop p)] W rfl (fun k hk => ?_) (by simp; omega) (by omega)).mono ?_
  · match k, hk with
    | 0, _ => exact ⟨h0, L0⟩
    | 1, _ => exact ⟨h1, L1⟩
    | 2, _ => exact ⟨h2, L2⟩
    | k + 3, hk => exact absurd hk (by simp)
  · rintro r w' ⟨v, rfl, ho, hb⟩
    refine ⟨v, rfl, ?_, hW.trans (hb.mono hW.size)⟩
    have := OwnL.lower ho hW.size
    simpa using this
theorem joinWMember_any (A AX : Option Addr) (l : List SMember) (n c p cX : Nat) (x : SMember) (w : World) (hn : n = l.length) (hI : MemL SMember.cells 2 w A l) (hA : c = 0 ∨ ∃ b off, A = some ⟨b, off, none⟩) (hA0 : A = none → c = 0) (hc : n ≤ c) (hc2 : c ≤ 9223372036854775807) (hl : n ≤ 1000000000000) (hp : p ≤ n)
    (hJ : MemL SMember.cells 2 w AX (l.drop p)) (hX : cX = 0 ∨ ∃ b off, AX = some ⟨b, off, none⟩) (hX0 : AX = none → cX = 0) (hcX : n - p ≤ cX) (hcX2 : cX ≤ 9223372036854775807) :
    Calls Try.prog 50 #[.slice (some ⟨w.heap.size + 1 + 1, 0, none⟩) 3 3] (((w.alloc (.cells x.cells.toArray 39)).alloc (.cells x.cells.toArray 39)).alloc (.cells #[.slice A p c, .slice (some ⟨w.heap.size + 1, 0, none⟩) 1 1, .slice AX (n - p) cX] 22)).drew fun r w' => ∃ v, r = .returned v ∧ OwnL SMember.cells 39 2 w' w.heap.size v (l.take p ++ x :: l.drop p) ∧ Below w.heap.size w w' := by
  have hW1 : Below w.heap.size w (w.alloc (.cells x.cells.toArray 39)) := alloc_b (Below.refl _ _) (Nat.le_refl _) _
  have hW2 : Below w.heap.size w ((w.alloc (.cells x.cells.toArray 39)).alloc (.cells x.cells.toArray 39)) := alloc_b hW1 (Nat.le_refl _) _
  have hW3 := alloc_b hW2 (Nat.le_refl _) (.cells #[.slice A p c, .slice (some ⟨w.heap.size + 1, 0, none⟩) 1 1, .slice AX (n - p) cX] 22)
  refine joinMember_any A AX l n c p cX (w.heap.size + 1 + 1) (w.heap.size + 1) x w _ (hW3.trans (drew_belowR _ |>.mono hW3.size)) hn hI hA hA0 hc hc2 hl hp hJ hX hX0 hcX hcX2 ?_ ?_ ?_ ?_
  · rw [cell_drewR, show w.heap.size + 1 + 1 = ((w.alloc (.cells x.cells.toArray 39)).alloc (.cells x.cells.toArray 39)).heap.size by simp, World.cell?_alloc_new]; rfl
  · rw [cell_drewR, show w.heap.size + 1 + 1 = ((w.alloc (.cells x.cells.toArray 39)).alloc (.cells x.cells.toArray 39)).heap.size by simp, World.cell?_alloc_new]; rfl
  · rw [cell_drewR, show w.heap.size + 1 + 1 = ((w.alloc (.cells x.cells.toArray 39)).alloc (.cells x.cells.toArray 39)).heap.size by simp, World.cell?_alloc_new]; rfl
  · have h := memL_lit lay_Member (w.alloc (.cells x.cells.toArray 39)) x.cells.toArray [x] (by simp) (by simp)
    rw [World.size_alloc] at h
    refine MemL.below h ?_ (fun _ => rfl)
    exact ((Below.refl _ _).alloc (Nat.le_refl _) _).trans (drew_belowR _ |>.mono (by simp))
set_option maxRecDepth 8000 in
set_option maxHeartbeats 4000000 in
theorem withMember_any (A : Option Addr) (l : List SMember) (n c p : Nat) (x : SMember) (w : World) (hn : n = l.length) (hI : MemL SMember.cells 2 w A l) (hA : c = 0 ∨ ∃ b off, A = some ⟨b, off, none⟩) (hA0 : A = none → c = 0) (hc : n ≤ c) (hc2 : c ≤ 9223372036854775807) (hl : n ≤ 1000000000000) (hp : p ≤ n) : Calls Try.prog 36 #[.slice A n c, .int .i64 (p : Int), x.v] w fun r w' => ∃ v, r = .returned v ∧ OwnL SMember.cells 39 2 w' w.heap.size v (l.take p ++ x :: l.drop p) ∧ Below w.heap.size w w' := by
  have CJ := fun AX cX hJ hX hX0 hcX hcX2 => joinWMember_any A AX l n c p cX x w hn hI hA hA0 hc hc2 hl hp hJ hX hX0 hcX hcX2
  obtain ⟨R, hR⟩ : ∃ R, R = l.take p ++ x :: l.drop p := ⟨_, rfl⟩
  rw [← hR] at CJ ⊢
  unfold SMember.v
  dsimp only [SMember.cells] at CJ
  rcases hA with h0 | ⟨b, off, rfl⟩
  · subst h0
    obtain rfl : n = 0 := by omega
    obtain rfl : p = 0 := by omega
    obtain rfl : l = [] := List.eq_nil_of_length_eq_zero hn.symm
    have CK := Lib.hid (CJ A 0 (memL_nil _ _) (.inl rfl) (fun _ => rfl) (Nat.le_refl _) (by omega))
    clear hn hI hA0 hc hc2 hl hp hR CJ
    go_enter Try.func36, Try.ntmps36
    go_wp2
    go_region_with (go_at_call 50; (with_reducible refine CK.out.mono ?_); rintro r w3 ⟨v3, rfl, ho3, hb3⟩; have HO3 := Lib.hid ho3; have HB3 := Lib.hid hb3; clear ho3 hb3)
    all_goals go_wp2
    all_goals go_ret
    all_goals exact ⟨_, rfl, HO3.out, HB3.out⟩
  · by_cases hpc : c = p
    · subst hpc
      obtain rfl : n = c := by omega
      have CK := (CJ (some ⟨b, off, none⟩) 0 (by rw [List.drop_eq_nil_of_le (by omega)]; exact memL_nil _ _) (.inl rfl) (fun _ => rfl) (by omega) (by omega))
      rw [Nat.sub_self] at CK
      have CK := Lib.hid CK
      clear hn hI hA0 hc2 hR CJ
      go_enter Try.func36, Try.ntmps36
      go_wp2
      go_region_with (go_at_call 50; (with_reducible refine CK.out.mono ?_); rintro r w3 ⟨v3, rfl, ho3, hb3⟩; have HO3 := Lib.hid ho3; have HB3 := Lib.hid hb3; clear ho3 hb3)
      all_goals go_wp2
      all_goals go_ret
      all_goals exact ⟨_, rfl, HO3.out, HB3.out⟩
    · have CK := Lib.hid (CJ (some ⟨b, off + p * 2, none⟩) (c - p) (hI.back p) (.inr ⟨_, _, rfl⟩) (fun h => by cases h) (by omega) (by omega))
      clear hn hI hA0 hR CJ
      go_enter Try.func36, Try.ntmps36
      go_wp2
      go_region_with (go_at_call 50; (with_reducible refine CK.out.mono ?_); rintro r w3 ⟨v3, rfl, ho3, hb3⟩; have HO3 := Lib.hid ho3; have HB3 := Lib.hid hb3; clear ho3 hb3)
      all_goals go_wp2
      all_goals go_ret
      all_goals exact ⟨_, rfl, HO3.out, HB3.out⟩
set_option maxRecDepth 8000 in
set_option maxHeartbeats 4000000 in
theorem joinAcc_any (A AX : Option Addr) (l : List SAcc) (n c p cX B B1 : Nat) (x : SAcc) (w W : World) (hW : Below w.heap.size w W) (hn : n = l.length) (hI : MemL SAcc.cells 4 w A l) (hA : c = 0 ∨ ∃ b off, A = some ⟨b, off, none⟩) (hA0 : A = none → c = 0) (hc : n ≤ c) (hc2 : c ≤ 9223372036854775807) (hl : n ≤ 1000000000000) (hp : p ≤ n)
    (hJ : MemL SAcc.cells 4 w AX (l.drop p)) (hX : cX = 0 ∨ ∃ b off, AX = some ⟨b, off, none⟩) (hX0 : AX = none → cX = 0) (hcX : n - p ≤ cX) (hcX2 : cX ≤ 9223372036854775807)
    (h0 : W.cell? ⟨B, 0, none⟩ = some (.slice A p c)) (h1 : W.cell? ⟨B, 1, none⟩ = some (.slice (some ⟨B1, 0, none⟩) 1 1)) (h2 : W.cell? ⟨B, 2, none⟩ = some (.slice AX (n - p) cX)) (hx : MemL SAcc.cells 4 W (some ⟨B1, 0, none⟩) [x]) :
    Calls Try.prog 53 #[.slice (some ⟨B, 0, none⟩) 3 3] W fun r w' => ∃ v, r = .returned v ∧ OwnL SAcc.cells 25 4 w' w.heap.size v (l.take p ++ x :: l.drop p) ∧ Below w.heap.size w w' := by
  have e0 : (.slice A p c : Value) = .slice A (l.take p).length c := by rw [List.length_take, show min p l.length = p by omega]
  have e2 : (.slice AX (n - p) cX : Value) = .slice AX (l.drop p).length cX := by rw [List.length_drop, hn]
  have L0 : LstV SAcc.cells 4 W (.slice A p c) (l.take p) := ⟨A, c, e0, (hI.front p).below hW (fun _ => rfl), hA0, by rw [List.length_take]; omega, hc2, hA⟩
  have L1 : LstV SAcc.cells 4 W (.slice (some ⟨B1, 0, none⟩) 1 1) [x] := ⟨_, _, rfl, hx, fun h => by (cases h), Nat.le_refl _, by omega, .inr ⟨_, _, rfl⟩⟩
  have L2 : LstV SAcc.cells 4 W (.slice AX (n - p) cX) (l.drop p) := ⟨AX, cX, e2, hJ.below hW (fun _ => rfl), hX0, by rw [List.length_drop]; omega, hcX2, hX⟩
  refine (concatAcc_any B 3 [(.slice A p c, l.take p), (.slice (some ⟨B1, 0, none⟩) 1 1, [x]), (.slice AX (n - p) cX, l.drop p)] W rfl (fun k hk => ?_) (by simp; omega) (by omega)).mono ?_
  · match k, hk with
    | 0, _ => exact ⟨h0, L0⟩
    | 1, _ => exact ⟨h1, L1⟩
    | 2, _ => exact ⟨h2, L2⟩
    | k + 3, hk => exact absurd hk (by simp)
  · rintro r w' ⟨v, rfl, ho, hb⟩
    refine ⟨v, rfl, ?_, hW.trans (hb.mono hW.size)⟩
    have := OwnL.lower ho hW.size
    simpa using this
theorem joinWAcc_any (A AX : Option Addr) (l : List SAcc) (n c p cX : Nat) (x : SAcc) (w : World) (hn : n = l.length) (hI : MemL SAcc.cells 4 w A l) (hA : c = 0 ∨ ∃ b off, A = some ⟨b, off, none⟩) (hA0 : A = none → c = 0) (hc : n ≤ c) (hc2 : c ≤ 9223372036854775807) (hl : n ≤ 1000000000000) (hp : p ≤ n)
    (hJ : MemL SAcc.cells 4 w AX (l.drop p)) (hX : cX = 0 ∨ ∃ b off, AX = some ⟨b, off, none⟩) (hX0 : AX = none → cX = 0) (hcX : n - p ≤ cX) (hcX2 : cX ≤ 9223372036854775807) :
    Calls Try.prog 53 #[.slice (some ⟨w.heap.size + 1 + 1, 0, none⟩) 3 3] (((w.alloc (.cells x.cells.toArray 25)).alloc (.cells x.cells.toArray 25)).alloc (.cells #[.slice A p c, .slice (some ⟨w.heap.size + 1, 0, none⟩) 1 1, .slice AX (n - p) cX] 23)).drew fun r w' => ∃ v, r = .returned v ∧ OwnL SAcc.cells 25 4 w' w.heap.size v (l.take p ++ x :: l.drop p) ∧ Below w.heap.size w w' := by
  have hW1 : Below w.heap.size w (w.alloc (.cells x.cells.toArray 25)) := alloc_b (Below.refl _ _) (Nat.le_refl _) _
  have hW2 : Below w.heap.size w ((w.alloc (.cells x.cells.toArray 25)).alloc (.cells x.cells.toArray 25)) := alloc_b hW1 (Nat.le_refl _) _
  have hW3 := alloc_b hW2 (Nat.le_refl _) (.cells #[.slice A p c, .slice (some ⟨w.heap.size + 1, 0, none⟩) 1 1, .slice AX (n - p) cX] 23)
  refine joinAcc_any A AX l n c p cX (w.heap.size + 1 + 1) (w.heap.size + 1) x w _ (hW3.trans (drew_belowR _ |>.mono hW3.size)) hn hI hA hA0 hc hc2 hl hp hJ hX hX0 hcX hcX2 ?_ ?_ ?_ ?_
  · rw [cell_drewR, show w.heap.size + 1 + 1 = ((w.alloc (.cells x.cells.toArray 25)).alloc (.cells x.cells.toArray 25)).heap.size by simp, World.cell?_alloc_new]; rfl
  · rw [cell_drewR, show w.heap.size + 1 + 1 = ((w.alloc (.cells x.cells.toArray 25)).alloc (.cells x.cells.toArray 25)).heap.size by simp, World.cell?_alloc_new]; rfl
  · rw [cell_drewR, show w.heap.size + 1 + 1 = ((w.alloc (.cells x.cells.toArray 25)).alloc (.cells x.cells.toArray 25)).heap.size by simp, World.cell?_alloc_new]; rfl
  · have h := memL_lit lay_Acc (w.alloc (.cells x.cells.toArray 25)) x.cells.toArray [x] (by simp) (by simp)
    rw [World.size_alloc] at h
    refine MemL.below h ?_ (fun _ => rfl)
    exact ((Below.refl _ _).alloc (Nat.le_refl _) _).trans (drew_belowR _ |>.mono (by simp))
set_option maxRecDepth 8000 in
set_option maxHeartbeats 4000000 in
theorem withAcc_any (A : Option Addr) (l : List SAcc) (n c p : Nat) (x : SAcc) (w : World) (hn : n = l.length) (hI : MemL SAcc.cells 4 w A l) (hA : c = 0 ∨ ∃ b off, A = some ⟨b, off, none⟩) (hA0 : A = none → c = 0) (hc : n ≤ c) (hc2 : c ≤ 9223372036854775807) (hl : n ≤ 1000000000000) (hp : p ≤ n) : Calls Try.prog 39 #[.slice A n c, .int .i64 (p : Int), x.v] w fun r w' => ∃ v, r = .returned v ∧ OwnL SAcc.cells 25 4 w' w.heap.size v (l.take p ++ x :: l.drop p) ∧ Below w.heap.size w w' := by
  have CJ := fun AX cX hJ hX hX0 hcX hcX2 => joinWAcc_any A AX l n c p cX x w hn hI hA hA0 hc hc2 hl hp hJ hX hX0 hcX hcX2
  obtain ⟨R, hR⟩ : ∃ R, R = l.take p ++ x :: l.drop p := ⟨_, rfl⟩
  rw [← hR] at CJ ⊢
  unfold SAcc.v
  dsimp only [SAcc.cells] at CJ
  rcases hA with h0 | ⟨b, off, rfl⟩
  · subst h0
    obtain rfl : n = 0 := by omega
    obtain rfl : p = 0 := by omega
    obtain rfl : l = [] := List.eq_nil_of_length_eq_zero hn.symm
    have CK := Lib.hid (CJ A 0 (memL_nil _ _) (.inl rfl) (fun _ => rfl) (Nat.le_refl _) (by omega))
    clear hn hI hA0 hc hc2 hl hp hR CJ
    go_enter Try.func39, Try.ntmps39
    go_wp2
    go_region_with (go_at_call 53; (with_reducible refine CK.out.mono ?_); rintro r w3 ⟨v3, rfl, ho3, hb3⟩; have HO3 := Lib.hid ho3; have HB3 := Lib.hid hb3; clear ho3 hb3)
    all_goals go_wp2
    all_goals go_ret
    all_goals exact ⟨_, rfl, HO3.out, HB3.out⟩
  · by_cases hpc : c = p
    · subst hpc
      obtain rfl : n = c := by omega
      have CK := (CJ (some ⟨b, off, none⟩) 0 (by rw [List.drop_eq_nil_of_le (by omega)]; exact memL_nil _ _) (.inl rfl) (fun _ => rfl) (by omega) (by omega))
      rw [Nat.sub_self] at CK
      have CK := Lib.hid CK
      clear hn hI hA0 hc2 hR CJ
      go_enter Try.func39, Try.ntmps39
      go_wp2
      go_region_with (go_at_call 53; (with_reducible refine CK.out.mono ?_); rintro r w3 ⟨v3, rfl, ho3, hb3⟩; have HO3 := Lib.hid ho3; have HB3 := Lib.hid hb3; clear ho3 hb3)
      all_goals go_wp2
      all_goals go_ret
      all_goals exact ⟨_, rfl, HO3.out, HB3.out⟩
    · have CK := Lib.hid (CJ (some ⟨b, off + p * 4, none⟩) (c - p) (hI.back p) (.inr ⟨_, _, rfl⟩) (fun h => by cases h) (by omega) (by omega))
      clear hn hI hA0 hR CJ
      go_enter Try.func39, Try.ntmps39
      go_wp2
      go_region_with (go_at_call 53; (with_reducible refine CK.out.mono ?_); rintro r w3 ⟨v3, rfl, ho3, hb3⟩; have HO3 := Lib.hid ho3; have HB3 := Lib.hid hb3; clear ho3 hb3)
      all_goals go_wp2
      all_goals go_ret
      all_goals exact ⟨_, rfl, HO3.out, HB3.out⟩
end Go.Proofs.Ytjlhmiajklddiaa
