/-
  Plain numbers by digits: the product, round by round. No program is named here.
-/
import Derived.Test.YtiblbhppojfdaaaDig
namespace Go.Proofs.Ytiblbhppojfdaaa

/-- Ahead of round i of the product: o is what has been gathered. -/
def OutInv (a b : List Int) (i : Nat) (o : List Int) : Prop :=
  o.length = a.length + b.length + 1 ∧ Digs o ∧ (∀ k, i + b.length ≤ k → o.getD k 0 = 0) ∧ dapp (o.take i) (dval (o.drop i) + dval (a.drop i) * dval b) = dval a * dval b
/-- Within round i, ahead of the digit j of b, c carried, o0 as the round began. -/
def InInv (a b : List Int) (i : Nat) (o0 : List Int) (j : Nat) (c : Int) (o : List Int) : Prop :=
  o.length = a.length + b.length + 1 ∧ Digs o ∧ o.take i = o0.take i ∧ (∀ k, i + j ≤ k → o.getD k 0 = o0.getD k 0) ∧
    dapp ((o.drop i).take j) (dval (o.drop (i + j)) + c + a.getD i 0 * dval (b.drop j)) = dval (o0.drop i) + a.getD i 0 * dval b

theorem out_start (a b : List Int) : OutInv a b 0 (List.replicate (a.length + b.length + 1) 0) := by
  have hz : ∀ k, (List.replicate (a.length + b.length + 1) (0 : Int)).getD k 0 = 0 := by
    intro k
    rw [List.getD_eq_getElem?_getD, List.getElem?_replicate]
    split <;> rfl
  refine ⟨List.length_replicate, fun d hd => ?_, fun k _ => hz k, ?_⟩
  · have := (List.mem_replicate.1 hd).2; omega
  · simp only [List.take_zero, List.drop_zero, dapp, dval_zeros _ hz]; omega
theorem in_start {a b : List Int} {i : Nat} {o : List Int} (h : OutInv a b i o) : InInv a b i o 0 0 o := by
  refine ⟨h.1, h.2.1, rfl, fun _ _ => rfl, ?_⟩
  simp only [List.take_zero, dapp, Nat.add_zero, List.drop_zero]
  omega

theorem mul_bound {x y : Int} (hx : 0 ≤ x ∧ x < 4294967296) (hy : 0 ≤ y ∧ y < 4294967296) : 0 ≤ x * y ∧ x * y ≤ 18446744065119617025 := by
  obtain ⟨a, rfl⟩ := Int.eq_ofNat_of_zero_le hx.1
  obtain ⟨b, rfl⟩ := Int.eq_ofNat_of_zero_le hy.1
  have h : a * b ≤ 4294967295 * 4294967295 := Nat.mul_le_mul (by omega) (by omega)
  rw [← Int.natCast_mul]
  omega

theorem in_step {a b : List Int} {i : Nat} {o0 : List Int} {j : Nat} {c : Int} {o : List Int} (h : InInv a b i o0 j c o) (hi : i + j < o.length) (s : Int) (hs : s = c + (o.getD (i + j) 0 + a.getD i 0 * b.getD j 0)) :
    InInv a b i o0 (j + 1) (s / 4294967296) (o.set (i + j) (s % 4294967296)) := by
  obtain ⟨h1, h2, h3, h4, h5⟩ := h
  refine ⟨by rw [List.length_set]; exact h1, digs_set h2 _ (by omega), ?_, fun k hk => ?_, ?_⟩
  · rw [List.take_set_of_le (by omega)]; exact h3
  · rw [← h4 k (by omega), List.getD_eq_getElem?_getD, List.getElem?_set_ne (by omega), ← List.getD_eq_getElem?_getD]
  · have e1 : (o.set (i + j) (s % 4294967296)).drop (i + (j + 1)) = o.drop (i + (j + 1)) := by
      rw [List.drop_set_of_lt (by omega)]
    have e2 : ((o.set (i + j) (s % 4294967296)).drop i).take (j + 1) = (o.drop i).take j ++ [s % 4294967296] := by
      rw [List.drop_set, if_neg (by omega), show i + j - i = j from by omega]
      rw [List.take_succ_eq_append_getElem (by rw [List.length_set, List.length_drop]; omega), List.getElem_set_self, List.take_set_of_le (Nat.le_refl _)]
    rw [e1, e2, dapp_snoc, ← h5]
    congr 1
    have f1 := dval_drop o (i + j)
    have f2 := dval_drop b j
    have f3 : a.getD i 0 * dval (b.drop j) = a.getD i 0 * b.getD j 0 + 4294967296 * (a.getD i 0 * dval (b.drop (j + 1))) := by
      rw [f2, Int.mul_add, Int.mul_left_comm]
    rw [f1, f3, show i + (j + 1) = i + j + 1 from by omega]
    generalize a.getD i 0 * b.getD j 0 = p at *
    generalize a.getD i 0 * dval (b.drop (j + 1)) = q at *
    omega

theorem in_last {a b : List Int} {i : Nat} {o0 : List Int} {j : Nat} {o : List Int} (h0 : OutInv a b i o0) (h : InInv a b i o0 j 0 o) (hi : i < a.length) (hj : b.length ≤ j) (hj2 : j ≤ b.length + 1) : OutInv a b (i + 1) o := by
  obtain ⟨h1, h2, h3, h4, h5⟩ := h
  obtain ⟨g1, g2, g3, g4⟩ := h0
  refine ⟨h1, h2, fun k hk => by rw [h4 k (by omega)]; exact g3 k (by omega), ?_⟩
  have e : dval (o.drop i) = dval (o0.drop i) + a.getD i 0 * dval b := by
    have hs := dapp_split (o.drop i) j
    rw [List.drop_drop] at hs
    rw [List.drop_eq_nil_of_le hj, dval_nil, Int.mul_zero, Int.add_zero, Int.add_zero, hs] at h5
    exact h5
  rw [dapp_take o i (by omega), h3, ← g4]
  congr 1
  have f1 := dval_drop o i
  have f2 := dval_drop a i
  have f3 : dval (a.drop i) * dval b = a.getD i 0 * dval b + 4294967296 * (dval (a.drop (i + 1)) * dval b) := by
    rw [f2, Int.add_mul, Int.mul_assoc]
  rw [f3]
  generalize a.getD i 0 * dval b = p at *
  generalize dval (a.drop (i + 1)) * dval b = q at *
  omega

theorem out_last {a b o : List Int} (h : OutInv a b a.length o) : dval o = dval a * dval b := by
  obtain ⟨h1, h2, h3, h4⟩ := h
  rw [List.drop_length, dval_nil, Int.zero_mul, Int.add_zero, dapp_split] at h4
  exact h4
end Go.Proofs.Ytiblbhppojfdaaa
