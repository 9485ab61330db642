/-
  The walk of the law ShareCaps, over the reference's Split by what is told of it.
-/
import Derived.Test.YtnfoneeplkjhbaaRfCap2
import Derived.Test.YtnfoneeplkjhbaaRfSp3
namespace Go.Proofs.Ytnfoneeplkjhbaa
open Go.RowKit

theorem rcapped_any (RS : Hid RSplitSaid) (t : Int) (A B : Option Addr) (l c : List Int) (c1 c2 : Nat) (w : World) (ht : I64 t) (hr : Ints w .i64 A l) (hq : Ints w .i64 B c) (hl : ∀ x ∈ l, I64 x) (hc : ∀ x ∈ c, I64 x) (hn : l.length ≤ 9223372036854775807) (hn2 : c.length ≤ 9223372036854775807) :
    Calls Try.prog 20 #[.int .i64 t, .slice A l.length c1, .slice B c.length c2] w (SliceFC w (capV t l c).1 (capV t l c).2 (capC t l c)) := by
  unfold capV
  cases hm : mayC t l c
  · have e : capC t l c = 1 := by unfold capC; rw [hm]; rfl
    rw [e]
    exact rcapped_form t A B l c c1 c2 w hr hq hn hn2 (fun h => by rw [(mayC_iff t l c).2 h] at hm; cases hm)
  · have hM := (mayC_iff t l c).1 hm
    cases hs : fits l.sum
    · have e : capC t l c = 2 := by unfold capC; rw [hm, hs]; rfl
      rw [e]
      exact rcapped_over t A B l c c1 c2 w hr hq hl hM hs
    · have e : capC t l c = 0 := by unfold capC; rw [hm, hs]; rfl
      rw [e, if_pos rfl]
      exact rcapped_some RS t A B l c c1 c2 w hr hq hl (mayC_start ht hc hM hs) hM

set_option maxRecDepth 8000 in
set_option maxHeartbeats 2000000 in
theorem caps_walk (RS : Hid RSplitSaid) (t : Int) (A B : Option Addr) (l c : List Int) (c1 c2 : Nat) (w : World) (ht : I64 t) (hr : Ints w .i64 A l) (hq : Ints w .i64 B c) (hl : ∀ x ∈ l, I64 x) (hc : ∀ x ∈ c, I64 x) (hn : l.length ≤ 9223372036854775807) (hn2 : c.length ≤ 9223372036854775807) :
    Calls Try.prog 4 #[.int .i64 t, .slice A l.length c1, .slice B c.length c2] w fun e w' => e = .returned (.bool true) ∧ Below w.heap.size w w' := by
  have c0 := Lib.hid known3_any
  have CA : Hid (∀ W, Below w.heap.size w W → Calls Try.prog 19 #[.int .i64 t, .slice A l.length c1, .slice B c.length c2] W (SliceFC W (capV t l c).1 (capV t l c).2 (capC t l c))) := Lib.hid fun W hW => capped_any t A B l c c1 c2 W ht (hr.below hW) (hq.below hW) hl hc hn hn2
  have CB : Hid (∀ W, Below w.heap.size w W → Calls Try.prog 20 #[.int .i64 t, .slice A l.length c1, .slice B c.length c2] W (SliceFC W (capV t l c).1 (capV t l c).2 (capC t l c))) := Lib.hid fun W hW => rcapped_any RS t A B l c c1 c2 W ht (hr.below hW) (hq.below hW) hl hc hn hn2
  have hvl : (capV t l c).1.length ≤ 9223372036854775807 → True := fun _ => trivial
  have CH : Hid (∀ W (P Q : Option Addr) (p q : Nat), Ints W .i64 P (capV t l c).1 → Ints W .i64 Q (capV t l c).1 → (capV t l c).1.length ≤ 9223372036854775807 → Calls Try.prog 15 #[.slice P (capV t l c).1.length p, .slice Q (capV t l c).1.length q] W fun e w' => e = .returned (.bool true) ∧ Below W.heap.size W w') := Lib.hid fun W P Q p q h1 h2 h3 => by
    have h := hInts_any P Q _ _ p q W h1 h2 h3
    rw [same_self] at h
    exact h
  clear hr hq hl hc ht hvl
  generalize (capV t l c).1 = a at *
  generalize (capV t l c).2 = f at *
  generalize capC t l c = cd at *
  by_cases h1 : 70 < l.length
  · have d1 : decide ((70 : Int) < (l.length : Int)) = true := by simp; omega
    go_enter Try.func4, Try.ntmps4
    go_wp2_with (go_at_call 10; refine (c0.out _).mono ?_; rintro e w1 ⟨rfl, hw1⟩)
    go_ret
    exact ⟨rfl, hw1⟩
  · have d1 : decide ((70 : Int) < (l.length : Int)) = false := by simp; omega
    by_cases h2 : 70 < c.length
    · have d2 : decide ((70 : Int) < (c.length : Int)) = true := by simp; omega
      go_enter Try.func4, Try.ntmps4
      go_wp2_with (go_at_call 10; refine (c0.out _).mono ?_; rintro e w1 ⟨rfl, hw1⟩)
      go_ret
      exact ⟨rfl, hw1⟩
    · have d2 : decide ((70 : Int) < (c.length : Int)) = false := by simp; omega
      go_enter Try.func4, Try.ntmps4
      go_wp2_with (first
        | (go_at_call 10; refine (c0.out _).mono ?_; rintro e w1 ⟨rfl, hw1⟩; have HW1 := Lib.hid hw1; clear hw1)
        | (go_at_call 19; refine (CA.out _ HW1.out).mono ?_; rintro e w2 ⟨P, p, rfl, hP, hp1, hp2, _, hb⟩; have HP := Lib.hid hP; have HW2 := Lib.hid (grew HW1.out hb); have HL := Lib.hid (Nat.le_trans hp1 hp2); clear hP hb)
        | (go_at_call 20; refine (CB.out _ HW2.out).mono ?_; rintro e w3 ⟨Q, q, rfl, hQ, hq1, hq2, _, hb⟩; have HQ := Lib.hid hQ; replace HP := Lib.hid (HP.out.below hb); have HW3 := Lib.hid (grew HW2.out hb); clear hQ hb)
        | (go_at_call 15; refine (CH.out _ _ _ _ _ HP.out HQ.out HL.out).mono ?_; rintro e w4 ⟨rfl, hb⟩; have HW4 := Lib.hid (grew HW3.out hb); clear hb))
      go_ret
      exact ⟨rfl, HW4.out⟩

theorem wf_i64 {a : Int} (h : (Lit.int .i64 a).wf = true) : I64 a := by
  unfold I64; simpa [Lit.wf, IntKind.min, IntKind.max, IntKind.signed, IntKind.bits] using h
theorem caps_law (t : Int) (A : Option Addr) (len cap : Nat) (zs : List Int) (B : Option Addr) (len2 cap2 : Nat) (zs2 : List Int) (w : World) (h0 : (Lit.int .i64 t).wf = true)
    (h : (A = none ∧ len = 0 ∧ cap = 0 ∧ zs = []) ∨
      ∃ x, A = some x ∧ len ≤ cap ∧ cap ≤ maxLen ∧ zs.length = cap ∧ (∀ i, i < zs.length → w.cell? (x.add i) = some (.int .i64 (zs.getD i 0))) ∧ ∀ n ∈ zs, (Lit.int .i64 n).wf = true)
    (h' : (B = none ∧ len2 = 0 ∧ cap2 = 0 ∧ zs2 = []) ∨
      ∃ x, B = some x ∧ len2 ≤ cap2 ∧ cap2 ≤ maxLen ∧ zs2.length = cap2 ∧ (∀ i, i < zs2.length → w.cell? (x.add i) = some (.int .i64 (zs2.getD i 0))) ∧ ∀ n ∈ zs2, (Lit.int .i64 n).wf = true) :
    Calls Try.prog 4 #[.int .i64 t, .slice A len cap, .slice B len2 cap2] w fun e w' => e = .returned (.bool true) ∧ Below w.heap.size w w' := by
  obtain ⟨l, rfl, hr, hn, hl⟩ := row_ints h
  obtain ⟨m, rfl, hr2, hn2, hl2⟩ := row_ints h'
  exact caps_walk (Lib.hid rsplit_said) t A B l m cap cap2 w (wf_i64 h0) hr hr2 (fun x hx => wf_i64 (hl x hx)) (fun x hx => wf_i64 (hl2 x hx)) hn hn2
end Go.Proofs.Ytnfoneeplkjhbaa
