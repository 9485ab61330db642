/-
  Decks of numbers: the walks of novationseat's Next, N, Yes, Some. (Which numbers come is not told.)
-/
import Derived.Test.YtjkbnljjmbfmiaaDoorTpB
import Derived.Lib.Hide
import Derived.Deep.QuietTactic
import Derived.BigQuiet
namespace Go.Proofs.YtjkbnljjmbfmiaaDoor
open Go Go.RowKit
set_option linter.unusedVariables false

/-- What a deck's list is, in the elder memory. -/
structure Nums (W0 : World) (A : Option Addr) (l : List Int) : Prop where
  ints : Ints W0 .u64 A l
  u64 : ∀ i, i < l.length → 0 ≤ l.getD i 0 ∧ l.getD i 0 < 18446744073709551616
  len : l.length ≤ 9223372036854775807
/-- A deck of the call's own, at the struct b, from which so many have been drawn at most. -/
structure Deck (W0 : World) (A : Option Addr) (l : List Int) (c b m : Nat) (W : World) : Prop where
  nums : Nums W0 A l
  low : W0.heap.size ≤ b
  box : ∃ i : Nat, i ≤ m ∧ Rec W b 53 [.slice A l.length c, .int .i64 (i : Int)]
  below : Below W0.heap.size W0 W
section
variable {W0 W W' : World} {A : Option Addr} {l : List Int} {c b m : Nat} {X : Nat → Prop}
theorem Deck.touch (h : Deck W0 A l c b m W) (ht : Touch X W W') (hx : ∀ k, X k → W0.heap.size ≤ k) (hb : ¬ X b) : Deck W0 A l c b m W' := by
  obtain ⟨i, hi, hr⟩ := h.box
  exact ⟨h.nums, h.low, ⟨i, hi, hr.touch ht hb⟩, h.below.trans (ht.below h.below.size hx)⟩
theorem Deck.keep (h : Deck W0 A l c b m W) (hb : Below W.heap.size W W') : Deck W0 A l c b m W' := by
  obtain ⟨i, hi, hr⟩ := h.box
  exact ⟨h.nums, h.low, ⟨i, hi, hr.keep hb⟩, h.below.trans (hb.mono h.below.size)⟩
theorem Deck.more (h : Deck W0 A l c b m W) {m' : Nat} (hm : m ≤ m') : Deck W0 A l c b m' W := by
  obtain ⟨i, hi, hr⟩ := h.box
  exact ⟨h.nums, h.low, ⟨i, by omega, hr⟩, h.below⟩
end
/-- What is drawn: a number of which this holds, and the deck is one further. -/
def DrawC (P : Value → Prop) (W0 : World) (A : Option Addr) (l : List Int) (c b m : Nat) (W : World) (e : Ending) (W' : World) : Prop := ∃ v, e = .returned v ∧ P v ∧ Deck W0 A l c b m W' ∧ Touch (fun k => k = b) W W'
def isU64 (v : Value) : Prop := ∃ n : Nat, v = .int .u64 (n : Int) ∧ n < 18446744073709551616
set_option maxRecDepth 8000 in
set_option maxHeartbeats 2000000 in
theorem deck_next (W0 W : World) (A : Option Addr) (l : List Int) (c b m : Nat) (h : Deck W0 A l c b m W) (hm : m < 1000000000) :
    Calls Tryd.prog 39 #[.pointer (some ⟨b, 0, none⟩)] W (DrawC isU64 W0 A l c b (m + 1) W) := by
  obtain ⟨i, hi, hr⟩ := h.box
  have c0 := hr.cell 0 rfl
  have c1 := hr.cell 1 rfl
  have f1 := hr.frozen 1
  have hl := h.nums.len
  obtain ⟨n, hn⟩ : ∃ n, n = l.length := ⟨_, rfl⟩
  have HD : Hid (∀ j, Deck W0 A l c b (m + 1) ((W.drewN j).setCell ⟨b, 1, none⟩ (.int .i64 ((i : Int) + 1))) ∧ Touch (fun k => k = b) W ((W.drewN j).setCell ⟨b, 1, none⟩ (.int .i64 ((i : Int) + 1)))) := Lib.hid (fun j => by
    have ht0 : Touch (fun k => k = b) W (W.drewN j) := ⟨rfl, rfl, rfl, Nat.le_refl _, fun _ _ _ => rfl⟩
    have ht : Touch (fun k => k = b) W ((W.drewN j).setCell ⟨b, 1, none⟩ (.int .i64 ((i : Int) + 1))) := ht0.trans (Touch.setCell (W.drewN j) ⟨b, 1, none⟩ _) (fun _ _ h => h)
    refine ⟨⟨h.nums, h.low, ⟨i + 1, by omega, ?_⟩, h.below.trans (ht.below h.below.size (fun k e => by rw [e]; exact h.low))⟩, ht⟩
    exact Rec.set (w := W.drewN j) (show Rec (W.drewN j) b _ _ from hr) 1 (.int .i64 ((i : Int) + 1)))
  rw [← hn] at c0 hl
  have hi9 : i < 1000000000 := by omega
  by_cases hlt : i < n
  · obtain ⟨b0, off, rfl, hc⟩ := h.nums.ints (by omega)
    have hcell := (h.below.cell (p := ⟨b0, off + i, none⟩) (block_lt (hc i (by omega)))).trans (hc i (by omega))
    have hu := h.nums.u64 i (by omega)
    obtain ⟨v, hv⟩ := Int.eq_ofNat_of_zero_le hu.1
    rw [hv] at hcell hu
    have hv64 : v < 18446744073709551616 := by omega
    have hne : b ≠ b0 := by
      have := block_lt (hc i (by omega)); have := h.low; simp only at *; omega
    clear h hr hc hu hv hn
    go_enter Tryd.func39, Tryd.ntmps39
    go_wp2
    go_quiet (fail)
    go_wp2
    go_quiet (fail)
    go_wp2
    go_ret
    exact ⟨_, rfl, ⟨v, rfl, hv64⟩, HD.out _⟩
  · clear h hr hn
    go_enter Tryd.func39, Tryd.ntmps39
    go_wp2
    go_quiet (fail)
    go_wp2
    go_ret
    exact ⟨_, rfl, ⟨0, rfl, by omega⟩, HD.out _⟩
/-- A number from 0 to n - 1. -/
def isN (n : Nat) (v : Value) : Prop := ∃ k : Nat, v = .int .i64 (k : Int) ∧ k < n
set_option maxRecDepth 8000 in
set_option maxHeartbeats 2000000 in
theorem deck_n (W0 W : World) (A : Option Addr) (l : List Int) (c b m n : Nat) (h : Deck W0 A l c b m W) (hm : m < 1000000000) (hn : 0 < n) (hn2 : n ≤ 1000000000000) :
    Calls Tryd.prog 21 #[.pointer (some ⟨b, 0, none⟩), .int .i64 (n : Int)] W (DrawC (isN n) W0 A l c b (m + 1) W) := by
  have C := Lib.hid (deck_next W0 W A l c b m h hm)
  clear h
  go_enter Tryd.func21, Tryd.ntmps21
  go_wp2_with (go_at_call 39; (with_reducible refine C.out.mono ?_); rintro r w1 ⟨_, rfl, ⟨v, rfl, hv⟩, h1, ht1⟩; have H1 := Lib.hid h1; have HT := Lib.hid ht1; clear h1 ht1; (obtain ⟨k, hk⟩ : ∃ k, k = v % n := ⟨_, rfl⟩); have hkn : k < n := (by rw [hk]; exact Nat.mod_lt _ hn); have hmod : (v : Int) % (n : Int) = (k : Int) := (by rw [hk]; rfl); have HKN := Lib.hid hkn; clear hk)
  go_ret
  exact ⟨_, rfl, ⟨k, rfl, hkn⟩, H1.out, HT.out⟩
set_option maxRecDepth 8000 in
set_option maxHeartbeats 2000000 in
theorem deck_yes (W0 W : World) (A : Option Addr) (l : List Int) (c b m n : Nat) (h : Deck W0 A l c b m W) (hm : m < 1000000000) (hn : 0 < n) (hn2 : n ≤ 1000000000000) :
    Calls Tryd.prog 25 #[.pointer (some ⟨b, 0, none⟩), .int .i64 (n : Int)] W (DrawC (fun v => v = .bool true ∨ v = .bool false) W0 A l c b (m + 1) W) := by
  have C := Lib.hid (deck_n W0 W A l c b m n h hm hn hn2)
  clear h
  go_enter Tryd.func25, Tryd.ntmps25
  go_wp2_with (go_at_call 21; (with_reducible refine C.out.mono ?_); rintro r w1 ⟨_, rfl, ⟨k, rfl, hk⟩, h1, ht1⟩; have H1 := Lib.hid h1; have HT := Lib.hid ht1; clear h1 ht1)
  go_ret
  refine ⟨_, rfl, ?_, H1.out, HT.out⟩
  generalize ((k : Int) == (n : Int) - 1) = x
  cases x
  · exact .inr rfl
  · exact .inl rfl
def isSome63 (v : Value) : Prop := ∃ k : Nat, v = .int .i64 (k : Int) ∧ k < 9223372036854775808
set_option maxRecDepth 8000 in
set_option maxHeartbeats 4000000 in
theorem deck_some (W0 W : World) (A : Option Addr) (l : List Int) (c b m : Nat) (h : Deck W0 A l c b m W) (hm : m < 1000000000) :
    Calls Tryd.prog 22 #[.pointer (some ⟨b, 0, none⟩)] W (DrawC isSome63 W0 A l c b (m + 1) W) := by
  have C := Lib.hid (deck_next W0 W A l c b m h hm)
  clear h
  go_enter Tryd.func22, Tryd.ntmps22
  go_wp2_with (go_at_call 39; (with_reducible refine C.out.mono ?_); rintro r w1 ⟨_, rfl, ⟨v, rfl, hv⟩, h1, ht1⟩; have H1 := Lib.hid h1; have HT := Lib.hid ht1; clear h1 ht1)
  all_goals go_ret
  all_goals refine ⟨_, rfl, ?_, H1.out, HT.out⟩
  all_goals first
    | (refine ⟨v / 2, ?_, by omega⟩; exact congrArg (Value.int .i64) (show (v : Int) / 2 = ((v / 2 : Nat) : Int) from rfl))
    | (refine ⟨v / 8 % 1000000000000, ?_, by omega⟩; exact congrArg (Value.int .i64) (show (v : Int) / 8 % 1000000000000 = ((v / 8 % 1000000000000 : Nat) : Int) from rfl))
    | (refine ⟨v / 8 % 2, ?_, by omega⟩; exact congrArg (Value.int .i64) (show (v : Int) / 8 % 2 = ((v / 8 % 2 : Nat) : Int) from rfl))
    | (refine ⟨v / 8 % 5000, ?_, by omega⟩; exact congrArg (Value.int .i64) (show (v : Int) / 8 % 5000 = ((v / 8 % 5000 : Nat) : Int) from rfl))
end Go.Proofs.YtjkbnljjmbfmiaaDoor
