/-
  The walk of novationlaw4's all; the records of records one behind the other, and of a front of them, as lists.
-/
import Derived.Test.YtmopipclheohcaaRws
import Derived.Test.YtmopipclheohcaaFr2
namespace Go.Proofs.Ytmopipclheohcaa
open Go.RowKit

theorem oct_cat (ls : List (List Nat)) (h : Fits ls) (ho : ∀ i, i < ls.length → Oct (ls.getD i [])) (k : Nat) (hk : k ≤ ls.length) : Oct (catL (ls.take k)) := by
  induction k with
  | zero => intro x hx; simp [catL] at hx
  | succ k ih =>
    rw [catL_take ls k (by omega)]
    exact Oct.append (ih (by omega)) (oct_rec (ho k (by omega)) (h.2 k (by omega)))
theorem OwnB.keep {w w' : World} {base : Nat} {v : Value} {l : List Nat} (h : OwnB w base v l) (hb : Below w.heap.size w w') : OwnB w' base v l := by
  refine ⟨h.1, ?_⟩
  rcases h.2 with hn | ⟨g, cap, cur, rfl, hg, hgg, rest⟩
  · exact .inl hn
  · exact .inr ⟨g, cap, cur, rfl, hg, by rw [hb.block g (Array.getElem?_eq_some_iff.1 hgg).1]; exact hgg, rest⟩
/-- New bytes, and that all is well. -/
def AllC (w : World) (l : List Nat) (e : Ending) (w' : World) : Prop :=
  ∃ v, e = .returned (.tuple #[v, .bool true]) ∧ OwnB w' w.heap.size v l ∧ Below w.heap.size w w'
set_option maxRecDepth 8000 in
set_option maxHeartbeats 2000000 in
theorem all_any (A : Option Addr) (ls : List (List Nat)) (c : Nat) (w : World) (hr : Rws w A ls) (hf : Fits ls) :
    Calls Try.prog 14 #[.slice A ls.length c] w (AllC w (catL ls)) := by
  have h20 := hf.1
  have HF := Lib.hid hf
  clear hf
  have HR := Lib.hid hr
  clear hr
  go_enter Try.func14, Try.ntmps14
  go_wp2
  go_loopw [4, 5, 6, 7] (fun o i _ _ wr => ∃ k : Nat, k ≤ ls.length ∧ i = .int .i64 k ∧ Hid (OwnB wr w.heap.size o (catL (ls.take k))) ∧ Hid (Below w.heap.size w wr)) (fun _ i _ _ _ => ls.length - (intOf i).toNat)
  case atStart => exact ⟨0, Nat.zero_le _, rfl, Lib.hid (ownB_nil _ _), Lib.hid (Below.refl _ _)⟩
  case round =>
    obtain ⟨k, hk, rfl, HO, HB⟩ := hrel
    by_cases hlt : k < ls.length
    · obtain ⟨b, off, rfl, hc⟩ := (HR.out.below HB.out) (by omega)
      obtain ⟨A', c', hcell, hB', hO', hA', _, _⟩ := hc k hlt
      have h4 := HF.out.2 k hlt
      have C := Lib.hid (put_any A' (ls.getD k []) c' wr hB' hO' hA' h4)
      have HT := Lib.hid (catL_take ls k hlt)
      have HL := Lib.hid (catL_bound ls HF.out k (by omega))
      have HL2 := Lib.hid (recL_length (ls.getD k []))
      have HH := Lib.hid h4
      generalize ls.getD k [] = x at *
      generalize catL (ls.take k) = P at *
      have hsz := HB.out.size
      clear hc hB' hO' hA'
      go_wp2_with (first
        | (go_at_call 9; refine C.out.mono ?_; rintro e w2 ⟨v2, rfl, hv2, hb2⟩; obtain ⟨A2, c2, rfl, hB2, _, _, hA2, _⟩ := OwnB.form hv2; have HB2 := Lib.hid (HB.out.trans (hb2.mono hsz)); have HO2 := Lib.hid (OwnB.keep HO.out hb2))
        | (at_builtin; refine wpList_app rfl (.tmp 24) (.tmp 25) rfl w.heap.size _ P rfl HO2.out _ _ _ (recL x) rfl rfl hB2 hA2 ?c6 ?c7 ?_))
      case c6 => have := HL.out; rw [HL2.out]; have := HH.out; omega
      case c7 => exact HB2.out.size
      intro v3 w3 ho3 hb3 _
      rw [← HT.out] at ho3
      have HO3 := Lib.hid ho3
      have HB3 := Lib.hid (HB2.out.trans hb3)
      clear ho3 hb3 hv2 hb2 hB2 hcell HO2 HO HB HB2
      go_wp2
      go_roundw
      case rel => exact ⟨k + 1, by omega, by go_num, HO3, HB3⟩
      case measure => simp [intOf]; omega
    · obtain rfl : k = ls.length := by omega
      rw [List.take_length] at HO
      go_wp2
      go_ret2
      exact ⟨_, rfl, HO.out, HB.out⟩
end Go.Proofs.Ytmopipclheohcaa
