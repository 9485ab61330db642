/-
  The walks of wire's sideWord, sideOf, fieldText, valueOf, kindOf.
-/
import Derived.Test.YtjkbnljjmbfmiaaDoorWp1
import Derived.Test.YtjkbnljjmbfmiaaDoorWp3
import Derived.Test.YtjkbnljjmbfmiaaDoorWsh
import Derived.Test.YtjkbnljjmbfmiaaDoorWt2
import Derived.Laws.Strings
import Derived.BigQuiet
namespace Go.Proofs.YtjkbnljjmbfmiaaDoor
open Go Go.RowKit
set_option linter.unusedVariables false

theorem bstr_same {a b : List Nat} (ha : Oct a) (hb : Oct b) (h : bstr a = bstr b) : a = b := by
  have h1 := congrArg (fun x : ByteArray => x.data.toList) h
  simp only [bstr_list] at h1
  have inj : ∀ (a b : List Nat), Oct a → Oct b → a.map UInt8.ofNat = b.map UInt8.ofNat → a = b := by
    intro a
    induction a with
    | nil => intro b _ _ h; cases b with
      | nil => rfl
      | cons y b => simp at h
    | cons x a ih =>
      intro b ha hb h
      cases b with
      | nil => simp at h
      | cons y b =>
        simp only [List.map_cons, List.cons.injEq] at h
        have hx := ha x (List.mem_cons_self ..)
        have hy := hb y (List.mem_cons_self ..)
        have h2 := congrArg UInt8.toNat h.1
        simp at h2
        rw [ih b (fun z hz => ha z (List.mem_cons_of_mem _ hz)) (fun z hz => hb z (List.mem_cons_of_mem _ hz)) h.2, show x = y by omega]
  exact inj a b ha hb h1
theorem beq_str {a b : List Nat} (ha : Oct a) (hb : Oct b) : ((bstr a).toList == (bstr b).toList) = decide (a = b) := by
  by_cases h : a = b
  · subst h; simp
  · rw [decide_eq_false h]
    exact beq_eq_false_iff_ne.2 (fun h1 => h (bstr_same ha hb (by rw [ByteArray.toList_eq, ByteArray.toList_eq] at h1; exact Go.WideShapes.bytes_inj h1)))
set_option maxRecDepth 8000 in
set_option maxHeartbeats 1000000 in
theorem wside_any (e : Ev) (w : World) : Calls Tryd.prog 40 #[e.v] w fun r w' => r = .returned (.string (bstr (sideOf e.kind e.side))) ∧ Below w.heap.size w w' := by
  rw [side_str]
  have hb := (Below.refl _ w).alloc (Nat.le_refl _) (.cells #[.int .i64 e.kind, .int .i64 e.member, .int .i64 e.acc, .int .i64 e.inst, .int .i64 e.side, .int .i64 e.id, .int .i64 e.q, .int .i64 e.p] 23)
  have HB := Lib.hid hb
  clear hb
  unfold Ev.v
  by_cases h2 : e.kind = 2 <;> by_cases h1 : e.side = 1
  all_goals (
    simp only [h2, h1, if_true, if_false]
    go_enter Tryd.func40, Tryd.ntmps40
    go_wp2
    go_ret
    exact ⟨rfl, by first | exact HB.out | (have := HB.out; rw [h1] at this; exact this) | (have := HB.out; rw [h2] at this; exact this) | (have := HB.out; rw [h2, h1] at this; exact this)⟩)
/-- What sideOf answers. -/
def sideV (l : List Nat) : Int × Bool := if l = [104, 111, 117, 115, 101] then (1, true) else if l = [99, 108, 105, 101, 110, 116] then (2, true) else if l = [98, 117, 121] then (1, true) else if l = [115, 101, 108, 108] then (2, true) else (0, false)
set_option maxRecDepth 8000 in
set_option maxHeartbeats 1000000 in
theorem wsideof_any (l : List Nat) (hO : Oct l) (w : World) : Calls Tryd.prog 57 #[.string (bstr l)] w fun r w' => r = .returned (.tuple #[.int .i64 (sideV l).1, .bool (sideV l).2]) ∧ w' = w := by
  have g1 : ((bstr l).toList == ([104, 111, 117, 115, 101] : List UInt8)) = decide (l = [104, 111, 117, 115, 101]) := by rw [show ([104, 111, 117, 115, 101] : List UInt8) = (bstr [104, 111, 117, 115, 101]).toList from by rw [ByteArray.toList_eq]; rfl]; exact beq_str hO (by unfold Oct; decide)
  have g2 : ((bstr l).toList == ([99, 108, 105, 101, 110, 116] : List UInt8)) = decide (l = [99, 108, 105, 101, 110, 116]) := by rw [show ([99, 108, 105, 101, 110, 116] : List UInt8) = (bstr [99, 108, 105, 101, 110, 116]).toList from by rw [ByteArray.toList_eq]; rfl]; exact beq_str hO (by unfold Oct; decide)
  have g3 : ((bstr l).toList == ([98, 117, 121] : List UInt8)) = decide (l = [98, 117, 121]) := by rw [show ([98, 117, 121] : List UInt8) = (bstr [98, 117, 121]).toList from by rw [ByteArray.toList_eq]; rfl]; exact beq_str hO (by unfold Oct; decide)
  have g4 : ((bstr l).toList == ([115, 101, 108, 108] : List UInt8)) = decide (l = [115, 101, 108, 108]) := by rw [show ([115, 101, 108, 108] : List UInt8) = (bstr [115, 101, 108, 108]).toList from by rw [ByteArray.toList_eq]; rfl]; exact beq_str hO (by unfold Oct; decide)
  unfold sideV
  generalize bstr l = S at *
  clear hO
  by_cases h1 : l = [104, 111, 117, 115, 101]
  · rw [if_pos h1]; rw [decide_eq_true h1] at g1; clear h1 g2 g3 g4
    go_enter Tryd.func57, Tryd.ntmps57
    go_wp2
    go_ret2
    exact ⟨rfl, rfl⟩
  rw [if_neg h1]; rw [decide_eq_false h1] at g1; clear h1
  by_cases h2 : l = [99, 108, 105, 101, 110, 116]
  · rw [if_pos h2]; rw [decide_eq_true h2] at g2; clear h2 g3 g4
    go_enter Tryd.func57, Tryd.ntmps57
    go_wp2
    go_ret2
    exact ⟨rfl, rfl⟩
  rw [if_neg h2]; rw [decide_eq_false h2] at g2; clear h2
  by_cases h3 : l = [98, 117, 121]
  · rw [if_pos h3]; rw [decide_eq_true h3] at g3; clear h3 g4
    go_enter Tryd.func57, Tryd.ntmps57
    go_wp2
    go_ret2
    exact ⟨rfl, rfl⟩
  rw [if_neg h3]; rw [decide_eq_false h3] at g3; clear h3
  by_cases h4 : l = [115, 101, 108, 108]
  · rw [if_pos h4]; rw [decide_eq_true h4] at g4; clear h4
    go_enter Tryd.func57, Tryd.ntmps57
    go_wp2
    go_ret2
    exact ⟨rfl, rfl⟩
  rw [if_neg h4]; rw [decide_eq_false h4] at g4; clear h4
  go_enter Tryd.func57, Tryd.ntmps57
  go_wp2
  go_ret2
  exact ⟨rfl, rfl⟩
theorem side_val {l : List Nat} {y : Ev} (hs : y.side = 1 ∨ y.side = 2) (h : l = sideOf y.kind y.side) : (sideV l).2 = true ∧ (sideV l).1 = y.side := by
  subst h
  unfold sideOf
  rcases hs with e | e <;> rw [e] <;> by_cases hk : y.kind = 2 <;> simp [hk, sideV]
theorem sideV_i64 (l : List Nat) : I64 (sideV l).1 := by
  unfold sideV
  repeat' split
  all_goals (unfold I64; simp)
set_option maxRecDepth 8000 in
set_option maxHeartbeats 2000000 in
theorem wvalueof_side (l : List Nat) (hO : Oct l) (w : World) : Calls Tryd.prog 48 #[.string (bstr l), .int .i32 83] w fun r w' => ∃ x ok, r = .returned (.tuple #[.int .i64 x, .bool ok]) ∧ ValIs l 83 x ok ∧ Below w.heap.size w w' := by
  have C := Lib.hid (fun w => wsideof_any l hO w)
  have HV : Hid (ValIs l 83 (sideV l).1 (sideV l).2) := Lib.hid ⟨sideV_i64 l, fun y _ hs h => by
    have := side_val (hs rfl) (show l = sideOf y.kind y.side from h)
    exact this⟩
  generalize (sideV l).1 = x at *
  generalize (sideV l).2 = ok at *
  generalize bstr l = S at *
  cases ok
  all_goals (
    go_enter Tryd.func48, Tryd.ntmps48
    go_wp2_with (go_at_call 57; (with_reducible refine (C.out _).mono ?_); rintro r _ ⟨rfl, rfl⟩)
    go_ret2
    exact ⟨_, _, rfl, HV.out, Below.refl _ _⟩)
theorem val_of_parse {l : List Nat} {f : Nat} {x : Int} (hf : f ≠ 83) (hx : I64 x) (h : Lib.parseIntB 64 (l.map UInt8.ofNat) = .ok x) : ValIs l f x true := ⟨hx, fun y ok _ e => by
  unfold fieldL at e
  rw [if_neg hf] at e
  rw [e, parse_dec (ok.val f)] at h
  injection h with h
  exact ⟨rfl, h.symm⟩⟩
theorem val_of_none {l : List Nat} {f : Nat} {x : Int} (hf : f ≠ 83) (hx : I64 x) (h : ∀ y, Lib.parseIntB 64 (l.map UInt8.ofNat) ≠ .ok y) : ValIs l f x false := ⟨hx, fun y ok _ e => by
  unfold fieldL at e
  rw [if_neg hf] at e
  exact absurd (by rw [e, parse_dec (ok.val f)]) (h (y.val f))⟩
set_option maxRecDepth 8000 in
set_option maxHeartbeats 2000000 in
theorem wvalueof_num (l : List Nat) (f : Nat) (hf : f ≠ 83) (hl : l.length ≤ 1000000) (w : World) (hw : Laid w) : Calls Tryd.prog 48 #[.string (bstr l), .int .i32 (f : Int)] w fun r w' => ∃ x ok, r = .returned (.tuple #[.int .i64 x, .bool ok]) ∧ ValIs l f x ok ∧ Below w.heap.size w w' := by
  have C := Lib.hid (parse_any l hl w hw)
  have hd : ((f : Int) == 83) = false := beq_eq_false_iff_ne.2 (by omega)
  have HF := Lib.hid hf
  generalize bstr l = S at *
  clear hl hw hf
  go_enter Tryd.func48, Tryd.ntmps48
  go_wp2_with (go_at_call 58; (with_reducible refine C.out.mono ?_); rintro r w1 ⟨⟨x, v, rfl, hx, hv⟩, hb⟩; have HB := Lib.hid hb; have HX := Lib.hid hx; clear hb hx C; rcases hv with ⟨rfl, hv⟩ | ⟨⟨tp, p, rfl⟩, hv⟩ <;> have HV := Lib.hid hv <;> clear hv)
  · go_quiet (fail)
    go_wp2
    go_ret2
    exact ⟨_, _, rfl, val_of_parse HF.out HX.out HV.out, HB.out.trans (Go.Joins.below_draws _ _ _)⟩
  · go_quiet (fail)
    go_wp2
    go_ret2
    exact ⟨_, _, rfl, val_of_none HF.out HX.out HV.out, HB.out.trans (Go.Joins.below_draws _ _ _)⟩
theorem wvalueof_any (l : List Nat) (f : Nat) (hO : Oct l) (hl : l.length ≤ 1000000) (w : World) (hw : Laid w) : Calls Tryd.prog 48 #[.string (bstr l), .int .i32 (f : Int)] w fun r w' => ∃ x ok, r = .returned (.tuple #[.int .i64 x, .bool ok]) ∧ ValIs l f x ok ∧ Below w.heap.size w w' := by
  by_cases h : f = 83
  · subst h; exact wvalueof_side l hO w
  · exact wvalueof_num l f h hl w hw
/-- Which kind has this word. -/
def KindIs (l : List Nat) (K : Int) : Prop := (0 ≤ K ∧ K ≤ 22) ∧ ∀ j : Int, 1 ≤ j → j ≤ 22 → wordOf j = l → K = j
set_option maxRecDepth 8000 in
set_option maxHeartbeats 2000000 in
theorem wkindof_any (l : List Nat) (hO : Oct l) (w : World) : Calls Tryd.prog 47 #[.string (bstr l)] w fun r w' => ∃ K, r = .returned (.int .i64 K) ∧ KindIs l K ∧ Below w.heap.size w w' := by
  have C := Lib.hid (fun k w => wword_any k w)
  have HQ := Lib.hid (fun k : Int => beq_str (word_octs k) hO)
  obtain ⟨S, hS⟩ : ∃ S, S = bstr l := ⟨_, rfl⟩
  rw [← hS] at HQ ⊢
  clear hS hO
  go_enter Tryd.func47, Tryd.ntmps47
  go_wp2
  go_loopw [3] (fun u wr => ∃ k : Nat, u = .int .i64 (k : Int) ∧ 1 ≤ k ∧ k ≤ 23 ∧ Hid (∀ j : Int, 1 ≤ j → j < k → wordOf j ≠ l) ∧ Hid (Below w.heap.size w wr)) (fun u _ => 23 - (intOf u).toNat)
  case atStart => exact ⟨1, rfl, by omega, by omega, Lib.hid (fun j h1 h2 => by omega), Lib.hid (Below.refl _ _)⟩
  case round =>
    obtain ⟨k, rfl, hk1, hk2, HN, HB⟩ := hrel
    by_cases hk : k ≤ 22
    · have hkk : (k : Int) ≤ 22 := by omega
      have HE := HQ.out (k : Int)
      have C1 := Lib.hid (fun w => C.out (k : Int) w)
      generalize bstr (wordOf (k : Int)) = Sk at *
      by_cases he' : wordOf (k : Int) = l
      · rw [decide_eq_true he'] at HE
        have he := Lib.hid he'
        clear he'
        go_wp2_with (go_at_call 15; (with_reducible refine (C1.out _).mono ?_); rintro r w1 ⟨rfl, hb⟩; have HB1 := Lib.hid (HB.out.trans (hb.mono HB.out.size)); clear hb)
        go_ret
        exact ⟨_, rfl, ⟨by omega, fun j h1 h2 h3 => (word_inj ⟨h1, h2⟩ ⟨by omega, hkk⟩ (h3.trans he.out.symm)).symm⟩, HB1.out⟩
      · rw [decide_eq_false he'] at HE
        have he := Lib.hid he'
        clear he'
        go_wp2_with (go_at_call 15; (with_reducible refine (C1.out _).mono ?_); rintro r w1 ⟨rfl, hb⟩; have HB1 := Lib.hid (HB.out.trans (hb.mono HB.out.size)); clear hb)
        go_roundw
        case rel => exact ⟨k + 1, by go_num, by omega, by omega, Lib.hid (fun j h1 h2 => by
          by_cases hj : j = (k : Int)
          · rw [hj]; exact he.out
          · exact HN.out j h1 (by omega)), HB1⟩
        case measure => simp [intOf]; omega
    · have hkk : decide ((k : Int) ≤ 22) = false := decide_eq_false (by omega)
      go_wp2
      go_ret
      exact ⟨0, rfl, ⟨by omega, fun j h1 h2 h3 => absurd h3 (HN.out j h1 (by omega))⟩, HB.out⟩
end Go.Proofs.YtjkbnljjmbfmiaaDoor
