/-
  The library's FormatInt and ParseInt at base 10, as this program calls them.
-/
import Derived.Test.YtjkbnljjmbfmiaaDoorShlf
import Derived.Test.YtjkbnljjmbfmiaaDoorWt1
import Derived.Lib.AppendIntMem
import Derived.Lib.SmallJoins
namespace Go.Proofs.YtjkbnljjmbfmiaaDoor
open Go Go.RowKit
set_option linter.unusedVariables false

/-- What the library's variables hold that these calls read. -/
structure Laid (w : World) : Prop where
  tab : Lib.TabIs Tryd.prog w "internal/strconv.uint64pow10" .u64 Lib.pow10Tab
  syn : ∃ tp p, w.var? Tryd.prog "strconv.ErrSyntax" = some #[.iface tp p]
  rng : ∃ tp p, w.var? Tryd.prog "strconv.ErrRange" = some #[.iface tp p]
theorem var_old {w w' : World} {n : String} {cs : Array Value} (h : w.var? Tryd.prog n = some cs) (hb : Below w.heap.size w w') : w'.var? Tryd.prog n = some cs := by
  cases hg : (Tryd.prog).globalNamed n with
  | none => simp [World.var?, hg] at h
  | some g => exact Go.Joins.var_stays hg h hb (Nat.le_refl _)
theorem Laid.keep {w w' : World} (h : Laid w) (hb : Below w.heap.size w w') : Laid w' := by
  obtain ⟨h1, ⟨t2, p2, h2⟩, ⟨t3, p3, h3⟩⟩ := h
  exact ⟨var_old h1 hb, ⟨t2, p2, var_old h2 hb⟩, ⟨t3, p3, var_old h3 hb⟩⟩
theorem format_any (n : Int) (hn : I64 n) (w : World) (h : Laid w) : Calls Tryd.prog 41 #[.int .i64 n, .int .i64 10] w fun e w' => e = .returned (.string (bstr (dec n))) ∧ Below w.heap.size w w' := by
  unfold I64 at hn
  refine (Any.strconv_FormatInt_10 Tryd.lays173 n hn.1 (by omega) w h.tab).mono ?_
  rintro e w' ⟨rfl, k, os, rfl⟩
  exact ⟨by rw [dec_lib], Lib.below_grow _ w (Nat.le_refl _) k os⟩
/-- What ParseInt answers of these bytes. -/
def ParseK (l : List Nat) (w : World) (e : Ending) (w' : World) : Prop :=
  (∃ x v, e = .returned (.tuple #[.int .i64 x, v]) ∧ I64 x ∧ ((v = .nilIface ∧ Lib.parseIntB 64 (l.map UInt8.ofNat) = .ok x) ∨ ((∃ tp p, v = .iface tp p) ∧ ∀ y, Lib.parseIntB 64 (l.map UInt8.ofNat) ≠ .ok y))) ∧ Below w.heap.size w w'
theorem parse_any (l : List Nat) (hl : l.length ≤ 1000000) (w : World) (h : Laid w) : Calls Tryd.prog 58 #[.string (bstr l), .int .i64 10, .int .i64 64] w (ParseK l w) := by
  obtain ⟨_, ⟨t2, p2, h2⟩, ⟨t3, p3, h3⟩⟩ := h
  have hs : (bstr l).size ≤ 281474976710656 := by rw [bstr_size]; omega
  rcases hp : Lib.parseIntB 64 (bstr l).data.toList with v | _ | _
  · refine (Any.strconv_ParseInt_10_at64_ok Tryd.lays174 (bstr l) (by omega) v hp w).mono ?_
    rintro e w' ⟨rfl, hw⟩
    have hb : Below w.heap.size w w' := by
      rcases hw with rfl | ⟨t, rfl⟩
      · exact Below.refl _ _
      · exact Lib.bytesWorld_below _ _ _
    rw [bstr_list] at hp
    have := Lib.parseIntB_bounds hp
    exact ⟨⟨v, .nilIface, rfl, by unfold I64; simp at this; omega, Or.inl ⟨rfl, hp⟩⟩, hb⟩
  · refine (Any.strconv_ParseInt_10_at64_syntax_var Tryd.lays174 (bstr l) hs hp t2 p2 w h2).mono ?_
    rintro e w' ⟨N, rfl, _, _, hb⟩
    rw [bstr_list] at hp
    exact ⟨⟨0, _, rfl, by unfold I64; omega, Or.inr ⟨⟨_, _, rfl⟩, fun y hy => by rw [hp] at hy; cases hy⟩⟩, hb⟩
  · refine (Any.strconv_ParseInt_10_at64_range_var Tryd.lays174 (bstr l) hs hp t3 p3 w h3).mono ?_
    rintro e w' ⟨N, rfl, _, _, hb⟩
    rw [bstr_list] at hp
    exact ⟨⟨_, _, rfl, by unfold I64 Lib.intSat; split <;> omega, Or.inr ⟨⟨_, _, rfl⟩, fun y hy => by rw [hp] at hy; cases hy⟩⟩, hb⟩
end Go.Proofs.YtjkbnljjmbfmiaaDoor
