/-
  What is told of an operation's value: it is this one, or it is a Big of that number; guards in a drawn region. No program's function is named here.
-/
import Derived.Test.YtiblbhppojfdaaaDag
import Derived.Test.YtiblbhppojfdaaaRef1h
namespace Go.Proofs.Ytiblbhppojfdaaa
open Go Go.RowKit

inductive Sp where
  | val (v : Value)
  | big (x : Int) (n : Nat)
def Sp.ok : Sp → Value → World → Prop
  | .val u, v, _ => v = u
  | .big x n, v, W => BigV W v x n
theorem Sp.below {s : Sp} {v : Value} {W W' : World} (h : s.ok v W) (hb : Below W.heap.size W W') : s.ok v W' := by
  cases s with
  | val u => exact h
  | big x n => exact BigV.below h hb
/-- What is told of the i-th operation. -/
def spOf (l : List Sp) (i : Nat) (v : Value) (W : World) : Prop := (l.getD i (.val undef)).ok v W
theorem wanted_at {ops : Array Oper} {D : List Nat} {a0 a : Act} {o og : Oper} {g d : Nat} {b : Bool} (ho : Off D a0 a) (hg : o.guard = some (g, b)) (hog : ops[g]? = some og) (hd : og.dst = some d) (hs : d < a0.tmps.size) (hv : a.tmps.getD d undef = .bool b) : Region.wanted o (yielded ops a.tmps) = true := by
  have hs' : d < a.tmps.size := by rw [ho.size]; exact hs
  have hv' : a.tmps[d]? = some (.bool b) := by
    rw [Array.getD_eq_getD_getElem?, Array.getElem?_eq_getElem hs'] at hv
    rw [Array.getElem?_eq_getElem hs']
    simpa using hv
  unfold Region.wanted yielded
  simp [hg, hog, hd, hv']
theorem wanted_none {ops : Array Oper} {a : Act} {o : Oper} (hg : o.guard = none) : Region.wanted o (yielded ops a.tmps) = true := by
  unfold Region.wanted
  rw [hg]
end Go.Proofs.Ytiblbhppojfdaaa
