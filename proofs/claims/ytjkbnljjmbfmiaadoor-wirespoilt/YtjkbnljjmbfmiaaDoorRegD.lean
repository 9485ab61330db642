/-
  What is told of a value in a drawn region (for the law of Dag): that it is this one, or anything that lasts. No program's function is named here, but for bytes as a string.
-/
import Derived.Test.YtjkbnljjmbfmiaaDoorDag
import Derived.Test.YtjkbnljjmbfmiaaDoorBst
namespace Go.Proofs.YtjkbnljjmbfmiaaDoor
open Go Go.RowKit

/-- Something that is told of a value, and lasts. -/
structure SpP where
  p : Value → World → Prop
  st : ∀ v W W', Below W.heap.size W W' → p v W → p v W'
def SpP.val (u : Value) : SpP := ⟨fun v _ => v = u, fun _ _ _ _ h => h⟩
/-- A slice of these bytes. -/
def SpP.byt (l : List Nat) : SpP := ⟨fun v W => ∃ A n c, v = .slice A n c ∧ n = l.length ∧ Byts W A l, fun _ _ _ hb h => by obtain ⟨A, n, c, e, hn, h⟩ := h; exact ⟨A, n, c, e, hn, h.below hb⟩⟩
/-- What is told of the i-th operation. -/
def spAt (l : List SpP) (i : Nat) (v : Value) (W : World) : Prop := (l.getD i (.val undef)).p v W
theorem spAt_st (l : List SpP) (i : Nat) (v : Value) (W W' : World) (hb : Below W.heap.size W W') (h : spAt l i v W) : spAt l i v W' := (l.getD i (.val undef)).st v W W' hb h
theorem wanted_at {ops : Array Oper} {D : List Nat} {a0 a : Act} {o og : Oper} {g d : Nat} {b : Bool} (ho : Off D a0 a) (hg : o.guard = some (g, b)) (hog : ops[g]? = some og) (hd : og.dst = some d) (hs : d < a0.tmps.size) (hv : a.tmps.getD d undef = .bool b) : Region.wanted o (yielded ops a.tmps) = true := by
  have hs' : d < a.tmps.size := by rw [ho.size]; exact hs
  have hv' : a.tmps[d]? = some (.bool b) := by
    rw [Array.getD_eq_getD_getElem?, Array.getElem?_eq_getElem hs'] at hv
    rw [Array.getElem?_eq_getElem hs']
    simpa using hv
  unfold Region.wanted yielded
  simp [hg, hog, hd, hv']
theorem wanted_none {ops : Array Oper} {a : Act} {o : Oper} (hg : o.guard = none) : Region.wanted o (yielded ops a.tmps) = true := by
  unfold Region.wanted
  rw [hg]
theorem own_byt {w : World} {base : Nat} {v : Value} {l : List Nat} (h : OwnB w base v l) : (SpP.byt l).p v w := by
  obtain ⟨A, c, rfl, hB, _⟩ := h.form
  exact ⟨A, _, c, rfl, rfl, hB⟩
theorem wf_i64 {n : Int} (h : (Lit.int .i64 n).wf = true) : I64 n := by unfold I64; simp [Lit.wf, IntKind.min, IntKind.max, IntKind.bits, IntKind.signed] at h; omega
end Go.Proofs.YtjkbnljjmbfmiaaDoor
