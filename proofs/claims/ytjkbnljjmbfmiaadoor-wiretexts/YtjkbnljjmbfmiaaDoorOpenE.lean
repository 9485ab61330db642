/-
  An event by value, as an argument.
-/
import Derived.Test.YtjkbnljjmbfmiaaDoorEv1
import Derived.Lib.SmallJoins
import Derived.Deep.Fields
namespace Go.Proofs.YtjkbnljjmbfmiaaDoor
open Go.RowKit Go.ChangeShapes Go.WideShapes Go.Deep
set_option linter.unusedVariables false

theorem array8 {α : Type} {cs : Array α} (h : cs.size = 8) : ∃ c0 c1 c2 c3 c4 c5 c6 c7, cs = #[c0, c1, c2, c3, c4, c5, c6, c7] := by
  obtain ⟨l⟩ := cs
  match l, h with
  | [c0, c1, c2, c3, c4, c5, c6, c7], _ => exact ⟨c0, c1, c2, c3, c4, c5, c6, c7, rfl⟩
theorem i64_wf {n : Int} (h : (Lit.int .i64 n).wf = true) : I64 n := by unfold I64; simp [Lit.wf, IntKind.min, IntKind.max, IntKind.bits, IntKind.signed] at h; omega
section
variable {H : Type} {enc : TypeId × Value → H} {w : World} {base : Nat} {spare : Nat → Bool} {held : Bool}
theorem field_int {fs : Array Field} {cs : List Value} {n i : Nat} {f : Field} {c : Value} {xs : List (DataW H × List MemPlace)} (hf : ∀ (i : Nat) (f : Field), fs[i]? = some f → DataW.trod enc Tryd.prog w base spare held n f.type ((cs.drop f.offset).take (Tryd.prog.cellsOf f.type)) = xs[i]?) (hlen : xs.length = fs.size)
    (hone : oneCellFields Tryd.prog fs = true) (hi : fs[i]? = some f) (ht : Tryd.prog.underlying f.type = some (.int .i64)) (hc : cs[i]? = some c) : ∃ x, c = .int .i64 x ∧ I64 x := by
  obtain ⟨ho, hk⟩ := hone_of hone i f hi
  have h := hf i f hi
  have hlt : i < xs.length := by rw [hlen]; exact (Array.getElem?_eq_some_iff.1 hi).1
  have hd : (cs.drop i).take 1 = [c] := by
    obtain ⟨h1, h2⟩ := List.getElem?_eq_some_iff.1 hc
    rw [List.drop_eq_getElem_cons h1, h2]
    rfl
  rw [ho, hk, hd, List.getElem?_eq_getElem hlt] at h
  obtain ⟨x, e, _, hw⟩ := DataW.trod_int ht h
  injection e with e
  exact ⟨x, e, i64_wf hw⟩
set_option maxRecDepth 100000 in
theorem open_ev {r : Reach} {b0 : Nat} {v : Value} {d : DataW H} {p : List MemPlace} (hv : Value.okWide Tryd.prog w r b0 23 v) (h : DataW.Trod enc Tryd.prog w base spare held 23 v d p) : ∃ e : Ev, v = e.v ∧ e.Ok := by
  obtain ⟨cs, rfl, hsz⟩ := okWide_struct Tryd.underlying23 hv
  obtain ⟨c0, c1, c2, c3, c4, c5, c6, c7, rfl⟩ := array8 (hsz.trans (by kernel_rfl))
  obtain ⟨fuel, hf⟩ := h
  obtain ⟨xs, n, _, _, _, hlen, hx⟩ := DataW.trod_struct Tryd.underlying23 hf
  have hone : oneCellFields Tryd.prog _ = true := (by kernel_rfl : oneCellFields Tryd.prog (match Tryd.prog.underlying 23 with | some (.struct fs) => fs | _ => #[]) = true)
  obtain ⟨x0, rfl, k0⟩ := field_int (i := 0) hx hlen hone rfl (by kernel_rfl) rfl
  obtain ⟨x1, rfl, k1⟩ := field_int (i := 1) hx hlen hone rfl (by kernel_rfl) rfl
  obtain ⟨x2, rfl, k2⟩ := field_int (i := 2) hx hlen hone rfl (by kernel_rfl) rfl
  obtain ⟨x3, rfl, k3⟩ := field_int (i := 3) hx hlen hone rfl (by kernel_rfl) rfl
  obtain ⟨x4, rfl, k4⟩ := field_int (i := 4) hx hlen hone rfl (by kernel_rfl) rfl
  obtain ⟨x5, rfl, k5⟩ := field_int (i := 5) hx hlen hone rfl (by kernel_rfl) rfl
  obtain ⟨x6, rfl, k6⟩ := field_int (i := 6) hx hlen hone rfl (by kernel_rfl) rfl
  obtain ⟨x7, rfl, k7⟩ := field_int (i := 7) hx hlen hone rfl (by kernel_rfl) rfl
  exact ⟨⟨x0, x1, x2, x3, x4, x5, x6, x7⟩, rfl, ⟨k0, k1, k2, k3, k4, k5, k6, k7⟩⟩
end
end Go.Proofs.YtjkbnljjmbfmiaaDoor
