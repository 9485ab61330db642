/-
  The walk of novationseat's Of; numbers as an argument.
-/
import Derived.Test.YtjkbnljjmbfmiaaDoorDk9
namespace Go.Proofs.YtjkbnljjmbfmiaaDoor
open Go Go.RowKit
set_option linter.unusedVariables false

set_option maxRecDepth 8000 in
set_option maxHeartbeats 1000000 in
theorem deck_of (W0 W : World) (A : Option Addr) (l : List Int) (c n : Nat) (hk : n = l.length) (hn : Nums W0 A l) (hb : Below W0.heap.size W0 W) : Calls Tryd.prog 10 #[.slice A n c] W fun r W' => r = .returned (.pointer (some ⟨W.heap.size, 0, none⟩)) ∧ Deck W0 A l c W.heap.size 0 W' := by
  have F : Hid (Deck W0 A l c W.heap.size 0 (W.alloc (.cells [.slice A n c, .int .i64 ((0 : Nat) : Int)].toArray 53))) := Lib.hid ⟨hn, hb.size, ⟨0, Nat.le_refl _, by rw [hk]; exact Rec.new W _ _ _ rfl⟩, hb.alloc hb.size _⟩
  clear hn hb hk
  go_enter Tryd.func10, Tryd.ntmps10
  go_wp2
  go_ret
  exact ⟨rfl, F.out⟩
theorem wf_u64 {n : Int} (h : (Lit.int .u64 n).wf = true) : 0 ≤ n ∧ n < 18446744073709551616 := by simp [Lit.wf, IntKind.min, IntKind.max, IntKind.bits, IntKind.signed] at h; omega
theorem row_nums {w : World} {a : Option Addr} {len cap : Nat} {zs : List Int}
    (h : (a = none ∧ len = 0 ∧ cap = 0 ∧ zs = []) ∨
      ∃ x, a = some x ∧ len ≤ cap ∧ cap ≤ maxLen ∧ zs.length = cap ∧ (∀ i, i < zs.length → w.cell? (x.add i) = some (.int .u64 (zs.getD i 0))) ∧ ∀ n ∈ zs, (Lit.int .u64 n).wf = true) :
    ∃ l : List Int, l.length = len ∧ Nums w a l := by
  obtain ⟨l, hl, hI, hn, hw⟩ := row_ints h
  refine ⟨l, hl, hI, fun i hi => ?_, by omega⟩
  exact wf_u64 (hw (l.getD i 0) (by rw [List.getD_eq_getElem?_getD, List.getElem?_eq_getElem hi]; simp))
end Go.Proofs.YtjkbnljjmbfmiaaDoor
