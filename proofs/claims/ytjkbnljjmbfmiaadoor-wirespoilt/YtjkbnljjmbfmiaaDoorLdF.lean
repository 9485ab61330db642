/-
  What the rows say that the library's variables hold, as the walks ask it; a world in which they hold it.
-/
import Derived.Test.YtjkbnljjmbfmiaaDoorRows
import Derived.Test.YtjkbnljjmbfmiaaDoorWsh
import Derived.Lib.LaidTab
import Derived.Stop.LaidErr
import Derived.Handed
import Derived.LaidLaws
namespace Go.Proofs.YtjkbnljjmbfmiaaDoor
open Go Go.RowKit
set_option linter.unusedVariables false

theorem cells_tab : (Tryd.prog).cellsOf 97 = 20 := by kernel_rfl
theorem cells_u64 : (Tryd.prog).cellsOf 49 = 1 := by kernel_rfl
theorem cells_es : (Tryd.prog).cellsOf 119 = 1 := by kernel_rfl
theorem cells_str : (Tryd.prog).cellsOf 9 = 1 := by kernel_rfl
theorem pow_data : (Rows.laid_internal_strconv_uint64pow10 : DataW Unit) = Lib.tabData .u64 Lib.pow10Tab := by kernel_rfl
theorem star_name : "*" ++ "errors.errorString" = "*errors.errorString" := by decide
theorem row_es (u : TypeId) (h : (Tryd.prog).typeName? 3 u = some "*errors.errorString") : u = 117 :=
  typeName_ptr_named (nm := "errors.errorString") (by rw [star_name]; kernel_rfl) (by kernel_rfl) (by decide) u (by rw [star_name]; exact h)
theorem laid_of {W : World} (h : laidMet Tryd.prog Rows.wireTextsRow.laid W) : Laid W := by
  have h3 : laidMet Tryd.prog [("internal/strconv.uint64pow10", Rows.laid_internal_strconv_uint64pow10), ("strconv.ErrRange", Rows.laid_strconv_ErrRange), ("strconv.ErrSyntax", Rows.laid_strconv_ErrSyntax)] W := (show laidMet Tryd.prog (("math/bits.deBruijn32tab", Rows.laid_math_bits_deBruijn32tab) :: ("math/bits.deBruijn64tab", Rows.laid_math_bits_deBruijn64tab) :: _) W from h).tail.tail
  have h4 := h3.tail
  have h5 := h4.tail
  rw [pow_data] at h3
  obtain ⟨a4, s4, v4, _, _, _⟩ := laid_sentinel h4 (by kernel_rfl : (Tryd.prog).globalNamed "strconv.ErrRange" = some 3) (by kernel_rfl : ((Tryd.prog).globals[3]?).map (·.type) = some 83) Tryd.underlying83 row_es Tryd.underlying117 Tryd.underlying119 rfl rfl Tryd.underlying9 cells_es cells_str
  obtain ⟨a5, s5, v5, _, _, _⟩ := laid_sentinel h5 (by kernel_rfl : (Tryd.prog).globalNamed "strconv.ErrSyntax" = some 2) (by kernel_rfl : ((Tryd.prog).globals[2]?).map (·.type) = some 83) Tryd.underlying83 row_es Tryd.underlying117 Tryd.underlying119 rfl rfl Tryd.underlying9 cells_es cells_str
  exact ⟨Lib.tabIs_of_head (g := 0) (by kernel_rfl) (by kernel_rfl) Tryd.underlying97 Tryd.underlying49 cells_u64 cells_tab h3, ⟨_, _, v5⟩, ⟨_, _, v4⟩⟩
def laidCells (cs : Array Value) : Obj → Obj
  | .cells _ t frozen => .cells cs t frozen
  | o => o
/-- One world in which the variables hold what the rows list. -/
theorem laidWorld_met (os : Os) (args : Array Value) : laidMet Tryd.prog Rows.wireTextsRow.laid ((let w0 := World.holding Tryd.prog os ⟨#[.cells #[.string { data := #[118, 97, 108, 117, 101, 32, 111, 117, 116, 32, 111, 102, 32, 114, 97, 110, 103, 101] }] 119, .cells #[.string { data := #[105, 110, 118, 97, 108, 105, 100, 32, 115, 121, 110, 116, 97, 120] }] 119], #[], []⟩; ({ w0 with heap := ((((w0.heap.modify 4 (laidCells #[.int .u8 0, .int .u8 1, .int .u8 28, .int .u8 2, .int .u8 29, .int .u8 14, .int .u8 24, .int .u8 3, .int .u8 30, .int .u8 22, .int .u8 20, .int .u8 15, .int .u8 25, .int .u8 17, .int .u8 4, .int .u8 8, .int .u8 31, .int .u8 27, .int .u8 13, .int .u8 23, .int .u8 21, .int .u8 19, .int .u8 16, .int .u8 7, .int .u8 26, .int .u8 12, .int .u8 18, .int .u8 6, .int .u8 11, .int .u8 5, .int .u8 10, .int .u8 9])).modify 5 (laidCells #[.int .u8 0, .int .u8 1, .int .u8 56, .int .u8 2, .int .u8 57, .int .u8 49, .int .u8 28, .int .u8 3, .int .u8 61, .int .u8 58, .int .u8 42, .int .u8 50, .int .u8 38, .int .u8 29, .int .u8 17, .int .u8 4, .int .u8 62, .int .u8 47, .int .u8 59, .int .u8 36, .int .u8 45, .int .u8 43, .int .u8 51, .int .u8 22, .int .u8 53, .int .u8 39, .int .u8 33, .int .u8 30, .int .u8 24, .int .u8 18, .int .u8 12, .int .u8 5, .int .u8 63, .int .u8 55, .int .u8 48, .int .u8 27, .int .u8 60, .int .u8 41, .int .u8 37, .int .u8 16, .int .u8 46, .int .u8 35, .int .u8 44, .int .u8 21, .int .u8 52, .int .u8 32, .int .u8 23, .int .u8 11, .int .u8 54, .int .u8 26, .int .u8 40, .int .u8 15, .int .u8 34, .int .u8 20, .int .u8 31, .int .u8 10, .int .u8 25, .int .u8 14, .int .u8 19, .int .u8 9, .int .u8 13, .int .u8 8, .int .u8 7, .int .u8 6])).modify 0 (laidCells #[.int .u64 1, .int .u64 10, .int .u64 100, .int .u64 1000, .int .u64 10000, .int .u64 100000, .int .u64 1000000, .int .u64 10000000, .int .u64 100000000, .int .u64 1000000000, .int .u64 10000000000, .int .u64 100000000000, .int .u64 1000000000000, .int .u64 10000000000000, .int .u64 100000000000000, .int .u64 1000000000000000, .int .u64 10000000000000000, .int .u64 100000000000000000, .int .u64 1000000000000000000, .int .u64 10000000000000000000])).modify 3 (laidCells #[.iface 117 (.pointer (some ⟨(World.holding Tryd.prog default ⟨#[], #[], []⟩).heap.size, 0, none⟩))])).modify 2 (laidCells #[.iface 117 (.pointer (some ⟨(World.holding Tryd.prog default ⟨#[], #[], []⟩).heap.size + 1, 0, none⟩))]) } : World)).forCall (fun _ _ => 0) ⟨#[], args, []⟩).memory :=
  laidMet_of_run' 8 (by kernel_rfl) (by kernel_rfl)
end Go.Proofs.YtjkbnljjmbfmiaaDoor
