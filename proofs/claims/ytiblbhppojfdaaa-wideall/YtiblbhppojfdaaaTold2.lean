/-
  The walk of the second layer's told.
-/
import Derived.Test.YtiblbhppojfdaaaOv3
namespace Go.Proofs.Ytiblbhppojfdaaa
open Go.RowKit

set_option maxRecDepth 100000 in
set_option maxHeartbeats 1000000 in
theorem told2_walk (x : Int) (vb : Value) (n : Nat) (hn : n ≤ 1000) (w : World) (hx : BigV w vb x n) :
    Calls Try.prog 14 #[.agg #[.int .i64 (up64 (wheld x)), .int .u64 (lo64 (wheld x))], .bool (wfits x), vb] w fun e w' => e = .returned (.bool true) ∧ Below w.heap.size w w' := by
  obtain ⟨nb, B, lb, cb, rfl⟩ := hx.form
  have CT := Lib.hid (fun v W => towide_walk v x n hn W)
  generalize up64 (wheld x) = sh at *
  generalize lo64 (wheld x) = sl at *
  generalize wfits x = f at *
  have K0 : Hid (Kn w [(w.heap.size + 1, .bool nb, .slice B lb cb), (w.heap.size, .int .i64 sh, .int .u64 sl)] ((w.alloc (.cells #[.int .i64 sh, .int .u64 sl] 24)).alloc (.cells #[.bool nb, .slice B lb cb] 28))) := Lib.hid <| by
    have h : Kn w [] w := Below.refl _ _
    have := (h.push (.int .i64 sh) (.int .u64 sl) 24).push (.bool nb) (.slice B lb cb) 28
    simpa using this
  have HX := Lib.hid (hx.below K0.out.old)
  clear hx
  go_enter Try.func14, Try.ntmps14
  go_wp2_with (go_at_call 43; refine (CT.out _ _ HX.out).mono ?_; rintro e w1 ⟨rfl, hb⟩; have K1 := Lib.hid ((K0.out.below hb).alloc (.cells #[.int .i64 sh, .int .u64 sl] 24)); clear hb; obtain ⟨g0, g1, g2, g3⟩ := K1.out.2.1)
  go_ret
  exact ⟨rfl, K1.out.old⟩
end Go.Proofs.Ytiblbhppojfdaaa
