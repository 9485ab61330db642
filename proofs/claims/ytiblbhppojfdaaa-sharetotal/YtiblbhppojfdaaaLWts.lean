/-
  The walk of the law's weights, made out of any numbers.
-/
import Derived.Test.YtiblbhppojfdaaaKnown3
import Derived.Test.YtiblbhppojfdaaaRef1b
import Derived.Deep.RegionLaw
import Derived.Deep.AppendLies
namespace Go.Proofs.Ytiblbhppojfdaaa
open Go.RowKit

/-- A weight out of a number; the weights out of numbers. -/
def wt (x : Int) : Int := (x % 1000) * (x / 1048576)
def wts (l : List Int) : List Int := (l.take 20).map wt
def U32 (x : Int) : Prop := 0 ≤ x ∧ x ≤ 4294967295
theorem wt_range {x : Int} (h : U32 x) : 0 ≤ wt x ∧ wt x ≤ 4090905 := by
  unfold wt
  unfold U32 at h
  have h1 : 0 ≤ x % 1000 := by omega
  have h2 : x % 1000 ≤ 999 := by omega
  have h3 : 0 ≤ x / 1048576 := by omega
  have h4 : x / 1048576 ≤ 4095 := by omega
  refine ⟨Int.mul_nonneg h1 h3, Int.le_trans (Int.mul_le_mul h2 h4 h3 (by omega)) (by omega)⟩
theorem wts_take (l : List Int) (k : Nat) (h : k < l.length) : (l.take (k + 1)).map wt = (l.take k).map wt ++ [wt (l.getD k 0)] := by
  rw [List.take_succ_eq_append_getElem h, List.map_append, List.getD_eq_getElem?_getD, List.getElem?_eq_getElem h]; rfl

theorem one_i64 (z : Int) : ∀ u : Value, u ∈ [Value.int .i64 z] → u.oneCell' = true := by
  intro u hu; simp at hu; subst hu; rfl

set_option maxRecDepth 8000 in
set_option maxHeartbeats 1000000 in
theorem wts_any (A : Option Addr) (l : List Int) (c : Nat) (w : World) (hr : Ints w .u32 A l) (hl : ∀ x ∈ l, U32 x) (hn : l.length ≤ 9223372036854775807) :
    Calls Try.prog 28 #[.slice A l.length c] w fun e w' => ∃ v, e = .returned v ∧ w'.ownsRow w.heap.size 2 1 v (wts l).length ((wts l).map (Value.int .i64)) ∧ Below w.heap.size w w' := by
  have HR := Lib.hid hr
  have HL := Lib.hid hl
  obtain ⟨i0, hi, hz0, hz1, hz2⟩ := parts_i64 info_i64
  have HI := Lib.hid hi
  have HZ0 := Lib.hid hz0
  have HZ1 := Lib.hid hz1
  have HZ2 := Lib.hid hz2
  clear hi hz0 hz1 hz2 hr hl
  go_enter Try.func28, Try.ntmps28
  go_wp2
  go_loopw [3, 4] (fun v i wr => ∃ k : Nat, k ≤ l.length ∧ k ≤ 20 ∧ i = .int .i64 k ∧ wr.ownsRow w.heap.size 2 1 v k (((l.take k).map wt).map (Value.int .i64)) ∧ Hid (Below w.heap.size w wr)) (fun _ i _ => 20 - (intOf i).toNat)
  case atStart => exact ⟨0, Nat.zero_le _, by omega, rfl, World.ownsRow_nil _ _ _ _, Lib.hid (Below.refl _ _)⟩
  case round =>
    obtain ⟨k, hk, hk2, rfl, hown, HB⟩ := hrel
    by_cases hlt : k < l.length
    · by_cases h20 : k < 20
      · obtain ⟨b, off, rfl, hc⟩ := HR.out.below HB.out (by omega)
        have q1 := hc k hlt
        have hx := HL.out _ (getD_mem hlt)
        have hwr := wt_range hx
        have hst := wts_take l k hlt
        generalize l.getD k 0 = x at *
        have HST := Lib.hid hst
        have HOW := Lib.hid hown
        have hx1 := hx.1
        have hx2 := hx.2
        clear hc hst hx hown
        have HE : Hid (IntKind.i64.wrap (IntKind.i64.wrap (x.tmod 1000) * IntKind.i64.wrap (x / 1048576)) = wt x) := Lib.hid <| by
          rw [IntWalk.i64_in (x.tmod 1000) (by rw [Int.tmod_eq_emod_of_nonneg hx1]; omega), IntWalk.i64_in (x / 1048576) (by omega), Int.tmod_eq_emod_of_nonneg hx1]
          exact IntWalk.i64_in _ (by unfold wt at hwr; omega)
        have hsz := HB.out.size
        go_wp2
        go_region_law (refine step_append_lies _ rfl (.tmp 15) (.tmp 29) 49 rfl w.heap.size 2 i0 (.int .i64 0) 1 8 Try.underlying49 HI.out HZ0.out HZ1.out HZ2.out rfl (by decide) u3 k _ (by simp [Act.eval]) (HOW.out.alloc _) ⟨wr.heap.size, 0, none⟩ 1 1 [.int .i64 (IntKind.i64.wrap (IntKind.i64.wrap (x.tmod 1000) * IntKind.i64.wrap (x / 1048576)))] (by simp [Act.eval]) rfl (by exact cell_one_new _ _ _) (one_i64 _) (by omega) (by unfold maxLen; omega) (by omega) (by simp; omega) _ rfl ?_; intro g cap w2 hown2 hgrow hat hlt2)
        all_goals
          rw [HE.out] at hown2
          have hb2 : Below w.heap.size w w2 := (HB.out.alloc HB.out.size _).drew.grown hgrow (by simp; omega) (fun g hg => (HOW.out.lt g hg).1)
          have hown3 : w2.ownsRow w.heap.size 2 1 (.slice (some ⟨g, 0, none⟩) (k + 1) cap) (k + 1) (((l.take (k + 1)).map wt).map (Value.int .i64)) := by
            rw [HST.out, List.map_append]; exact hown2
          have HB2 := Lib.hid hb2
          have HO3 := Lib.hid hown3
          clear hown2 hgrow hat hlt2 hb2 hown3 HOW q1
          go_wp2
          go_roundw
          case rel => exact ⟨k + 1, by omega, by omega, by go_num, HO3.out, HB2⟩
          case measure => simp [intOf]; omega
      · obtain rfl : k = 20 := by omega
        have F : Hid (wr.ownsRow w.heap.size 2 1 u3 (wts l).length ((wts l).map (Value.int .i64))) := Lib.hid <| by
          have e : (wts l).length = 20 := by unfold wts; rw [List.length_map, List.length_take]; omega
          rw [e]; exact hown
        clear hown
        go_wp2
        go_ret
        exact ⟨_, rfl, F.out, HB.out⟩
    · obtain rfl : k = l.length := by omega
      have F : Hid (wr.ownsRow w.heap.size 2 1 u3 (wts l).length ((wts l).map (Value.int .i64))) := Lib.hid <| by
        have e : wts l = (l.take l.length).map wt := by unfold wts; rw [List.take_of_length_le hk2, List.take_length]
        rw [e, List.length_map, List.take_length]
        rw [List.take_length] at hown
        exact hown
      clear hown
      go_wp2
      go_ret
      exact ⟨_, rfl, F.out, HB.out⟩
end Go.Proofs.Ytiblbhppojfdaaa
