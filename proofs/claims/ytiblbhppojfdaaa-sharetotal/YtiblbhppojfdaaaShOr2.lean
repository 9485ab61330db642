/-
  The walk of package share's Order, over the library's sort by its contract.
-/
import Derived.Test.YtiblbhppojfdaaaShOr1
import Derived.Deep.RegionWith
namespace Go.Proofs.Ytiblbhppojfdaaa
open Go.RowKit

/-- What is asked of the library's sort: the places from 0 on, put in their order. -/
def SortPlaces : Prop := ∀ (l : List Int) (A : Option Addr) (c lb g cap : Nat) (w : World), l.length ≤ 1000000 → Ints w .i64 A l → w.cell? ⟨lb, 0, none⟩ = some (.slice A l.length c) → lb ≠ g → g < w.heap.size → (0 < l.length → ∀ b o s, A = some ⟨b, o, s⟩ → b ≠ g) →
  RowK w .i64 g (upTo l.length l.length) →
  Calls Try.prog 69 #[.slice (some ⟨g, 0, none⟩) l.length cap, .func (.func 70) #[] #[.pointer (some ⟨lb, 0, none⟩)]] w fun e w' => e = .returned (.tuple #[]) ∧ RowK w' .i64 g (ordI l) ∧ Below g w w'

theorem info_i64 : (Try.prog.info? 2).map (fun i => (i.zero, i.size, i.bytes)) = some (some (.int .i64 0), 1, 8) := by kernel_rfl
theorem info_int : (Try.prog.info? 3).map (fun i => (i.zero, i.size, i.bytes)) = some (some (.int .i64 0), 1, 8) := by kernel_rfl
theorem parts_i64 {P : Program} {t : TypeId} {z : Value} {s b : Nat} (h : (P.info? t).map (fun i => (i.zero, i.size, i.bytes)) = some (some z, s, b)) : ∃ i0, P.info? t = some i0 ∧ i0.zero = some z ∧ i0.size = s ∧ i0.bytes = b := by
  cases hi : P.info? t with
  | none => rw [hi] at h; simp at h
  | some i0 =>
    rw [hi] at h
    simp at h
    exact ⟨i0, rfl, h.1, h.2.1, h.2.2⟩

theorem made_int (n : Nat) (hn : n ≤ 1000000000000) (w : World) : (Instr.makeSlice 82 (.int .i64 (n : Int)) (.int .i64 (n : Int))).run Try.prog w = .ok (.slice (some ⟨w.heap.size, 0, none⟩) n n) (w.alloc (.cells (madeCells #[.int .i64 0] n) 3)) := by
  obtain ⟨i0, hi, hz0, hz1, hz2⟩ := parts_i64 info_int
  have h := run_make (P := Try.prog) w 82 3 i0 (.int .i64 0) Try.underlying82 hi hz0 .i64 .i64 (n : Int) (n : Int) (by omega) (Int.le_refl _) (by rw [hz2]; omega) (by omega)
  rw [hz1, Int.toNat_natCast, Nat.mul_one] at h
  exact h
theorem made_i64 (n : Nat) (hn : n ≤ 1000000000000) (w : World) : (Instr.makeSlice 49 (.int .i64 (n : Int)) (.int .i64 (n : Int))).run Try.prog w = .ok (.slice (some ⟨w.heap.size, 0, none⟩) n n) (w.alloc (.cells (madeCells #[.int .i64 0] n) 2)) := by
  obtain ⟨i0, hi, hz0, hz1, hz2⟩ := parts_i64 info_i64
  have h := run_make (P := Try.prog) w 49 2 i0 (.int .i64 0) Try.underlying49 hi hz0 .i64 .i64 (n : Int) (n : Int) (by omega) (Int.le_refl _) (by rw [hz2]; omega) (by omega)
  rw [hz1, Int.toNat_natCast, Nat.mul_one] at h
  exact h

/-- What Order tells. -/
def OrderR (w : World) (l : List Int) (e : Ending) (w' : World) : Prop :=
  ∃ g, e = .returned (.slice (some ⟨g, 0, none⟩) l.length l.length) ∧ w.heap.size ≤ g ∧ RowK w' .i64 g (ordI l) ∧ Below w.heap.size w w'

set_option maxRecDepth 8000 in
set_option maxHeartbeats 1000000 in
theorem order_walk (HS : Hid SortPlaces) (A : Option Addr) (l : List Int) (c : Nat) (w : World) (hr : Ints w .i64 A l) (hn : l.length ≤ 1000000) :
    Calls Try.prog 54 #[.slice A l.length c] w (OrderR w l) := by
  have hmk := made_int l.length (by omega)
  have HX0 := Lib.hid ((Box1.new w (.slice A l.length c) 49 _ rfl).below ((Below.refl _ _).alloc (Nat.le_refl _) (.cells (madeCells #[.int .i64 0] l.length) 3)))
  have HR0 := Lib.hid (upTo_zero l.length ▸ RowK.new (w.alloc (.cells #[.slice A l.length c] 49)) .i64 l.length 3 (w.heap.size + 1) (by simp))
  have HB0 := Lib.hid (show Below w.heap.size w ((w.alloc (.cells #[.slice A l.length c] 49)).alloc (.cells (madeCells #[.int .i64 0] l.length) 3)) from ((Below.refl _ _).alloc (Nat.le_refl _) _).alloc (by simp) _)
  have HA := Lib.hid hr
  clear hr
  go_enter Try.func54, Try.ntmps54
  go_wp2
  go_loopw [10] (fun i wr => ∃ k : Nat, k ≤ l.length ∧ i = .int .i64 k ∧ Hid (Box1 wr w.heap.size (.slice A l.length c)) ∧ Hid (RowK wr .i64 (w.heap.size + 1) (upTo l.length k)) ∧ Hid (Below w.heap.size w wr) ∧ w.heap.size + 1 < wr.heap.size) (fun i _ => l.length - (intOf i).toNat)
  case atStart => exact ⟨0, Nat.zero_le _, rfl, HX0, HR0, HB0, by simp⟩
  case round =>
    obtain ⟨k, hk, rfl, HX, HR, HB, hsz⟩ := hrel
    by_cases hlt : k < l.length
    · obtain ⟨r2, r3⟩ := HR.out k (by rw [upTo_length]; exact hlt)
      generalize (upTo l.length k).getD k 0 = z at *
      have hR := HR.out.set k (by rw [upTo_length]; exact hlt) (k : Int)
      rw [upTo_step _ _ hlt] at hR
      have HR2 := Lib.hid hR
      have HX2 := Lib.hid (HX.out.other (b' := w.heap.size + 1) (by omega) k (.int .i64 k))
      have HB2 := Lib.hid (HB.out.setCell (p := ⟨w.heap.size + 1, k, none⟩) (by simp) (.int .i64 k))
      clear hR hmk HX0 HR0 HB0
      go_wp2
      go_roundw
      case rel => exact ⟨k + 1, by omega, by go_num, HX2, HR2, HB2, by simpa [World.setCell] using hsz⟩
      case measure => simp [intOf]; omega
    · obtain rfl : k = l.length := by omega
      have C := Lib.hid (HS.out l A c w.heap.size (w.heap.size + 1) l.length wr hn (HA.out.below HB.out) HX.out.1 (by omega) hsz)
      have HE : Hid (0 < l.length → ∀ b o s, A = some ⟨b, o, s⟩ → b ≠ w.heap.size + 1) := Lib.hid fun h0 b o s e => by
        obtain ⟨b', off, e', hc⟩ := HA.out h0
        rw [e] at e'
        injection e' with e'
        injection e' with e1
        have := block_lt (hc 0 h0)
        simp at this
        omega
      clear hmk HX0 HR0 HB0
      go_wp2_with (go_at_call 69; refine (C.out HE.out HR.out).mono ?_; rintro e w2 ⟨rfl, hR2, hB2⟩; have HR2 := Lib.hid hR2; have HB2 := Lib.hid (HB.out.trans (hB2.mono (by omega))); clear hR2 hB2)
      go_ret
      exact ⟨w.heap.size + 1, rfl, by omega, HR2.out, HB2.out⟩
end Go.Proofs.Ytiblbhppojfdaaa
