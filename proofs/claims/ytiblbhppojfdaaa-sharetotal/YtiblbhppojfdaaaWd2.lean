/-
  The walks of package wide's order and of its sums and differences.
-/
import Derived.Test.YtiblbhppojfdaaaWd1
namespace Go.Proofs.Ytiblbhppojfdaaa
open Go.RowKit

/-- What stands in memory while two structs of two fields are reckoned with: both, boxed. -/
def TwoW (w : World) (u0 u1 v0 v1 : Value) (w' : World) : Prop := Box2 w' w.heap.size u0 u1 ∧ Box2 w' (w.heap.size + 1) v0 v1 ∧ Below w.heap.size w w'
theorem TwoW.below {w w1 w2 : World} {u0 u1 v0 v1 : Value} (h : TwoW w u0 u1 v0 v1 w1) (hb : Below w1.heap.size w1 w2) : TwoW w u0 u1 v0 v1 w2 :=
  ⟨h.1.below hb, h.2.1.below hb, h.2.2.trans (hb.mono h.2.2.size)⟩
theorem TwoW.drew {w w1 : World} {u0 u1 v0 v1 : Value} (h : TwoW w u0 u1 v0 v1 w1) : TwoW w u0 u1 v0 v1 w1.drew := h.below (Below.refl _ _).drew
theorem TwoW.alloc {w w1 : World} {u0 u1 v0 v1 : Value} (h : TwoW w u0 u1 v0 v1 w1) (o : Obj) : TwoW w u0 u1 v0 v1 (w1.alloc o) := h.below ((Below.refl _ _).alloc (Nat.le_refl _) _)
theorem TwoW.new (w : World) (u0 u1 v0 v1 : Value) (t : TypeId) : TwoW w u0 u1 v0 v1 ((w.alloc (.cells #[u0, u1] t)).alloc (.cells #[v0, v1] t)) :=
  ⟨(Box2.new w u0 u1 t _ rfl).alloc _, Box2.new _ v0 v1 t _ (by simp), ((Below.refl _ _).alloc (Nat.le_refl _) _).alloc (by simp) _⟩
theorem TwoW.four {w w1 : World} {u0 u1 v0 v1 : Value} (h : TwoW w u0 u1 v0 v1 w1) :
    w1.cell? ⟨w.heap.size, 0, none⟩ = some u0 ∧ w1.cell? ⟨w.heap.size, 1, none⟩ = some u1 ∧ w1.cell? ⟨w.heap.size + 1, 0, none⟩ = some v0 ∧ w1.cell? ⟨w.heap.size + 1, 1, none⟩ = some v1 := ⟨h.1.1, h.1.2.1, h.2.1.1, h.2.1.2.1⟩

set_option maxRecDepth 8000 in
set_option maxHeartbeats 400000 in
theorem cmp_any (a b : Int) (w : World) :
    Calls Try.prog 25 #[.agg #[.int .i64 (up64 (a)), .int .u64 (lo64 (a))], .agg #[.int .i64 (up64 (b)), .int .u64 (lo64 (b))]] w fun e w' => e = .returned (.int .i64 (cmp3 a b)) ∧ Below w.heap.size w w' := by
  have hk : ∀ W A, Ints W .i64 A [cmp3 (up64 a) (up64 b), cmp3 (lo64 a) (lo64 b)] → Calls Try.prog 47 #[.slice A 2 2] W fun e w' => e = .returned (.int .i64 (cmp3 a b)) ∧ W = w' := by
    intro W A hI
    have := or_any A _ 2 W hI (by simp)
    rw [cmp3_words] at this
    exact this
  have HK := Lib.hid hk
  have c1 := Lib.hid (compare_i (up64 a) (up64 b))
  have c2 := Lib.hid (compare_u (lo64 a) (lo64 b))
  generalize cmp3 (up64 a) (up64 b) = p at *
  generalize cmp3 (lo64 a) (lo64 b) = q at *
  generalize up64 a = ah at *
  generalize lo64 a = al at *
  generalize up64 b = bh at *
  generalize lo64 b = bl at *
  have HT := Lib.hid (TwoW.new w (.int .i64 ah) (.int .u64 al) (.int .i64 bh) (.int .u64 bl) 24).drew
  clear hk
  go_enter Try.func25, Try.ntmps25
  go_wp2
  go_region_held3 (fun w' => w'.cell? ⟨w.heap.size, 0, none⟩ = some (.int .i64 ah) ∧ w'.cell? ⟨w.heap.size, 1, none⟩ = some (.int .u64 al) ∧ w'.cell? ⟨w.heap.size + 1, 0, none⟩ = some (.int .i64 bh) ∧ w'.cell? ⟨w.heap.size + 1, 1, none⟩ = some (.int .u64 bl))
    (first | exact HT.out.four | exact (HT.out.alloc _).four)
    (first
      | (go_at_call 48; refine (c1.out _).mono ?_; rintro e w' ⟨rfl, rfl⟩)
      | (go_at_call 49; refine (c2.out _).mono ?_; rintro e w' ⟨rfl, rfl⟩)
      | (go_at_call 47; refine (HK.out _ _ (by exact ints_new _ .i64 [p, q] _ _ rfl _ (by simp))).mono ?_; rintro e w' ⟨rfl, rfl⟩))
  go_wp2
  go_ret
  exact ⟨rfl, (HT.out.alloc _).2.2⟩
end Go.Proofs.Ytiblbhppojfdaaa
