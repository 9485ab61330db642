/-
  The walks of package wide's Add, Sub, Neg, Abs.
-/
import Derived.Test.YtiblbhppojfdaaaWd3
namespace Go.Proofs.Ytiblbhppojfdaaa
open Go.RowKit

/-- What stands in memory while two Wides are added: both, the result's struct, the wrapped sum's. -/
def FourW (w : World) (u0 u1 v0 v1 z0 z1 s0 s1 : Value) (w' : World) : Prop :=
  Box2 w' w.heap.size u0 u1 ∧ Box2 w' (w.heap.size + 1) v0 v1 ∧ Box2 w' (w.heap.size + 1 + 1) z0 z1 ∧ Box2 w' (w.heap.size + 1 + 1 + 1) s0 s1 ∧ Below w.heap.size w w'
theorem FourW.below {w w1 w2 : World} {u0 u1 v0 v1 z0 z1 s0 s1 : Value} (h : FourW w u0 u1 v0 v1 z0 z1 s0 s1 w1) (hb : Below w1.heap.size w1 w2) : FourW w u0 u1 v0 v1 z0 z1 s0 s1 w2 :=
  ⟨h.1.below hb, h.2.1.below hb, h.2.2.1.below hb, h.2.2.2.1.below hb, h.2.2.2.2.trans (hb.mono h.2.2.2.2.size)⟩
theorem FourW.drew {w w1 : World} {u0 u1 v0 v1 z0 z1 s0 s1 : Value} (h : FourW w u0 u1 v0 v1 z0 z1 s0 s1 w1) : FourW w u0 u1 v0 v1 z0 z1 s0 s1 w1.drew := h.below (Below.refl _ _).drew
theorem FourW.new (w : World) (u0 u1 v0 v1 z0 z1 s0 s1 : Value) (t : TypeId) :
    FourW w u0 u1 v0 v1 z0 z1 s0 s1 ((((w.alloc (.cells #[u0, u1] t)).alloc (.cells #[v0, v1] t)).alloc (.cells #[z0, z1] t)).alloc (.cells #[s0, s1] t)) :=
  ⟨(((Box2.new w u0 u1 t _ rfl).alloc _).alloc _).alloc _, ((Box2.new _ v0 v1 t _ (by simp)).alloc _).alloc _, (Box2.new _ z0 z1 t _ (by simp)).alloc _, Box2.new _ s0 s1 t _ (by simp),
    ((((Below.refl _ _).alloc (Nat.le_refl _) _).alloc (by simp) _).alloc (by simp; omega) _).alloc (by simp; omega) _⟩
theorem FourW.six {w w1 : World} {u0 u1 v0 v1 z0 z1 s0 s1 : Value} (h : FourW w u0 u1 v0 v1 z0 z1 s0 s1 w1) :
    w1.cell? ⟨w.heap.size, 0, none⟩ = some u0 ∧ w1.cell? ⟨w.heap.size, 1, none⟩ = some u1 ∧ w1.cell? ⟨w.heap.size + 1, 0, none⟩ = some v0 ∧ w1.cell? ⟨w.heap.size + 1 + 1 + 1, 0, none⟩ = some s0 ∧ w1.cell? ⟨w.heap.size + 1 + 1 + 1, 1, none⟩ = some s1 :=
  ⟨h.1.1, h.1.2.1, h.2.1.1, h.2.2.2.1.1, h.2.2.2.1.2.1⟩
theorem below_two {w w2 : World} {b : Nat} (hw : Below w.heap.size w w2) (hb : w.heap.size ≤ b) (v0 v1 : Value) : Below w.heap.size w ((w2.setCell ⟨b, 0, none⟩ v0).setCell ⟨b, 1, none⟩ v1) := (hw.setCell hb _).setCell hb _

theorem ret_wide {n m : Int} {p q : Bool} (h : n = m) (h' : p = q) : Ending.returned (.tuple #[.agg #[.int .i64 (up64 (n)), .int .u64 (lo64 (n))], .bool p]) = .returned (.tuple #[.agg #[.int .i64 (up64 (m)), .int .u64 (lo64 (m))], .bool q]) := by rw [h, h']

theorem cmp3_lt (a b : Int) : cmp3 a b < 0 ↔ a < b := by unfold cmp3; split <;> (try split) <;> omega
theorem cmp3_gt (a b : Int) : 0 < cmp3 a b ↔ b < a := by unfold cmp3; split <;> (try split) <;> omega
theorem up_neg (b : Int) : up64 b < 0 ↔ b < 0 := by unfold up64; omega
theorem add_tell (a b : Int) (ha : W128 a) (hb : W128 b) : (cmp3 (wrap128 (a + b)) a < 0 ↔ up64 b < 0) ↔ W128 (a + b) := by
  rw [cmp3_lt, up_neg]
  unfold W128 at *
  unfold wrap128
  omega
theorem sub_tell (a b : Int) (ha : W128 a) (hb : W128 b) : (0 < cmp3 (wrap128 (a - b)) a ↔ up64 b < 0) ↔ W128 (a - b) := by
  rw [cmp3_gt, up_neg]
  unfold W128 at *
  unfold wrap128
  omega

set_option maxRecDepth 8000 in
set_option maxHeartbeats 1000000 in
theorem wadd_any (a b : Int) (ha : W128 a) (hb : W128 b) (w : World) :
    Calls Try.prog 7 #[.agg #[.int .i64 (up64 (a)), .int .u64 (lo64 (a))], .agg #[.int .i64 (up64 (b)), .int .u64 (lo64 (b))]] w fun e w' => e = .returned (.tuple #[.agg #[.int .i64 (up64 (wheld (a + b))), .int .u64 (lo64 (wheld (a + b)))], .bool (wfits (a + b))]) ∧ Below w.heap.size w w' := by
  have ht := add_tell a b ha hb
  have hlo := add_lo a b
  have hhi := add_hi a b
  have A1 := Lib.hid (bits_add64_0 (lo64 a) (lo64 b) (lo64_nn a) (lo64_nn b))
  have hc : 0 ≤ up64 (lo64 a + lo64 b) ∧ up64 (lo64 a + lo64 b) ≤ 1 := step_ca a b
  have A2 := Lib.hid (bits_add64 (lo64 (up64 a)) (lo64 (up64 b)) (up64 (lo64 a + lo64 b)) (lo64_nn _) (lo64_nn _) hc.1 hc.2)
  rw [hlo] at A1
  have hwr := wrap128_of (n := a + b)
  have CC := Lib.hid (cmp_any (wrap128 (a + b)) a)
  have u1 := wrapu (up64 a)
  have u2 := wrapu (up64 b)
  have u3 := lo64_nn (lo64 (up64 a) + lo64 (up64 b) + up64 (lo64 a + lo64 b))
  have u4 := lo64_le (lo64 (up64 a) + lo64 (up64 b) + up64 (lo64 a + lo64 b))
  generalize up64 (lo64 a + lo64 b) = ca at *
  generalize lo64 (lo64 (up64 a) + lo64 (up64 b) + ca) = hi at *
  generalize lo64 (up64 a) = uah at *
  generalize lo64 (up64 b) = ubh at *
  have i1 := up_i64 ha
  have i2 := up_i64 hb
  have z1 : up64 0 = 0 := rfl
  have z2 : lo64 0 = 0 := rfl
  by_cases h : W128 (a + b)
  · have e1 : (!(decide (cmp3 (wrap128 (a + b)) a < 0) == decide (up64 b < 0))) = false := by simp [ht.2 h]
    have F := Lib.hid (show Ending.returned (.tuple #[.agg #[.int .i64 (up64 (wrap128 (a + b))), .int .u64 (lo64 (wrap128 (a + b)))], .bool true]) = .returned (.tuple #[.agg #[.int .i64 (up64 (wheld (a + b))), .int .u64 (lo64 (wheld (a + b)))], .bool (wfits (a + b))]) from ret_wide ((hwr h).trans (wheld_of h).symm) (wfits_of h).symm)
    generalize cmp3 (wrap128 (a + b)) a = o at *
    generalize up64 (wrap128 (a + b)) = sh at *
    generalize lo64 (wrap128 (a + b)) = sl at *
    generalize up64 a = ah at *
    generalize lo64 a = al at *
    generalize up64 b = bh at *
    generalize lo64 b = bl at *
    unfold I64 at i1 i2
    have HT := Lib.hid (FourW.new w (.int .i64 ah) (.int .u64 al) (.int .i64 bh) (.int .u64 bl) (.int .i64 0) (.int .u64 0) (.int .i64 sh) (.int .u64 sl) 24).drew
    clear ht hlo hwr h ha hb hc z1 z2
    go_enter Try.func7, Try.ntmps7
    go_wp2_with (simp only [A1.out, A2.out])
    go_region_held3 (fun w' => w'.cell? ⟨w.heap.size, 0, none⟩ = some (.int .i64 ah) ∧ w'.cell? ⟨w.heap.size, 1, none⟩ = some (.int .u64 al) ∧ w'.cell? ⟨w.heap.size + 1, 0, none⟩ = some (.int .i64 bh) ∧ w'.cell? ⟨w.heap.size + 1 + 1 + 1, 0, none⟩ = some (.int .i64 sh) ∧ w'.cell? ⟨w.heap.size + 1 + 1 + 1, 1, none⟩ = some (.int .u64 sl))
      (first | exact HT.out.six | exact HS.out.six)
      (first | (go_at_call 25; refine (CC.out _).mono ?_; rintro e w1 ⟨rfl, hb1⟩; have HS := Lib.hid (HT.out.below hb1); clear hb1))
    obtain ⟨g1, g2, g3, g4, g5⟩ := HS.out.six
    obtain ⟨k1, k2, k3, k4⟩ := HS.out.2.2.1
    go_wp2
    obtain ⟨p0, p1⟩ := HS.out.2.2.1.put (.int .i64 sh) (.int .u64 sl)
    refine bodyPost_ret (v := .tuple #[.agg #[.int .i64 sh, .int .u64 sl], .bool true]) (by simp [results, Try.results7, go_sem, p0, p1]) rfl ⟨F.out, below_two HS.out.2.2.2.2 (by omega) _ _⟩
  · have e1 : (!(decide (cmp3 (wrap128 (a + b)) a < 0) == decide (up64 b < 0))) = true := by
      have := fun x => h (ht.1 x)
      simp
      exact this
    have F := Lib.hid (show Ending.returned (.tuple #[.agg #[.int .i64 (up64 (0)), .int .u64 (lo64 (0))], .bool false]) = .returned (.tuple #[.agg #[.int .i64 (up64 (wheld (a + b))), .int .u64 (lo64 (wheld (a + b)))], .bool (wfits (a + b))]) from ret_wide (wheld_not h).symm (wfits_not h).symm)
    rw [z1, z2] at F
    generalize cmp3 (wrap128 (a + b)) a = o at *
    generalize up64 (wrap128 (a + b)) = sh at *
    generalize lo64 (wrap128 (a + b)) = sl at *
    generalize up64 a = ah at *
    generalize lo64 a = al at *
    generalize up64 b = bh at *
    generalize lo64 b = bl at *
    unfold I64 at i1 i2
    have HT := Lib.hid (FourW.new w (.int .i64 ah) (.int .u64 al) (.int .i64 bh) (.int .u64 bl) (.int .i64 0) (.int .u64 0) (.int .i64 sh) (.int .u64 sl) 24).drew
    clear ht hlo hwr h ha hb hc z1 z2
    go_enter Try.func7, Try.ntmps7
    go_wp2_with (simp only [A1.out, A2.out])
    go_region_held3 (fun w' => w'.cell? ⟨w.heap.size, 0, none⟩ = some (.int .i64 ah) ∧ w'.cell? ⟨w.heap.size, 1, none⟩ = some (.int .u64 al) ∧ w'.cell? ⟨w.heap.size + 1, 0, none⟩ = some (.int .i64 bh) ∧ w'.cell? ⟨w.heap.size + 1 + 1 + 1, 0, none⟩ = some (.int .i64 sh) ∧ w'.cell? ⟨w.heap.size + 1 + 1 + 1, 1, none⟩ = some (.int .u64 sl))
      (first | exact HT.out.six | exact HS.out.six)
      (first | (go_at_call 25; refine (CC.out _).mono ?_; rintro e w1 ⟨rfl, hb1⟩; have HS := Lib.hid (HT.out.below hb1); clear hb1))
    obtain ⟨g1, g2, g3, g4, g5⟩ := HS.out.six
    obtain ⟨k1, k2, k3, k4⟩ := HS.out.2.2.1
    go_wp2
    obtain ⟨p0, p1⟩ := HS.out.2.2.1.put (.int .i64 0) (.int .u64 0)
    refine bodyPost_ret (v := .tuple #[.agg #[.int .i64 0, .int .u64 0], .bool false]) (by simp [results, Try.results7, go_sem, p0, p1]) rfl ⟨F.out, below_two HS.out.2.2.2.2 (by omega) _ _⟩

set_option maxRecDepth 8000 in
set_option maxHeartbeats 1000000 in
theorem wsub_any (a b : Int) (ha : W128 a) (hb : W128 b) (w : World) :
    Calls Try.prog 8 #[.agg #[.int .i64 (up64 (a)), .int .u64 (lo64 (a))], .agg #[.int .i64 (up64 (b)), .int .u64 (lo64 (b))]] w fun e w' => e = .returned (.tuple #[.agg #[.int .i64 (up64 (wheld (a - b))), .int .u64 (lo64 (wheld (a - b)))], .bool (wfits (a - b))]) ∧ Below w.heap.size w w' := by
  have ht := sub_tell a b ha hb
  have hlo := sub_lo a b
  have hhi := sub_hi a b
  have A1 := Lib.hid (bits_sub64_0 (lo64 a) (lo64 b) (lo64_nn a) (lo64_nn b) (lo64_le b))
  have hc := brw_range (lo64 a) (lo64 b) 0
  have A2 := Lib.hid (bits_sub64 (lo64 (up64 a)) (lo64 (up64 b)) (brw (lo64 a) (lo64 b) 0) (lo64_nn _) (lo64_nn _) (lo64_le _) hc.1 hc.2)
  rw [hlo] at A1
  have hwr := wrap128_of (n := a - b)
  have CC := Lib.hid (cmp_any (wrap128 (a - b)) a)
  have u1 := wrapu (up64 a)
  have u2 := wrapu (up64 b)
  have u3 := lo64_nn (lo64 (up64 a) - lo64 (up64 b) - brw (lo64 a) (lo64 b) 0)
  have u4 := lo64_le (lo64 (up64 a) - lo64 (up64 b) - brw (lo64 a) (lo64 b) 0)
  generalize brw (lo64 a) (lo64 b) 0 = ca at *
  generalize lo64 (lo64 (up64 a) - lo64 (up64 b) - ca) = hi at *
  generalize lo64 (up64 a) = uah at *
  generalize lo64 (up64 b) = ubh at *
  have i1 := up_i64 ha
  have i2 := up_i64 hb
  have z1 : up64 0 = 0 := rfl
  have z2 : lo64 0 = 0 := rfl
  by_cases h : W128 (a - b)
  · have e1 : (!(decide (0 < cmp3 (wrap128 (a - b)) a) == decide (up64 b < 0))) = false := by simp [ht.2 h]
    have F := Lib.hid (show Ending.returned (.tuple #[.agg #[.int .i64 (up64 (wrap128 (a - b))), .int .u64 (lo64 (wrap128 (a - b)))], .bool true]) = .returned (.tuple #[.agg #[.int .i64 (up64 (wheld (a - b))), .int .u64 (lo64 (wheld (a - b)))], .bool (wfits (a - b))]) from ret_wide ((hwr h).trans (wheld_of h).symm) (wfits_of h).symm)
    generalize cmp3 (wrap128 (a - b)) a = o at *
    generalize up64 (wrap128 (a - b)) = sh at *
    generalize lo64 (wrap128 (a - b)) = sl at *
    generalize up64 a = ah at *
    generalize lo64 a = al at *
    generalize up64 b = bh at *
    generalize lo64 b = bl at *
    unfold I64 at i1 i2
    have HT := Lib.hid (FourW.new w (.int .i64 ah) (.int .u64 al) (.int .i64 bh) (.int .u64 bl) (.int .i64 0) (.int .u64 0) (.int .i64 sh) (.int .u64 sl) 24).drew
    clear ht hlo hwr h ha hb hc z1 z2
    go_enter Try.func8, Try.ntmps8
    go_wp2_with (simp only [A1.out, A2.out])
    go_region_held3 (fun w' => w'.cell? ⟨w.heap.size, 0, none⟩ = some (.int .i64 ah) ∧ w'.cell? ⟨w.heap.size, 1, none⟩ = some (.int .u64 al) ∧ w'.cell? ⟨w.heap.size + 1, 0, none⟩ = some (.int .i64 bh) ∧ w'.cell? ⟨w.heap.size + 1 + 1 + 1, 0, none⟩ = some (.int .i64 sh) ∧ w'.cell? ⟨w.heap.size + 1 + 1 + 1, 1, none⟩ = some (.int .u64 sl))
      (first | exact HT.out.six | exact HS.out.six)
      (first | (go_at_call 25; refine (CC.out _).mono ?_; rintro e w1 ⟨rfl, hb1⟩; have HS := Lib.hid (HT.out.below hb1); clear hb1))
    obtain ⟨g1, g2, g3, g4, g5⟩ := HS.out.six
    obtain ⟨k1, k2, k3, k4⟩ := HS.out.2.2.1
    go_wp2
    obtain ⟨p0, p1⟩ := HS.out.2.2.1.put (.int .i64 sh) (.int .u64 sl)
    refine bodyPost_ret (v := .tuple #[.agg #[.int .i64 sh, .int .u64 sl], .bool true]) (by simp [results, Try.results8, go_sem, p0, p1]) rfl ⟨F.out, below_two HS.out.2.2.2.2 (by omega) _ _⟩
  · have e1 : (!(decide (0 < cmp3 (wrap128 (a - b)) a) == decide (up64 b < 0))) = true := by
      have := fun x => h (ht.1 x)
      simp
      exact this
    have F := Lib.hid (show Ending.returned (.tuple #[.agg #[.int .i64 (up64 (0)), .int .u64 (lo64 (0))], .bool false]) = .returned (.tuple #[.agg #[.int .i64 (up64 (wheld (a - b))), .int .u64 (lo64 (wheld (a - b)))], .bool (wfits (a - b))]) from ret_wide (wheld_not h).symm (wfits_not h).symm)
    rw [z1, z2] at F
    generalize cmp3 (wrap128 (a - b)) a = o at *
    generalize up64 (wrap128 (a - b)) = sh at *
    generalize lo64 (wrap128 (a - b)) = sl at *
    generalize up64 a = ah at *
    generalize lo64 a = al at *
    generalize up64 b = bh at *
    generalize lo64 b = bl at *
    unfold I64 at i1 i2
    have HT := Lib.hid (FourW.new w (.int .i64 ah) (.int .u64 al) (.int .i64 bh) (.int .u64 bl) (.int .i64 0) (.int .u64 0) (.int .i64 sh) (.int .u64 sl) 24).drew
    clear ht hlo hwr h ha hb hc z1 z2
    go_enter Try.func8, Try.ntmps8
    go_wp2_with (simp only [A1.out, A2.out])
    go_region_held3 (fun w' => w'.cell? ⟨w.heap.size, 0, none⟩ = some (.int .i64 ah) ∧ w'.cell? ⟨w.heap.size, 1, none⟩ = some (.int .u64 al) ∧ w'.cell? ⟨w.heap.size + 1, 0, none⟩ = some (.int .i64 bh) ∧ w'.cell? ⟨w.heap.size + 1 + 1 + 1, 0, none⟩ = some (.int .i64 sh) ∧ w'.cell? ⟨w.heap.size + 1 + 1 + 1, 1, none⟩ = some (.int .u64 sl))
      (first | exact HT.out.six | exact HS.out.six)
      (first | (go_at_call 25; refine (CC.out _).mono ?_; rintro e w1 ⟨rfl, hb1⟩; have HS := Lib.hid (HT.out.below hb1); clear hb1))
    obtain ⟨g1, g2, g3, g4, g5⟩ := HS.out.six
    obtain ⟨k1, k2, k3, k4⟩ := HS.out.2.2.1
    go_wp2
    obtain ⟨p0, p1⟩ := HS.out.2.2.1.put (.int .i64 0) (.int .u64 0)
    refine bodyPost_ret (v := .tuple #[.agg #[.int .i64 0, .int .u64 0], .bool false]) (by simp [results, Try.results8, go_sem, p0, p1]) rfl ⟨F.out, below_two HS.out.2.2.2.2 (by omega) _ _⟩

set_option maxRecDepth 8000 in
set_option maxHeartbeats 400000 in
theorem wneg_any (n : Int) (hn : W128 n) (w : World) :
    Calls Try.prog 9 #[.agg #[.int .i64 (up64 (n)), .int .u64 (lo64 (n))]] w fun e w' => e = .returned (.tuple #[.agg #[.int .i64 (up64 (wheld (-n))), .int .u64 (lo64 (wheld (-n)))], .bool (wfits (-n))]) ∧ Below w.heap.size w w' := by
  have c := wsub_any 0 n w128_zero hn
  rw [show up64 0 = 0 from rfl, show lo64 0 = 0 from rfl, Int.zero_sub] at c
  have C := Lib.hid c
  clear c
  generalize up64 (wheld (-n)) = sh at *
  generalize lo64 (wheld (-n)) = sl at *
  generalize wfits (-n) = f at *
  generalize up64 n = nh at *
  generalize lo64 n = nl at *
  have HT := Lib.hid (TwoW.new w (.int .i64 nh) (.int .u64 nl) (.int .i64 0) (.int .u64 0) 24)
  go_enter Try.func9, Try.ntmps9
  go_wp2_with (fail)
  refine (C.out _).mono ?_
  rintro e w1 ⟨rfl, hb1⟩
  have HS := Lib.hid (HT.out.below hb1)
  clear hb1
  obtain ⟨k1, k2, k3, k4⟩ := HS.out.2.1
  go_wp2
  obtain ⟨p0, p1⟩ := HS.out.2.1.put (.int .i64 sh) (.int .u64 sl)
  refine bodyPost_ret (v := .tuple #[.agg #[.int .i64 sh, .int .u64 sl], .bool f]) (by simp [results, Try.results9, go_sem, p0, p1]) rfl ⟨rfl, below_two HS.out.2.2 (by omega) _ _⟩

theorem abs_neg {n : Int} (h : n < 0) : (n.natAbs : Int) = -n := by omega
theorem abs_pos {n : Int} (h : ¬ n < 0) : (n.natAbs : Int) = n := by omega

set_option maxRecDepth 8000 in
set_option maxHeartbeats 400000 in
theorem wabs_any (n : Int) (hn : W128 n) (w : World) :
    Calls Try.prog 10 #[.agg #[.int .i64 (up64 (n)), .int .u64 (lo64 (n))]] w fun e w' => e = .returned (.tuple #[.agg #[.int .i64 (up64 (wheld (n.natAbs : Int))), .int .u64 (lo64 (wheld (n.natAbs : Int)))], .bool (wfits (n.natAbs : Int))]) ∧ Below w.heap.size w w' := by
  have hu := up_neg n
  by_cases h : n < 0
  · rw [abs_neg h]
    have h' : up64 n < 0 := hu.2 h
    have C := Lib.hid (wneg_any n hn)
    generalize up64 (wheld (-n)) = sh at *
    generalize lo64 (wheld (-n)) = sl at *
    generalize wfits (-n) = f at *
    generalize up64 n = nh at *
    generalize lo64 n = nl at *
    have HT := Lib.hid (TwoW.new w (.int .i64 nh) (.int .u64 nl) (.int .i64 0) (.int .u64 0) 24)
    clear hu hn h
    go_enter Try.func10, Try.ntmps10
    go_wp2_with (fail)
    refine (C.out _).mono ?_
    rintro e w1 ⟨rfl, hb1⟩
    have HS := Lib.hid (HT.out.below hb1)
    clear hb1
    obtain ⟨k1, k2, k3, k4⟩ := HS.out.2.1
    go_wp2
    obtain ⟨p0, p1⟩ := HS.out.2.1.put (.int .i64 sh) (.int .u64 sl)
    refine bodyPost_ret (v := .tuple #[.agg #[.int .i64 sh, .int .u64 sl], .bool f]) (by simp [results, Try.results10, go_sem, p0, p1]) rfl ⟨rfl, below_two HS.out.2.2 (by omega) _ _⟩
  · rw [abs_pos h, wheld_of hn, wfits_of hn]
    have h' : ¬ up64 n < 0 := fun x => h (hu.1 x)
    generalize up64 n = nh at *
    generalize lo64 n = nl at *
    have HB := Lib.hid (show ∀ o1 o2, Below w.heap.size w ((w.alloc o1).alloc o2) from fun _ _ => ((Below.refl _ _).alloc (Nat.le_refl _) _).alloc (by simp) _)
    clear hu hn h
    go_enter Try.func10, Try.ntmps10
    go_wp2
    refine bodyPost_ret (v := .tuple #[.agg #[.int .i64 nh, .int .u64 nl], .bool true]) (by simp [results, Try.results10, go_sem]) rfl ⟨rfl, HB.out _ _⟩
end Go.Proofs.Ytiblbhppojfdaaa
