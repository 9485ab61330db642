/-
  The walk of the law WideOrders.
-/
import Derived.Test.YtimpmffcopdblaaRings
import Derived.Deep.DeepCutAuto
namespace Go.Proofs.Ytimpmffcopdblaa
open Go.RowKit

theorem cmp3_turn (a b : Int) : cmp3 a b = -cmp3 b a := by unfold cmp3; repeat' split
                                                           all_goals omega
theorem cmp3_zero (a b : Int) : cmp3 a b = 0 ↔ a = b := by unfold cmp3; split <;> (try split) <;> omega
theorem cmp3_trans {a b c : Int} (h1 : cmp3 a b ≤ 0) (h2 : cmp3 b c ≤ 0) : cmp3 a c ≤ 0 := by
  unfold cmp3 at *
  repeat' split at h1
  all_goals (repeat' split at h2)
  all_goals (repeat' split)
  all_goals omega
theorem cmp3_sub (a b : Int) : cmp3 (a - b) 0 = cmp3 a b := by unfold cmp3; repeat' split
                                                               all_goals omega
theorem Kn.three {w W : World} {b1 b2 b3 : Nat} {u1 v1 u2 v2 u3 v3 : Value} (h : Kn w [(b1, u1, v1), (b2, u2, v2), (b3, u3, v3)] W) :
    W.cell? ⟨b1, 0, none⟩ = some u1 ∧ W.cell? ⟨b1, 1, none⟩ = some v1 ∧ W.cell? ⟨b2, 0, none⟩ = some u2 ∧ W.cell? ⟨b2, 1, none⟩ = some v2 ∧ W.cell? ⟨b3, 0, none⟩ = some u3 ∧ W.cell? ⟨b3, 1, none⟩ = some v3 := by
  obtain ⟨⟨a1, c1, _, _⟩, ⟨a2, c2, _, _⟩, ⟨a3, c3, _, _⟩, _⟩ := h
  exact ⟨a1, c1, a2, c2, a3, c3⟩
theorem Kn.three_new (w : World) (u1 v1 u2 v2 u3 v3 : Value) (t : TypeId) :
    Kn w [(w.heap.size + 1 + 1, u3, v3), (w.heap.size + 1, u2, v2), (w.heap.size, u1, v1)] (((w.alloc (.cells #[u1, v1] t)).alloc (.cells #[u2, v2] t)).alloc (.cells #[u3, v3] t)) := by
  have h : Kn w [] w := Below.refl _ _
  have h3 := ((h.push u1 v1 t).push u2 v2 t).push u3 v3 t
  simpa using h3

set_option maxRecDepth 100000 in
set_option maxHeartbeats 1000000 in
theorem orders_walk (a b c : Int) (ha : W128 a) (hb : W128 b) (_ : W128 c) (w : World) :
    Calls Try.prog 7 #[.agg #[.int .i64 (up64 (a)), .int .u64 (lo64 (a))], .agg #[.int .i64 (up64 (b)), .int .u64 (lo64 (b))], .agg #[.int .i64 (up64 (c)), .int .u64 (lo64 (c))]] w fun e w' => e = .returned (.bool true) ∧ Below w.heap.size w w' := by
  have c0 := Lib.hid known_any
  have cab := cmp_any a b
  have cba := cmp_any b a
  have caa := cmp_any a a
  have cbc := cmp_any b c
  have cac := cmp_any a c
  have csub := Lib.hid (wsub_any a b ha hb)
  have csg := wsign_any (wheld (a - b))
  rw [(cmp3_zero a a).2 rfl] at caa
  rw [cmp3_turn b a] at cba
  have hz := cmp3_zero a b
  have hr := cmp3_range a b
  have hr2 := cmp3_range a c
  have hr3 := cmp3_range b c
  have ht := @cmp3_trans a b c
  have CAB := Lib.hid cab
  have CBA := Lib.hid cba
  have CAA := Lib.hid caa
  have CBC := Lib.hid cbc
  have CAC := Lib.hid cac
  clear cab cba caa cbc cac
  have HSG : Hid (wfits (a - b) = true → cmp3 (wheld (a - b)) 0 = cmp3 a b) := Lib.hid fun h => by
    have : W128 (a - b) := by unfold wfits at h; unfold W128; simpa using h
    rw [wheld_of this, cmp3_sub]
  generalize cmp3 (wheld (a - b)) 0 = sg at *
  generalize wfits (a - b) = f at *
  generalize up64 (wheld (a - b)) = dh at *
  generalize lo64 (wheld (a - b)) = dl at *
  generalize cmp3 a b = o at *
  generalize cmp3 b c = o2 at *
  generalize cmp3 a c = o3 at *
  have hab : a = b ↔ up64 a = up64 b ∧ lo64 a = lo64 b := ⟨fun h => by rw [h]; exact ⟨rfl, rfl⟩, fun h => up_inj h.1 h.2⟩
  rw [hab] at hz
  clear hab ha hb
  have CSG := Lib.hid csg
  clear csg
  generalize up64 a = ah at *
  generalize lo64 a = al at *
  generalize up64 b = bh at *
  generalize lo64 b = bl at *
  generalize up64 c = ch at *
  generalize lo64 c = cl at *
  have HZ := Lib.hid hz
  have HTT := Lib.hid ht
  clear hz ht
  have hneg : IntKind.i64.wrap (- -o) = o := by rw [IntKind.wrap_i64]; omega
  have hneg2 : wrap64 (- -o) = o := by unfold wrap64; omega
  have hneg3 : - -o = o := by omega
  have K0 := Lib.hid (Kn.three_new w (.int .i64 ah) (.int .u64 al) (.int .i64 bh) (.int .u64 bl) (.int .i64 ch) (.int .u64 cl) 24)
  go_enter Try.func7, Try.ntmps7
  go_upto_region 3 with (go_at_call 9; refine (c0.out _).mono ?_; rintro e w1 ⟨rfl, hb⟩; have K1 := Lib.hid (K0.out.below hb); clear hb K0)
  go_cut [34] (fun t wx => t = .bool false ∧ Hid (Kn w [(w.heap.size + 1 + 1, .int .i64 ch, .int .u64 cl), (w.heap.size + 1, .int .i64 bh, .int .u64 bl), (w.heap.size, .int .i64 ah, .int .u64 al)] wx))
  case first =>
    have K := Lib.hid K1.out.drew
    by_cases hz : ah = bh ∧ al = bl
    · obtain ⟨rfl, rfl⟩ := hz
      have ho : o = 0 := HZ.out.2 ⟨rfl, rfl⟩
      have e1 : (o != IntKind.i64.wrap (-o)) = false := by rw [ho]; decide
      have e2 : (o != 0) = false := by rw [ho]; decide
      have e3 : (o == 0) = true := by rw [ho]; decide
      have e4 : IntKind.i64.wrap (-o) = o := by rw [ho]; decide
      clear hneg hneg2 hneg3 hr hr2 hr3 ho
      go_region_held3 (fun w' => w'.cell? ⟨w.heap.size, 0, none⟩ = some (.int .i64 ah) ∧ w'.cell? ⟨w.heap.size, 1, none⟩ = some (.int .u64 al) ∧ w'.cell? ⟨w.heap.size + 1, 0, none⟩ = some (.int .i64 ah) ∧ w'.cell? ⟨w.heap.size + 1, 1, none⟩ = some (.int .u64 al))
        (first | (obtain ⟨_, _, h3, h4, h5, h6⟩ := K.out.three; exact ⟨h5, h6, h3, h4⟩))
        (first | (go_at_call 29; refine (CAB.out _).mono ?_; rintro e wa ⟨rfl, hb⟩; replace K := Lib.hid (K.out.below hb); clear hb))
      all_goals
        go_wp2
        go_meet
        exact ⟨rfl, K⟩
    · have ho : o ≠ 0 := fun h => hz (HZ.out.1 h)
      obtain ⟨p, hp⟩ : ∃ p, p = -o := ⟨_, rfl⟩
      obtain ⟨z, hz0⟩ : ∃ z : Int, z = 0 := ⟨_, rfl⟩
      rw [← hp] at CBA
      rw [← hz0] at CAA
      have e1 : IntKind.i64.wrap (-p) = o := by rw [hp]; exact hneg
      have e2 : (z != 0) = false := by rw [hz0]; decide
      have e3 : (o == 0) = false := by rw [beq_eq_false_iff_ne]; exact ho
      clear hneg hneg2 hneg3 hr hr2 hr3 ho hp hz0
      by_cases hh : ah = bh
      · have e5 : (al == bl) = false := by rw [beq_eq_false_iff_ne]; exact fun x => hz ⟨hh, x⟩
        subst hh
        clear hz
        go_region_held3 (fun w' => w'.cell? ⟨w.heap.size, 0, none⟩ = some (.int .i64 ah) ∧ w'.cell? ⟨w.heap.size, 1, none⟩ = some (.int .u64 al) ∧ w'.cell? ⟨w.heap.size + 1, 0, none⟩ = some (.int .i64 ah) ∧ w'.cell? ⟨w.heap.size + 1, 1, none⟩ = some (.int .u64 bl))
          (first | (obtain ⟨_, _, h3, h4, h5, h6⟩ := K.out.three; exact ⟨h5, h6, h3, h4⟩))
          (first | (go_at_call 29; first | ((with_reducible refine (CAB.out _).mono ?_); rintro e wa ⟨rfl, hb⟩; replace K := Lib.hid (K.out.below hb); clear hb) | ((with_reducible refine (CBA.out _).mono ?_); rintro e wa ⟨rfl, hb⟩; replace K := Lib.hid (K.out.below hb); clear hb) | ((with_reducible refine (CAA.out _).mono ?_); rintro e wa ⟨rfl, hb⟩; replace K := Lib.hid (K.out.below hb); clear hb)))
        all_goals
          go_wp2
          go_meet
          exact ⟨rfl, K⟩
      · have e5 : (ah == bh) = false := by rw [beq_eq_false_iff_ne]; exact hh
        clear hz hh
        go_region_held3 (fun w' => w'.cell? ⟨w.heap.size, 0, none⟩ = some (.int .i64 ah) ∧ w'.cell? ⟨w.heap.size, 1, none⟩ = some (.int .u64 al) ∧ w'.cell? ⟨w.heap.size + 1, 0, none⟩ = some (.int .i64 bh) ∧ w'.cell? ⟨w.heap.size + 1, 1, none⟩ = some (.int .u64 bl))
          (first | (obtain ⟨_, _, h3, h4, h5, h6⟩ := K.out.three; exact ⟨h5, h6, h3, h4⟩))
          (first | (go_at_call 29; first | ((with_reducible refine (CAB.out _).mono ?_); rintro e wa ⟨rfl, hb⟩; replace K := Lib.hid (K.out.below hb); clear hb) | ((with_reducible refine (CBA.out _).mono ?_); rintro e wa ⟨rfl, hb⟩; replace K := Lib.hid (K.out.below hb); clear hb) | ((with_reducible refine (CAA.out _).mono ?_); rintro e wa ⟨rfl, hb⟩; replace K := Lib.hid (K.out.below hb); clear hb)))
        all_goals
          go_wp2
          go_meet
          exact ⟨rfl, K⟩
  case rest =>
    obtain ⟨rfl, K⟩ := hcut
    clear hneg hneg2 hneg3 K1 CBA CAA HZ
    go_upto_region 5 with (fail)
    go_cut [50] (fun t wx => t = .bool false ∧ Hid (Kn w [(w.heap.size + 1 + 1, .int .i64 ch, .int .u64 cl), (w.heap.size + 1, .int .i64 bh, .int .u64 bl), (w.heap.size, .int .i64 ah, .int .u64 al)] wx))
    case first =>
      obtain ⟨c1, c2, c3, c4, c5, c6⟩ := K.out.three
      by_cases h1 : o ≤ 0
      · by_cases h2 : o2 ≤ 0
        · have h3 : o3 ≤ 0 := HTT.out h1 h2
          have h4 : decide (0 < o3) = false := by simp; omega
          go_wp2_with (go_at_call 29; first | ((with_reducible refine (CAB.out _).mono ?_); rintro e wa ⟨rfl, hb⟩; replace K := Lib.hid (K.out.below hb); clear hb; obtain ⟨c1, c2, c3, c4, c5, c6⟩ := K.out.three) | ((with_reducible refine (CBC.out _).mono ?_); rintro e wa ⟨rfl, hb⟩; replace K := Lib.hid (K.out.below hb); clear hb; obtain ⟨c1, c2, c3, c4, c5, c6⟩ := K.out.three) | ((with_reducible refine (CAC.out _).mono ?_); rintro e wa ⟨rfl, hb⟩; replace K := Lib.hid (K.out.below hb); clear hb; obtain ⟨c1, c2, c3, c4, c5, c6⟩ := K.out.three))
          go_meet
          exact ⟨rfl, K⟩
        · go_wp2_with (go_at_call 29; first | ((with_reducible refine (CAB.out _).mono ?_); rintro e wa ⟨rfl, hb⟩; replace K := Lib.hid (K.out.below hb); clear hb; obtain ⟨c1, c2, c3, c4, c5, c6⟩ := K.out.three) | ((with_reducible refine (CBC.out _).mono ?_); rintro e wa ⟨rfl, hb⟩; replace K := Lib.hid (K.out.below hb); clear hb; obtain ⟨c1, c2, c3, c4, c5, c6⟩ := K.out.three))
          go_meet
          exact ⟨rfl, K⟩
      · go_wp2_with (go_at_call 29; first | ((with_reducible refine (CAB.out _).mono ?_); rintro e wa ⟨rfl, hb⟩; replace K := Lib.hid (K.out.below hb); clear hb; obtain ⟨c1, c2, c3, c4, c5, c6⟩ := K.out.three))
        go_meet
        exact ⟨rfl, K⟩
    case rest =>
      obtain ⟨rfl, K⟩ := hcut
      obtain ⟨c1, c2, c3, c4, c5, c6⟩ := K.out.three
      cases f
      · go_wp2_with (go_at_call 12; refine (csub.out _).mono ?_; rintro e wsub ⟨rfl, hb⟩; have K2 := Lib.hid ((K.out.below hb).push (.int .i64 dh) (.int .u64 dl) 24); clear hb)
        go_quiet (fail)
        go_wp2
        go_ret
        exact ⟨rfl, below_drewN K2.out.old _⟩
      · have e1 : (sg == o) = true := by rw [HSG.out rfl]; simp
        go_wp2_with (go_at_call 12; refine (csub.out _).mono ?_; rintro e wsub ⟨rfl, hb⟩; have K2 := Lib.hid ((K.out.below hb).push (.int .i64 dh) (.int .u64 dl) 24).drew; clear hb)
        go_region_held3 (fun w' => w'.cell? ⟨wsub.heap.size, 0, none⟩ = some (.int .i64 dh) ∧ w'.cell? ⟨wsub.heap.size, 1, none⟩ = some (.int .u64 dl) ∧ w'.cell? ⟨w.heap.size + 1, 0, none⟩ = some (.int .i64 bh) ∧ w'.cell? ⟨w.heap.size + 1, 1, none⟩ = some (.int .u64 bl) ∧ w'.cell? ⟨w.heap.size, 0, none⟩ = some (.int .i64 ah) ∧ w'.cell? ⟨w.heap.size, 1, none⟩ = some (.int .u64 al))
          (first | (obtain ⟨⟨d1, d2, _, _⟩, _, ⟨d3, d4, _, _⟩, ⟨d5, d6, _, _⟩, _⟩ := K2.out; exact ⟨d1, d2, d3, d4, d5, d6⟩))
          (first
            | (go_at_call 27; refine (CSG.out _).mono ?_; rintro e wa ⟨rfl, hb⟩; replace K2 := Lib.hid (K2.out.below hb); clear hb)
            | (go_at_call 29; refine (CAB.out _).mono ?_; rintro e wa ⟨rfl, hb⟩; replace K2 := Lib.hid (K2.out.below hb); clear hb))
        all_goals
          go_wp2
          go_ret
          exact ⟨rfl, K2.out.old⟩
end Go.Proofs.Ytimpmffcopdblaa
