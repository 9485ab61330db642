/-
  The walk of the reference's product.
-/
import Derived.Test.YtiblbhppojfdaaaRef1e
import Derived.Test.YtiblbhppojfdaaaDigMul
import Derived.Laws.MakeOwn
namespace Go.Proofs.Ytiblbhppojfdaaa
open Go.RowKit

/-- A row of the call's own: its numbers, none frozen. -/
def Row (w : World) (g : Nat) (l : List Int) : Prop :=
  ∀ i, i < l.length → w.cell? ⟨g, i, none⟩ = some (.int .u64 (l.getD i 0)) ∧ w.frozen? ⟨g, i, none⟩ = false
theorem Row.below {w w' : World} {g : Nat} {l : List Int} (h : Row w g l) (hb : Below w.heap.size w w') : Row w' g l := by
  obtain ⟨k1, k2⟩ := old_cells hb
  intro i hi
  obtain ⟨h1, h2⟩ := h i hi
  have hl := block_lt h1
  exact ⟨by rw [k1 _ _ hl, h1], by rw [k2 _ _ hl, h2]⟩
theorem Row.set {w : World} {g : Nat} {l : List Int} (h : Row w g l) (j : Nat) (hj : j < l.length) (d : Int) : Row (w.setCell ⟨g, j, none⟩ (.int .u64 d)) g (l.set j d) := by
  intro i hi
  rw [List.length_set] at hi
  obtain ⟨h1, h2⟩ := h i hi
  refine ⟨?_, by rw [World.frozen?_setCell]; exact h2⟩
  by_cases e : j = i
  · subst e
    rw [World.cell?_setCell_same _ _ _ h1, List.getD_eq_getElem?_getD, List.getElem?_set_self hj]; rfl
  · rw [World.cell?_setCell_other _ _ _ _ (by intro e2; injection e2 with _ e2; exact e e2), h1, List.getD_eq_getElem?_getD, List.getD_eq_getElem?_getD, List.getElem?_set_ne e]
theorem Row.ints {w : World} {g : Nat} {l : List Int} (h : Row w g l) : Ints w .u64 (some ⟨g, 0, none⟩) l := by
  intro _
  refine ⟨g, 0, rfl, fun i hi => ?_⟩
  rw [Nat.zero_add]; exact (h i hi).1
theorem Row.new (w : World) (n : Nat) (t : TypeId) (g : Nat) (hg : g = w.heap.size) : Row (w.alloc (.cells (madeCells #[.int .u64 0] n) t)) g (List.replicate n 0) := by
  subst hg
  intro i hi
  rw [List.length_replicate] at hi
  refine ⟨?_, World.frozen?_alloc_at _ _ _ _ rfl⟩
  rw [World.cell?_alloc_new, ← Array.getElem?_toList, toList_madeCells_one, List.getElem?_replicate, if_pos hi, List.getD_eq_getElem?_getD, List.getElem?_replicate, if_pos hi]
  rfl

/-- What stands in memory while a product grows. -/
def TimS (w : World) (na : Bool) (A : Option Addr) (la c1 : Nat) (nb : Bool) (B : Option Addr) (lb c2 : Nat) (o : List Int) (w' : World) : Prop :=
  Two w na A la c1 nb B lb c2 w' ∧ Row w' (w.heap.size + 1 + 1 + 1) o
theorem TimS.below {w w1 w2 : World} {na nb : Bool} {A B : Option Addr} {la c1 lb c2 : Nat} {o : List Int} (h : TimS w na A la c1 nb B lb c2 o w1) (hb : Below w1.heap.size w1 w2) : TimS w na A la c1 nb B lb c2 o w2 := ⟨h.1.below hb, h.2.below hb⟩
theorem Two.far {w w1 : World} {na nb : Bool} {A B : Option Addr} {la c1 lb c2 : Nat} (h : Two w na A la c1 nb B lb c2 w1) (j : Nat) (v : Value) : Two w na A la c1 nb B lb c2 (w1.setCell ⟨w.heap.size + 1 + 1 + 1, j, none⟩ v) := by
  obtain ⟨h1, h2, h3, h4, h5, h6, h7, h8, h9⟩ := h
  refine ⟨?_, ?_, ?_, ?_, ?_, ?_, by rw [World.frozen?_setCell]; exact h7, by rw [World.frozen?_setCell]; exact h8, h9.setCell (by simp; omega) _⟩
  all_goals (rw [World.cell?_setCell_other _ _ _ _ (by intro e; injection e with e; omega)]; assumption)
theorem TimS.set {w w1 : World} {na nb : Bool} {A B : Option Addr} {la c1 lb c2 : Nat} {o : List Int} (h : TimS w na A la c1 nb B lb c2 o w1) (j : Nat) (hj : j < o.length) (d : Int) : TimS w na A la c1 nb B lb c2 (o.set j d) (w1.setCell ⟨w.heap.size + 1 + 1 + 1, j, none⟩ (.int .u64 d)) :=
  ⟨h.1.far j _, h.2.set j hj d⟩

theorem made_eq (n : Nat) (hn : n ≤ 1000000000000) (x : Int) (hx : x = (n : Int)) (w : World) : (Instr.makeSlice 26 (.int .i64 x) (.int .i64 x)).run Try.prog w = .ok (.slice (some ⟨w.heap.size, 0, none⟩) n n) (w.alloc (.cells (madeCells #[.int .u64 0] n) 22)) := by
  subst hx
  obtain ⟨i0, hi, hz0, hz1, hz2⟩ := info_parts info_u64
  have h := run_make (P := Try.prog) w 26 22 i0 (.int .u64 0) Try.underlying26 hi hz0 .i64 .i64 (n : Int) (n : Int) (by omega) (Int.le_refl _) (by rw [hz2]; omega) (by omega)
  rw [hz1, Int.toNat_natCast, Nat.mul_one] at h
  exact h

set_option maxRecDepth 8000 in
set_option maxHeartbeats 1000000 in
theorem times_walk (na nb : Bool) (A B : Option Addr) (a b : List Int) (c1 c2 : Nat) (w : World) (ha : Ints w .u64 A a) (hb : Ints w .u64 B b) (da : Digs a) (db : Digs b) (la : a.length ≤ 100000000000) (lb : b.length ≤ 100000000000) (X : Int) (HX : Hid ((if na != nb then -(dval a * dval b) else dval a * dval b) = X)) :
    Calls Try.prog 19 #[.agg #[.bool na, .slice A a.length c1], .agg #[.bool nb, .slice B b.length c2]] w (BigR w X (a.length + b.length + 1)) := by
  have hmk := made_eq (a.length + b.length + 1) (by omega) ((a.length : Int) + (b.length : Int) + 1) (by omega)
  have HT := Lib.hid (show TimS w na A a.length c1 nb B b.length c2 (List.replicate (a.length + b.length + 1) 0) _ from ⟨(Two.new w na A a.length c1 nb B b.length c2 28).below ((Below.refl _ _).alloc (Nat.le_refl _) _), Row.new _ (a.length + b.length + 1) 22 (w.heap.size + 1 + 1 + 1) (by simp)⟩)
  have HA := Lib.hid ha
  have HB := Lib.hid hb
  clear ha hb
  go_enter Try.func19, Try.ntmps19
  go_wp2
  go_loopw [6] (fun i wr => ∃ (k : Nat) (o : List Int), k ≤ a.length ∧ i = .int .i64 k ∧ Hid (TimS w na A a.length c1 nb B b.length c2 o wr) ∧ Hid (OutInv a b k o)) (fun i _ => a.length - (intOf i).toNat)
  case atStart => exact ⟨0, _, Nat.zero_le _, rfl, HT, Lib.hid (out_start a b)⟩
  case round =>
    obtain ⟨k, o0, hk, rfl, HS, HO⟩ := hrel
    obtain ⟨q1, q2, q3, q4⟩ := HS.out.1.four
    by_cases hlt : k < a.length
    · clear hmk
      go_wp2
      go_loopw [7, 8] (fun c j w2 => ∃ (m : Nat) (cc : Int) (o : List Int), m ≤ b.length + 1 ∧ j = .int .i64 m ∧ c = .int .u64 cc ∧ 0 ≤ cc ∧ cc < 4294967296 ∧ (m = b.length + 1 → cc = 0) ∧ Hid (TimS w na A a.length c1 nb B b.length c2 o w2) ∧ Hid (InInv a b k o0 m cc o)) (fun _ j _ => b.length + 2 - (intOf j).toNat)
      case atStart => exact ⟨0, 0, o0, by omega, rfl, rfl, by omega, by omega, fun _ => rfl, HS, Lib.hid (in_start HO.out)⟩
      case round =>
        obtain ⟨m, cc, o, hm, rfl, rfl, hc0, hc1, hc2, HS2, HI⟩ := hrel
        clear q1 q2 q3 q4
        obtain ⟨q1, q2, q3, q4⟩ := HS2.out.1.four
        by_cases hgo : m < b.length ∨ 0 < cc
        · have hol := HI.out.1
          have hx := digs_getD da k
          have hy := digs_getD db m
          have hz := digs_getD HI.out.2.1 (k + m)
          have hp := mul_bound hx hy
          have hm2 : m ≤ b.length := by omega
          have hs := in_step HI.out (by omega) _ rfl
          have hzero : b.length ≤ m → b.getD m 0 = 0 ∧ o.getD (k + m) 0 = 0 := fun h => ⟨getD_past b m h, by rw [HI.out.2.2.2.1 (k + m) (by omega)]; exact HO.out.2.2.1 (k + m) (by omega)⟩
          obtain ⟨ab, ao, rfl, hca⟩ := HA.out.below HS2.out.1.old (by omega)
          have r1 := hca k hlt
          obtain ⟨r2, r3⟩ := HS2.out.2 (k + m) (by omega)
          have D := Lib.hid (digit_quiet B b c2 m wr (HB.out.below HS2.out.1.old) (by omega))
          have hko : k + m < o.length := by omega
          generalize a.getD k 0 = x at *
          generalize b.getD m 0 = y at *
          generalize o.getD (k + m) 0 = z at *
          generalize hxy : x * y = p at *
          have HC : Hid (m + 1 = b.length + 1 → (cc + (z + p)) / 4294967296 = 0) := Lib.hid fun e => by
            obtain ⟨rfl, rfl⟩ := hzero (by omega)
            rw [Int.mul_zero] at hxy
            omega
          have HSS := Lib.hid hs
          have E1 : IntKind.u64.wrap p = p := by rw [IntKind.wrap_u64]; omega
          have E2 : IntKind.u64.wrap (z + p) = z + p := by rw [IntKind.wrap_u64]; omega
          have E3 : IntKind.u64.wrap (cc + (z + p)) = cc + (z + p) := by rw [IntKind.wrap_u64]; omega
          have E4 : IntKind.i64.wrap ((k : Int) + (m : Int)) = (k : Int) + (m : Int) := IntWalk.i64_in _ (by omega)
          have E5 : ((k : Int) + (m : Int)).toNat = k + m := by omega
          have E6 : 0 ≤ (k : Int) + (m : Int) := by omega
          have E7 : k + m < a.length + b.length + 1 := by omega
          have hm3 := mask32i (cc + (z + p)) (by omega) (by omega)
          have hb1 : 0 ≤ (cc + (z + p)) / 4294967296 := by omega
          have hb2 : (cc + (z + p)) / 4294967296 < 4294967296 := by omega
          clear hca hs hzero hol hc2
          have hcase : m < b.length ∨ (b.length ≤ m ∧ 0 < cc) := by omega
          clear hgo
          rcases hcase with h1 | ⟨h1, h2⟩
          all_goals
            go_wp2
            go_quiet ((go_at_call 42; exact Calls.quiet_of_same (D.out _)))
            have hS3 := HS2.out.below (below_drewN (Below.refl _ wr) nq)
            clear HS2 D r1 r2 r3 q1 q2 q3 q4
            generalize wr.drewN nq = wq at *
            obtain ⟨q1, q2, q3, q4⟩ := hS3.1.four
            obtain ⟨r2, r3⟩ := hS3.2 (k + m) hko
            have HS4 := Lib.hid (hS3.set (k + m) hko ((cc + (z + p)) % 4294967296))
            clear hS3
            go_wp2
            go_roundw
            case rel => exact ⟨m + 1, (cc + (z + p)) / 4294967296, o.set (k + m) ((cc + (z + p)) % 4294967296), by omega, by go_num, rfl, hb1, hb2, HC.out, HS4, HSS⟩
            case measure => simp [intOf]; omega
        · obtain rfl : cc = 0 := by omega
          have HO2 := Lib.hid (in_last HO.out HI.out hlt (by omega) hm)
          go_wp2
          go_roundw
          case rel => exact ⟨k + 1, o, by omega, by go_num, HS2, HO2⟩
          case measure => simp [intOf]; omega
    · obtain rfl : k = a.length := by omega
      have HV := Lib.hid (out_last HO.out)
      have hol := HO.out.1
      obtain ⟨g0, g1, f0, f1⟩ := HS.out.1.box
      have CM : Hid (Calls Try.prog 33 #[.bool (na != nb), .slice (some ⟨w.heap.size + 1 + 1 + 1, 0, none⟩) (a.length + b.length + 1) (a.length + b.length + 1)] wr fun e w1 => ∃ (neg : Bool) (A2 : Option Addr) (n2 c3 : Nat), e = .returned (.agg #[.bool neg, .slice A2 n2 c3]) ∧ BigV w1 (.agg #[.bool neg, .slice A2 n2 c3]) X (a.length + b.length + 1) ∧ Two w na A a.length c1 nb B b.length c2 w1) := Lib.hid <| by
        have h := made_any (na != nb) (some ⟨w.heap.size + 1 + 1 + 1, 0, none⟩) o0 (a.length + b.length + 1) wr HS.out.2.ints HO.out.2.1 (by omega) (by omega)
        rw [HV.out, HX.out, hol] at h
        refine h.mono ?_
        rintro e w1 ⟨v, rfl, hV, hb⟩
        obtain ⟨neg, A2, n2, c3, rfl⟩ := hV.form
        exact ⟨neg, A2, n2, c3, rfl, hV, HS.out.1.below hb⟩
      clear hol
      cases na <;> cases nb
      all_goals
        go_wp2_with (go_at_call 33; refine CM.out.mono ?_; rintro e w2 ⟨neg, A2, n2, c3, rfl, hV2, hS2⟩; have HS2 := Lib.hid hS2; have HV2 := Lib.hid hV2; obtain ⟨g2, g3, f2, f3⟩ := hS2.box; clear hS2 hV2)
        obtain ⟨p0, p1⟩ := HS2.out.box.put (.bool neg) (.slice A2 n2 c3)
        refine bodyPost_ret (v := .agg #[.bool neg, .slice A2 n2 c3]) (by simp [results, Try.results19, go_sem, p0, p1]) rfl ?_
        exact big_out HS2.out.old (by omega) HS2.out.box HV2.out

/-- Times: the product. -/
theorem times_any (va vb : Value) (x y : Int) (n : Nat) (w : World) (hx : BigV w va x n) (hy : BigV w vb y n) (hn : n ≤ 100000000000) :
    Calls Try.prog 19 #[va, vb] w (BigR w (x * y) (2 * n + 1)) := by
  obtain ⟨na, A, a, c1, rfl, a1, a2, a3, a4, a5, a6, a7, rfl⟩ := hx
  obtain ⟨nb, B, b, c2, rfl, b1, b2, b3, b4, b5, b6, b7, rfl⟩ := hy
  refine (times_walk na nb A B a b c1 c2 w a3 b3 a4 b4 (by omega) (by omega) _ (Lib.hid ?_)).mono fun e w' h => h.as rfl (by omega)
  cases na <;> cases nb <;> simp [Int.neg_mul, Int.mul_neg]
end Go.Proofs.Ytiblbhppojfdaaa
