/-
  The walk of novationlaw2.WideAll.
-/
import Derived.Test.YtiblbhppojfdaaaKnown2
import Derived.Test.YtiblbhppojfdaaaTold2
import Derived.Test.YtiblbhppojfdaaaBox3
import Derived.Test.YtiblbhppojfdaaaSp
import Derived.Deep.DeepCutAuto
namespace Go.Proofs.Ytiblbhppojfdaaa
open Go.RowKit

theorem wf_i64 {a : Int} (h : (Lit.int .i64 a).wf = true) : I64 a := by
  unfold I64; simpa [Lit.wf, IntKind.min, IntKind.max, IntKind.signed, IntKind.bits] using h
theorem wf_u64 {a : Int} (h : (Lit.int .u64 a).wf = true) : 0 ≤ a ∧ a ≤ 18446744073709551615 := by
  simpa [Lit.wf, IntKind.min, IntKind.max, IntKind.signed, IntKind.bits] using h
theorem w128_mul {a b : Int} (ha : I64 a) (hb : I64 b) : W128 (a * b) := by
  have h := abs_mul a b
  have hp : a.natAbs * b.natAbs ≤ 9223372036854775808 * 9223372036854775808 := Nat.mul_le_mul (i64_nat ha) (i64_nat hb)
  generalize a.natAbs * b.natAbs = p at *
  unfold W128
  split at h <;> omega
theorem ord3_cmp3 (a b : Int) : ord3 a b = cmp3 a b := rfl
/-- A Wide in its box, in every world that is the same below. -/
theorem box_at {w : World} {b : Nat} {u0 u1 : Value} (h : Box2 w b u0 u1) : ∀ W, Below w.heap.size w W → W.cell? ⟨b, 0, none⟩ = some u0 ∧ W.cell? ⟨b, 1, none⟩ = some u1 := fun _ hb => ⟨(h.below hb).1, (h.below hb).2.1⟩
theorem sized_told (va : Value) (x : Int) (n : Nat) (w : World) (hx : BigV w va x n) :
    Calls Try.prog 18 #[va] w fun e w1 => ∃ (ng : Bool) (A1 : Option Addr) (n1 c1 : Nat), e = .returned (.agg #[.bool ng, .slice A1 n1 c1]) ∧ BigV w1 (.agg #[.bool ng, .slice A1 n1 c1]) (x.natAbs : Int) n ∧ Below w.heap.size w w1 := by
  refine (sized_any va x n w hx).mono ?_
  rintro e w1 ⟨v, rfl, hV, hb⟩
  obtain ⟨ng, A1, n1, c1, rfl⟩ := hV.form
  exact ⟨ng, A1, n1, c1, rfl, hV, hb⟩
set_option maxRecDepth 100000 in
set_option maxHeartbeats 40000000 in
theorem wall_walk (xa xb u v : Int) (ha : W128 xa) (hb : W128 xb) (hu : I64 u) (hv : I64 v) (w : World) :
    Calls Try.prog 3 #[.agg #[.int .i64 (up64 (xa)), .int .u64 (lo64 (xa))], .agg #[.int .i64 (up64 (xb)), .int .u64 (lo64 (xb))], .int .i64 u, .int .i64 v] w fun e w' => e = .returned (.bool true) ∧ Below w.heap.size w w' := by
  have CK := Lib.hid known_any
  have CW1 := Lib.hid (rwide_walk xa ha)
  have CW2 := Lib.hid (rwide_walk xb hb)
  have CA := Lib.hid (wadd_any xa xb ha hb)
  have CS := Lib.hid (wsub_any xa xb ha hb)
  have CN := Lib.hid (wneg_any xa ha)
  have CB := Lib.hid (wabs_any xa ha)
  have CT := Lib.hid (wtimes_any xa u ha hu)
  have CI := Lib.hid (wint_any xa ha)
  have CRI : Hid (∀ W v, BigV W v xa 8 → Calls Try.prog 13 #[v] W fun e w' => e = .returned (.tuple #[.int .i64 (held xa), .bool (fits xa)]) ∧ Below W.heap.size W w') := Lib.hid fun W v h => int_any v xa 8 W h
  have CM := Lib.hid (wmul_any u v hu hv)
  have CO := Lib.hid (of_any u hu)
  have CG := Lib.hid (wsign_any xa)
  have CC := Lib.hid (cmp_any xa xb)
  have CRG : Hid (∀ W v, BigV W v xa 8 → Calls Try.prog 24 #[v] W fun e w' => e = .returned (.int .i64 (cmp3 xa 0)) ∧ Below W.heap.size W w') := Lib.hid fun W v h => sign_any v xa 8 W h
  have CRC : Hid (∀ W v v', BigV W v xa 8 → BigV W v' xb 8 → Calls Try.prog 26 #[v, v'] W fun e w' => e = .returned (.int .i64 (cmp3 xa xb)) ∧ Below W.heap.size W w') := Lib.hid fun W v v' h h' => rcmp_any v v' xa xb 8 W h h' (by omega)
  have T1 := Lib.hid (fun W v h => told2_walk (xa + xb) v 9 (by omega) W h)
  have T2 := Lib.hid (fun W v h => told2_walk (xa - xb) v 9 (by omega) W h)
  have T3 := Lib.hid (fun W v h => told2_walk (-xa) v 8 (by omega) W h)
  have T4 := Lib.hid (fun W v h => told2_walk (xa.natAbs : Int) v 8 (by omega) W h)
  have T5 := Lib.hid (fun W v h => told2_walk (xa * u) v 17 (by omega) W h)
  have T6 : Hid (∀ (W : World) (v' : Value), BigV W v' (u * v) 5 → Calls Try.prog 14 #[.agg #[.int .i64 (up64 (u * v)), .int .u64 (lo64 (u * v))], .bool true, v'] W fun e w' => e = .returned (.bool true) ∧ Below W.heap.size W w') := Lib.hid fun W v' h => by
    have h9 := told2_walk (u * v) v' 5 (by omega) W h
    have hw : W128 (u * v) := w128_mul hu hv
    rw [wheld_of hw, wfits_of hw] at h9
    exact h9
  have T7 : Hid (∀ (W : World) (v' : Value), BigV W v' u 2 → Calls Try.prog 14 #[.agg #[.int .i64 (up64 (u)), .int .u64 (lo64 (u))], .bool true, v'] W fun e w' => e = .returned (.bool true) ∧ Below W.heap.size W w') := Lib.hid fun W v' h => by
    have h9 := told2_walk u v' 2 (by omega) W h
    have hw : W128 u := by unfold I64 at hu; unfold W128; omega
    rw [wheld_of hw, wfits_of hw] at h9
    exact h9
  generalize up64 xa = ah at *
  generalize lo64 xa = al at *
  generalize up64 xb = bh at *
  generalize lo64 xb = bl at *
  generalize up64 (wheld (xa + xb)) = sh at *
  generalize lo64 (wheld (xa + xb)) = sl at *
  generalize wfits (xa + xb) = se at *
  generalize up64 (wheld (xa - xb)) = dh at *
  generalize lo64 (wheld (xa - xb)) = dl at *
  generalize wfits (xa - xb) = de at *
  generalize up64 (wheld (-xa)) = nh at *
  generalize lo64 (wheld (-xa)) = nl at *
  generalize wfits (-xa) = ne at *
  generalize up64 (wheld (xa.natAbs : Int)) = mh at *
  generalize lo64 (wheld (xa.natAbs : Int)) = ml at *
  generalize wfits (xa.natAbs : Int) = me at *
  generalize up64 (wheld (xa * u)) = th at *
  generalize lo64 (wheld (xa * u)) = tl at *
  generalize wfits (xa * u) = te at *
  generalize held xa = ih at *
  generalize fits xa = ie at *
  generalize up64 (u * v) = uh at *
  generalize lo64 (u * v) = ul at *
  generalize up64 u = oh at *
  generalize lo64 u = ol at *
  generalize cmp3 xa 0 = cg at *
  generalize cmp3 xa xb = cc at *
  have E0 : Hid (Box2 ((w.alloc (.cells #[.int .i64 ah, .int .u64 al] 24)).alloc (.cells #[.int .i64 bh, .int .u64 bl] 24)) w.heap.size (.int .i64 ah) (.int .u64 al) ∧ Box2 ((w.alloc (.cells #[.int .i64 ah, .int .u64 al] 24)).alloc (.cells #[.int .i64 bh, .int .u64 bl] 24)) (w.heap.size + 1) (.int .i64 bh) (.int .u64 bl) ∧ Below w.heap.size w ((w.alloc (.cells #[.int .i64 ah, .int .u64 al] 24)).alloc (.cells #[.int .i64 bh, .int .u64 bl] 24))) :=
    Lib.hid ⟨(Box2.new w _ _ _ _ rfl).alloc _, Box2.new _ _ _ _ _ (by simp), ((Below.refl _ _).alloc (Nat.le_refl _) _).alloc (by simp) _⟩
  go_enter Try.func3, Try.ntmps3
  go_wp2_with (go_at_call 5; refine (CK.out _).mono ?_; rintro e w1 ⟨rfl, hb1⟩; have E1 := Lib.hid (show Box2 w1 w.heap.size (.int .i64 ah) (.int .u64 al) ∧ Box2 w1 (w.heap.size + 1) (.int .i64 bh) (.int .u64 bl) ∧ Below w.heap.size w w1 from ⟨E0.out.1.below hb1, E0.out.2.1.below hb1, E0.out.2.2.trans (hb1.mono E0.out.2.2.size)⟩); clear E0 hb1)
  have EA := Lib.hid (box_at E1.out.1)
  have EB := Lib.hid (box_at E1.out.2.1)
  go_cut [9, 10] (fun p q wx => ∃ (b1 b2 : Nat) (np : Bool) (P : Option Addr) (lp cp : Nat) (nq : Bool) (Q : Option Addr) (lq cq : Nat), p = .pointer (some ⟨b1, 0, none⟩) ∧ q = .pointer (some ⟨b2, 0, none⟩) ∧ Hid (PQ w1 b1 b2 np P lp cp nq Q lq cq xa xb wx))
  case first =>
    refine wp_region_off D3 (fun V L W => I3 w1 xa xb (.agg #[.int .i64 ah, .int .u64 al]) (.agg #[.int .i64 bh, .int .u64 bl]) V L W) rfl rfl rfl I3.start ⟨?_, ?_, ?_, ?_, ?_, ?_, ?_, ?_, trivial⟩ ?_
    all_goals intro a W L
    · intro K ho hi hn haf hK
      have e0 : a.tmps.getD 4 undef = .pointer (some ⟨w.heap.size, 0, none⟩) := ho.slot 4 (by decide)
      obtain ⟨i1, i2⟩ := EA.out W hi.old
      go_simp
      exact Off.next hK ho (d := 27) (by decide) (Nat.le_of_ble_eq_true rfl) hi.s0
    · intro K ho hi hn haf hK
      have e0 : a.tmps.getD 27 undef = .agg #[.int .i64 ah, .int .u64 al] := hi.f0 (haf ⟨0, .data⟩ (by simp) rfl)
      go_simp
      refine (CW1.out _).mono ?_
      rintro e w2 ⟨ng', A', n', k', rfl, hV, hb⟩
      exact Off.next hK ho (d := 28) (by decide) (Nat.le_of_ble_eq_true rfl) ((hi.grow hb).s1 (hi.n6 hn) hV)
    · intro K ho hi hn haf hK
      have e0 : a.tmps.getD 5 undef = .pointer (some ⟨w.heap.size + 1, 0, none⟩) := ho.slot 5 (by decide)
      obtain ⟨i1, i2⟩ := EB.out W hi.old
      go_simp
      exact Off.next hK ho (d := 29) (by decide) (Nat.le_of_ble_eq_true rfl) hi.s2
    · intro K ho hi hn haf hK
      have e0 : a.tmps.getD 29 undef = .agg #[.int .i64 bh, .int .u64 bl] := hi.f2 (haf ⟨2, .data⟩ (by simp) rfl)
      go_simp
      refine (CW2.out _).mono ?_
      rintro e w2 ⟨ng', A', n', k', rfl, hV, hb⟩
      exact Off.next hK ho (d := 30) (by decide) (Nat.le_of_ble_eq_true rfl) ((hi.grow hb).s3 (hi.n7 hn) hV)
    · intro K ho hi hn haf hK
      go_simp
      exact Off.next hK ho (d := 9) (by decide) (Nat.le_of_ble_eq_true rfl) (hi.s4 (hi.n6' hn) _)
    · intro K ho hi hn haf hK
      go_simp
      exact Off.next hK ho (d := 10) (by decide) (Nat.le_of_ble_eq_true rfl) (hi.s5 (hi.n7' hn) _)
    · intro K ho hi hn haf hK
      have h4 := haf ⟨4, .data⟩ (by simp) rfl
      have h1 := haf ⟨1, .data⟩ (by simp) rfl
      obtain ⟨b, e4, _, hb, _⟩ := hi.f4 h4
      obtain ⟨nq, Q, lq, cq, e28⟩ := (hi.f1 h1).form
      obtain ⟨j1, j2, j3, j4⟩ := hb hn
      have e0 : a.tmps.getD 9 undef = .pointer (some ⟨b, 0, none⟩) := e4
      have e1 : a.tmps.getD 28 undef = .agg #[.bool nq, .slice Q lq cq] := e28
      go_simp
      exact hK _ _ ho (hi.s6 h4 h1 hn e4 e28)
    · intro K ho hi hn haf hK
      have h5 := haf ⟨5, .data⟩ (by simp) rfl
      have h3 := haf ⟨3, .data⟩ (by simp) rfl
      obtain ⟨b, e5, _, hb, _⟩ := hi.f5 h5
      obtain ⟨nq, Q, lq, cq, e30⟩ := (hi.f3 h3).form
      obtain ⟨j1, j2, j3, j4⟩ := hb hn
      have e0 : a.tmps.getD 10 undef = .pointer (some ⟨b, 0, none⟩) := e5
      have e1 : a.tmps.getD 30 undef = .agg #[.bool nq, .slice Q lq cq] := e30
      go_simp
      exact hK _ _ ho (hi.s7 h5 h3 hn e5 e30)
    · intro ho hi hall
      obtain ⟨b1, b2, np, P, lp, cp, nq, Q, lq, cq, e9, e10, hPQ⟩ := hi.done hall
      have HPQ := Lib.hid hPQ
      have heq := ho.eq
      have e9' : a.tmps.getD 9 undef = .pointer (some ⟨b1, 0, none⟩) := e9
      have e10' : a.tmps.getD 10 undef = .pointer (some ⟨b2, 0, none⟩) := e10
      clear hi hall hPQ ho e9 e10
      simp only [D3, putL, e9', e10'] at heq
      generalize a.tmps.getD 27 undef = v27 at heq
      generalize a.tmps.getD 28 undef = v28 at heq
      generalize a.tmps.getD 29 undef = v29 at heq
      generalize a.tmps.getD 30 undef = v30 at heq
      clear e9' e10'
      subst heq
      go_simp
      go_wp2
      go_meet
      exact ⟨_, _, _, _, _, _, _, _, _, _, rfl, rfl, HPQ⟩
  case rest =>
    obtain ⟨b1, b2, np, P, lp, cp, nq, Q, lq, cq, rfl, rfl, HPQ⟩ := hcut
    have FA0 := Lib.hid (box_at (E1.out.1.below HPQ.out.old))
    have FB0 := Lib.hid (box_at (E1.out.2.1.below HPQ.out.old))
    have FP0 := Lib.hid (box_at HPQ.out.p)
    have FQ0 := Lib.hid (box_at HPQ.out.q)
    have HOLD := Lib.hid (E1.out.2.2.trans (HPQ.out.old.mono E1.out.2.2.size))
    have K : Hid (Kn wc [] wc) := Lib.hid (Below.refl _ _)
    obtain ⟨i1, i2⟩ := FA0.out _ K.out.old
    obtain ⟨i3, i4⟩ := FB0.out _ K.out.old
    clear E1 EA EB
    go_wp2_with (first
      | (go_at_call 7; refine (CA.out _).mono ?_; rintro e ws ⟨rfl, hb9⟩; have KS := Lib.hid ((K.out.below hb9).push (.int .i64 sh) (.int .u64 sl) 24); clear hb9 i1 i2 i3 i4 K; obtain ⟨i1, i2⟩ := FA0.out _ KS.out.old; obtain ⟨i3, i4⟩ := FB0.out _ KS.out.old)
      | (go_at_call 8; refine (CS.out _).mono ?_; rintro e wd ⟨rfl, hb9⟩; have KD := Lib.hid ((KS.out.below hb9).push (.int .i64 dh) (.int .u64 dl) 24); clear hb9 i1 i2 i3 i4 KS; obtain ⟨i1, i2⟩ := FA0.out _ KD.out.old; obtain ⟨i3, i4⟩ := FB0.out _ KD.out.old)
      | (go_at_call 9; refine (CN.out _).mono ?_; rintro e wn ⟨rfl, hb9⟩; have KN := Lib.hid ((KD.out.below hb9).push (.int .i64 nh) (.int .u64 nl) 24); clear hb9 i1 i2 i3 i4 KD; obtain ⟨i1, i2⟩ := FA0.out _ KN.out.old)
      | (go_at_call 10; refine (CB.out _).mono ?_; rintro e wm ⟨rfl, hb9⟩; have KM := Lib.hid ((KN.out.below hb9).push (.int .i64 mh) (.int .u64 ml) 24); clear hb9 i1 i2 KN; obtain ⟨i1, i2⟩ := FA0.out _ KM.out.old)
      | (go_at_call 11; refine (CT.out _).mono ?_; rintro e wt ⟨rfl, hb9⟩; have KT := Lib.hid ((KM.out.below hb9).push (.int .i64 th) (.int .u64 tl) 24); clear hb9 i1 i2 KM; obtain ⟨i1, i2⟩ := FA0.out _ KT.out.old)
      | (go_at_call 12; refine (CI.out _).mono ?_; rintro e wi ⟨rfl, hb9⟩; have KI := Lib.hid (KT.out.below hb9); clear hb9 i1 i2 KT; obtain ⟨i1, i2⟩ := FP0.out _ KI.out.old)
      | (go_at_call 13; refine (CRI.out _ _ (HPQ.out.vp.below KI.out.old)).mono ?_; rintro e wz ⟨rfl, hb9⟩; have KZ := Lib.hid (KI.out.below hb9); clear hb9 i1 i2 KI))
    simp only [List.append_eq, List.cons_append, List.nil_append]
    have FA := Lib.hid (fun W (h : Below wz.heap.size wz W) => FA0.out W (KZ.out.old.trans (h.mono KZ.out.old.size)))
    have FB := Lib.hid (fun W (h : Below wz.heap.size wz W) => FB0.out W (KZ.out.old.trans (h.mono KZ.out.old.size)))
    have FP := Lib.hid (fun W (h : Below wz.heap.size wz W) => FP0.out W (KZ.out.old.trans (h.mono KZ.out.old.size)))
    have FQ := Lib.hid (fun W (h : Below wz.heap.size wz W) => FQ0.out W (KZ.out.old.trans (h.mono KZ.out.old.size)))
    have FT := Lib.hid (box_at KZ.out.1)
    have FM := Lib.hid (box_at KZ.out.2.1)
    have FN := Lib.hid (box_at KZ.out.2.2.1)
    have FD := Lib.hid (box_at KZ.out.2.2.2.1)
    have FS := Lib.hid (box_at KZ.out.2.2.2.2.1)
    have HVP := Lib.hid (HPQ.out.vp.below KZ.out.old)
    have HVQ := Lib.hid (HPQ.out.vq.below KZ.out.old)
    have HZ := Lib.hid (HOLD.out.trans (KZ.out.old.mono HOLD.out.size))
    clear FA0 FB0 FP0 FQ0 KZ HPQ HOLD
    refine wp_region_dag [69, 70, 71, 72, 73, 74, 75, 76, 77, 78, 79, 80, 81, 82, 83, 84, 85, 86, 87, 88, 89, 90, 91, 92, 93, 94, 95, 96, 97, 98, 99, 100, 101, 102, 103, 104, 105, 106, 107, 108, 109, 110, 111, 112, 113, 114, 115, 116, 117, 118, 119, 120, 121, 122, 123, 124, 125, 126, 127, 128, 129, 130, 131, 132, 133, 134, 135, 136, 137, 138, 139, 140, 141, 142, 143, 144, 145, 146, 147, 148, 149, 8] (fun W W' => Below W.heap.size W W') (fun W => Below wz.heap.size wz W) (spOf [.val (.agg #[.int .i64 sh, .int .u64 sl]), .val (.bool se), .val (.agg #[.bool np, .slice P lp cp]), .val (.agg #[.bool nq, .slice Q lq cq]), .big (xa + xb) 9, .val (.bool true), .val (.bool true), .val (.agg #[.int .i64 dh, .int .u64 dl]), .val (.bool de), .val (.agg #[.bool np, .slice P lp cp]), .val (.agg #[.bool nq, .slice Q lq cq]), .big (xa - xb) 9, .val (.bool true), .val (.bool true), .val (.bool true), .val (.agg #[.int .i64 nh, .int .u64 nl]), .val (.bool ne), .val (.agg #[.bool np, .slice P lp cp]), .big (-xa) 8, .val (.bool true), .val (.bool true), .val (.bool true), .val (.agg #[.int .i64 mh, .int .u64 ml]), .val (.bool me), .val (.agg #[.bool np, .slice P lp cp]), .big ((xa.natAbs : Int)) 8, .val (.bool true), .val (.bool true), .val (.bool true), .val (.agg #[.int .i64 th, .int .u64 tl]), .val (.bool te), .val (.agg #[.bool np, .slice P lp cp]), .val (.int .i64 u), .big (u) 2, .big (xa * u) 17, .val (.bool true), .val (.bool true), .val (.bool true), .val (.int .i64 ih), .val (.int .i64 ih), .val (.bool true), .val (.bool true), .val (.bool true), .val (.bool ie), .val (.bool ie), .val (.bool true), .val (.bool true), .val (.bool true), .val (.int .i64 u), .val (.int .i64 v), .val (.agg #[.int .i64 uh, .int .u64 ul]), .val (.int .i64 u), .big (u) 2, .val (.int .i64 v), .big (v) 2, .big (u * v) 5, .val (.bool true), .val (.bool true), .val (.bool true), .val (.int .i64 u), .val (.agg #[.int .i64 oh, .int .u64 ol]), .val (.int .i64 u), .big (u) 2, .val (.bool true), .val (.bool true), .val (.bool true), .val (.agg #[.int .i64 ah, .int .u64 al]), .val (.int .i64 cg), .val (.agg #[.bool np, .slice P lp cp]), .val (.int .i64 cg), .val (.bool true), .val (.bool true), .val (.bool true), .val (.agg #[.int .i64 ah, .int .u64 al]), .val (.agg #[.int .i64 bh, .int .u64 bl]), .val (.int .i64 cc), .val (.agg #[.bool np, .slice P lp cp]), .val (.agg #[.bool nq, .slice Q lq cq]), .val (.int .i64 cc), .val (.bool true), .val (.bool true), .val (.bool true)]) rfl rfl rfl rfl (fun i v W W' hb h => Sp.below h hb) (Below.refl _ _).drew ⟨?_, ?_, ?_, ?_, ?_, ?_, ?_, ?_, ?_, ?_, ?_, ?_, ?_, ?_, ?_, ?_, ?_, ?_, ?_, ?_, ?_, ?_, ?_, ?_, ?_, ?_, ?_, ?_, ?_, ?_, ?_, ?_, ?_, ?_, ?_, ?_, ?_, ?_, ?_, ?_, ?_, ?_, ?_, ?_, ?_, ?_, ?_, ?_, ?_, ?_, ?_, ?_, ?_, ?_, ?_, ?_, ?_, ?_, ?_, ?_, ?_, ?_, ?_, ?_, ?_, ?_, ?_, ?_, ?_, ?_, ?_, ?_, ?_, ?_, ?_, ?_, ?_, ?_, ?_, ?_, ?_, ?_, trivial⟩ ?_
    · intro a W K ho hW hpre hK
      rw [if_pos (wanted_none rfl)]
      have e0 : a.tmps.getD 11 undef = .pointer (some ⟨ws.heap.size, 0, none⟩) := ho.slot 11 (by decide)
      obtain ⟨i1, i2⟩ := FS.out W hW
      go_simp
      exact hK _ _ (Below.refl _ _) hW rfl
    · intro a W K ho hW hpre hK
      rw [if_pos (wanted_none rfl)]
      have e0 : a.tmps.getD 12 undef = .bool se := ho.slot 12 (by decide)
      go_simp
      exact hK _ _ (Below.refl _ _) hW rfl
    · intro a W K ho hW hpre hK
      rw [if_pos (wanted_none rfl)]
      have e0 : a.tmps.getD 9 undef = .pointer (some ⟨b1, 0, none⟩) := ho.slot 9 (by decide)
      obtain ⟨i1, i2⟩ := FP.out W hW
      go_simp
      exact hK _ _ (Below.refl _ _) hW rfl
    · intro a W K ho hW hpre hK
      rw [if_pos (wanted_none rfl)]
      have e0 : a.tmps.getD 10 undef = .pointer (some ⟨b2, 0, none⟩) := ho.slot 10 (by decide)
      obtain ⟨i1, i2⟩ := FQ.out W hW
      go_simp
      exact hK _ _ (Below.refl _ _) hW rfl
    · intro a W K ho hW hpre hK
      rw [if_pos (wanted_none rfl)]
      have e0 : a.tmps.getD 71 undef = .agg #[.bool np, .slice P lp cp] := hpre ⟨2, .data⟩ (by simp) rfl _ rfl
      have e1 : a.tmps.getD 72 undef = .agg #[.bool nq, .slice Q lq cq] := hpre ⟨3, .data⟩ (by simp) rfl _ rfl
      go_simp
      refine (plus_told _ _ xa xb 8 _ (HVP.out.below hW) (HVQ.out.below hW) (by omega)).mono ?_
      rintro e w2 ⟨ng', A', n', k', rfl, hV, hb⟩
      exact hK _ _ hb (hW.trans (hb.mono hW.size)) hV
    · intro a W K ho hW hpre hK
      rw [if_pos (wanted_none rfl)]
      have e0 : a.tmps.getD 69 undef = .agg #[.int .i64 sh, .int .u64 sl] := hpre ⟨0, .data⟩ (by simp) rfl _ rfl
      have e1 : a.tmps.getD 70 undef = .bool se := hpre ⟨1, .data⟩ (by simp) rfl _ rfl
      have e2 : BigV W (a.tmps.getD 73 undef) (xa + xb) 9 := hpre ⟨4, .data⟩ (by simp) rfl _ rfl
      obtain ⟨n2, A2, l2, c2, f2⟩ := e2.form
      rw [f2] at e2
      have H2 := Lib.hid e2
      clear e2
      go_simp
      refine (T1.out _ _ H2.out).mono ?_
      rintro e w2 ⟨rfl, hb⟩
      exact hK _ _ hb (hW.trans (hb.mono hW.size)) rfl
    · intro a W K ho hW hpre hK
      rw [if_pos (wanted_none rfl)]
      have e0 : a.tmps.getD 74 undef = .bool true := hpre ⟨5, .data⟩ (by simp) rfl _ rfl
      go_simp
      exact hK _ _ (Below.refl _ _) hW rfl
    · intro a W K ho hW hpre hK
      have eg : a.tmps.getD 75 undef = .bool true := hpre ⟨6, .guard⟩ (by simp) rfl _ rfl
      rw [if_pos (wanted_at ho rfl rfl rfl (Nat.le_of_ble_eq_true rfl) eg)]
      clear eg
      have e0 : a.tmps.getD 13 undef = .pointer (some ⟨wd.heap.size, 0, none⟩) := ho.slot 13 (by decide)
      obtain ⟨i1, i2⟩ := FD.out W hW
      go_simp
      exact hK _ _ (Below.refl _ _) hW rfl
    · intro a W K ho hW hpre hK
      have eg : a.tmps.getD 75 undef = .bool true := hpre ⟨6, .guard⟩ (by simp) rfl _ rfl
      rw [if_pos (wanted_at ho rfl rfl rfl (Nat.le_of_ble_eq_true rfl) eg)]
      clear eg
      have e0 : a.tmps.getD 14 undef = .bool de := ho.slot 14 (by decide)
      go_simp
      exact hK _ _ (Below.refl _ _) hW rfl
    · intro a W K ho hW hpre hK
      have eg : a.tmps.getD 75 undef = .bool true := hpre ⟨6, .guard⟩ (by simp) rfl _ rfl
      rw [if_pos (wanted_at ho rfl rfl rfl (Nat.le_of_ble_eq_true rfl) eg)]
      clear eg
      have e0 : a.tmps.getD 9 undef = .pointer (some ⟨b1, 0, none⟩) := ho.slot 9 (by decide)
      obtain ⟨i1, i2⟩ := FP.out W hW
      go_simp
      exact hK _ _ (Below.refl _ _) hW rfl
    · intro a W K ho hW hpre hK
      have eg : a.tmps.getD 75 undef = .bool true := hpre ⟨6, .guard⟩ (by simp) rfl _ rfl
      rw [if_pos (wanted_at ho rfl rfl rfl (Nat.le_of_ble_eq_true rfl) eg)]
      clear eg
      have e0 : a.tmps.getD 10 undef = .pointer (some ⟨b2, 0, none⟩) := ho.slot 10 (by decide)
      obtain ⟨i1, i2⟩ := FQ.out W hW
      go_simp
      exact hK _ _ (Below.refl _ _) hW rfl
    · intro a W K ho hW hpre hK
      have eg : a.tmps.getD 75 undef = .bool true := hpre ⟨6, .guard⟩ (by simp) rfl _ rfl
      rw [if_pos (wanted_at ho rfl rfl rfl (Nat.le_of_ble_eq_true rfl) eg)]
      clear eg
      have e0 : a.tmps.getD 78 undef = .agg #[.bool np, .slice P lp cp] := hpre ⟨9, .data⟩ (by simp) rfl _ rfl
      have e1 : a.tmps.getD 79 undef = .agg #[.bool nq, .slice Q lq cq] := hpre ⟨10, .data⟩ (by simp) rfl _ rfl
      go_simp
      refine (less_told _ _ xa xb 8 _ (HVP.out.below hW) (HVQ.out.below hW) (by omega)).mono ?_
      rintro e w2 ⟨ng', A', n', k', rfl, hV, hb⟩
      exact hK _ _ hb (hW.trans (hb.mono hW.size)) hV
    · intro a W K ho hW hpre hK
      have eg : a.tmps.getD 75 undef = .bool true := hpre ⟨6, .guard⟩ (by simp) rfl _ rfl
      rw [if_pos (wanted_at ho rfl rfl rfl (Nat.le_of_ble_eq_true rfl) eg)]
      clear eg
      have e0 : a.tmps.getD 76 undef = .agg #[.int .i64 dh, .int .u64 dl] := hpre ⟨7, .data⟩ (by simp) rfl _ rfl
      have e1 : a.tmps.getD 77 undef = .bool de := hpre ⟨8, .data⟩ (by simp) rfl _ rfl
      have e2 : BigV W (a.tmps.getD 80 undef) (xa - xb) 9 := hpre ⟨11, .data⟩ (by simp) rfl _ rfl
      obtain ⟨n2, A2, l2, c2, f2⟩ := e2.form
      rw [f2] at e2
      have H2 := Lib.hid e2
      clear e2
      go_simp
      refine (T2.out _ _ H2.out).mono ?_
      rintro e w2 ⟨rfl, hb⟩
      exact hK _ _ hb (hW.trans (hb.mono hW.size)) rfl
    · intro a W K ho hW hpre hK
      rw [if_pos (wanted_none rfl)]
      have e0 : a.tmps.getD 75 undef = .bool true := hpre ⟨6, .data⟩ (by simp) rfl _ rfl
      have e1 : a.tmps.getD 81 undef = .bool true := hpre ⟨12, .data⟩ (by simp) rfl _ rfl
      go_simp
      exact hK _ _ (Below.refl _ _) hW rfl
    · intro a W K ho hW hpre hK
      rw [if_pos (wanted_none rfl)]
      have e0 : a.tmps.getD 82 undef = .bool true := hpre ⟨13, .data⟩ (by simp) rfl _ rfl
      go_simp
      exact hK _ _ (Below.refl _ _) hW rfl
    · intro a W K ho hW hpre hK
      have eg : a.tmps.getD 83 undef = .bool true := hpre ⟨14, .guard⟩ (by simp) rfl _ rfl
      rw [if_pos (wanted_at ho rfl rfl rfl (Nat.le_of_ble_eq_true rfl) eg)]
      clear eg
      have e0 : a.tmps.getD 15 undef = .pointer (some ⟨wn.heap.size, 0, none⟩) := ho.slot 15 (by decide)
      obtain ⟨i1, i2⟩ := FN.out W hW
      go_simp
      exact hK _ _ (Below.refl _ _) hW rfl
    · intro a W K ho hW hpre hK
      have eg : a.tmps.getD 83 undef = .bool true := hpre ⟨14, .guard⟩ (by simp) rfl _ rfl
      rw [if_pos (wanted_at ho rfl rfl rfl (Nat.le_of_ble_eq_true rfl) eg)]
      clear eg
      have e0 : a.tmps.getD 16 undef = .bool ne := ho.slot 16 (by decide)
      go_simp
      exact hK _ _ (Below.refl _ _) hW rfl
    · intro a W K ho hW hpre hK
      have eg : a.tmps.getD 83 undef = .bool true := hpre ⟨14, .guard⟩ (by simp) rfl _ rfl
      rw [if_pos (wanted_at ho rfl rfl rfl (Nat.le_of_ble_eq_true rfl) eg)]
      clear eg
      have e0 : a.tmps.getD 9 undef = .pointer (some ⟨b1, 0, none⟩) := ho.slot 9 (by decide)
      obtain ⟨i1, i2⟩ := FP.out W hW
      go_simp
      exact hK _ _ (Below.refl _ _) hW rfl
    · intro a W K ho hW hpre hK
      have eg : a.tmps.getD 83 undef = .bool true := hpre ⟨14, .guard⟩ (by simp) rfl _ rfl
      rw [if_pos (wanted_at ho rfl rfl rfl (Nat.le_of_ble_eq_true rfl) eg)]
      clear eg
      have e0 : a.tmps.getD 86 undef = .agg #[.bool np, .slice P lp cp] := hpre ⟨17, .data⟩ (by simp) rfl _ rfl
      go_simp
      refine (turned_told _ xa 8 _ (HVP.out.below hW)).mono ?_
      rintro e w2 ⟨ng', A', n', k', rfl, hV, hb⟩
      exact hK _ _ hb (hW.trans (hb.mono hW.size)) hV
    · intro a W K ho hW hpre hK
      have eg : a.tmps.getD 83 undef = .bool true := hpre ⟨14, .guard⟩ (by simp) rfl _ rfl
      rw [if_pos (wanted_at ho rfl rfl rfl (Nat.le_of_ble_eq_true rfl) eg)]
      clear eg
      have e0 : a.tmps.getD 84 undef = .agg #[.int .i64 nh, .int .u64 nl] := hpre ⟨15, .data⟩ (by simp) rfl _ rfl
      have e1 : a.tmps.getD 85 undef = .bool ne := hpre ⟨16, .data⟩ (by simp) rfl _ rfl
      have e2 : BigV W (a.tmps.getD 87 undef) (-xa) 8 := hpre ⟨18, .data⟩ (by simp) rfl _ rfl
      obtain ⟨n2, A2, l2, c2, f2⟩ := e2.form
      rw [f2] at e2
      have H2 := Lib.hid e2
      clear e2
      go_simp
      refine (T3.out _ _ H2.out).mono ?_
      rintro e w2 ⟨rfl, hb⟩
      exact hK _ _ hb (hW.trans (hb.mono hW.size)) rfl
    · intro a W K ho hW hpre hK
      rw [if_pos (wanted_none rfl)]
      have e0 : a.tmps.getD 83 undef = .bool true := hpre ⟨14, .data⟩ (by simp) rfl _ rfl
      have e1 : a.tmps.getD 88 undef = .bool true := hpre ⟨19, .data⟩ (by simp) rfl _ rfl
      go_simp
      exact hK _ _ (Below.refl _ _) hW rfl
    · intro a W K ho hW hpre hK
      rw [if_pos (wanted_none rfl)]
      have e0 : a.tmps.getD 89 undef = .bool true := hpre ⟨20, .data⟩ (by simp) rfl _ rfl
      go_simp
      exact hK _ _ (Below.refl _ _) hW rfl
    · intro a W K ho hW hpre hK
      have eg : a.tmps.getD 90 undef = .bool true := hpre ⟨21, .guard⟩ (by simp) rfl _ rfl
      rw [if_pos (wanted_at ho rfl rfl rfl (Nat.le_of_ble_eq_true rfl) eg)]
      clear eg
      have e0 : a.tmps.getD 17 undef = .pointer (some ⟨wm.heap.size, 0, none⟩) := ho.slot 17 (by decide)
      obtain ⟨i1, i2⟩ := FM.out W hW
      go_simp
      exact hK _ _ (Below.refl _ _) hW rfl
    · intro a W K ho hW hpre hK
      have eg : a.tmps.getD 90 undef = .bool true := hpre ⟨21, .guard⟩ (by simp) rfl _ rfl
      rw [if_pos (wanted_at ho rfl rfl rfl (Nat.le_of_ble_eq_true rfl) eg)]
      clear eg
      have e0 : a.tmps.getD 18 undef = .bool me := ho.slot 18 (by decide)
      go_simp
      exact hK _ _ (Below.refl _ _) hW rfl
    · intro a W K ho hW hpre hK
      have eg : a.tmps.getD 90 undef = .bool true := hpre ⟨21, .guard⟩ (by simp) rfl _ rfl
      rw [if_pos (wanted_at ho rfl rfl rfl (Nat.le_of_ble_eq_true rfl) eg)]
      clear eg
      have e0 : a.tmps.getD 9 undef = .pointer (some ⟨b1, 0, none⟩) := ho.slot 9 (by decide)
      obtain ⟨i1, i2⟩ := FP.out W hW
      go_simp
      exact hK _ _ (Below.refl _ _) hW rfl
    · intro a W K ho hW hpre hK
      have eg : a.tmps.getD 90 undef = .bool true := hpre ⟨21, .guard⟩ (by simp) rfl _ rfl
      rw [if_pos (wanted_at ho rfl rfl rfl (Nat.le_of_ble_eq_true rfl) eg)]
      clear eg
      have e0 : a.tmps.getD 93 undef = .agg #[.bool np, .slice P lp cp] := hpre ⟨24, .data⟩ (by simp) rfl _ rfl
      go_simp
      refine (sized_told _ xa 8 _ (HVP.out.below hW)).mono ?_
      rintro e w2 ⟨ng', A', n', k', rfl, hV, hb⟩
      exact hK _ _ hb (hW.trans (hb.mono hW.size)) hV
    · intro a W K ho hW hpre hK
      have eg : a.tmps.getD 90 undef = .bool true := hpre ⟨21, .guard⟩ (by simp) rfl _ rfl
      rw [if_pos (wanted_at ho rfl rfl rfl (Nat.le_of_ble_eq_true rfl) eg)]
      clear eg
      have e0 : a.tmps.getD 91 undef = .agg #[.int .i64 mh, .int .u64 ml] := hpre ⟨22, .data⟩ (by simp) rfl _ rfl
      have e1 : a.tmps.getD 92 undef = .bool me := hpre ⟨23, .data⟩ (by simp) rfl _ rfl
      have e2 : BigV W (a.tmps.getD 94 undef) ((xa.natAbs : Int)) 8 := hpre ⟨25, .data⟩ (by simp) rfl _ rfl
      obtain ⟨n2, A2, l2, c2, f2⟩ := e2.form
      rw [f2] at e2
      have H2 := Lib.hid e2
      clear e2
      go_simp
      refine (T4.out _ _ H2.out).mono ?_
      rintro e w2 ⟨rfl, hb⟩
      exact hK _ _ hb (hW.trans (hb.mono hW.size)) rfl
    · intro a W K ho hW hpre hK
      rw [if_pos (wanted_none rfl)]
      have e0 : a.tmps.getD 90 undef = .bool true := hpre ⟨21, .data⟩ (by simp) rfl _ rfl
      have e1 : a.tmps.getD 95 undef = .bool true := hpre ⟨26, .data⟩ (by simp) rfl _ rfl
      go_simp
      exact hK _ _ (Below.refl _ _) hW rfl
    · intro a W K ho hW hpre hK
      rw [if_pos (wanted_none rfl)]
      have e0 : a.tmps.getD 96 undef = .bool true := hpre ⟨27, .data⟩ (by simp) rfl _ rfl
      go_simp
      exact hK _ _ (Below.refl _ _) hW rfl
    · intro a W K ho hW hpre hK
      have eg : a.tmps.getD 97 undef = .bool true := hpre ⟨28, .guard⟩ (by simp) rfl _ rfl
      rw [if_pos (wanted_at ho rfl rfl rfl (Nat.le_of_ble_eq_true rfl) eg)]
      clear eg
      have e0 : a.tmps.getD 19 undef = .pointer (some ⟨wt.heap.size, 0, none⟩) := ho.slot 19 (by decide)
      obtain ⟨i1, i2⟩ := FT.out W hW
      go_simp
      exact hK _ _ (Below.refl _ _) hW rfl
    · intro a W K ho hW hpre hK
      have eg : a.tmps.getD 97 undef = .bool true := hpre ⟨28, .guard⟩ (by simp) rfl _ rfl
      rw [if_pos (wanted_at ho rfl rfl rfl (Nat.le_of_ble_eq_true rfl) eg)]
      clear eg
      have e0 : a.tmps.getD 20 undef = .bool te := ho.slot 20 (by decide)
      go_simp
      exact hK _ _ (Below.refl _ _) hW rfl
    · intro a W K ho hW hpre hK
      have eg : a.tmps.getD 97 undef = .bool true := hpre ⟨28, .guard⟩ (by simp) rfl _ rfl
      rw [if_pos (wanted_at ho rfl rfl rfl (Nat.le_of_ble_eq_true rfl) eg)]
      clear eg
      have e0 : a.tmps.getD 9 undef = .pointer (some ⟨b1, 0, none⟩) := ho.slot 9 (by decide)
      obtain ⟨i1, i2⟩ := FP.out W hW
      go_simp
      exact hK _ _ (Below.refl _ _) hW rfl
    · intro a W K ho hW hpre hK
      have eg : a.tmps.getD 97 undef = .bool true := hpre ⟨28, .guard⟩ (by simp) rfl _ rfl
      rw [if_pos (wanted_at ho rfl rfl rfl (Nat.le_of_ble_eq_true rfl) eg)]
      clear eg
      have e0 : a.tmps.getD 2 undef = .int .i64 u := ho.slot 2 (by decide)
      go_simp
      exact hK _ _ (Below.refl _ _) hW rfl
    · intro a W K ho hW hpre hK
      have eg : a.tmps.getD 97 undef = .bool true := hpre ⟨28, .guard⟩ (by simp) rfl _ rfl
      rw [if_pos (wanted_at ho rfl rfl rfl (Nat.le_of_ble_eq_true rfl) eg)]
      clear eg
      have e0 : a.tmps.getD 101 undef = .int .i64 u := hpre ⟨32, .data⟩ (by simp) rfl _ rfl
      go_simp
      refine (whole_told u hu _).mono ?_
      rintro e w2 ⟨ng', A', n', k', rfl, hV, hb⟩
      exact hK _ _ hb (hW.trans (hb.mono hW.size)) hV
    · intro a W K ho hW hpre hK
      have eg : a.tmps.getD 97 undef = .bool true := hpre ⟨28, .guard⟩ (by simp) rfl _ rfl
      rw [if_pos (wanted_at ho rfl rfl rfl (Nat.le_of_ble_eq_true rfl) eg)]
      clear eg
      have e0 : a.tmps.getD 100 undef = .agg #[.bool np, .slice P lp cp] := hpre ⟨31, .data⟩ (by simp) rfl _ rfl
      have e1 : BigV W (a.tmps.getD 102 undef) (u) 2 := hpre ⟨33, .data⟩ (by simp) rfl _ rfl
      obtain ⟨n1, A1, l1, c1, f1⟩ := e1.form
      rw [f1] at e1
      have H1 := Lib.hid e1
      clear e1
      go_simp
      refine (times_told _ _ xa u 8 _ (HVP.out.below hW) (H1.out.more (by omega)) (by omega)).mono ?_
      rintro e w2 ⟨ng', A', n', k', rfl, hV, hb⟩
      exact hK _ _ hb (hW.trans (hb.mono hW.size)) hV
    · intro a W K ho hW hpre hK
      have eg : a.tmps.getD 97 undef = .bool true := hpre ⟨28, .guard⟩ (by simp) rfl _ rfl
      rw [if_pos (wanted_at ho rfl rfl rfl (Nat.le_of_ble_eq_true rfl) eg)]
      clear eg
      have e0 : a.tmps.getD 98 undef = .agg #[.int .i64 th, .int .u64 tl] := hpre ⟨29, .data⟩ (by simp) rfl _ rfl
      have e1 : a.tmps.getD 99 undef = .bool te := hpre ⟨30, .data⟩ (by simp) rfl _ rfl
      have e2 : BigV W (a.tmps.getD 103 undef) (xa * u) 17 := hpre ⟨34, .data⟩ (by simp) rfl _ rfl
      obtain ⟨n2, A2, l2, c2, f2⟩ := e2.form
      rw [f2] at e2
      have H2 := Lib.hid e2
      clear e2
      go_simp
      refine (T5.out _ _ H2.out).mono ?_
      rintro e w2 ⟨rfl, hb⟩
      exact hK _ _ hb (hW.trans (hb.mono hW.size)) rfl
    · intro a W K ho hW hpre hK
      rw [if_pos (wanted_none rfl)]
      have e0 : a.tmps.getD 97 undef = .bool true := hpre ⟨28, .data⟩ (by simp) rfl _ rfl
      have e1 : a.tmps.getD 104 undef = .bool true := hpre ⟨35, .data⟩ (by simp) rfl _ rfl
      go_simp
      exact hK _ _ (Below.refl _ _) hW rfl
    · intro a W K ho hW hpre hK
      rw [if_pos (wanted_none rfl)]
      have e0 : a.tmps.getD 105 undef = .bool true := hpre ⟨36, .data⟩ (by simp) rfl _ rfl
      go_simp
      exact hK _ _ (Below.refl _ _) hW rfl
    · intro a W K ho hW hpre hK
      have eg : a.tmps.getD 106 undef = .bool true := hpre ⟨37, .guard⟩ (by simp) rfl _ rfl
      rw [if_pos (wanted_at ho rfl rfl rfl (Nat.le_of_ble_eq_true rfl) eg)]
      clear eg
      have e0 : a.tmps.getD 21 undef = .int .i64 ih := ho.slot 21 (by decide)
      go_simp
      exact hK _ _ (Below.refl _ _) hW rfl
    · intro a W K ho hW hpre hK
      have eg : a.tmps.getD 106 undef = .bool true := hpre ⟨37, .guard⟩ (by simp) rfl _ rfl
      rw [if_pos (wanted_at ho rfl rfl rfl (Nat.le_of_ble_eq_true rfl) eg)]
      clear eg
      have e0 : a.tmps.getD 23 undef = .int .i64 ih := ho.slot 23 (by decide)
      go_simp
      exact hK _ _ (Below.refl _ _) hW rfl
    · intro a W K ho hW hpre hK
      have eg : a.tmps.getD 106 undef = .bool true := hpre ⟨37, .guard⟩ (by simp) rfl _ rfl
      rw [if_pos (wanted_at ho rfl rfl rfl (Nat.le_of_ble_eq_true rfl) eg)]
      clear eg
      have e0 : a.tmps.getD 107 undef = .int .i64 ih := hpre ⟨38, .data⟩ (by simp) rfl _ rfl
      have e1 : a.tmps.getD 108 undef = .int .i64 ih := hpre ⟨39, .data⟩ (by simp) rfl _ rfl
      go_simp
      exact hK _ _ (Below.refl _ _) hW rfl
    · intro a W K ho hW hpre hK
      rw [if_pos (wanted_none rfl)]
      have e0 : a.tmps.getD 106 undef = .bool true := hpre ⟨37, .data⟩ (by simp) rfl _ rfl
      have e1 : a.tmps.getD 109 undef = .bool true := hpre ⟨40, .data⟩ (by simp) rfl _ rfl
      go_simp
      exact hK _ _ (Below.refl _ _) hW rfl
    · intro a W K ho hW hpre hK
      rw [if_pos (wanted_none rfl)]
      have e0 : a.tmps.getD 110 undef = .bool true := hpre ⟨41, .data⟩ (by simp) rfl _ rfl
      go_simp
      exact hK _ _ (Below.refl _ _) hW rfl
    · intro a W K ho hW hpre hK
      have eg : a.tmps.getD 111 undef = .bool true := hpre ⟨42, .guard⟩ (by simp) rfl _ rfl
      rw [if_pos (wanted_at ho rfl rfl rfl (Nat.le_of_ble_eq_true rfl) eg)]
      clear eg
      have e0 : a.tmps.getD 22 undef = .bool ie := ho.slot 22 (by decide)
      go_simp
      exact hK _ _ (Below.refl _ _) hW rfl
    · intro a W K ho hW hpre hK
      have eg : a.tmps.getD 111 undef = .bool true := hpre ⟨42, .guard⟩ (by simp) rfl _ rfl
      rw [if_pos (wanted_at ho rfl rfl rfl (Nat.le_of_ble_eq_true rfl) eg)]
      clear eg
      have e0 : a.tmps.getD 24 undef = .bool ie := ho.slot 24 (by decide)
      go_simp
      exact hK _ _ (Below.refl _ _) hW rfl
    · intro a W K ho hW hpre hK
      have eg : a.tmps.getD 111 undef = .bool true := hpre ⟨42, .guard⟩ (by simp) rfl _ rfl
      rw [if_pos (wanted_at ho rfl rfl rfl (Nat.le_of_ble_eq_true rfl) eg)]
      clear eg
      have e0 : a.tmps.getD 112 undef = .bool ie := hpre ⟨43, .data⟩ (by simp) rfl _ rfl
      have e1 : a.tmps.getD 113 undef = .bool ie := hpre ⟨44, .data⟩ (by simp) rfl _ rfl
      go_simp
      exact hK _ _ (Below.refl _ _) hW rfl
    · intro a W K ho hW hpre hK
      rw [if_pos (wanted_none rfl)]
      have e0 : a.tmps.getD 111 undef = .bool true := hpre ⟨42, .data⟩ (by simp) rfl _ rfl
      have e1 : a.tmps.getD 114 undef = .bool true := hpre ⟨45, .data⟩ (by simp) rfl _ rfl
      go_simp
      exact hK _ _ (Below.refl _ _) hW rfl
    · intro a W K ho hW hpre hK
      rw [if_pos (wanted_none rfl)]
      have e0 : a.tmps.getD 115 undef = .bool true := hpre ⟨46, .data⟩ (by simp) rfl _ rfl
      go_simp
      exact hK _ _ (Below.refl _ _) hW rfl
    · intro a W K ho hW hpre hK
      have eg : a.tmps.getD 116 undef = .bool true := hpre ⟨47, .guard⟩ (by simp) rfl _ rfl
      rw [if_pos (wanted_at ho rfl rfl rfl (Nat.le_of_ble_eq_true rfl) eg)]
      clear eg
      have e0 : a.tmps.getD 2 undef = .int .i64 u := ho.slot 2 (by decide)
      go_simp
      exact hK _ _ (Below.refl _ _) hW rfl
    · intro a W K ho hW hpre hK
      have eg : a.tmps.getD 116 undef = .bool true := hpre ⟨47, .guard⟩ (by simp) rfl _ rfl
      rw [if_pos (wanted_at ho rfl rfl rfl (Nat.le_of_ble_eq_true rfl) eg)]
      clear eg
      have e0 : a.tmps.getD 3 undef = .int .i64 v := ho.slot 3 (by decide)
      go_simp
      exact hK _ _ (Below.refl _ _) hW rfl
    · intro a W K ho hW hpre hK
      have eg : a.tmps.getD 116 undef = .bool true := hpre ⟨47, .guard⟩ (by simp) rfl _ rfl
      rw [if_pos (wanted_at ho rfl rfl rfl (Nat.le_of_ble_eq_true rfl) eg)]
      clear eg
      have e0 : a.tmps.getD 117 undef = .int .i64 u := hpre ⟨48, .data⟩ (by simp) rfl _ rfl
      have e1 : a.tmps.getD 118 undef = .int .i64 v := hpre ⟨49, .data⟩ (by simp) rfl _ rfl
      go_simp
      refine (CM.out _).mono ?_
      rintro e w2 ⟨rfl, hb⟩
      exact hK _ _ hb (hW.trans (hb.mono hW.size)) rfl
    · intro a W K ho hW hpre hK
      have eg : a.tmps.getD 116 undef = .bool true := hpre ⟨47, .guard⟩ (by simp) rfl _ rfl
      rw [if_pos (wanted_at ho rfl rfl rfl (Nat.le_of_ble_eq_true rfl) eg)]
      clear eg
      have e0 : a.tmps.getD 2 undef = .int .i64 u := ho.slot 2 (by decide)
      go_simp
      exact hK _ _ (Below.refl _ _) hW rfl
    · intro a W K ho hW hpre hK
      have eg : a.tmps.getD 116 undef = .bool true := hpre ⟨47, .guard⟩ (by simp) rfl _ rfl
      rw [if_pos (wanted_at ho rfl rfl rfl (Nat.le_of_ble_eq_true rfl) eg)]
      clear eg
      have e0 : a.tmps.getD 120 undef = .int .i64 u := hpre ⟨51, .data⟩ (by simp) rfl _ rfl
      go_simp
      refine (whole_told u hu _).mono ?_
      rintro e w2 ⟨ng', A', n', k', rfl, hV, hb⟩
      exact hK _ _ hb (hW.trans (hb.mono hW.size)) hV
    · intro a W K ho hW hpre hK
      have eg : a.tmps.getD 116 undef = .bool true := hpre ⟨47, .guard⟩ (by simp) rfl _ rfl
      rw [if_pos (wanted_at ho rfl rfl rfl (Nat.le_of_ble_eq_true rfl) eg)]
      clear eg
      have e0 : a.tmps.getD 3 undef = .int .i64 v := ho.slot 3 (by decide)
      go_simp
      exact hK _ _ (Below.refl _ _) hW rfl
    · intro a W K ho hW hpre hK
      have eg : a.tmps.getD 116 undef = .bool true := hpre ⟨47, .guard⟩ (by simp) rfl _ rfl
      rw [if_pos (wanted_at ho rfl rfl rfl (Nat.le_of_ble_eq_true rfl) eg)]
      clear eg
      have e0 : a.tmps.getD 122 undef = .int .i64 v := hpre ⟨53, .data⟩ (by simp) rfl _ rfl
      go_simp
      refine (whole_told v hv _).mono ?_
      rintro e w2 ⟨ng', A', n', k', rfl, hV, hb⟩
      exact hK _ _ hb (hW.trans (hb.mono hW.size)) hV
    · intro a W K ho hW hpre hK
      have eg : a.tmps.getD 116 undef = .bool true := hpre ⟨47, .guard⟩ (by simp) rfl _ rfl
      rw [if_pos (wanted_at ho rfl rfl rfl (Nat.le_of_ble_eq_true rfl) eg)]
      clear eg
      have e0 : BigV W (a.tmps.getD 121 undef) (u) 2 := hpre ⟨52, .data⟩ (by simp) rfl _ rfl
      obtain ⟨n0, A0, l0, c0, f0⟩ := e0.form
      rw [f0] at e0
      have H0 := Lib.hid e0
      clear e0
      have e1 : BigV W (a.tmps.getD 123 undef) (v) 2 := hpre ⟨54, .data⟩ (by simp) rfl _ rfl
      obtain ⟨n1, A1, l1, c1, f1⟩ := e1.form
      rw [f1] at e1
      have H1 := Lib.hid e1
      clear e1
      go_simp
      refine (times_told _ _ u v 2 _ H0.out H1.out (by omega)).mono ?_
      rintro e w2 ⟨ng', A', n', k', rfl, hV, hb⟩
      exact hK _ _ hb (hW.trans (hb.mono hW.size)) hV
    · intro a W K ho hW hpre hK
      have eg : a.tmps.getD 116 undef = .bool true := hpre ⟨47, .guard⟩ (by simp) rfl _ rfl
      rw [if_pos (wanted_at ho rfl rfl rfl (Nat.le_of_ble_eq_true rfl) eg)]
      clear eg
      have e0 : a.tmps.getD 119 undef = .agg #[.int .i64 uh, .int .u64 ul] := hpre ⟨50, .data⟩ (by simp) rfl _ rfl
      have e2 : BigV W (a.tmps.getD 124 undef) (u * v) 5 := hpre ⟨55, .data⟩ (by simp) rfl _ rfl
      obtain ⟨n2, A2, l2, c2, f2⟩ := e2.form
      rw [f2] at e2
      have H2 := Lib.hid e2
      clear e2
      go_simp
      refine (T6.out _ _ H2.out).mono ?_
      rintro e w2 ⟨rfl, hb⟩
      exact hK _ _ hb (hW.trans (hb.mono hW.size)) rfl
    · intro a W K ho hW hpre hK
      rw [if_pos (wanted_none rfl)]
      have e0 : a.tmps.getD 116 undef = .bool true := hpre ⟨47, .data⟩ (by simp) rfl _ rfl
      have e1 : a.tmps.getD 125 undef = .bool true := hpre ⟨56, .data⟩ (by simp) rfl _ rfl
      go_simp
      exact hK _ _ (Below.refl _ _) hW rfl
    · intro a W K ho hW hpre hK
      rw [if_pos (wanted_none rfl)]
      have e0 : a.tmps.getD 126 undef = .bool true := hpre ⟨57, .data⟩ (by simp) rfl _ rfl
      go_simp
      exact hK _ _ (Below.refl _ _) hW rfl
    · intro a W K ho hW hpre hK
      have eg : a.tmps.getD 127 undef = .bool true := hpre ⟨58, .guard⟩ (by simp) rfl _ rfl
      rw [if_pos (wanted_at ho rfl rfl rfl (Nat.le_of_ble_eq_true rfl) eg)]
      clear eg
      have e0 : a.tmps.getD 2 undef = .int .i64 u := ho.slot 2 (by decide)
      go_simp
      exact hK _ _ (Below.refl _ _) hW rfl
    · intro a W K ho hW hpre hK
      have eg : a.tmps.getD 127 undef = .bool true := hpre ⟨58, .guard⟩ (by simp) rfl _ rfl
      rw [if_pos (wanted_at ho rfl rfl rfl (Nat.le_of_ble_eq_true rfl) eg)]
      clear eg
      have e0 : a.tmps.getD 128 undef = .int .i64 u := hpre ⟨59, .data⟩ (by simp) rfl _ rfl
      go_simp
      refine (CO.out _).mono ?_
      rintro e w2 ⟨rfl, hb⟩
      exact hK _ _ hb (hW.trans (hb.mono hW.size)) rfl
    · intro a W K ho hW hpre hK
      have eg : a.tmps.getD 127 undef = .bool true := hpre ⟨58, .guard⟩ (by simp) rfl _ rfl
      rw [if_pos (wanted_at ho rfl rfl rfl (Nat.le_of_ble_eq_true rfl) eg)]
      clear eg
      have e0 : a.tmps.getD 2 undef = .int .i64 u := ho.slot 2 (by decide)
      go_simp
      exact hK _ _ (Below.refl _ _) hW rfl
    · intro a W K ho hW hpre hK
      have eg : a.tmps.getD 127 undef = .bool true := hpre ⟨58, .guard⟩ (by simp) rfl _ rfl
      rw [if_pos (wanted_at ho rfl rfl rfl (Nat.le_of_ble_eq_true rfl) eg)]
      clear eg
      have e0 : a.tmps.getD 130 undef = .int .i64 u := hpre ⟨61, .data⟩ (by simp) rfl _ rfl
      go_simp
      refine (whole_told u hu _).mono ?_
      rintro e w2 ⟨ng', A', n', k', rfl, hV, hb⟩
      exact hK _ _ hb (hW.trans (hb.mono hW.size)) hV
    · intro a W K ho hW hpre hK
      have eg : a.tmps.getD 127 undef = .bool true := hpre ⟨58, .guard⟩ (by simp) rfl _ rfl
      rw [if_pos (wanted_at ho rfl rfl rfl (Nat.le_of_ble_eq_true rfl) eg)]
      clear eg
      have e0 : a.tmps.getD 129 undef = .agg #[.int .i64 oh, .int .u64 ol] := hpre ⟨60, .data⟩ (by simp) rfl _ rfl
      have e2 : BigV W (a.tmps.getD 131 undef) (u) 2 := hpre ⟨62, .data⟩ (by simp) rfl _ rfl
      obtain ⟨n2, A2, l2, c2, f2⟩ := e2.form
      rw [f2] at e2
      have H2 := Lib.hid e2
      clear e2
      go_simp
      refine (T7.out _ _ H2.out).mono ?_
      rintro e w2 ⟨rfl, hb⟩
      exact hK _ _ hb (hW.trans (hb.mono hW.size)) rfl
    · intro a W K ho hW hpre hK
      rw [if_pos (wanted_none rfl)]
      have e0 : a.tmps.getD 127 undef = .bool true := hpre ⟨58, .data⟩ (by simp) rfl _ rfl
      have e1 : a.tmps.getD 132 undef = .bool true := hpre ⟨63, .data⟩ (by simp) rfl _ rfl
      go_simp
      exact hK _ _ (Below.refl _ _) hW rfl
    · intro a W K ho hW hpre hK
      rw [if_pos (wanted_none rfl)]
      have e0 : a.tmps.getD 133 undef = .bool true := hpre ⟨64, .data⟩ (by simp) rfl _ rfl
      go_simp
      exact hK _ _ (Below.refl _ _) hW rfl
    · intro a W K ho hW hpre hK
      have eg : a.tmps.getD 134 undef = .bool true := hpre ⟨65, .guard⟩ (by simp) rfl _ rfl
      rw [if_pos (wanted_at ho rfl rfl rfl (Nat.le_of_ble_eq_true rfl) eg)]
      clear eg
      have e0 : a.tmps.getD 4 undef = .pointer (some ⟨w.heap.size, 0, none⟩) := ho.slot 4 (by decide)
      obtain ⟨i1, i2⟩ := FA.out W hW
      go_simp
      exact hK _ _ (Below.refl _ _) hW rfl
    · intro a W K ho hW hpre hK
      have eg : a.tmps.getD 134 undef = .bool true := hpre ⟨65, .guard⟩ (by simp) rfl _ rfl
      rw [if_pos (wanted_at ho rfl rfl rfl (Nat.le_of_ble_eq_true rfl) eg)]
      clear eg
      have e0 : a.tmps.getD 135 undef = .agg #[.int .i64 ah, .int .u64 al] := hpre ⟨66, .data⟩ (by simp) rfl _ rfl
      go_simp
      refine (CG.out _).mono ?_
      rintro e w2 ⟨rfl, hb⟩
      exact hK _ _ hb (hW.trans (hb.mono hW.size)) rfl
    · intro a W K ho hW hpre hK
      have eg : a.tmps.getD 134 undef = .bool true := hpre ⟨65, .guard⟩ (by simp) rfl _ rfl
      rw [if_pos (wanted_at ho rfl rfl rfl (Nat.le_of_ble_eq_true rfl) eg)]
      clear eg
      have e0 : a.tmps.getD 9 undef = .pointer (some ⟨b1, 0, none⟩) := ho.slot 9 (by decide)
      obtain ⟨i1, i2⟩ := FP.out W hW
      go_simp
      exact hK _ _ (Below.refl _ _) hW rfl
    · intro a W K ho hW hpre hK
      have eg : a.tmps.getD 134 undef = .bool true := hpre ⟨65, .guard⟩ (by simp) rfl _ rfl
      rw [if_pos (wanted_at ho rfl rfl rfl (Nat.le_of_ble_eq_true rfl) eg)]
      clear eg
      have e0 : a.tmps.getD 137 undef = .agg #[.bool np, .slice P lp cp] := hpre ⟨68, .data⟩ (by simp) rfl _ rfl
      go_simp
      refine (CRG.out _ _ (HVP.out.below hW)).mono ?_
      rintro e w2 ⟨rfl, hb⟩
      exact hK _ _ hb (hW.trans (hb.mono hW.size)) rfl
    · intro a W K ho hW hpre hK
      have eg : a.tmps.getD 134 undef = .bool true := hpre ⟨65, .guard⟩ (by simp) rfl _ rfl
      rw [if_pos (wanted_at ho rfl rfl rfl (Nat.le_of_ble_eq_true rfl) eg)]
      clear eg
      have e0 : a.tmps.getD 136 undef = .int .i64 cg := hpre ⟨67, .data⟩ (by simp) rfl _ rfl
      have e1 : a.tmps.getD 138 undef = .int .i64 cg := hpre ⟨69, .data⟩ (by simp) rfl _ rfl
      go_simp
      exact hK _ _ (Below.refl _ _) hW rfl
    · intro a W K ho hW hpre hK
      rw [if_pos (wanted_none rfl)]
      have e0 : a.tmps.getD 134 undef = .bool true := hpre ⟨65, .data⟩ (by simp) rfl _ rfl
      have e1 : a.tmps.getD 139 undef = .bool true := hpre ⟨70, .data⟩ (by simp) rfl _ rfl
      go_simp
      exact hK _ _ (Below.refl _ _) hW rfl
    · intro a W K ho hW hpre hK
      rw [if_pos (wanted_none rfl)]
      have e0 : a.tmps.getD 140 undef = .bool true := hpre ⟨71, .data⟩ (by simp) rfl _ rfl
      go_simp
      exact hK _ _ (Below.refl _ _) hW rfl
    · intro a W K ho hW hpre hK
      have eg : a.tmps.getD 141 undef = .bool true := hpre ⟨72, .guard⟩ (by simp) rfl _ rfl
      rw [if_pos (wanted_at ho rfl rfl rfl (Nat.le_of_ble_eq_true rfl) eg)]
      clear eg
      have e0 : a.tmps.getD 4 undef = .pointer (some ⟨w.heap.size, 0, none⟩) := ho.slot 4 (by decide)
      obtain ⟨i1, i2⟩ := FA.out W hW
      go_simp
      exact hK _ _ (Below.refl _ _) hW rfl
    · intro a W K ho hW hpre hK
      have eg : a.tmps.getD 141 undef = .bool true := hpre ⟨72, .guard⟩ (by simp) rfl _ rfl
      rw [if_pos (wanted_at ho rfl rfl rfl (Nat.le_of_ble_eq_true rfl) eg)]
      clear eg
      have e0 : a.tmps.getD 5 undef = .pointer (some ⟨w.heap.size + 1, 0, none⟩) := ho.slot 5 (by decide)
      obtain ⟨i1, i2⟩ := FB.out W hW
      go_simp
      exact hK _ _ (Below.refl _ _) hW rfl
    · intro a W K ho hW hpre hK
      have eg : a.tmps.getD 141 undef = .bool true := hpre ⟨72, .guard⟩ (by simp) rfl _ rfl
      rw [if_pos (wanted_at ho rfl rfl rfl (Nat.le_of_ble_eq_true rfl) eg)]
      clear eg
      have e0 : a.tmps.getD 142 undef = .agg #[.int .i64 ah, .int .u64 al] := hpre ⟨73, .data⟩ (by simp) rfl _ rfl
      have e1 : a.tmps.getD 143 undef = .agg #[.int .i64 bh, .int .u64 bl] := hpre ⟨74, .data⟩ (by simp) rfl _ rfl
      go_simp
      refine (CC.out _).mono ?_
      rintro e w2 ⟨rfl, hb⟩
      exact hK _ _ hb (hW.trans (hb.mono hW.size)) rfl
    · intro a W K ho hW hpre hK
      have eg : a.tmps.getD 141 undef = .bool true := hpre ⟨72, .guard⟩ (by simp) rfl _ rfl
      rw [if_pos (wanted_at ho rfl rfl rfl (Nat.le_of_ble_eq_true rfl) eg)]
      clear eg
      have e0 : a.tmps.getD 9 undef = .pointer (some ⟨b1, 0, none⟩) := ho.slot 9 (by decide)
      obtain ⟨i1, i2⟩ := FP.out W hW
      go_simp
      exact hK _ _ (Below.refl _ _) hW rfl
    · intro a W K ho hW hpre hK
      have eg : a.tmps.getD 141 undef = .bool true := hpre ⟨72, .guard⟩ (by simp) rfl _ rfl
      rw [if_pos (wanted_at ho rfl rfl rfl (Nat.le_of_ble_eq_true rfl) eg)]
      clear eg
      have e0 : a.tmps.getD 10 undef = .pointer (some ⟨b2, 0, none⟩) := ho.slot 10 (by decide)
      obtain ⟨i1, i2⟩ := FQ.out W hW
      go_simp
      exact hK _ _ (Below.refl _ _) hW rfl
    · intro a W K ho hW hpre hK
      have eg : a.tmps.getD 141 undef = .bool true := hpre ⟨72, .guard⟩ (by simp) rfl _ rfl
      rw [if_pos (wanted_at ho rfl rfl rfl (Nat.le_of_ble_eq_true rfl) eg)]
      clear eg
      have e0 : a.tmps.getD 145 undef = .agg #[.bool np, .slice P lp cp] := hpre ⟨76, .data⟩ (by simp) rfl _ rfl
      have e1 : a.tmps.getD 146 undef = .agg #[.bool nq, .slice Q lq cq] := hpre ⟨77, .data⟩ (by simp) rfl _ rfl
      go_simp
      refine (CRC.out _ _ _ (HVP.out.below hW) (HVQ.out.below hW)).mono ?_
      rintro e w2 ⟨rfl, hb⟩
      exact hK _ _ hb (hW.trans (hb.mono hW.size)) rfl
    · intro a W K ho hW hpre hK
      have eg : a.tmps.getD 141 undef = .bool true := hpre ⟨72, .guard⟩ (by simp) rfl _ rfl
      rw [if_pos (wanted_at ho rfl rfl rfl (Nat.le_of_ble_eq_true rfl) eg)]
      clear eg
      have e0 : a.tmps.getD 144 undef = .int .i64 cc := hpre ⟨75, .data⟩ (by simp) rfl _ rfl
      have e1 : a.tmps.getD 147 undef = .int .i64 cc := hpre ⟨78, .data⟩ (by simp) rfl _ rfl
      go_simp
      exact hK _ _ (Below.refl _ _) hW rfl
    · intro a W K ho hW hpre hK
      rw [if_pos (wanted_none rfl)]
      have e0 : a.tmps.getD 141 undef = .bool true := hpre ⟨72, .data⟩ (by simp) rfl _ rfl
      have e1 : a.tmps.getD 148 undef = .bool true := hpre ⟨79, .data⟩ (by simp) rfl _ rfl
      go_simp
      exact hK _ _ (Below.refl _ _) hW rfl
    · intro a W K ho hW hpre hK
      rw [if_pos (wanted_none rfl)]
      have e0 : a.tmps.getD 149 undef = .bool true := hpre ⟨80, .data⟩ (by simp) rfl _ rfl
      go_simp
      exact hK _ _ (Below.refl _ _) hW rfl
    · intro a W ho hW hall
      have e8 : a.tmps.getD 8 undef = .bool true := hall 81 _ rfl
      have hdf : a.defers = [] := ho.defers
      have HW := Lib.hid (HZ.out.trans (hW.mono HZ.out.size))
      clear hall hW ho
      rename_i hKK
      refine hKK _ _ ?_
      refine wp_ret ?_
      refine bodyPost_ret (v := .bool true) ?_ hdf ⟨rfl, HW.out⟩
      rw [results_tmp rfl, e8]
end Go.Proofs.Ytiblbhppojfdaaa
