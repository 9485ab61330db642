/-
  The walks of novationlaw11's known and RollAll.
-/
import Derived.Test.YtjlhmiajklddiaaRl0
namespace Go.Proofs.Ytjlhmiajklddiaa
set_option maxRecDepth 8000
open Go Go.RowKit
set_option linter.unusedVariables false

theorem LstV.all {α : Type} {enc : α → List Value} {sz : Nat} {w : World} {a : Option Addr} {n c : Nat} {L : List α} (h : LstV enc sz w (.slice a n c) L) : n = L.length ∧ MemL enc sz w a L ∧ (c = 0 ∨ ∃ b off, a = some ⟨b, off, none⟩) ∧ (a = none → c = 0) ∧ n ≤ c ∧ c ≤ 9223372036854775807 := by
  obtain ⟨A', c', e, h1, h2, h3, h4, h5⟩ := h
  injection e with e1 e2 e3
  rw [e1, e2, e3]
  exact ⟨rfl, h1, h5, h2, h3, h4⟩
set_option maxRecDepth 100000 in
set_option maxHeartbeats 64000000 in
theorem known11_any (w : World) : Calls Try.prog 4 #[] w fun r w' => r = .returned (.bool true) ∧ Below w.heap.size w w' := by
  have T1 : enrolV [] 3 = (([⟨3, 1⟩] : List SMember), 0) := by decide
  have T2 : enrolV ([⟨3, 1⟩] : List SMember) 1 = (([⟨1, 1⟩, ⟨3, 1⟩] : List SMember), 0) := by decide
  have T3 : openV ([⟨1, 1⟩, ⟨3, 1⟩] : List SMember) [] ⟨5, 3, 1, 0⟩ = (([⟨5, 3, 1, 0⟩] : List SAcc), 0) := by decide
  have T4 : openV ([⟨1, 1⟩, ⟨3, 1⟩] : List SMember) ([⟨5, 3, 1, 0⟩] : List SAcc) ⟨2, 3, 2, 0⟩ = (([⟨2, 3, 2, 0⟩, ⟨5, 3, 1, 0⟩] : List SAcc), 0) := by decide
  have T5 : limV ([⟨2, 3, 2, 0⟩, ⟨5, 3, 1, 0⟩] : List SAcc) 5 9 = (([⟨2, 3, 2, 0⟩, ⟨5, 3, 1, 9⟩] : List SAcc), 0) := by decide
  have T6 : portV ([⟨1, 1⟩, ⟨3, 1⟩] : List SMember) ([⟨2, 3, 2, 0⟩, ⟨5, 3, 1, 9⟩] : List SAcc) 2 1 = (([⟨2, 1, 2, 0⟩, ⟨5, 3, 1, 9⟩] : List SAcc), 0) := by decide
  have T7 : turnV ([⟨1, 1⟩, ⟨3, 1⟩] : List SMember) 1 11 = (([⟨1, 2⟩, ⟨3, 1⟩] : List SMember), 0) := by decide
  have T8 : accV ([⟨2, 1, 2, 0⟩, ⟨5, 3, 1, 9⟩] : List SAcc) 2 = some ⟨2, 1, 2, 0⟩ := by decide
  have T9 : houV ([⟨2, 3, 2, 0⟩, ⟨5, 3, 1, 9⟩] : List SAcc) 3 = 5 := by decide
  have TA : ownV ([⟨2, 1, 2, 0⟩, ⟨5, 3, 1, 9⟩] : List SAcc) 3 = [5] := by decide
  have TB1 : statV ([⟨1, 2⟩, ⟨3, 1⟩] : List SMember) 1 = 2 := by decide
  have TC : rollOk ([⟨1, 1⟩, ⟨3, 1⟩] : List SMember) ([⟨2, 1, 2, 0⟩, ⟨5, 3, 1, 9⟩] : List SAcc) = true := by decide
  have TD : membersOk ([⟨1, 1⟩, ⟨3, 1⟩] : List SMember) = true := by decide
  have TE : accsOk ([⟨2, 1, 2, 0⟩, ⟨5, 3, 1, 9⟩] : List SAcc) = true := by decide
  have C0 := penrol_any none [] 0 0 3 w rfl (memL_nil _ _) (.inl rfl) (fun _ => rfl) (Nat.le_refl _) (by omega) (by omega)
  rw [T1] at C0
  have HC0 := Lib.hid C0
  have HT2 := Lib.hid T2
  have HT3 := Lib.hid T3
  have HT4 := Lib.hid T4
  have HT5 := Lib.hid T5
  have HT6 := Lib.hid T6
  have HT7 := Lib.hid T7
  have HT8 := Lib.hid T8
  have HT9 := Lib.hid T9
  have HTA := Lib.hid TA
  have HTB1 := Lib.hid TB1
  have HTC := Lib.hid TC
  have HTD := Lib.hid TD
  have HTE := Lib.hid TE
  clear C0 T1 T2 T3 T4 T5 T6 T7 T8 T9 TA TB1 TC TD TE
  go_enter Try.func4, Try.ntmps4
  go_wp2_with (first
    | (go_at_call 6; (with_reducible refine HC0.out.mono ?_); rintro r w1 ⟨v1, rfl, ho1, hb1⟩; obtain ⟨a1, c1, hv1, _⟩ := OwnL.form ho1 lay_Member; have hv1 : v1 = .slice a1 1 c1 := hv1; subst hv1; have G1 := Lib.hid ((TB.addM (LX := []) (LM := []) (LA := []) (A := none) (B := none) (m := []) (l := []) ⟨hb1, memL_nil _ _, memL_nil _ _, fun y hy => absurd hy List.not_mem_nil, fun y hy => absurd hy List.not_mem_nil, fun y hy => absurd hy List.not_mem_nil⟩ (ho1.mem lay_Member))); obtain ⟨e1, e2, e3, e4, e5, e6⟩ := (G1.out.ms _ List.mem_cons_self).all; have C2 := penrol_any a1 ([⟨3, 1⟩] : List SMember) 1 c1 1 w1 e1 e2 e3 e4 e5 e6 (by omega); rw [HT2.out] at C2; have HC2 := Lib.hid C2; clear e1 e2 e3 e4 e5 e6 C2; clear ho1 hb1)
    | (go_at_call 6; (with_reducible refine HC2.out.mono ?_); rintro r w2 ⟨v2, rfl, ho2, hb2⟩; obtain ⟨a2, c2, hv2, _⟩ := OwnL.form ho2 lay_Member; have hv2 : v2 = .slice a2 2 c2 := hv2; subst hv2; have G2 := Lib.hid ((G1.out.keep hb2).addM (ho2.mem lay_Member)); obtain ⟨e1, e2, e3, e4, e5, e6⟩ := (G2.out.ms _ List.mem_cons_self).all; have C3 := popen_any a2 none ([⟨1, 1⟩, ⟨3, 1⟩] : List SMember) [] ⟨5, 3, 1, 0⟩ 2 c2 0 0 w2 e1 rfl e2 (memL_nil _ _) (.inl rfl) (fun _ => rfl) (Nat.le_refl _) (by omega) (by omega) (by omega); rw [HT3.out] at C3; dsimp only [SAcc.v] at C3; have HC3 := Lib.hid C3; clear e1 e2 e3 e4 e5 e6 C3; clear ho2 hb2)
    | (go_at_call 7; (with_reducible refine HC3.out.mono ?_); rintro r w3 ⟨v3, rfl, ho3, hb3⟩; obtain ⟨a3, c3, hv3, _⟩ := OwnL.form ho3 lay_Acc; have hv3 : v3 = .slice a3 1 c3 := hv3; subst hv3; have G3 := Lib.hid ((G2.out.keep hb3).addA (ho3.mem lay_Acc)); obtain ⟨e1, e2, e3, e4, e5, e6⟩ := (G3.out.ms _ List.mem_cons_self).all; obtain ⟨f1, f2, f3, f4, f5, f6⟩ := (G3.out.ac _ List.mem_cons_self).all; have C4 := popen_any a2 a3 ([⟨1, 1⟩, ⟨3, 1⟩] : List SMember) ([⟨5, 3, 1, 0⟩] : List SAcc) ⟨2, 3, 2, 0⟩ 2 c2 1 c3 w3 e1 f1 e2 f2 f3 f4 f5 f6 (by omega) (by omega); rw [HT4.out] at C4; dsimp only [SAcc.v] at C4; have HC4 := Lib.hid C4; clear e1 e2 e3 e4 e5 e6 f1 f2 f3 f4 f5 f6 C4; clear ho3 hb3)
    | (go_at_call 7; (with_reducible refine HC4.out.mono ?_); rintro r w4 ⟨v4, rfl, ho4, hb4⟩; obtain ⟨a4, c4, hv4, _⟩ := OwnL.form ho4 lay_Acc; have hv4 : v4 = .slice a4 2 c4 := hv4; subst hv4; have G4 := Lib.hid ((G3.out.keep hb4).addA (ho4.mem lay_Acc)); obtain ⟨f1, f2, f3, f4, f5, f6⟩ := (G4.out.ac _ List.mem_cons_self).all; have C5 := plimit_any a4 ([⟨2, 3, 2, 0⟩, ⟨5, 3, 1, 0⟩] : List SAcc) 2 c4 5 9 w4 f1 f2 f3 f4 f5 f6 (by omega); rw [HT5.out] at C5; have HC5 := Lib.hid C5; clear f1 f2 f3 f4 f5 f6 C5; clear ho4 hb4)
    | (go_at_call 8; (with_reducible refine HC5.out.mono ?_); rintro r w5 ⟨v5, rfl, ho5, hb5⟩; obtain ⟨a5, c5, hv5, _⟩ := OwnL.form ho5 lay_Acc; have hv5 : v5 = .slice a5 2 c5 := hv5; subst hv5; have G5 := Lib.hid ((G4.out.keep hb5).addA (ho5.mem lay_Acc)); obtain ⟨e1, e2, e3, e4, e5, e6⟩ := (G5.out.ms _ List.mem_cons_self).all; obtain ⟨f1, f2, f3, f4, f5, f6⟩ := (G5.out.ac _ List.mem_cons_self).all; have C6 := pport_any a2 a5 ([⟨1, 1⟩, ⟨3, 1⟩] : List SMember) ([⟨2, 3, 2, 0⟩, ⟨5, 3, 1, 9⟩] : List SAcc) 2 c2 2 c5 2 1 w5 e1 f1 e2 f2 f3 f4 f5 f6 (by omega) (by omega); rw [HT6.out] at C6; have HC6 := Lib.hid C6; clear e1 e2 e3 e4 e5 e6 f1 f2 f3 f4 f5 f6 C6; clear ho5 hb5)
    | (go_at_call 9; (with_reducible refine HC6.out.mono ?_); rintro r w6 ⟨v6, rfl, ho6, hb6⟩; obtain ⟨a6, c6, hv6, _⟩ := OwnL.form ho6 lay_Acc; have hv6 : v6 = .slice a6 2 c6 := hv6; subst hv6; have G6 := Lib.hid ((G5.out.keep hb6).addA (ho6.mem lay_Acc)); obtain ⟨e1, e2, e3, e4, e5, e6⟩ := (G6.out.ms _ List.mem_cons_self).all; have C7 := pturn_any a2 ([⟨1, 1⟩, ⟨3, 1⟩] : List SMember) 2 c2 1 11 w6 e1 e2 e3 e4 e5 e6 (by omega); rw [HT7.out] at C7; have HC7 := Lib.hid C7; clear e1 e2 e3 e4 e5 e6 C7; clear ho6 hb6)
    | (go_at_call 10; (with_reducible refine HC7.out.mono ?_); rintro r w7 ⟨v7, rfl, ho7, hb7⟩; obtain ⟨a7, c7, hv7, _⟩ := OwnL.form ho7 lay_Member; have hv7 : v7 = .slice a7 2 c7 := hv7; subst hv7; have G7 := Lib.hid ((G6.out.keep hb7).addM (ho7.mem lay_Member)); obtain ⟨f1, f2, f3, f4, f5, f6⟩ := (G7.out.ac _ List.mem_cons_self).all; have C8 := pfind_any a6 ([⟨2, 1, 2, 0⟩, ⟨5, 3, 1, 9⟩] : List SAcc) 2 c6 2 w7 f1 f2 (by omega); rw [HT8.out] at C8; dsimp only [SAcc.v, Option.getD, Option.isSome] at C8; have HC8 := Lib.hid C8; clear f1 f2 f3 f4 f5 f6 C8; clear ho7 hb7)
    | (go_at_call 11; refine HC8.out.mono ?_; rintro r w8 ⟨rfl, hb8⟩; have G8 := Lib.hid (((G7.out.keep hb8).keep (alloc_b (Below.refl _ _) (Nat.le_refl _) (.cells #[.int .i64 2, .int .i64 1, .int .i64 2, .int .i64 0] 25))).addX (b := w8.heap.size) (x := ⟨2, 1, 2, 0⟩) (Rec.new _ _ _ _ rfl)); obtain ⟨⟨x0, x1, x2, x3⟩, _⟩ := SAcc.recs (G8.out.xs _ List.mem_cons_self); obtain ⟨e1, e2, e3, e4, e5, e6⟩ := (G8.out.ms _ (List.mem_cons_of_mem _ List.mem_cons_self)).all; obtain ⟨f1, f2, f3, f4, f5, f6⟩ := (G8.out.ac _ (List.mem_cons_of_mem _ List.mem_cons_self)).all; obtain ⟨b2, off2, hae, _, hcz⟩ := SMember.reads e2 (Nat.zero_lt_succ _); obtain ⟨q0, q1⟩ := hcz 0 (Nat.zero_lt_succ _); simp only [Nat.zero_mul, Nat.add_zero, List.getD_cons_zero] at q0; subst hae; have C9 := phouse_any a5 ([⟨2, 3, 2, 0⟩, ⟨5, 3, 1, 9⟩] : List SAcc) 2 c5 3 _ f1 f2 (by omega); rw [HT9.out] at C9; have HC9 := Lib.hid C9; clear e1 e2 e3 e4 e5 e6 f1 f2 f3 f4 f5 f6 C9 hb8 hcz)
    | (go_at_call 12; (with_reducible refine HC9.out.mono ?_); rintro r w9 ⟨rfl, hb9⟩; have G9 := Lib.hid (G8.out.keep hb9); clear x0 x1 x2 x3; obtain ⟨⟨x0, x1, x2, x3⟩, _⟩ := SAcc.recs (G9.out.xs _ List.mem_cons_self); obtain ⟨f1, f2, f3, f4, f5, f6⟩ := (G9.out.ac _ List.mem_cons_self).all; have CA := powned_any a6 ([⟨2, 1, 2, 0⟩, ⟨5, 3, 1, 9⟩] : List SAcc) 2 c6 3 w9 f1 f2 (by omega); rw [HTA.out] at CA; have HCA := Lib.hid CA; clear f1 f2 f3 f4 f5 f6 CA hb9)
    | (go_at_call 14; (with_reducible refine HCA.out.mono ?_); rintro r wa ⟨va, rfl, hoa, hba⟩; obtain ⟨aP, cP, hva, hIP, _, _⟩ := ownI_form hoa; have hva : va = .slice aP 1 cP := hva; subst hva; have Ga := Lib.hid (G9.out.keep hba); have hB5 : Below wa.heap.size wa (wa.alloc (.cells #[.int .i64 5] 3)) := (Below.refl _ _).alloc (Nat.le_refl _) _; have CB := alike_nums aP (some ⟨wa.heap.size, 0, none⟩) [5] [5] 1 1 cP 1 (wa.alloc (.cells #[.int .i64 5] 3)) rfl rfl (hIP.below hB5) (ints_new _ _ _ _ _ rfl _ rfl) (by omega); rw [show decide (([5] : List Int) = [5]) = true from rfl] at CB; have HCB := Lib.hid CB; have GB := Lib.hid (Ga.out.keep hB5); clear CB hB5 hIP hoa hba)
    | (go_at_call 13; (with_reducible refine HCB.out.mono ?_); rintro r wb ⟨rfl, hbb⟩; have Gb := Lib.hid (GB.out.keep hbb); obtain ⟨e1, e2, e3, e4, e5, e6⟩ := (Gb.out.ms _ List.mem_cons_self).all; have CC := pstatus_any a7 ([⟨1, 2⟩, ⟨3, 1⟩] : List SMember) 2 c7 1 wb e1 e2 (by omega); rw [HTB1.out] at CC; have HCC := Lib.hid CC; clear e1 e2 e3 e4 e5 e6 CC hbb)
    | (go_at_call 15; (with_reducible refine HCC.out.mono ?_); rintro r wc ⟨rfl, hbc⟩; have Gc := Lib.hid (Gb.out.keep hbc); obtain ⟨e1, e2, e3, e4, e5, e6⟩ := (Gc.out.ms _ (List.mem_cons_of_mem _ List.mem_cons_self)).all; obtain ⟨f1, f2, f3, f4, f5, f6⟩ := (Gc.out.ac _ List.mem_cons_self).all; have CD := proll_any _ a6 ([⟨1, 1⟩, ⟨3, 1⟩] : List SMember) ([⟨2, 1, 2, 0⟩, ⟨5, 3, 1, 9⟩] : List SAcc) 2 c2 2 c6 wc e1 f1 e2 f2 (by omega) (by omega); rw [HTC.out] at CD; have HCD := Lib.hid CD; clear e1 e2 e3 e4 e5 e6 f1 f2 f3 f4 f5 f6 CD hbc)
    | (go_at_call 16; (with_reducible refine HCD.out.mono ?_); rintro r wd ⟨rfl, hbd⟩; have Gd := Lib.hid (Gc.out.keep hbd); obtain ⟨e1, e2, e3, e4, e5, e6⟩ := (Gd.out.ms _ (List.mem_cons_of_mem _ List.mem_cons_self)).all; have CE := pmembers_any _ ([⟨1, 1⟩, ⟨3, 1⟩] : List SMember) 2 c2 wd e1 e2 (by omega); rw [HTD.out] at CE; have HCE := Lib.hid CE; clear e1 e2 e3 e4 e5 e6 CE hbd)
    | (go_at_call 17; (with_reducible refine HCE.out.mono ?_); rintro r we ⟨rfl, hbe⟩; have Ge := Lib.hid (Gd.out.keep hbe); obtain ⟨f1, f2, f3, f4, f5, f6⟩ := (Ge.out.ac _ List.mem_cons_self).all; have CF := paccs_any a6 ([⟨2, 1, 2, 0⟩, ⟨5, 3, 1, 9⟩] : List SAcc) 2 c6 we f1 f2 (by omega); rw [HTE.out] at CF; have HCF := Lib.hid CF; clear f1 f2 f3 f4 f5 f6 CF hbe)
    | (go_at_call 18; (with_reducible refine HCF.out.mono ?_); rintro r wf ⟨rfl, hbf⟩; have Gf := Lib.hid (Ge.out.keep hbf); clear hbf))
  go_ret
  exact ⟨rfl, Gf.out.ext⟩
set_option maxRecDepth 8000 in
set_option maxHeartbeats 8000000 in
theorem rollall_walk (B A : Option Addr) (m : List SMember) (l : List SAcc) (x : SAcc) (n' c' n c : Nat) (id kind q : Int) (w : World) (hM : LstV SMember.cells 2 w (.slice B n' c') m) (hI : LstV SAcc.cells 4 w (.slice A n c) l) :
    Calls Try.prog 3 #[.slice B n' c', .slice A n c, x.v, .int .i64 id, .int .i64 kind, .int .i64 q] w fun r w' => r = .returned (.bool true) ∧ Below w.heap.size w w' := by
  have CK := Lib.hid known11_any
  have HR : Hid (Rec (w.alloc (.cells x.cells.toArray 25)) w.heap.size 25 x.cells) := Lib.hid (Rec.new _ _ _ _ rfl)
  have HB0 : Hid (Below w.heap.size w (w.alloc (.cells x.cells.toArray 25))) := Lib.hid ((Below.refl _ _).alloc (Nat.le_refl _) _)
  dsimp only [SAcc.cells] at HR HB0
  have e := hM.all
  have f := hI.all
  obtain ⟨e1, e2, e3, e4, e5, e6⟩ := e
  obtain ⟨f1, f2, f3, f4, f5, f6⟩ := f
  by_cases hb : n' > 30
  · have hb2 : ((30 : Int) < (n' : Int)) := by omega
    clear e1 e2 e3 e4 f1 f2 f3 f4 hM hI
    unfold SAcc.v
    go_enter Try.func3, Try.ntmps3
    go_wp2_with (go_at_call 4; (with_reducible refine (CK.out _).mono ?_); rintro r w1 ⟨rfl, hb1⟩; have HB1 := Lib.hid (HB0.out.trans (hb1.mono (by simp))); have HR1 := Lib.hid (HR.out.keep hb1); obtain ⟨⟨d0, d1, d2, d3⟩, _⟩ := SAcc.recs HR1.out; clear hb1)
    go_ret
    exact ⟨rfl, HB1.out⟩
  by_cases hb3 : n > 40
  · have hb2 : ((40 : Int) < (n : Int)) := by omega
    have hb4 : ¬ ((30 : Int) < (n' : Int)) := by omega
    clear e1 e2 e3 e4 f1 f2 f3 f4 hM hI
    unfold SAcc.v
    go_enter Try.func3, Try.ntmps3
    go_wp2_with (go_at_call 4; (with_reducible refine (CK.out _).mono ?_); rintro r w1 ⟨rfl, hb1⟩; have HB1 := Lib.hid (HB0.out.trans (hb1.mono (by simp))); have HR1 := Lib.hid (HR.out.keep hb1); obtain ⟨⟨d0, d1, d2, d3⟩, _⟩ := SAcc.recs HR1.out; clear hb1)
    go_ret
    exact ⟨rfl, HB1.out⟩
  have CT : Hid (∀ W, Below w.heap.size w W → Calls Try.prog 5 #[.slice B n' c', .slice A n c, x.v, .int .i64 id, .int .i64 kind, .int .i64 q] W fun r w' => r = .returned (.bool true) ∧ Below W.heap.size W w') := Lib.hid (fun W hW => told11_any B A m l x n' c' n c id kind q W e1 f1 (e2.below hW (fun _ => rfl)) (f2.below hW (fun _ => rfl)) e3 e4 e5 e6 (by omega) f3 f4 f5 f6 (by omega))
  have hb4 : ¬ ((30 : Int) < (n' : Int)) := by omega
  have hb5 : ¬ ((40 : Int) < (n : Int)) := by omega
  unfold SAcc.v at CT ⊢
  clear e1 e2 e3 e4 f1 f2 f3 f4 hM hI
  go_enter Try.func3, Try.ntmps3
  go_wp2_with (first
    | (go_at_call 4; (with_reducible refine (CK.out _).mono ?_); rintro r w1 ⟨rfl, hb1⟩; have HB1 := Lib.hid (HB0.out.trans (hb1.mono (by simp))); have HR1 := Lib.hid (HR.out.keep hb1); obtain ⟨⟨d0, d1, d2, d3⟩, _⟩ := SAcc.recs HR1.out; clear hb1)
    | (go_at_call 5; (with_reducible refine (CT.out _ HB1.out).mono ?_); rintro r w2 ⟨rfl, hb2⟩; have HB2 := Lib.hid (HB1.out.trans (hb2.mono HB1.out.size)); clear hb2))
  go_ret
  exact ⟨rfl, HB2.out⟩
end Go.Proofs.Ytjlhmiajklddiaa
