/-
  The walk of novationlaw7.known; what readers of configs answer, in form.
-/
import Derived.Test.YtldceocbmmidmaaPq7
import Derived.Test.YtldceocbmmidmaaPq2
namespace Go.Proofs.Ytldceocbmmidmaa
open Go Go.RowKit
set_option linter.unusedVariables false

theorem str_own {w w' : World} {base : Nat} {v : Value} {l : List Nat} (h : OwnB w base v l) (hb : Below w.heap.size w w') : (convert 26 9 v).run Try.prog w' = .ok (.string (bstr l)) w' := by
  obtain ⟨A, c, rfl, hB, _⟩ := h.form
  exact run_bstr w' A l _ c rfl (hB.below hb)
/-- What a reader of configs answers, in form. -/
theorem planK_form {w : World} {o : Option Cfg} {e : Ending} {w' : World} (h : PlanK w o e w') : ∃ A m c, m = (o.getD Cfg.zero).insts.length ∧ e = .returned (.tuple #[(o.getD Cfg.zero).v (.slice A m c), .int .i64 (if o.isSome then 0 else 13)]) ∧ OwnI w' w.heap.size (.slice A m c) (o.getD Cfg.zero).insts ∧ Below w.heap.size w w' := by
  obtain ⟨v, he, hi, hb⟩ := h
  obtain ⟨A, c, hv, _⟩ := OwnL.form hi lay_ins
  subst hv
  exact ⟨A, _, c, rfl, he, hi, hb⟩
def cf0 : Cfg := ⟨[⟨0, 5, 1, 0⟩], 0, 0, 0, 0, 1, 0⟩
def LB0 : List Nat := [2, 0, 10, 2, 0, 0, 0, 0, 0, 2, 0]
theorem cf0_ok : CfgI cf0 := by
  refine ⟨fun x hx => ?_, ?_, ?_, ?_, ?_, ?_, ?_⟩
  · unfold cf0 at hx
    simp at hx
    subst hx
    unfold I64
    simp
  all_goals (unfold I64 cf0; simp)
theorem cf0_plan : planOk cf0 = true := by decide
theorem cf0_bytes : planB cf0 6 = LB0 := by
  have z0 : zig 0 = 0 := by decide
  have z1 : zig 1 = 2 := by decide
  have z5 : zig 5 = 10 := by decide
  have n0 : numB 0 = [0] := by unfold numB; rw [z0, sevens_small (by omega)]
  have n1 : numB 1 = [2] := by unfold numB; rw [z1, sevens_small (by omega)]
  have n5 : numB 5 = [10] := by unfold numB; rw [z5, sevens_small (by omega)]
  rw [planB_rest]
  unfold cf0 restL insB LB0
  simp [n0, n1, n5]
theorem cf0_put : putP cf0 = (LB0, 0) := by unfold putP; rw [cf0_plan, cf0_bytes]; rfl
theorem cf0_read : readP LB0 = some cf0 := by rw [← cf0_bytes]; exact readP_put cf0_ok cf0_plan
theorem nil_read : readP [] = none := by
  have : readN [] 0 = none := by
    unfold readN
    rw [show rdn [] 0 10 0 0 = none from rdn_out (b := []) (k := 0) (U := 0) (by simp)]
    rfl
  unfold readP
  rw [this]
theorem cf0_buck : buckP cf0 0 = [0] := by unfold buckP; rw [cf0_plan]; decide
theorem zero_plan : planOk Cfg.zero = false := by decide
/-- The config of known, in memory. -/
structure K7 (w W : World) : Prop where
  ins : InsM W (some ⟨w.heap.size, 0, none⟩) cf0.insts
  at' : CfAt W (w.heap.size + 1) cf0 (.slice (some ⟨w.heap.size, 0, none⟩) 1 1)
  bel : Below w.heap.size w W
theorem K7.keep {w W W' : World} (h : K7 w W) (hb : Below W.heap.size W W') : K7 w W' := ⟨h.ins.below hb, h.at'.keep hb, h.bel.trans (hb.mono h.bel.size)⟩
theorem K7.start (w : World) : K7 w ((w.alloc (.cells #[.int .i64 0, .int .i64 5, .int .i64 1, .int .i64 0] 41)).alloc (.cells #[.slice (some ⟨w.heap.size, 0, none⟩) 1 1, .int .i64 0, .int .i64 0, .int .i64 0, .int .i64 0, .int .i64 1, .int .i64 0] 24)) := by
  have hs : (w.alloc (.cells #[.int .i64 0, .int .i64 5, .int .i64 1, .int .i64 0] 41)).heap.size = w.heap.size + 1 := by simp
  have hb : Below w.heap.size w (w.alloc (.cells #[.int .i64 0, .int .i64 5, .int .i64 1, .int .i64 0] 41)) := (Below.refl _ _).alloc (Nat.le_refl _) _
  have hI : OwnI (w.alloc (.cells #[.int .i64 0, .int .i64 5, .int .i64 1, .int .i64 0] 41)) w.heap.size (.slice (some ⟨w.heap.size, 0, none⟩) 1 1) cf0.insts := ownL_lit lay_ins w _ #[.int .i64 0, .int .i64 5, .int .i64 1, .int .i64 0] cf0.insts (Nat.le_refl _) (by decide) rfl _ rfl _ rfl
  exact ⟨(own_insM hI).below ((Below.refl _ _).alloc (Nat.le_refl _) _), Rec.new _ _ (cf0.cells (.slice (some ⟨w.heap.size, 0, none⟩) 1 1)) _ hs.symm, hb.alloc hb.size _⟩
theorem insM_nil (W : World) (A : Option Addr) : InsM W A [] := fun h => by simp at h
set_option maxRecDepth 100000 in
set_option maxHeartbeats 8000000 in
theorem known_any (w : World) : Calls Try.prog 8 #[] w fun e W' => e = .returned (.bool true) ∧ Below w.heap.size w W' := by
  have HK0 := Lib.hid (K7.start w)
  have C1 : Hid (∀ W, K7 w W → Calls Try.prog 9 #[.agg #[.slice (some ⟨w.heap.size, 0, none⟩) 1 1, .int .i64 0, .int .i64 0, .int .i64 0, .int .i64 0, .int .i64 1, .int .i64 0]] W (BytesK7 W LB0 0)) := Lib.hid fun W h => by
    have := pputplan_any cf0 cf0_ok (some ⟨w.heap.size, 0, none⟩) 1 1 W rfl h.ins
    rw [cf0_put] at this
    exact this
  have C2 : Hid (∀ W, K7 w W → Calls Try.prog 11 #[.agg #[.slice (some ⟨w.heap.size, 0, none⟩) 1 1, .int .i64 0, .int .i64 0, .int .i64 0, .int .i64 0, .int .i64 1, .int .i64 0]] W fun r w' => r = .returned (.bool true) ∧ Below W.heap.size W w') := Lib.hid fun W h => by
    have := pright_any cf0 (some ⟨w.heap.size, 0, none⟩) 1 1 W rfl h.ins
    rw [cf0_plan] at this
    exact this
  have C3 : Hid (∀ W, Calls Try.prog 11 #[.agg #[.slice none 0 0, .int .i64 0, .int .i64 0, .int .i64 0, .int .i64 0, .int .i64 0, .int .i64 0]] W fun r w' => r = .returned (.bool false) ∧ Below W.heap.size W w') := Lib.hid fun W => by
    have := pright_any Cfg.zero none 0 0 W rfl (insM_nil W none)
    rw [zero_plan] at this
    exact this
  have C4 : Hid (∀ W, K7 w W → Calls Try.prog 16 #[.agg #[.slice (some ⟨w.heap.size, 0, none⟩) 1 1, .int .i64 0, .int .i64 0, .int .i64 0, .int .i64 0, .int .i64 1, .int .i64 0], .int .i64 0] W (NatsN W [0])) := Lib.hid fun W h => by
    have := pbuck_any cf0 0 (some ⟨w.heap.size, 0, none⟩) 1 1 W rfl h.ins
    rw [cf0_buck] at this
    exact this
  have C5 : Hid (∀ A c W, Byts W A LB0 → 11 ≤ c → Calls Try.prog 20 #[.slice A 11 c] W fun e w' => ∃ A' c', e = .returned (.tuple #[.agg #[.slice A' 1 c', .int .i64 0, .int .i64 0, .int .i64 0, .int .i64 0, .int .i64 1, .int .i64 0], .int .i64 0]) ∧ InsM w' A' cf0.insts ∧ Below W.heap.size W w') := Lib.hid fun A c W h hc => by
    refine (preadplan_any A LB0 11 c W rfl h (by unfold Oct LB0; decide) (by omega) hc).mono fun e w' hp => ?_
    rw [cf0_read] at hp
    obtain ⟨A', m, c', hm, he, hi, hb⟩ := planK_form hp
    have hm1 : m = 1 := hm
    subst hm1
    exact ⟨A', c', he, own_insM hi, hb⟩
  have C6 : Hid (∀ W, Calls Try.prog 20 #[.slice none 0 0] W fun e w' => ∃ A' c', e = .returned (.tuple #[.agg #[.slice A' 0 c', .int .i64 0, .int .i64 0, .int .i64 0, .int .i64 0, .int .i64 0, .int .i64 0], .int .i64 13]) ∧ Below W.heap.size W w') := Lib.hid fun W => by
    refine (preadplan_any none [] 0 0 W rfl (byts_none _ _ rfl) (by unfold Oct; decide) (by decide) (by decide)).mono fun e w' hp => ?_
    rw [nil_read] at hp
    obtain ⟨A', m, c', hm, he, hi, hb⟩ := planK_form hp
    have hm1 : m = 0 := hm
    subst hm1
    exact ⟨A', c', he, hb⟩
  have hstr : bstr LB0 = { data := #[2, 0, 10, 2, 0, 0, 0, 0, 0, 2, 0] } := by decide +kernel
  have HST := Lib.hid hstr
  clear hstr
  go_enter Try.func8, Try.ntmps8
  go_wp2_with (first
    | (go_at_call 15; (with_reducible refine CNm.out.mono ?_); rintro r w10 ⟨rfl, hb10⟩; have HB10 := Lib.hid (HB9.out.trans (hb10.mono HB9.out.size)); clear hb10)
    | (go_at_call 16; (with_reducible refine (C4.out _ K8.out).mono ?_); rintro r w9 ⟨v9, rfl, ho9, hb9⟩; have K9 := Lib.hid (K8.out.keep hb9); obtain ⟨A9, c9, rfl, hi9⟩ := ownN_ints ho9; have HB9 : Hid (Below w.heap.size w (w9.alloc (.cells #[.int .i64 0] 3))) := Lib.hid (K9.out.bel.alloc K9.out.bel.size _); have CNm : Hid (Calls Try.prog 15 #[.slice A9 1 c9, .slice (some ⟨w9.heap.size, 0, none⟩) 1 1] (w9.alloc (.cells #[.int .i64 0] 3)) fun r w' => r = .returned (.bool true) ∧ Below (w9.alloc (.cells #[.int .i64 0] 3)).heap.size (w9.alloc (.cells #[.int .i64 0] 3)) w') := Lib.hid (nums_any A9 _ [0] [0] 1 1 c9 1 _ rfl rfl (hi9.below ((Below.refl _ _).alloc (Nat.le_refl _) _)) (fun _ => ⟨w9.heap.size, 0, rfl, fun i hi => (by have : i = 0 := (by simpa using hi); subst this; simp)⟩) (by decide)); (try rw [show ([0] : List Nat).length = 1 from rfl]); clear ho9 hb9 hi9)
    | (go_at_call 11; (with_reducible refine (C3.out _).mono ?_); rintro r w8 ⟨rfl, hb8⟩; have K8 := Lib.hid (K7'.out.keep hb8); obtain ⟨d0, d1, d2, d3, d4, d5, d6⟩ := K8.out.at'.reads; simp only [cf0] at d0 d1 d2 d3 d4 d5 d6; clear hb8)
    | (go_at_call 11; (with_reducible refine (C2.out _ K6.out).mono ?_); rintro r w7 ⟨rfl, hb7⟩; have K7' := Lib.hid (K6.out.keep hb7); clear hb7)
    | (go_at_call 13; (with_reducible refine CS.out.mono ?_); rintro r w6 ⟨rfl, hb6⟩; have K6 := Lib.hid (K5.out.keep hb6); obtain ⟨b0, b1, b2, b3, b4, b5, b6⟩ := K6.out.at'.reads; simp only [cf0] at b0 b1 b2 b3 b4 b5 b6; clear hb6)
    | (go_at_call 9; (with_reducible refine (C1.out _ HK0.out).mono ?_); rintro r w1 ⟨v1, rfl, ho1, hb1⟩; have K1 := Lib.hid (HK0.out.keep hb1); obtain ⟨A1, c1, rfl, hy1, hc1, _⟩ := OwnB.form ho1; have CR := Lib.hid (C5.out A1 c1 w1 hy1 hc1); have HY1 := Lib.hid hy1; rw [show LB0.length = 11 from rfl]; clear ho1 hb1 hy1 hc1)
    | (go_at_call 20; (with_reducible refine CR.out.mono ?_); rintro r w2 ⟨A2, c2, rfl, hi2, hb2⟩; have K2 := Lib.hid (K1.out.keep hb2); have hb3 : Below w2.heap.size w2 (w2.alloc (.cells #[.slice A2 1 c2, .int .i64 0, .int .i64 0, .int .i64 0, .int .i64 0, .int .i64 1, .int .i64 0] 24)) := (Below.refl _ _).alloc (Nat.le_refl _) _; have K3 := Lib.hid (K2.out.keep hb3); have H3 : Hid (CfAt (w2.alloc (.cells #[.slice A2 1 c2, .int .i64 0, .int .i64 0, .int .i64 0, .int .i64 0, .int .i64 1, .int .i64 0] 24)) w2.heap.size cf0 (.slice A2 1 c2)) := Lib.hid (Rec.new w2 _ (cf0.cells (.slice A2 1 c2)) _ rfl); have I3 := Lib.hid (hi2.below hb3); have HZ3 := Lib.hid (hb2.trans (hb3.mono hb2.size)); clear hi2 hb2 hb3)
    | (go_at_call 20; (with_reducible refine (C6.out _).mono ?_); rintro r w4 ⟨A4, c4, rfl, hb4⟩; have hb5 := hb4.trans ((Below.refl w4.heap.size w4).alloc (Nat.le_refl _) (.cells #[.slice A4 0 c4, .int .i64 0, .int .i64 0, .int .i64 0, .int .i64 0, .int .i64 0, .int .i64 0] 24) |>.mono hb4.size); have K5 := Lib.hid (K3.out.keep hb5); have H5 := Lib.hid (CfAt.keep H3.out hb5); have hst := run_bstr (w4.alloc (.cells #[.slice A4 0 c4, .int .i64 0, .int .i64 0, .int .i64 0, .int .i64 0, .int .i64 0, .int .i64 0] 24)) A1 LB0 11 c1 rfl (HY1.out.below (HZ3.out.trans (hb5.mono HZ3.out.size))); rw [HST.out] at hst; have CS := Lib.hid (psame_any cf0 cf0 A2 (some ⟨w.heap.size, 0, none⟩) 1 1 c2 1 _ rfl rfl (I3.out.below hb5) K5.out.ins (by decide)); obtain ⟨a0, a1, a2, a3, a4, a5, a6⟩ := K5.out.at'.reads; obtain ⟨e0, e1, e2, e3, e4, e5, e6⟩ := H5.out.reads; simp only [cf0, Cfg.v] at CS a0 a1 a2 a3 a4 a5 a6 e0 e1 e2 e3 e4 e5 e6; clear hb4 hb5))
  go_ret
  exact ⟨rfl, HB10.out⟩
end Go.Proofs.Ytldceocbmmidmaa
