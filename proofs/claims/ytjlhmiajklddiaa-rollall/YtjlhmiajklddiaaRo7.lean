/-
  The walks of the reference's Turn, Limit, PortAcc.
-/
import Derived.Test.YtjlhmiajklddiaaRo6
import Derived.Test.YtjlhmiajklddiaaSd1
namespace Go.Proofs.Ytjlhmiajklddiaa
set_option maxRecDepth 8000
open Go Go.RowKit
set_option linter.unusedVariables false

def turnM (id now : Int) (x : SMember) : SMember := if (x.id == id) = true then { x with status := now } else x
def turnV (m : List SMember) (id kind : Int) : List SMember × Int :=
  if membersOk m then (if memS m id = 0 then ([], 3) else if nok (memS m id) kind then (m.map (turnM id (nxt (memS m id) kind)), 0) else ([], 8)) else ([], 1)
set_option maxRecDepth 8000 in
set_option maxHeartbeats 16000000 in
theorem rturn_any (A : Option Addr) (l : List SMember) (n c : Nat) (id kind : Int) (w : World) (hn : n = l.length) (hI : MemL SMember.cells 2 w A l) (hA : A = none → c = 0) (hl : n ≤ 1000000000000) : Calls Try.prog 20 #[.slice A n c, .int .i64 id, .int .i64 kind] w (LRes SMember.cells 39 2 w (turnV l id kind)) := by
  have CM := Lib.hid (rmembers_any A l n c w hn hI (by omega))
  have CS := Lib.hid (fun W (hW : Below w.heap.size w W) => rstat_any A l n c id W hn (hI.below hW (fun _ => rfl)) (by omega))
  have HI := Lib.hid hI
  have HN := Lib.hid hn
  have HA := Lib.hid hA
  have HL1 : Hid ((([] : List SMember).length + l.length) * 16 ≤ 140737488355328) := Lib.hid (by rw [← hn, List.length_nil]; omega)
  have HL2 : Hid (([] : List SMember).length + l.length ≤ 140737488355328) := Lib.hid (by rw [← hn, List.length_nil]; omega)
  clear hn hI hA
  obtain ⟨O, hO⟩ : ∃ O, O = turnV l id kind := ⟨_, rfl⟩
  rw [← hO]
  unfold turnV at hO
  cases hmo : membersOk l with
  | false =>
    rw [hmo] at hO CM
    have HF : Hid (O = ([], 1)) := Lib.hid hO
    clear hO hmo
    go_enter Try.func20, Try.ntmps20
    go_wp2_with (go_at_call 27; (with_reducible refine CM.out.mono ?_); rintro r w1 ⟨rfl, hb1⟩; have HB1 := Lib.hid hb1; clear hb1)
    go_ret2
    exact ⟨_, by rw [HF.out]; rfl, by rw [HF.out]; exact ownL_nil _ _, HB1.out⟩
  | true =>
    rw [hmo, if_pos rfl] at hO
    rw [hmo] at CM
    clear hmo
    obtain ⟨s, hs⟩ : ∃ s, s = memS l id := ⟨_, rfl⟩
    rw [← hs] at hO CS
    clear hs
    by_cases hs0 : s = 0
    · rw [if_pos hs0] at hO
      have HF : Hid (O = ([], 3)) := Lib.hid hO
      subst hs0
      clear hO
      go_enter Try.func20, Try.ntmps20
      go_wp2_with (first
        | (go_at_call 27; (with_reducible refine CM.out.mono ?_); rintro r w1 ⟨rfl, hb1⟩; have HB1 := Lib.hid hb1; clear hb1)
        | (go_at_call 44; (with_reducible refine (CS.out _ HB1.out).mono ?_); rintro r wq ⟨rfl, hwq⟩; obtain rfl : w1 = wq := hwq))
      go_ret2
      exact ⟨_, by rw [HF.out]; rfl, by rw [HF.out]; exact ownL_nil _ _, HB1.out⟩
    rw [if_neg hs0] at hO
    have hb : (s == 0) = false := beq_eq_false_iff_ne.2 hs0
    have CN := Lib.hid (rnext_any s kind)
    obtain ⟨q, hq⟩ : ∃ q, q = nok s kind := ⟨_, rfl⟩
    obtain ⟨t, ht⟩ : ∃ t, t = nxt s kind := ⟨_, rfl⟩
    rw [← hq, ← ht] at hO CN
    clear hs0 hq ht
    cases q with
    | false =>
      have HF : Hid (O = ([], 8)) := Lib.hid hO
      clear hO
      go_enter Try.func20, Try.ntmps20
      go_wp2_with (first
        | (go_at_call 27; (with_reducible refine CM.out.mono ?_); rintro r w1 ⟨rfl, hb1⟩; have HB1 := Lib.hid hb1; clear hb1)
        | (go_at_call 44; (with_reducible refine (CS.out _ HB1.out).mono ?_); rintro r wq ⟨rfl, hwq⟩; obtain rfl : w1 = wq := hwq)
        | (go_at_call 45; (with_reducible refine (CN.out _).mono ?_); rintro r wq ⟨rfl, hwq⟩; obtain rfl : w1 = wq := hwq))
      go_ret2
      exact ⟨_, by rw [HF.out]; rfl, by rw [HF.out]; exact ownL_nil _ _, HB1.out⟩
    | true =>
      have HF : Hid (O = (l.map (turnM id t), 0)) := Lib.hid hO
      clear hO
      go_enter Try.func20, Try.ntmps20
      go_wp2_with (first
        | (go_at_call 27; (with_reducible refine CM.out.mono ?_); rintro r w1 ⟨rfl, hb1⟩; have HBW := Lib.hid hb1; clear hb1)
        | (go_at_call 44; (with_reducible refine (CS.out _ HBW.out).mono ?_); rintro r wq ⟨rfl, hwq⟩; obtain rfl : w1 = wq := hwq)
        | (go_at_call 45; (with_reducible refine (CN.out _).mono ?_); rintro r wq ⟨rfl, hwq⟩; obtain rfl : w1 = wq := hwq)
        | (at_builtin; refine wpList_appV lay_Member rfl (.tmp 29) (.tmp 30) rfl w.heap.size _ [] rfl (ownL_lit lay_Member _ w.heap.size #[] [] HBW.out.size (by simp) rfl _ (by first | rfl | simp) _ rfl) A n c l HN.out rfl HA.out (HI.out.below (alloc_b HBW.out (Nat.le_refl _) _) (fun _ => rfl)) HL1.out HL2.out (Nat.le_trans HBW.out.size (by simp)) ?_; intro v3 w3 ho3 hb3 _; rw [List.nil_append] at ho3; have HO3 := Lib.hid ho3; have HB3 := Lib.hid ((alloc_b HBW.out (Nat.le_refl _) _).trans hb3); obtain ⟨A3, c3, hv3, _⟩ := OwnL.form ho3 lay_Member; rw [← HN.out] at hv3; subst hv3; clear ho3 hb3))
      go_loopw [12] (fun i wr => ∃ k : Nat, k ≤ n ∧ i = .int .i64 (k : Int) ∧ Hid (Below w.heap.size w wr) ∧ Hid (OwnL SMember.cells 39 2 wr w.heap.size (.slice A3 n c3) (upto (turnM id t) l k))) (fun i _ => n - (intOf i).toNat)
      case atStart => exact ⟨0, Nat.zero_le _, rfl, HB3, HO3⟩
      case round =>
        obtain ⟨k, hk, rfl, HB, HO⟩ := hrel
        clear HB3 HO3
        by_cases hlt : k < n
        · have hkl : k < l.length := by rw [← HN.out]; exact hlt
          have hku : k < (upto (turnM id t) l k).length := by rw [upto_len]; exact hkl
          obtain ⟨g, c3', he, hg1, hg2, hcells⟩ := SMember.oreads HO.out (by omega)
          obtain ⟨rfl, rfl⟩ : A3 = some ⟨g, 0, none⟩ ∧ c3 = c3' := by injection he with e1 e2 e3; exact ⟨e1, e3⟩
          obtain ⟨⟨g0, g1⟩, ⟨f0, f1⟩⟩ := hcells k hku
          have hux : (upto (turnM id t) l k).getD k SMember.zero = l.getD k SMember.zero := by rw [SMember.at (x := SMember.zero) hku, upto_at _ _ _ hkl, SMember.at (x := SMember.zero) hkl]
          rw [hux] at g0 g1
          have HSU : Hid (upto (turnM id t) l (k + 1) = (upto (turnM id t) l k).set k ((turnM id t) (l.getD k SMember.zero))) := Lib.hid (by rw [upto_succ _ _ _ hkl, SMember.at (x := SMember.zero) hkl])
          have HSA : Hid ((turnM id t) (l.getD k SMember.zero) = l.getD k SMember.zero → upto (turnM id t) l (k + 1) = upto (turnM id t) l k) := Lib.hid (fun h => upto_same _ _ _ hkl (by rw [← SMember.at (x := SMember.zero) hkl]; exact h))
          have HEQ : Hid (∀ h : k < (upto (turnM id t) l k).length, (upto (turnM id t) l k)[k]'h = l.getD k SMember.zero) := Lib.hid (fun h => by rw [← hux, SMember.at (x := SMember.zero) hku])
          have HKU := Lib.hid hku
          generalize l.getD k SMember.zero = x at *
          clear hkl hku hcells he hux
          by_cases hid : x.id = id
          · have HFX : Hid ((turnM id t) x = { x with status := t }) := Lib.hid (by show (if (x.id == id) = true then _ else _) = _; rw [if_pos (beq_iff_eq.2 hid)])
            have HO5 := Lib.hid (OwnL.setAt lay_Member.len HO.out k 1 HKU.out (show 1 < 2 by omega) { x with status := t } (.int .i64 (t)) (by rw [HEQ.out HKU.out]; rfl))
            rw [← HFX.out, ← HSU.out] at HO5
            have HB5 := Lib.hid (HB.out.setCell (p := ⟨g, k * 2 + 1, none⟩) hg1 (.int .i64 (t)))
            have hb : (x.id == id) = true := beq_iff_eq.2 hid
            clear hid
            go_wp2
            go_roundw
            case rel => exact ⟨k + 1, by omega, by go_num, HB5, HO5⟩
            case measure => simp [intOf]; omega
          · have hb : (x.id == id) = false := beq_eq_false_iff_ne.2 hid
            have HFX : Hid (upto (turnM id t) l (k + 1) = upto (turnM id t) l k) := Lib.hid (HSA.out (by show (if (x.id == id) = true then _ else _) = _; rw [if_neg (by rw [hb]; simp)]))
            rw [← HFX.out] at HO
            clear hid
            go_wp2
            go_roundw
            case rel => exact ⟨k + 1, by omega, by go_num, HB, HO⟩
            case measure => simp [intOf]; omega
        · obtain rfl : k = n := by omega
          rw [show upto (turnM id t) l k = l.map (turnM id t) from by rw [HN.out]; exact upto_all _ _] at HO
          go_wp2
          go_ret2
          exact ⟨_, by rw [HF.out]; rfl, by rw [HF.out]; exact HO.out, HB.out⟩
def limM (id q : Int) (x : SAcc) : SAcc := if (x.id == id) = true then { x with limit := q } else x
def limV (l : List SAcc) (id q : Int) : List SAcc × Int :=
  if accsOk l then (if q < 0 then ([], 1) else if 1000000000000 < q then ([], 1) else if (accF l id).isSome then (l.map (limM id q), 0) else ([], 3)) else ([], 1)
set_option maxRecDepth 8000 in
set_option maxHeartbeats 16000000 in
theorem rlimit_any (A : Option Addr) (l : List SAcc) (n c : Nat) (id q : Int) (w : World) (hn : n = l.length) (hI : MemL SAcc.cells 4 w A l) (hA : A = none → c = 0) (hl : n ≤ 1000000000000) : Calls Try.prog 22 #[.slice A n c, .int .i64 id, .int .i64 q] w (LRes SAcc.cells 25 4 w (limV l id q)) := by
  have CM := Lib.hid (raccs_any A l n c w hn hI (by omega))
  have CF := Lib.hid (fun W (hW : Below w.heap.size w W) => rfindA_any A l n c id W hn (hI.below hW (fun _ => rfl)) (by omega))
  have HI := Lib.hid hI
  have HN := Lib.hid hn
  have HA := Lib.hid hA
  have HL1 : Hid ((([] : List SAcc).length + l.length) * 32 ≤ 140737488355328) := Lib.hid (by rw [← hn, List.length_nil]; omega)
  have HL2 : Hid (([] : List SAcc).length + l.length ≤ 140737488355328) := Lib.hid (by rw [← hn, List.length_nil]; omega)
  clear hn hI hA
  obtain ⟨O, hO⟩ : ∃ O, O = limV l id q := ⟨_, rfl⟩
  rw [← hO]
  unfold limV at hO
  cases hmo : accsOk l with
  | false =>
    rw [hmo] at hO CM
    clear hmo
    have HF : Hid (O = ([], 1)) := Lib.hid hO
    clear hO
    go_enter Try.func22, Try.ntmps22
    go_wp2_with (first
      | (go_at_call 28; (with_reducible refine CM.out.mono ?_); rintro r w1 ⟨rfl, hb1⟩; have HBW := Lib.hid hb1; clear hb1))
    go_ret2
    exact ⟨_, by rw [HF.out]; rfl, by rw [HF.out]; exact ownL_nil _ _, HBW.out⟩
  | true =>
    rw [hmo, if_pos rfl] at hO
    rw [hmo] at CM
    clear hmo
    by_cases h1 : q < 0
    · rw [if_pos h1] at hO
      have e1 : decide (q < 0) = true := decide_eq_true h1
      clear h1
      have HF : Hid (O = ([], 1)) := Lib.hid hO
      clear hO
      go_enter Try.func22, Try.ntmps22
      go_wp2_with (first
        | (go_at_call 28; (with_reducible refine CM.out.mono ?_); rintro r w1 ⟨rfl, hb1⟩; have HBW := Lib.hid hb1; clear hb1))
      go_ret2
      exact ⟨_, by rw [HF.out]; rfl, by rw [HF.out]; exact ownL_nil _ _, HBW.out⟩
    rw [if_neg h1] at hO
    have e1 : decide (q < 0) = false := decide_eq_false h1
    clear h1
    by_cases h2 : 1000000000000 < q
    · rw [if_pos h2] at hO
      have e2 : decide (1000000000000 < q) = true := decide_eq_true h2
      clear h2
      have HF : Hid (O = ([], 1)) := Lib.hid hO
      clear hO
      go_enter Try.func22, Try.ntmps22
      go_wp2_with (first
        | (go_at_call 28; (with_reducible refine CM.out.mono ?_); rintro r w1 ⟨rfl, hb1⟩; have HBW := Lib.hid hb1; clear hb1))
      go_ret2
      exact ⟨_, by rw [HF.out]; rfl, by rw [HF.out]; exact ownL_nil _ _, HBW.out⟩
    rw [if_neg h2] at hO
    have e2 : decide (1000000000000 < q) = false := decide_eq_false h2
    clear h2
    obtain ⟨x, hx⟩ : ∃ x, x = (accF l id).getD SAcc.zero := ⟨_, rfl⟩
    obtain ⟨b, hb⟩ : ∃ b, b = (accF l id).isSome := ⟨_, rfl⟩
    rw [← hb] at hO
    rw [← hx, ← hb] at CF
    unfold SAcc.v at CF
    clear hx hb
    cases b with
    | false =>
      have HF : Hid (O = ([], 3)) := Lib.hid hO
      clear hO
      go_enter Try.func22, Try.ntmps22
      go_wp2_with (first
        | (go_at_call 28; (with_reducible refine CM.out.mono ?_); rintro r w1 ⟨rfl, hb1⟩; have HBW := Lib.hid hb1; clear hb1)
        | (go_at_call 46; (with_reducible refine (CF.out _ HBW.out).mono ?_); rintro r w2 ⟨rfl, hb2⟩; have HB2 := Lib.hid (HBW.out.trans (hb2.mono HBW.out.size)); clear hb2 HBW; have HBW := Lib.hid (alloc_b HB2.out (Nat.le_refl _) (.cells #[.int .i64 x.id, .int .i64 x.member, .int .i64 x.kind, .int .i64 x.limit] 25))))
      go_ret2
      exact ⟨_, by rw [HF.out]; rfl, by rw [HF.out]; exact ownL_nil _ _, HBW.out⟩
    | true =>
      have HF : Hid (O = (l.map (limM id q), 0)) := Lib.hid hO
      clear hO
      go_enter Try.func22, Try.ntmps22
      go_wp2_with (first
        | (go_at_call 28; (with_reducible refine CM.out.mono ?_); rintro r w1 ⟨rfl, hb1⟩; have HBW := Lib.hid hb1; clear hb1)
        | (go_at_call 46; (with_reducible refine (CF.out _ HBW.out).mono ?_); rintro r w2 ⟨rfl, hb2⟩; have HB2 := Lib.hid (HBW.out.trans (hb2.mono HBW.out.size)); clear hb2 HBW; have HBW := Lib.hid (alloc_b HB2.out (Nat.le_refl _) (.cells #[.int .i64 x.id, .int .i64 x.member, .int .i64 x.kind, .int .i64 x.limit] 25)))
        | (at_builtin; refine wpList_appV lay_Acc rfl (.tmp 31) (.tmp 32) rfl w.heap.size _ [] rfl (ownL_lit lay_Acc _ w.heap.size #[] [] HBW.out.size (by simp) rfl _ (by first | rfl | simp) _ rfl) A n c l HN.out rfl HA.out (HI.out.below (alloc_b HBW.out (Nat.le_refl _) _) (fun _ => rfl)) HL1.out HL2.out (Nat.le_trans HBW.out.size (by simp)) ?_; intro v3 w3 ho3 hb3 _; rw [List.nil_append] at ho3; have HO3 := Lib.hid ho3; have HB3 := Lib.hid ((alloc_b HBW.out (Nat.le_refl _) _).trans hb3); obtain ⟨A3, c3, hv3, _⟩ := OwnL.form ho3 lay_Acc; rw [← HN.out] at hv3; subst hv3; clear ho3 hb3))
      go_loopw [11] (fun i wr => ∃ k : Nat, k ≤ n ∧ i = .int .i64 (k : Int) ∧ Hid (Below w.heap.size w wr) ∧ Hid (OwnL SAcc.cells 25 4 wr w.heap.size (.slice A3 n c3) (upto (limM id q) l k))) (fun i _ => n - (intOf i).toNat)
      case atStart => exact ⟨0, Nat.zero_le _, rfl, HB3, HO3⟩
      case round =>
        obtain ⟨k, hk, rfl, HB, HO⟩ := hrel
        clear HB3 HO3
        by_cases hlt : k < n
        · have hkl : k < l.length := by rw [← HN.out]; exact hlt
          have hku : k < (upto (limM id q) l k).length := by rw [upto_len]; exact hkl
          obtain ⟨g, c3', he, hg1, hg2, hcells⟩ := SAcc.oreads HO.out (by omega)
          obtain ⟨rfl, rfl⟩ : A3 = some ⟨g, 0, none⟩ ∧ c3 = c3' := by injection he with e1 e2 e3; exact ⟨e1, e3⟩
          obtain ⟨⟨g0, g1, g2, g3⟩, ⟨f0, f1, f2, f3⟩⟩ := hcells k hku
          have hux : (upto (limM id q) l k).getD k SAcc.zero = l.getD k SAcc.zero := by rw [SAcc.at (x := SAcc.zero) hku, upto_at _ _ _ hkl, SAcc.at (x := SAcc.zero) hkl]
          rw [hux] at g0 g1 g2 g3
          have HSU : Hid (upto (limM id q) l (k + 1) = (upto (limM id q) l k).set k ((limM id q) (l.getD k SAcc.zero))) := Lib.hid (by rw [upto_succ _ _ _ hkl, SAcc.at (x := SAcc.zero) hkl])
          have HSA : Hid ((limM id q) (l.getD k SAcc.zero) = l.getD k SAcc.zero → upto (limM id q) l (k + 1) = upto (limM id q) l k) := Lib.hid (fun h => upto_same _ _ _ hkl (by rw [← SAcc.at (x := SAcc.zero) hkl]; exact h))
          have HEQ : Hid (∀ h : k < (upto (limM id q) l k).length, (upto (limM id q) l k)[k]'h = l.getD k SAcc.zero) := Lib.hid (fun h => by rw [← hux, SAcc.at (x := SAcc.zero) hku])
          have HKU := Lib.hid hku
          generalize l.getD k SAcc.zero = x at *
          clear hkl hku hcells he hux
          by_cases hid : x.id = id
          · have HFX : Hid ((limM id q) x = { x with limit := q }) := Lib.hid (by show (if (x.id == id) = true then _ else _) = _; rw [if_pos (beq_iff_eq.2 hid)])
            have HO5 := Lib.hid (OwnL.setAt lay_Acc.len HO.out k 3 HKU.out (show 3 < 4 by omega) { x with limit := q } (.int .i64 (q)) (by rw [HEQ.out HKU.out]; rfl))
            rw [← HFX.out, ← HSU.out] at HO5
            have HB5 := Lib.hid (HB.out.setCell (p := ⟨g, k * 4 + 3, none⟩) hg1 (.int .i64 (q)))
            have hb : (x.id == id) = true := beq_iff_eq.2 hid
            clear hid
            go_wp2
            go_roundw
            case rel => exact ⟨k + 1, by omega, by go_num, HB5, HO5⟩
            case measure => simp [intOf]; omega
          · have hb : (x.id == id) = false := beq_eq_false_iff_ne.2 hid
            have HFX : Hid (upto (limM id q) l (k + 1) = upto (limM id q) l k) := Lib.hid (HSA.out (by show (if (x.id == id) = true then _ else _) = _; rw [if_neg (by rw [hb]; simp)]))
            rw [← HFX.out] at HO
            clear hid
            go_wp2
            go_roundw
            case rel => exact ⟨k + 1, by omega, by go_num, HB, HO⟩
            case measure => simp [intOf]; omega
        · obtain rfl : k = n := by omega
          rw [show upto (limM id q) l k = l.map (limM id q) from by rw [HN.out]; exact upto_all _ _] at HO
          go_wp2
          go_ret2
          exact ⟨_, by rw [HF.out]; rfl, by rw [HF.out]; exact HO.out, HB.out⟩
def portM (id to : Int) (x : SAcc) : SAcc := if (x.id == id) = true then { x with member := to } else x
def portV (m : List SMember) (l : List SAcc) (id to : Int) : List SAcc × Int :=
  if rollOk m l then (if (accF l id).isSome then (if memS m to = 0 then ([], 3) else if ((accF l id).getD SAcc.zero).kind = 2 then (if memS m to = 1 then (l.map (portM id to), 0) else ([], 7)) else ([], 8)) else ([], 3)) else ([], 1)
set_option maxRecDepth 8000 in
set_option maxHeartbeats 16000000 in
theorem rport_any (B A : Option Addr) (m : List SMember) (l : List SAcc) (n' c' n c : Nat) (id to : Int) (w : World) (hm : n' = m.length) (hn : n = l.length) (hM : MemL SMember.cells 2 w B m) (hI : MemL SAcc.cells 4 w A l) (hA : A = none → c = 0) (hml : n' ≤ 1000000000000) (hl : n ≤ 1000000000000) : Calls Try.prog 23 #[.slice B n' c', .slice A n c, .int .i64 id, .int .i64 to] w (LRes SAcc.cells 25 4 w (portV m l id to)) := by
  have CM := Lib.hid (rroll_any B A m l n' c' n c w hm hn hM hI (by omega) (by omega))
  have CF := Lib.hid (fun W (hW : Below w.heap.size w W) => rfindA_any A l n c id W hn (hI.below hW (fun _ => rfl)) (by omega))
  have CS := Lib.hid (fun W (hW : Below w.heap.size w W) => rstat_any B m n' c' to W hm (hM.below hW (fun _ => rfl)) (by omega))
  have HI := Lib.hid hI
  have HN := Lib.hid hn
  have HA := Lib.hid hA
  have HL1 : Hid ((([] : List SAcc).length + l.length) * 32 ≤ 140737488355328) := Lib.hid (by rw [← hn, List.length_nil]; omega)
  have HL2 : Hid (([] : List SAcc).length + l.length ≤ 140737488355328) := Lib.hid (by rw [← hn, List.length_nil]; omega)
  clear hn hI hA hm hM
  obtain ⟨O, hO⟩ : ∃ O, O = portV m l id to := ⟨_, rfl⟩
  rw [← hO]
  unfold portV at hO
  cases hmo : rollOk m l with
  | false =>
    rw [hmo] at hO CM
    clear hmo
    have HF : Hid (O = ([], 1)) := Lib.hid hO
    clear hO
    go_enter Try.func23, Try.ntmps23
    go_wp2_with (first
      | (go_at_call 29; (with_reducible refine CM.out.mono ?_); rintro r w1 ⟨rfl, hb1⟩; have HBW := Lib.hid hb1; clear hb1))
    go_ret2
    exact ⟨_, by rw [HF.out]; rfl, by rw [HF.out]; exact ownL_nil _ _, HBW.out⟩
  | true =>
    rw [hmo, if_pos rfl] at hO
    rw [hmo] at CM
    clear hmo
    obtain ⟨x, hx⟩ : ∃ x, x = (accF l id).getD SAcc.zero := ⟨_, rfl⟩
    obtain ⟨b, hb⟩ : ∃ b, b = (accF l id).isSome := ⟨_, rfl⟩
    obtain ⟨s, hs⟩ : ∃ s, s = memS m to := ⟨_, rfl⟩
    rw [← hb, ← hx, ← hs] at hO
    rw [← hx, ← hb] at CF
    rw [← hs] at CS
    unfold SAcc.v at CF
    clear hx hb hs
    cases b with
    | false =>
      have HF : Hid (O = ([], 3)) := Lib.hid hO
      clear hO
      go_enter Try.func23, Try.ntmps23
      go_wp2_with (first
        | (go_at_call 29; (with_reducible refine CM.out.mono ?_); rintro r w1 ⟨rfl, hb1⟩; have HBW := Lib.hid hb1; clear hb1)
        | (go_at_call 46; (with_reducible refine (CF.out _ HBW.out).mono ?_); rintro r w2 ⟨rfl, hb2⟩; have HB2 := Lib.hid (HBW.out.trans (hb2.mono HBW.out.size)); clear hb2 HBW; have HBW := Lib.hid (alloc_b HB2.out (Nat.le_refl _) (.cells #[.int .i64 x.id, .int .i64 x.member, .int .i64 x.kind, .int .i64 x.limit] 25)); have HX2 := Lib.hid (Rec.new w2 25 x.cells w2.heap.size rfl); obtain ⟨⟨k0, k1, k2, k3⟩, _⟩ := SAcc.recs HX2.out; dsimp only [SAcc.cells] at k0 k1 k2 k3)
        | (go_at_call 44; (with_reducible refine (CS.out _ HBW.out).mono ?_); rintro r wq ⟨rfl, hwq⟩; obtain rfl : w2.alloc (.cells #[.int .i64 x.id, .int .i64 x.member, .int .i64 x.kind, .int .i64 x.limit] 25) = wq := hwq))
      go_ret2
      exact ⟨_, by rw [HF.out]; rfl, by rw [HF.out]; exact ownL_nil _ _, HBW.out⟩
    | true =>
      rw [if_pos rfl] at hO
      by_cases h0 : s = 0
      · rw [if_pos h0] at hO
        subst h0
        have HF : Hid (O = ([], 3)) := Lib.hid hO
        clear hO
        go_enter Try.func23, Try.ntmps23
        go_wp2_with (first
          | (go_at_call 29; (with_reducible refine CM.out.mono ?_); rintro r w1 ⟨rfl, hb1⟩; have HBW := Lib.hid hb1; clear hb1)
          | (go_at_call 46; (with_reducible refine (CF.out _ HBW.out).mono ?_); rintro r w2 ⟨rfl, hb2⟩; have HB2 := Lib.hid (HBW.out.trans (hb2.mono HBW.out.size)); clear hb2 HBW; have HBW := Lib.hid (alloc_b HB2.out (Nat.le_refl _) (.cells #[.int .i64 x.id, .int .i64 x.member, .int .i64 x.kind, .int .i64 x.limit] 25)); have HX2 := Lib.hid (Rec.new w2 25 x.cells w2.heap.size rfl); obtain ⟨⟨k0, k1, k2, k3⟩, _⟩ := SAcc.recs HX2.out; dsimp only [SAcc.cells] at k0 k1 k2 k3)
          | (go_at_call 44; (with_reducible refine (CS.out _ HBW.out).mono ?_); rintro r wq ⟨rfl, hwq⟩; obtain rfl : w2.alloc (.cells #[.int .i64 x.id, .int .i64 x.member, .int .i64 x.kind, .int .i64 x.limit] 25) = wq := hwq))
        go_ret2
        exact ⟨_, by rw [HF.out]; rfl, by rw [HF.out]; exact ownL_nil _ _, HBW.out⟩
      rw [if_neg h0] at hO
      have e0 : (s == 0) = false := beq_eq_false_iff_ne.2 h0
      clear h0
      by_cases h1 : x.kind = 2
      · rw [if_pos h1] at hO
        have e1 : (x.kind != 2) = false := by rw [h1]; rfl
        clear h1
        by_cases h2 : s = 1
        · rw [if_pos h2] at hO
          have HF : Hid (O = (l.map (portM id to), 0)) := Lib.hid hO
          have e2 : (s != 1) = false := by rw [h2]; rfl
          clear hO h2
          go_enter Try.func23, Try.ntmps23
          go_wp2_with (first
            | (go_at_call 29; (with_reducible refine CM.out.mono ?_); rintro r w1 ⟨rfl, hb1⟩; have HBW := Lib.hid hb1; clear hb1)
            | (go_at_call 46; (with_reducible refine (CF.out _ HBW.out).mono ?_); rintro r w2 ⟨rfl, hb2⟩; have HB2 := Lib.hid (HBW.out.trans (hb2.mono HBW.out.size)); clear hb2 HBW; have HBW := Lib.hid (alloc_b HB2.out (Nat.le_refl _) (.cells #[.int .i64 x.id, .int .i64 x.member, .int .i64 x.kind, .int .i64 x.limit] 25)); have HX2 := Lib.hid (Rec.new w2 25 x.cells w2.heap.size rfl); obtain ⟨⟨k0, k1, k2, k3⟩, _⟩ := SAcc.recs HX2.out; dsimp only [SAcc.cells] at k0 k1 k2 k3)
            | (go_at_call 44; (with_reducible refine (CS.out _ HBW.out).mono ?_); rintro r wq ⟨rfl, hwq⟩; obtain rfl : w2.alloc (.cells #[.int .i64 x.id, .int .i64 x.member, .int .i64 x.kind, .int .i64 x.limit] 25) = wq := hwq)
            | (at_builtin; refine wpList_appV lay_Acc rfl (.tmp 39) (.tmp 40) rfl w.heap.size _ [] rfl (ownL_lit lay_Acc _ w.heap.size #[] [] HBW.out.size (by simp) rfl _ (by first | rfl | simp) _ rfl) A n c l HN.out rfl HA.out (HI.out.below (alloc_b HBW.out (Nat.le_refl _) _) (fun _ => rfl)) HL1.out HL2.out (Nat.le_trans HBW.out.size (by simp)) ?_; intro v3 w3 ho3 hb3 _; rw [List.nil_append] at ho3; have HO3 := Lib.hid ho3; have HB3 := Lib.hid ((alloc_b HBW.out (Nat.le_refl _) _).trans hb3); obtain ⟨A3, c3, hv3, _⟩ := OwnL.form ho3 lay_Acc; rw [← HN.out] at hv3; subst hv3; clear ho3 hb3))
          go_loopw [14] (fun i wr => ∃ k : Nat, k ≤ n ∧ i = .int .i64 (k : Int) ∧ Hid (Below w.heap.size w wr) ∧ Hid (OwnL SAcc.cells 25 4 wr w.heap.size (.slice A3 n c3) (upto (portM id to) l k))) (fun i _ => n - (intOf i).toNat)
          case atStart => exact ⟨0, Nat.zero_le _, rfl, HB3, HO3⟩
          case round =>
            obtain ⟨k, hk, rfl, HB, HO⟩ := hrel
            clear HB3 HO3
            by_cases hlt : k < n
            · have hkl : k < l.length := by rw [← HN.out]; exact hlt
              have hku : k < (upto (portM id to) l k).length := by rw [upto_len]; exact hkl
              obtain ⟨g, c3', he, hg1, hg2, hcells⟩ := SAcc.oreads HO.out (by omega)
              obtain ⟨rfl, rfl⟩ : A3 = some ⟨g, 0, none⟩ ∧ c3 = c3' := by injection he with e1 e2 e3; exact ⟨e1, e3⟩
              obtain ⟨⟨g0, g1, g2, g3⟩, ⟨f0, f1, f2, f3⟩⟩ := hcells k hku
              have hux : (upto (portM id to) l k).getD k SAcc.zero = l.getD k SAcc.zero := by rw [SAcc.at (x := SAcc.zero) hku, upto_at _ _ _ hkl, SAcc.at (x := SAcc.zero) hkl]
              rw [hux] at g0 g1 g2 g3
              have HSU : Hid (upto (portM id to) l (k + 1) = (upto (portM id to) l k).set k ((portM id to) (l.getD k SAcc.zero))) := Lib.hid (by rw [upto_succ _ _ _ hkl, SAcc.at (x := SAcc.zero) hkl])
              have HSA : Hid ((portM id to) (l.getD k SAcc.zero) = l.getD k SAcc.zero → upto (portM id to) l (k + 1) = upto (portM id to) l k) := Lib.hid (fun h => upto_same _ _ _ hkl (by rw [← SAcc.at (x := SAcc.zero) hkl]; exact h))
              have HEQ : Hid (∀ h : k < (upto (portM id to) l k).length, (upto (portM id to) l k)[k]'h = l.getD k SAcc.zero) := Lib.hid (fun h => by rw [← hux, SAcc.at (x := SAcc.zero) hku])
              have HKU := Lib.hid hku
              generalize l.getD k SAcc.zero = x at *
              clear hkl hku hcells he hux
              by_cases hid : x.id = id
              · have HFX : Hid ((portM id to) x = { x with member := to }) := Lib.hid (by show (if (x.id == id) = true then _ else _) = _; rw [if_pos (beq_iff_eq.2 hid)])
                have HO5 := Lib.hid (OwnL.setAt lay_Acc.len HO.out k 1 HKU.out (show 1 < 4 by omega) { x with member := to } (.int .i64 (to)) (by rw [HEQ.out HKU.out]; rfl))
                rw [← HFX.out, ← HSU.out] at HO5
                have HB5 := Lib.hid (HB.out.setCell (p := ⟨g, k * 4 + 1, none⟩) hg1 (.int .i64 (to)))
                have hb : (x.id == id) = true := beq_iff_eq.2 hid
                clear hid
                go_wp2
                go_roundw
                case rel => exact ⟨k + 1, by omega, by go_num, HB5, HO5⟩
                case measure => simp [intOf]; omega
              · have hb : (x.id == id) = false := beq_eq_false_iff_ne.2 hid
                have HFX : Hid (upto (portM id to) l (k + 1) = upto (portM id to) l k) := Lib.hid (HSA.out (by show (if (x.id == id) = true then _ else _) = _; rw [if_neg (by rw [hb]; simp)]))
                rw [← HFX.out] at HO
                clear hid
                go_wp2
                go_roundw
                case rel => exact ⟨k + 1, by omega, by go_num, HB, HO⟩
                case measure => simp [intOf]; omega
            · obtain rfl : k = n := by omega
              rw [show upto (portM id to) l k = l.map (portM id to) from by rw [HN.out]; exact upto_all _ _] at HO
              go_wp2
              go_ret2
              exact ⟨_, by rw [HF.out]; rfl, by rw [HF.out]; exact HO.out, HB.out⟩
        · rw [if_neg h2] at hO
          have e2 : (s != 1) = true := bne_iff_ne.2 h2
          clear h2
          have HF : Hid (O = ([], 7)) := Lib.hid hO
          clear hO
          go_enter Try.func23, Try.ntmps23
          go_wp2_with (first
            | (go_at_call 29; (with_reducible refine CM.out.mono ?_); rintro r w1 ⟨rfl, hb1⟩; have HBW := Lib.hid hb1; clear hb1)
            | (go_at_call 46; (with_reducible refine (CF.out _ HBW.out).mono ?_); rintro r w2 ⟨rfl, hb2⟩; have HB2 := Lib.hid (HBW.out.trans (hb2.mono HBW.out.size)); clear hb2 HBW; have HBW := Lib.hid (alloc_b HB2.out (Nat.le_refl _) (.cells #[.int .i64 x.id, .int .i64 x.member, .int .i64 x.kind, .int .i64 x.limit] 25)); have HX2 := Lib.hid (Rec.new w2 25 x.cells w2.heap.size rfl); obtain ⟨⟨k0, k1, k2, k3⟩, _⟩ := SAcc.recs HX2.out; dsimp only [SAcc.cells] at k0 k1 k2 k3)
            | (go_at_call 44; (with_reducible refine (CS.out _ HBW.out).mono ?_); rintro r wq ⟨rfl, hwq⟩; obtain rfl : w2.alloc (.cells #[.int .i64 x.id, .int .i64 x.member, .int .i64 x.kind, .int .i64 x.limit] 25) = wq := hwq))
          go_ret2
          exact ⟨_, by rw [HF.out]; rfl, by rw [HF.out]; exact ownL_nil _ _, HBW.out⟩
      · rw [if_neg h1] at hO
        have e1 : (x.kind != 2) = true := bne_iff_ne.2 h1
        clear h1
        have HF : Hid (O = ([], 8)) := Lib.hid hO
        clear hO
        go_enter Try.func23, Try.ntmps23
        go_wp2_with (first
          | (go_at_call 29; (with_reducible refine CM.out.mono ?_); rintro r w1 ⟨rfl, hb1⟩; have HBW := Lib.hid hb1; clear hb1)
          | (go_at_call 46; (with_reducible refine (CF.out _ HBW.out).mono ?_); rintro r w2 ⟨rfl, hb2⟩; have HB2 := Lib.hid (HBW.out.trans (hb2.mono HBW.out.size)); clear hb2 HBW; have HBW := Lib.hid (alloc_b HB2.out (Nat.le_refl _) (.cells #[.int .i64 x.id, .int .i64 x.member, .int .i64 x.kind, .int .i64 x.limit] 25)); have HX2 := Lib.hid (Rec.new w2 25 x.cells w2.heap.size rfl); obtain ⟨⟨k0, k1, k2, k3⟩, _⟩ := SAcc.recs HX2.out; dsimp only [SAcc.cells] at k0 k1 k2 k3)
          | (go_at_call 44; (with_reducible refine (CS.out _ HBW.out).mono ?_); rintro r wq ⟨rfl, hwq⟩; obtain rfl : w2.alloc (.cells #[.int .i64 x.id, .int .i64 x.member, .int .i64 x.kind, .int .i64 x.limit] 25) = wq := hwq))
        go_ret2
        exact ⟨_, by rw [HF.out]; rfl, by rw [HF.out]; exact ownL_nil _ _, HBW.out⟩
end Go.Proofs.Ytjlhmiajklddiaa
