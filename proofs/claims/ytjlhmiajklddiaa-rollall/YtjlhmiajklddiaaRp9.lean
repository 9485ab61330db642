/-
  The walks of package roll's Enrol, Turn, Limit, Port, Open.
-/
import Derived.Test.YtjlhmiajklddiaaRq3
import Derived.Test.YtjlhmiajklddiaaRq7
namespace Go.Proofs.Ytjlhmiajklddiaa
set_option maxRecDepth 8000
open Go Go.RowKit
set_option linter.unusedVariables false

theorem inM_not (id : Int) : (decide (id < 1) || decide (12 < id)) = !inM id := by
  unfold inM
  rw [Bool.eq_iff_iff]
  simp
theorem accsOk_one (x : SAcc) : accsOk [x] = accR x := by
  unfold accsOk allTo accAt
  rw [show List.range ([x] : List SAcc).length = [0] from rfl]
  rw [List.all_cons, List.all_nil, accB_eq, show allTo 0 (fun k => !(accH (([x] : List SAcc).getD 0 SAcc.zero) (([x] : List SAcc).getD k SAcc.zero))) = true from rfl]
  rw [show lastA [x] 0 = 0 from rfl, show ([x] : List SAcc).getD 0 SAcc.zero = x from rfl]
  unfold accR
  rw [Bool.eq_iff_iff]
  simp
  omega
theorem kind_accs {l : List SAcc} (h : accsOk l = true) (i : Nat) (hi : i < l.length) : (l.getD i SAcc.zero).kind = 1 ∨ (l.getD i SAcc.zero).kind = 2 := by
  have := allTo_at h (i := i) hi
  unfold accAt at this
  rw [Bool.and_eq_true] at this
  have := this.1
  rw [accB_eq] at this
  unfold accR at this
  generalize l.getD i SAcc.zero = x at this ⊢
  simp at this
  omega
set_option maxRecDepth 8000 in
set_option maxHeartbeats 8000000 in
theorem penrol_any (A : Option Addr) (l : List SMember) (n c : Nat) (id : Int) (w : World) (hn : n = l.length) (hI : MemL SMember.cells 2 w A l) (hA : c = 0 ∨ ∃ b off, A = some ⟨b, off, none⟩) (hA0 : A = none → c = 0) (hc : n ≤ c) (hc2 : c ≤ 9223372036854775807) (hl : n ≤ 1000000000000) : Calls Try.prog 6 #[.slice A n c, .int .i64 id] w (LRes SMember.cells 39 2 w (enrolV l id)) := by
  have CM := Lib.hid (pmembers_any A l n c w hn hI (by omega))
  have CI := Lib.hid (isMember_any id)
  have CS := Lib.hid (fun (hr : Rise SMember.id l) W (hW : Below w.heap.size w W) => memberplace_any A l n c id W hn (hI.below hW (fun _ => rfl)) hl hr)
  have CW := Lib.hid (fun W (hW : Below w.heap.size w W) => withMember_any A l n c (plc SMember.id l id) ⟨id, 1⟩ W hn (hI.below hW (fun _ => rfl)) hA hA0 hc hc2 hl (by rw [hn]; exact plc_le))
  have CN := Lib.hid (next_any 0 1)
  have en : nxt 0 1 = 1 := by decide
  have eo : nok 0 1 = true := by decide
  rw [en, eo] at CN
  have HIN : Hid (insMem l ⟨id, 1⟩ = l.take (plc SMember.id l id) ++ ⟨id, 1⟩ :: l.drop (plc SMember.id l id)) := Lib.hid (insMem_eq l ⟨id, 1⟩)
  have HPN : plc SMember.id l id ≤ n := by rw [hn]; exact plc_le
  obtain ⟨O, hO⟩ : ∃ O, O = enrolV l id := ⟨_, rfl⟩
  rw [← hO]
  unfold enrolV at hO
  rw [inM_not] at hO
  clear hn hI hA hA0 hc2 en eo
  cases hmo : membersOk l with
  | false =>
    rw [hmo] at hO CM
    have HF : Hid (O = ([], 1)) := Lib.hid hO
    clear hO hmo
    go_enter Try.func6, Try.ntmps6
    go_wp2_with (first
      | (go_at_call 17; (with_reducible refine (CM.out).mono ?_); rintro r w1 ⟨rfl, hb⟩; have HB1 := Lib.hid (hb); clear hb))
    go_ret2
    exact ⟨_, by rw [HF.out]; rfl, by rw [HF.out]; exact ownL_nil _ _, HB1.out⟩
  | true =>
    rw [hmo] at hO CM
    have CP := Lib.hid (CS.out (rise_members hmo))
    cases hin : inM id with
    | false =>
      rw [hin] at hO CI
      have HF : Hid (O = ([], 1)) := Lib.hid hO
      clear hO hmo hin CS
      go_enter Try.func6, Try.ntmps6
      go_wp2_with (first
        | (go_at_call 17; (with_reducible refine (CM.out).mono ?_); rintro r w1 ⟨rfl, hb⟩; have HB1 := Lib.hid (hb); clear hb)
        | (go_at_call 33; (with_reducible refine (CI.out _).mono ?_); rintro r wq ⟨rfl, hwq⟩; subst hwq))
      go_ret2
      exact ⟨_, by rw [HF.out]; rfl, by rw [HF.out]; exact ownL_nil _ _, HB1.out⟩
    | true =>
      rw [hin] at hO CI
      cases hia : isAt SMember.id l id with
      | true =>
        obtain ⟨_, _, _, hne⟩ := memS_at hmo hia
        rw [if_neg (by simp), if_neg hne] at hO
        rw [hia] at CP
        have HF : Hid (O = ([], 4)) := Lib.hid hO
        clear hO hmo hin CS hia hne
        go_enter Try.func6, Try.ntmps6
        go_wp2_with (first
          | (go_at_call 17; (with_reducible refine (CM.out).mono ?_); rintro r w1 ⟨rfl, hb⟩; have HB1 := Lib.hid (hb); clear hb)
          | (go_at_call 33; (with_reducible refine (CI.out _).mono ?_); rintro r wq ⟨rfl, hwq⟩; subst hwq)
          | (go_at_call 34; (with_reducible refine (CP.out _ HB1.out).mono ?_); rintro r w2 ⟨rfl, hb⟩; have HB2 := Lib.hid (HB1.out.trans (hb.mono HB1.out.size)); clear hb))
        go_ret2
        exact ⟨_, by rw [HF.out]; rfl, by rw [HF.out]; exact ownL_nil _ _, HB2.out⟩
      | false =>
        rw [if_neg (by simp), if_pos (memS_no hia), HIN.out] at hO
        rw [hia] at CP
        have HF := Lib.hid hO
        generalize plc SMember.id l id = p at *
        dsimp only [SMember.v] at CW
        clear hO hmo hin CS hia
        go_enter Try.func6, Try.ntmps6
        go_wp2_with (first
          | (go_at_call 17; (with_reducible refine (CM.out).mono ?_); rintro r w1 ⟨rfl, hb⟩; have HB1 := Lib.hid (hb); clear hb)
          | (go_at_call 33; (with_reducible refine (CI.out _).mono ?_); rintro r wq ⟨rfl, hwq⟩; subst hwq)
          | (go_at_call 34; (with_reducible refine (CP.out _ HB1.out).mono ?_); rintro r w2 ⟨rfl, hb⟩; have HB2 := Lib.hid (HB1.out.trans (hb.mono HB1.out.size)); clear hb)
          | (go_at_call 35; (with_reducible refine (CN.out _).mono ?_); rintro r wq ⟨rfl, hwq⟩; subst hwq)
          | (go_at_call 36; (with_reducible refine (CW.out _ HB2.out).mono ?_); rintro r w3 ⟨v3, rfl, ho, hb⟩; have HO3 := Lib.hid (OwnL.lower ho HB2.out.size); have HB3 := Lib.hid (HB2.out.trans (hb.mono HB2.out.size)); clear ho hb))
        go_ret2
        exact ⟨_, by rw [HF.out]; rfl, by rw [HF.out]; exact HO3.out, HB3.out⟩
set_option maxRecDepth 8000 in
set_option maxHeartbeats 8000000 in
theorem pturn_any (A : Option Addr) (l : List SMember) (n c : Nat) (id kind : Int) (w : World) (hn : n = l.length) (hI : MemL SMember.cells 2 w A l) (hA : c = 0 ∨ ∃ b off, A = some ⟨b, off, none⟩) (hA0 : A = none → c = 0) (hc : n ≤ c) (hc2 : c ≤ 9223372036854775807) (hl : n ≤ 1000000000000) : Calls Try.prog 10 #[.slice A n c, .int .i64 id, .int .i64 kind] w (LRes SMember.cells 39 2 w (turnV l id kind)) := by
  have CM := Lib.hid (pmembers_any A l n c w hn hI (by omega))
  have CS := Lib.hid (fun (hr : Rise SMember.id l) W (hW : Below w.heap.size w W) => memberplace_any A l n c id W hn (hI.below hW (fun _ => rfl)) hl hr)
  have CK := Lib.hid (fun W (hW : Below w.heap.size w W) => cloneMember_any A l n c W hn (hI.below hW (fun _ => rfl)) hA0 hl)
  have HI := Lib.hid hI
  have HN := Lib.hid hn
  obtain ⟨O, hO⟩ : ∃ O, O = turnV l id kind := ⟨_, rfl⟩
  rw [← hO]
  unfold turnV at hO
  clear hn hI hA hA0 hc2
  cases hmo : membersOk l with
  | false =>
    rw [hmo] at hO CM
    have HF : Hid (O = ([], 1)) := Lib.hid hO
    clear hO hmo
    go_enter Try.func10, Try.ntmps10
    go_wp2_with (first
      | (go_at_call 17; (with_reducible refine (CM.out).mono ?_); rintro r w1 ⟨rfl, hb⟩; have HB1 := Lib.hid (hb); clear hb))
    go_ret2
    exact ⟨_, by rw [HF.out]; rfl, by rw [HF.out]; exact ownL_nil _ _, HB1.out⟩
  | true =>
    rw [hmo, if_pos rfl] at hO
    rw [hmo] at CM
    have CP := Lib.hid (CS.out (rise_members hmo))
    cases hia : isAt SMember.id l id with
    | false =>
      rw [if_pos (memS_no hia)] at hO
      rw [hia] at CP
      have HF : Hid (O = ([], 3)) := Lib.hid hO
      clear hO hmo CS hia
      go_enter Try.func10, Try.ntmps10
      go_wp2_with (first
        | (go_at_call 17; (with_reducible refine (CM.out).mono ?_); rintro r w1 ⟨rfl, hb⟩; have HB1 := Lib.hid (hb); clear hb)
        | (go_at_call 34; (with_reducible refine (CP.out _ HB1.out).mono ?_); rintro r w2 ⟨rfl, hb⟩; have HB2 := Lib.hid (HB1.out.trans (hb.mono HB1.out.size)); clear hb))
      go_ret2
      exact ⟨_, by rw [HF.out]; rfl, by rw [HF.out]; exact ownL_nil _ _, HB2.out⟩
    | true =>
      obtain ⟨hp, hxi, hxs, hne⟩ := memS_at hmo hia
      rw [if_neg hne] at hO
      rw [hia] at CP
      have HMA := Lib.hid (fun f => map_at (f := f) (rise_members hmo) hp (by rw [← SMember.at (x := SMember.zero) hp]; exact hxi))
      rw [← SMember.at (x := SMember.zero) hp] at HMA
      have HRD := Lib.hid (fun W (hW : Below w.heap.size w W) => SMember.reads (HI.out.below hW (fun _ => rfl)) (Nat.lt_of_le_of_lt (Nat.zero_le _) hp))
      obtain ⟨b, off, rfl, _, _⟩ := HRD.out w (Below.refl _ _)
      have HCL : Hid (∀ W, Below w.heap.size w W → W.cell? ⟨b, off + plc SMember.id l id * 2 + 1, none⟩ = some (.int .i64 (l.getD (plc SMember.id l id) SMember.zero).status)) := Lib.hid (fun W hW => by
        obtain ⟨b', off', e, _, hc⟩ := HRD.out W hW
        injection e with e; injection e with e1 e2
        rw [e1, e2]
        exact (hc _ hp).2)
      rw [← hxs] at HCL
      have hpn : plc SMember.id l id < n := by rw [HN.out]; exact hp
      have HL0 : Hid (0 < l.length) := Lib.hid (Nat.lt_of_le_of_lt (Nat.zero_le _) hp)
      obtain ⟨p, hpp⟩ : ∃ p, p = plc SMember.id l id := ⟨_, rfl⟩
      rw [← hpp] at hp hxs HMA HCL CP hpn
      obtain ⟨x, hx⟩ : ∃ x, x = l.getD p SMember.zero := ⟨_, rfl⟩
      have HX := Lib.hid hx
      have HP := Lib.hid hp
      rw [← hx] at HMA
      obtain ⟨s, hs⟩ : ∃ s, s = memS l id := ⟨_, rfl⟩
      rw [← hs] at hO HCL
      have CN := Lib.hid (next_any s kind)
      obtain ⟨q, hq⟩ : ∃ q, q = nok s kind := ⟨_, rfl⟩
      obtain ⟨t, ht⟩ : ∃ t, t = nxt s kind := ⟨_, rfl⟩
      rw [← hq, ← ht] at hO CN
      clear hmo hia CS HRD hxi hxs hne hx hpp hs hq ht hp
      cases q with
      | false =>
        have HF : Hid (O = ([], 8)) := Lib.hid hO
        clear hO
        go_enter Try.func10, Try.ntmps10
        go_wp2_with (first
          | (go_at_call 17; (with_reducible refine (CM.out).mono ?_); rintro r w1 ⟨rfl, hb⟩; have HB1 := Lib.hid (hb); clear hb)
          | (go_at_call 34; (with_reducible refine (CP.out _ HB1.out).mono ?_); rintro r w2 ⟨rfl, hb⟩; have HB2 := Lib.hid (HB1.out.trans (hb.mono HB1.out.size)); have hcell := HCL.out _ HB2.out; clear hb)
          | (go_at_call 35; (with_reducible refine (CN.out _).mono ?_); rintro r wq ⟨rfl, hwq⟩; subst hwq))
        go_ret2
        exact ⟨_, by rw [HF.out]; rfl, by rw [HF.out]; exact ownL_nil _ _, HB2.out⟩
      | true =>
        have HF : Hid (O = (l.set p { x with status := t }, 0)) := Lib.hid (by rw [hO, if_pos rfl]; exact congrArg (fun z => (z, (0 : Int))) (HMA.out (fun y => { y with status := t })))
        clear hO
        go_enter Try.func10, Try.ntmps10
        go_wp2_with (first
          | (go_at_call 17; (with_reducible refine (CM.out).mono ?_); rintro r w1 ⟨rfl, hb⟩; have HB1 := Lib.hid (hb); clear hb)
          | (go_at_call 34; (with_reducible refine (CP.out _ HB1.out).mono ?_); rintro r w2 ⟨rfl, hb⟩; have HB2 := Lib.hid (HB1.out.trans (hb.mono HB1.out.size)); have hcell := HCL.out _ HB2.out; clear hb)
          | (go_at_call 35; (with_reducible refine (CN.out _).mono ?_); rintro r wq ⟨rfl, hwq⟩; subst hwq)
          | (go_at_call 42; (with_reducible refine (CK.out _ HB2.out).mono ?_); rintro r w3 ⟨v3, rfl, ho3, hb3⟩; have ho3 := OwnL.lower ho3 HB2.out.size; have HB3 := Lib.hid (HB2.out.trans (hb3.mono HB2.out.size)); obtain ⟨g, c3, hv, hg1, hg2, hcells⟩ := SMember.oreads ho3 HL0.out; rw [← HN.out] at hv; subst hv; obtain ⟨⟨k0, k1⟩, ⟨f0, f1⟩⟩ := hcells p HP.out; have HO5 := Lib.hid (OwnL.setAt lay_Member.len ho3 p 1 HP.out (by omega) { x with status := t } (.int .i64 (t)) (by rw [← SMember.at (x := SMember.zero) HP.out, ← HX.out]; rfl)); have HB5 := Lib.hid (HB3.out.setCell (p := ⟨g, p * 2 + 1, none⟩) hg1 (.int .i64 (t))); clear ho3 hb3 hcells))
        go_ret2
        exact ⟨_, by rw [HF.out]; rfl, by rw [HF.out]; exact HO5.out, HB5.out⟩
set_option maxRecDepth 8000 in
set_option maxHeartbeats 8000000 in
theorem plimit_any (A : Option Addr) (l : List SAcc) (n c : Nat) (id q : Int) (w : World) (hn : n = l.length) (hI : MemL SAcc.cells 4 w A l) (hA : c = 0 ∨ ∃ b off, A = some ⟨b, off, none⟩) (hA0 : A = none → c = 0) (hc : n ≤ c) (hc2 : c ≤ 9223372036854775807) (hl : n ≤ 1000000000000) : Calls Try.prog 8 #[.slice A n c, .int .i64 id, .int .i64 q] w (LRes SAcc.cells 25 4 w (limV l id q)) := by
  have CM := Lib.hid (paccs_any A l n c w hn hI (by omega))
  have CI := Lib.hid (isLimit_any q)
  have CS := Lib.hid (fun (hr : Rise SAcc.id l) W (hW : Below w.heap.size w W) => accplace_any A l n c id W hn (hI.below hW (fun _ => rfl)) hl hr)
  have CK := Lib.hid (fun W (hW : Below w.heap.size w W) => cloneAcc_any A l n c W hn (hI.below hW (fun _ => rfl)) hA0 hl)
  have HN := Lib.hid hn
  obtain ⟨O, hO⟩ : ∃ O, O = limV l id q := ⟨_, rfl⟩
  rw [← hO]
  unfold limV at hO
  clear hn hI hA hA0 hc2
  cases hmo : accsOk l with
  | false =>
    rw [hmo] at hO CM
    have HF : Hid (O = ([], 1)) := Lib.hid hO
    clear hO hmo
    go_enter Try.func8, Try.ntmps8
    go_wp2_with (first
      | (go_at_call 18; (with_reducible refine (CM.out).mono ?_); rintro r w1 ⟨rfl, hb⟩; have HB1 := Lib.hid (hb); clear hb))
    go_ret2
    exact ⟨_, by rw [HF.out]; rfl, by rw [HF.out]; exact ownL_nil _ _, HB1.out⟩
  | true =>
    rw [hmo, if_pos rfl] at hO
    rw [hmo] at CM
    have CP := Lib.hid (CS.out (rise_accs hmo))
    cases hin : inL q with
    | false =>
      rw [hin] at CI
      have HF : Hid (O = ([], 1)) := Lib.hid (by
        unfold inL at hin
        rw [hO]
        by_cases h1 : q < 0
        · rw [if_pos h1]
        · rw [if_neg h1, if_pos (by simp at hin; omega)])
      clear hO hmo hin CS
      go_enter Try.func8, Try.ntmps8
      go_wp2_with (first
        | (go_at_call 18; (with_reducible refine (CM.out).mono ?_); rintro r w1 ⟨rfl, hb⟩; have HB1 := Lib.hid (hb); clear hb)
        | (go_at_call 40; (with_reducible refine (CI.out _).mono ?_); rintro r wq ⟨rfl, hwq⟩; subst hwq))
      go_ret2
      exact ⟨_, by rw [HF.out]; rfl, by rw [HF.out]; exact ownL_nil _ _, HB1.out⟩
    | true =>
      rw [hin] at CI
      have hin2 : ¬ q < 0 ∧ ¬ 1000000000000 < q := by
        unfold inL at hin
        simp at hin
        omega
      rw [if_neg hin2.1, if_neg hin2.2, accF_some] at hO
      cases hia : isAt SAcc.id l id with
      | false =>
        rw [hia] at CP hO
        have HF : Hid (O = ([], 3)) := Lib.hid hO
        clear hO hmo CS hia hin hin2
        go_enter Try.func8, Try.ntmps8
        go_wp2_with (first
          | (go_at_call 18; (with_reducible refine (CM.out).mono ?_); rintro r w1 ⟨rfl, hb⟩; have HB1 := Lib.hid (hb); clear hb)
          | (go_at_call 40; (with_reducible refine (CI.out _).mono ?_); rintro r wq ⟨rfl, hwq⟩; subst hwq)
          | (go_at_call 38; (with_reducible refine (CP.out _ HB1.out).mono ?_); rintro r w2 ⟨rfl, hb⟩; have HB2 := Lib.hid (HB1.out.trans (hb.mono HB1.out.size)); clear hb))
        go_ret2
        exact ⟨_, by rw [HF.out]; rfl, by rw [HF.out]; exact ownL_nil _ _, HB2.out⟩
      | true =>
        rw [hia] at CP hO
        obtain ⟨hp, hxi, hxs⟩ := accF_at hmo hia
        have HMA := Lib.hid (fun f => map_at (f := f) (rise_accs hmo) hp (by rw [← SAcc.at (x := SAcc.zero) hp]; exact hxi))
        rw [← SAcc.at (x := SAcc.zero) hp] at HMA
        have hpn : plc SAcc.id l id < n := by rw [HN.out]; exact hp
        have HL0 : Hid (0 < l.length) := Lib.hid (Nat.lt_of_le_of_lt (Nat.zero_le _) hp)
        obtain ⟨p, hpp⟩ : ∃ p, p = plc SAcc.id l id := ⟨_, rfl⟩
        rw [← hpp] at hp HMA CP hpn
        obtain ⟨x, hx⟩ : ∃ x, x = l.getD p SAcc.zero := ⟨_, rfl⟩
        have HX := Lib.hid hx
        have HP := Lib.hid hp
        rw [← hx] at HMA
        have HF : Hid (O = (l.set p { x with limit := q }, 0)) := Lib.hid (by rw [hO, if_pos rfl]; exact congrArg (fun z => (z, (0 : Int))) (HMA.out (fun y => { y with limit := q })))
        clear hO hmo hia CS hxi hxs hx hpp hp hin hin2
        go_enter Try.func8, Try.ntmps8
        go_wp2_with (first
          | (go_at_call 18; (with_reducible refine (CM.out).mono ?_); rintro r w1 ⟨rfl, hb⟩; have HB1 := Lib.hid (hb); clear hb)
          | (go_at_call 40; (with_reducible refine (CI.out _).mono ?_); rintro r wq ⟨rfl, hwq⟩; subst hwq)
          | (go_at_call 38; (with_reducible refine (CP.out _ HB1.out).mono ?_); rintro r w2 ⟨rfl, hb⟩; have HB2 := Lib.hid (HB1.out.trans (hb.mono HB1.out.size)); clear hb)
          | (go_at_call 41; (with_reducible refine (CK.out _ HB2.out).mono ?_); rintro r w3 ⟨v3, rfl, ho3, hb3⟩; have ho3 := OwnL.lower ho3 HB2.out.size; have HB3 := Lib.hid (HB2.out.trans (hb3.mono HB2.out.size)); obtain ⟨g, c3, hv, hg1, hg2, hcells⟩ := SAcc.oreads ho3 HL0.out; rw [← HN.out] at hv; subst hv; obtain ⟨⟨k0, k1, k2, k3⟩, ⟨f0, f1, f2, f3⟩⟩ := hcells p HP.out; have HO5 := Lib.hid (OwnL.setAt lay_Acc.len ho3 p 3 HP.out (by omega) { x with limit := q } (.int .i64 (q)) (by rw [← SAcc.at (x := SAcc.zero) HP.out, ← HX.out]; rfl)); have HB5 := Lib.hid (HB3.out.setCell (p := ⟨g, p * 4 + 3, none⟩) hg1 (.int .i64 (q))); clear ho3 hb3 hcells))
        go_ret2
        exact ⟨_, by rw [HF.out]; rfl, by rw [HF.out]; exact HO5.out, HB5.out⟩
theorem rollOk_parts {m : List SMember} {l : List SAcc} (h : rollOk m l = true) : membersOk m = true ∧ accsOk l = true := by
  unfold rollOk at h
  rw [Bool.and_eq_true, Bool.and_eq_true] at h
  exact ⟨h.1, h.2.1⟩
set_option maxRecDepth 8000 in
set_option maxHeartbeats 16000000 in
theorem pport_any (B A : Option Addr) (m : List SMember) (l : List SAcc) (n' c' n c : Nat) (id to : Int) (w : World) (hm : n' = m.length) (hn : n = l.length) (hM : MemL SMember.cells 2 w B m) (hI : MemL SAcc.cells 4 w A l) (hA : c = 0 ∨ ∃ b off, A = some ⟨b, off, none⟩) (hA0 : A = none → c = 0) (hc : n ≤ c) (hc2 : c ≤ 9223372036854775807) (hml : n' ≤ 1000000000000) (hl : n ≤ 1000000000000) : Calls Try.prog 9 #[.slice B n' c', .slice A n c, .int .i64 id, .int .i64 to] w (LRes SAcc.cells 25 4 w (portV m l id to)) := by
  have CM := Lib.hid (proll_any B A m l n' c' n c w hm hn hM hI hml hl)
  have CS := Lib.hid (fun (hr : Rise SAcc.id l) W (hW : Below w.heap.size w W) => accplace_any A l n c id W hn (hI.below hW (fun _ => rfl)) hl hr)
  have CT := Lib.hid (fun W (hW : Below w.heap.size w W) => pstatus_any B m n' c' to W hm (hM.below hW (fun _ => rfl)) hml)
  have CK := Lib.hid (fun W (hW : Below w.heap.size w W) => cloneAcc_any A l n c W hn (hI.below hW (fun _ => rfl)) hA0 hl)
  have HN := Lib.hid hn
  have HI := Lib.hid hI
  obtain ⟨O, hO⟩ : ∃ O, O = portV m l id to := ⟨_, rfl⟩
  rw [← hO]
  unfold portV at hO
  clear hn hI hm hM hA hA0 hc2
  cases hro : rollOk m l with
  | false =>
    rw [hro] at hO CM
    have HF : Hid (O = ([], 1)) := Lib.hid hO
    clear hO hro
    go_enter Try.func9, Try.ntmps9
    go_wp2_with (first
      | (go_at_call 16; (with_reducible refine (CM.out).mono ?_); rintro r w1 ⟨rfl, hb⟩; have HB1 := Lib.hid (hb); clear hb))
    go_ret2
    exact ⟨_, by rw [HF.out]; rfl, by rw [HF.out]; exact ownL_nil _ _, HB1.out⟩
  | true =>
    obtain ⟨hmm, hmo⟩ := rollOk_parts hro
    rw [hro, if_pos rfl] at hO
    rw [hro] at CM
    have CP := Lib.hid (CS.out (rise_accs hmo))
    have est : statV m to = memS m to := by unfold statV; rw [hmm]; rfl
    rw [est] at CT
    obtain ⟨s, hs⟩ : ∃ s, s = memS m to := ⟨_, rfl⟩
    rw [← hs] at hO CT
    clear hs est hro hmm
    rw [accF_some] at hO
    cases hia : isAt SAcc.id l id with
    | false =>
      rw [hia] at CP hO
      have HF : Hid (O = ([], 3)) := Lib.hid hO
      clear hO hmo CS hia
      go_enter Try.func9, Try.ntmps9
      go_wp2_with (first
        | (go_at_call 16; (with_reducible refine (CM.out).mono ?_); rintro r w1 ⟨rfl, hb⟩; have HB1 := Lib.hid (hb); clear hb)
        | (go_at_call 38; (with_reducible refine (CP.out _ HB1.out).mono ?_); rintro r w2 ⟨rfl, hb⟩; have HB2 := Lib.hid (HB1.out.trans (hb.mono HB1.out.size)); clear hb)
        | (go_at_call 15; (with_reducible refine (CT.out _ HB2.out).mono ?_); rintro r w3 ⟨rfl, hb⟩; have HB4 := Lib.hid (HB2.out.trans (hb.mono HB2.out.size)); clear hb))
      go_ret2
      exact ⟨_, by rw [HF.out]; rfl, by rw [HF.out]; exact ownL_nil _ _, HB4.out⟩
    | true =>
      rw [hia, if_pos rfl] at hO
      rw [hia] at CP
      obtain ⟨hp, hxi, hxs⟩ := accF_at hmo hia
      have HMA := Lib.hid (fun f => map_at (f := f) (rise_accs hmo) hp (by rw [← SAcc.at (x := SAcc.zero) hp]; exact hxi))
      rw [← SAcc.at (x := SAcc.zero) hp] at HMA
      have hpn : plc SAcc.id l id < n := by rw [HN.out]; exact hp
      have HL0 : Hid (0 < l.length) := Lib.hid (Nat.lt_of_le_of_lt (Nat.zero_le _) hp)
      rw [hxs] at hO
      have hkd := kind_accs hmo _ hp
      have HRD := Lib.hid (fun W (hW : Below w.heap.size w W) => SAcc.reads (HI.out.below hW (fun _ => rfl)) (Nat.lt_of_le_of_lt (Nat.zero_le _) hp))
      obtain ⟨b, off, rfl, _, _⟩ := HRD.out w (Below.refl _ _)
      have HCL : Hid (∀ W, Below w.heap.size w W → W.cell? ⟨b, off + plc SAcc.id l id * 4 + 2, none⟩ = some (.int .i64 (l.getD (plc SAcc.id l id) SAcc.zero).kind)) := Lib.hid (fun W hW => by
        obtain ⟨b', off', e, _, hc⟩ := HRD.out W hW
        injection e with e; injection e with e1 e2
        rw [e1, e2]
        exact (hc _ hp).2.2.1)
      dsimp only [Option.getD] at hO
      obtain ⟨p, hpp⟩ : ∃ p, p = plc SAcc.id l id := ⟨_, rfl⟩
      rw [← hpp] at hp HMA CP hpn
      obtain ⟨x, hx⟩ : ∃ x, x = l.getD p SAcc.zero := ⟨_, rfl⟩
      have HX := Lib.hid hx
      have HP := Lib.hid hp
      rw [← hx] at HMA
      rw [← hpp] at hkd HCL hO
      rw [← hx] at hkd HCL hO
      clear hmo hia CS HRD hxi hxs hx hpp hp
      by_cases h0 : s = 0
      · rw [if_pos h0] at hO
        have HF : Hid (O = ([], 3)) := Lib.hid hO
        subst h0
        clear hO hkd
        go_enter Try.func9, Try.ntmps9
        go_wp2_with (first
          | (go_at_call 16; (with_reducible refine (CM.out).mono ?_); rintro r w1 ⟨rfl, hb⟩; have HB1 := Lib.hid (hb); clear hb)
          | (go_at_call 38; (with_reducible refine (CP.out _ HB1.out).mono ?_); rintro r w2 ⟨rfl, hb⟩; have HB2 := Lib.hid (HB1.out.trans (hb.mono HB1.out.size)); clear hb)
          | (go_at_call 15; (with_reducible refine (CT.out _ HB2.out).mono ?_); rintro r w3 ⟨rfl, hb⟩; have HB4 := Lib.hid (HB2.out.trans (hb.mono HB2.out.size)); clear hb))
        go_ret2
        exact ⟨_, by rw [HF.out]; rfl, by rw [HF.out]; exact ownL_nil _ _, HB4.out⟩
      rw [if_neg h0] at hO
      have e0 : (s == 0) = false := beq_eq_false_iff_ne.2 h0
      rcases hkd with hk | hk
      · rw [if_neg (show ¬ x.kind = 2 by omega)] at hO
        rw [hk] at HCL
        have HF : Hid (O = ([], 8)) := Lib.hid hO
        clear hO hk h0
        go_enter Try.func9, Try.ntmps9
        go_wp2_with (first
          | (go_at_call 16; (with_reducible refine (CM.out).mono ?_); rintro r w1 ⟨rfl, hb⟩; have HB1 := Lib.hid (hb); clear hb)
          | (go_at_call 38; (with_reducible refine (CP.out _ HB1.out).mono ?_); rintro r w2 ⟨rfl, hb⟩; have HB2 := Lib.hid (HB1.out.trans (hb.mono HB1.out.size)); clear hb)
          | (go_at_call 15; (with_reducible refine (CT.out _ HB2.out).mono ?_); rintro r w3 ⟨rfl, hb⟩; have HB4 := Lib.hid (HB2.out.trans (hb.mono HB2.out.size)); have hcell := HCL.out _ HB4.out; clear hb))
        go_ret2
        exact ⟨_, by rw [HF.out]; rfl, by rw [HF.out]; exact ownL_nil _ _, HB4.out⟩
      · rw [if_pos (show x.kind = 2 from hk)] at hO
        rw [hk] at HCL
        by_cases h1 : s = 1
        · rw [if_pos h1] at hO
          have HF : Hid (O = (l.set p { x with member := to }, 0)) := Lib.hid (by rw [hO]; exact congrArg (fun z => (z, (0 : Int))) (HMA.out (fun y => { y with member := to })))
          subst h1
          clear hO hk h0 e0
          go_enter Try.func9, Try.ntmps9
          go_wp2_with (first
            | (go_at_call 16; (with_reducible refine (CM.out).mono ?_); rintro r w1 ⟨rfl, hb⟩; have HB1 := Lib.hid (hb); clear hb)
            | (go_at_call 38; (with_reducible refine (CP.out _ HB1.out).mono ?_); rintro r w2 ⟨rfl, hb⟩; have HB2 := Lib.hid (HB1.out.trans (hb.mono HB1.out.size)); clear hb)
            | (go_at_call 15; (with_reducible refine (CT.out _ HB2.out).mono ?_); rintro r w3 ⟨rfl, hb⟩; have HB4 := Lib.hid (HB2.out.trans (hb.mono HB2.out.size)); have hcell := HCL.out _ HB4.out; clear hb)
            | (go_at_call 41; (with_reducible refine (CK.out _ HB4.out).mono ?_); rintro r w5 ⟨v3, rfl, ho3, hb3⟩; have ho3 := OwnL.lower ho3 HB4.out.size; have HB3 := Lib.hid (HB4.out.trans (hb3.mono HB4.out.size)); obtain ⟨g, c3, hv, hg1, hg2, hcells⟩ := SAcc.oreads ho3 HL0.out; rw [← HN.out] at hv; subst hv; obtain ⟨⟨k0, k1, k2, k3⟩, ⟨f0, f1, f2, f3⟩⟩ := hcells p HP.out; have HO5 := Lib.hid (OwnL.setAt lay_Acc.len ho3 p 1 HP.out (by omega) { x with member := to } (.int .i64 (to)) (by rw [← SAcc.at (x := SAcc.zero) HP.out, ← HX.out]; rfl)); have HB5 := Lib.hid (HB3.out.setCell (p := ⟨g, p * 4 + 1, none⟩) hg1 (.int .i64 (to))); clear ho3 hb3 hcells))
          go_ret2
          exact ⟨_, by rw [HF.out]; rfl, by rw [HF.out]; exact HO5.out, HB5.out⟩
        · rw [if_neg h1] at hO
          have HF : Hid (O = ([], 7)) := Lib.hid hO
          have e1 : (s != 1) = true := bne_iff_ne.2 h1
          clear hO hk h0 h1
          go_enter Try.func9, Try.ntmps9
          go_wp2_with (first
            | (go_at_call 16; (with_reducible refine (CM.out).mono ?_); rintro r w1 ⟨rfl, hb⟩; have HB1 := Lib.hid (hb); clear hb)
            | (go_at_call 38; (with_reducible refine (CP.out _ HB1.out).mono ?_); rintro r w2 ⟨rfl, hb⟩; have HB2 := Lib.hid (HB1.out.trans (hb.mono HB1.out.size)); clear hb)
            | (go_at_call 15; (with_reducible refine (CT.out _ HB2.out).mono ?_); rintro r w3 ⟨rfl, hb⟩; have HB4 := Lib.hid (HB2.out.trans (hb.mono HB2.out.size)); have hcell := HCL.out _ HB4.out; clear hb))
          go_ret2
          exact ⟨_, by rw [HF.out]; rfl, by rw [HF.out]; exact ownL_nil _ _, HB4.out⟩
set_option maxRecDepth 8000 in
set_option maxHeartbeats 16000000 in
theorem popen_any (B A : Option Addr) (m : List SMember) (l : List SAcc) (x : SAcc) (n' c' n c : Nat) (w : World) (hm : n' = m.length) (hn : n = l.length) (hM : MemL SMember.cells 2 w B m) (hI : MemL SAcc.cells 4 w A l) (hA : c = 0 ∨ ∃ b off, A = some ⟨b, off, none⟩) (hA0 : A = none → c = 0) (hc : n ≤ c) (hc2 : c ≤ 9223372036854775807) (hml : n' ≤ 1000000000000) (hl : n ≤ 1000000000000) : Calls Try.prog 7 #[.slice B n' c', .slice A n c, x.v] w (LRes SAcc.cells 25 4 w (openV m l x)) := by
  have hb0 : Below w.heap.size w (w.alloc (.cells x.cells.toArray 25)) := (Below.refl _ _).alloc (Nat.le_refl _) _
  have HR : Hid (Rec (w.alloc (.cells x.cells.toArray 25)) w.heap.size 25 x.cells) := Lib.hid (Rec.new _ _ _ _ rfl)
  have HB0 := Lib.hid hb0
  have CM := Lib.hid (proll_any B A m l n' c' n c _ hm hn (hM.below hb0 (fun _ => rfl)) (hI.below hb0 (fun _ => rfl)) hml hl)
  have CX := Lib.hid (rightAcc_any x)
  have CS := Lib.hid (fun (hr : Rise SAcc.id l) W (hW : Below w.heap.size w W) => accplace_any A l n c x.id W hn (hI.below hW (fun _ => rfl)) hl hr)
  have CT := Lib.hid (fun W (hW : Below w.heap.size w W) => pstatus_any B m n' c' x.member W hm (hM.below hW (fun _ => rfl)) hml)
  have CH := Lib.hid (fun W (hW : Below w.heap.size w W) => phouse_any A l n c x.member W hn (hI.below hW (fun _ => rfl)) (by omega))
  have CW := Lib.hid (fun W (hW : Below w.heap.size w W) => withAcc_any A l n c (plc SAcc.id l x.id) x W hn (hI.below hW (fun _ => rfl)) hA hA0 hc hc2 hl (by rw [hn]; exact plc_le))
  have HIN : Hid (insAcc l x = l.take (plc SAcc.id l x.id) ++ x :: l.drop (plc SAcc.id l x.id)) := Lib.hid (insAcc_eq l x)
  have HPN : plc SAcc.id l x.id ≤ n := by rw [hn]; exact plc_le
  obtain ⟨O, hO⟩ : ∃ O, O = openV m l x := ⟨_, rfl⟩
  rw [← hO]
  unfold openV at hO
  rw [accsOk_one] at hO
  unfold SAcc.v at CX CW ⊢
  dsimp only [SAcc.cells] at CM HB0 HR
  clear hn hI hm hM hA hA0 hc2 hb0
  cases hro : rollOk m l with
  | false =>
    rw [hro] at hO CM
    have HF : Hid (O = ([], 1)) := Lib.hid hO
    clear hO hro
    go_enter Try.func7, Try.ntmps7
    go_wp2_with (first
      | (go_at_call 16; (with_reducible refine CM.out.mono ?_); rintro r w1 ⟨rfl, hb⟩; have HB1 := Lib.hid (HB0.out.trans (hb.mono (by simp))); have HR1 := Lib.hid (HR.out.keep hb); obtain ⟨⟨d0, d1, d2, d3⟩, _⟩ := SAcc.recs HR1.out; clear hb))
    go_ret2
    exact ⟨_, by rw [HF.out]; rfl, by rw [HF.out]; exact ownL_nil _ _, HB1.out⟩
  | true =>
    obtain ⟨hmm, hmo⟩ := rollOk_parts hro
    rw [hro, if_pos rfl] at hO
    rw [hro] at CM
    have CP := Lib.hid (CS.out (rise_accs hmo))
    have est : statV m x.member = memS m x.member := by unfold statV; rw [hmm]; rfl
    rw [est] at CT
    obtain ⟨s, hs⟩ : ∃ s, s = memS m x.member := ⟨_, rfl⟩
    rw [← hs] at hO CT
    obtain ⟨r0, hr0⟩ : ∃ r0, r0 = accR x := ⟨_, rfl⟩
    rw [← hr0] at hO CX
    obtain ⟨i0, hi0⟩ : ∃ i0, i0 = isAt SAcc.id l x.id := ⟨_, rfl⟩
    rw [accF_some, ← hi0] at hO
    rw [← hi0] at CP
    obtain ⟨z, hz⟩ : ∃ z, z = houV l x.member := ⟨_, rfl⟩
    rw [← hz] at hO CH
    rw [HIN.out] at hO
    obtain ⟨p, hp⟩ : ∃ p, p = plc SAcc.id l x.id := ⟨_, rfl⟩
    rw [← hp] at hO CP CW HPN
    clear hs est hro hmm hmo CS hr0 hi0 hz hp HIN
    cases r0 with
    | false =>
      have HF : Hid (O = ([], 1)) := Lib.hid hO
      clear hO
      go_enter Try.func7, Try.ntmps7
      go_wp2_with (first
        | (go_at_call 16; (with_reducible refine CM.out.mono ?_); rintro r w1 ⟨rfl, hb⟩; have HB1 := Lib.hid (HB0.out.trans (hb.mono (by simp))); have HR1 := Lib.hid (HR.out.keep hb); obtain ⟨⟨d0, d1, d2, d3⟩, _⟩ := SAcc.recs HR1.out; clear hb)
        | (go_at_call 37; (with_reducible refine (CX.out _).mono ?_); rintro r w2 ⟨rfl, hb⟩; have HB2 := Lib.hid (HB1.out.trans (hb.mono HB1.out.size)); have HR2 := Lib.hid (HR1.out.keep hb); clear d0 d1 d2 d3; obtain ⟨⟨d0, d1, d2, d3⟩, _⟩ := SAcc.recs HR2.out; clear hb))
      go_ret2
      exact ⟨_, by rw [HF.out]; rfl, by rw [HF.out]; exact ownL_nil _ _, HB2.out⟩
    | true =>
      rw [if_pos rfl] at hO
      by_cases h0 : s = 0
      · rw [if_pos h0] at hO
        have HF : Hid (O = ([], 3)) := Lib.hid hO
        subst h0
        clear hO
        go_enter Try.func7, Try.ntmps7
        go_wp2_with (first
          | (go_at_call 16; (with_reducible refine CM.out.mono ?_); rintro r w1 ⟨rfl, hb⟩; have HB1 := Lib.hid (HB0.out.trans (hb.mono (by simp))); have HR1 := Lib.hid (HR.out.keep hb); obtain ⟨⟨d0, d1, d2, d3⟩, _⟩ := SAcc.recs HR1.out; clear hb)
          | (go_at_call 37; (with_reducible refine (CX.out _).mono ?_); rintro r w2 ⟨rfl, hb⟩; have HB2 := Lib.hid (HB1.out.trans (hb.mono HB1.out.size)); have HR2 := Lib.hid (HR1.out.keep hb); clear d0 d1 d2 d3; obtain ⟨⟨d0, d1, d2, d3⟩, _⟩ := SAcc.recs HR2.out; clear hb)
          | (go_at_call 38; (with_reducible refine (CP.out _ HB2.out).mono ?_); rintro r w3 ⟨rfl, hb⟩; have HB3 := Lib.hid (HB2.out.trans (hb.mono HB2.out.size)); have HR3 := Lib.hid (HR2.out.keep hb); clear d0 d1 d2 d3; obtain ⟨⟨d0, d1, d2, d3⟩, _⟩ := SAcc.recs HR3.out; clear hb)
          | (go_at_call 15; (with_reducible refine (CT.out _ HB3.out).mono ?_); rintro r w4 ⟨rfl, hb⟩; have HB4 := Lib.hid (HB3.out.trans (hb.mono HB3.out.size)); have HR4 := Lib.hid (HR3.out.keep hb); clear d0 d1 d2 d3; obtain ⟨⟨d0, d1, d2, d3⟩, _⟩ := SAcc.recs HR4.out; clear hb))
        go_ret2
        exact ⟨_, by rw [HF.out]; rfl, by rw [HF.out]; exact ownL_nil _ _, HB4.out⟩
      rw [if_neg h0] at hO
      have e0 : (s == 0) = false := beq_eq_false_iff_ne.2 h0
      by_cases h1 : s = 1
      · rw [if_pos h1] at hO
        subst h1
        clear h0 e0
        cases i0 with
        | true =>
          have HF : Hid (O = ([], 4)) := Lib.hid hO
          clear hO
          go_enter Try.func7, Try.ntmps7
          go_wp2_with (first
            | (go_at_call 16; (with_reducible refine CM.out.mono ?_); rintro r w1 ⟨rfl, hb⟩; have HB1 := Lib.hid (HB0.out.trans (hb.mono (by simp))); have HR1 := Lib.hid (HR.out.keep hb); obtain ⟨⟨d0, d1, d2, d3⟩, _⟩ := SAcc.recs HR1.out; clear hb)
            | (go_at_call 37; (with_reducible refine (CX.out _).mono ?_); rintro r w2 ⟨rfl, hb⟩; have HB2 := Lib.hid (HB1.out.trans (hb.mono HB1.out.size)); have HR2 := Lib.hid (HR1.out.keep hb); clear d0 d1 d2 d3; obtain ⟨⟨d0, d1, d2, d3⟩, _⟩ := SAcc.recs HR2.out; clear hb)
            | (go_at_call 38; (with_reducible refine (CP.out _ HB2.out).mono ?_); rintro r w3 ⟨rfl, hb⟩; have HB3 := Lib.hid (HB2.out.trans (hb.mono HB2.out.size)); have HR3 := Lib.hid (HR2.out.keep hb); clear d0 d1 d2 d3; obtain ⟨⟨d0, d1, d2, d3⟩, _⟩ := SAcc.recs HR3.out; clear hb)
            | (go_at_call 15; (with_reducible refine (CT.out _ HB3.out).mono ?_); rintro r w4 ⟨rfl, hb⟩; have HB4 := Lib.hid (HB3.out.trans (hb.mono HB3.out.size)); have HR4 := Lib.hid (HR3.out.keep hb); clear d0 d1 d2 d3; obtain ⟨⟨d0, d1, d2, d3⟩, _⟩ := SAcc.recs HR4.out; clear hb))
          go_ret2
          exact ⟨_, by rw [HF.out]; rfl, by rw [HF.out]; exact ownL_nil _ _, HB4.out⟩
        | false =>
          rw [if_neg (by simp)] at hO
          by_cases hk : x.kind = 1
          · rw [if_pos hk] at hO
            have ek : (x.kind == 1) = true := beq_iff_eq.2 hk
            by_cases hz : z = 0
            · rw [if_pos hz] at hO
              have HF := Lib.hid hO
              subst hz
              clear hO hk
              go_enter Try.func7, Try.ntmps7
              go_wp2_with (first
                | (go_at_call 16; (with_reducible refine CM.out.mono ?_); rintro r w1 ⟨rfl, hb⟩; have HB1 := Lib.hid (HB0.out.trans (hb.mono (by simp))); have HR1 := Lib.hid (HR.out.keep hb); obtain ⟨⟨d0, d1, d2, d3⟩, _⟩ := SAcc.recs HR1.out; clear hb)
                | (go_at_call 37; (with_reducible refine (CX.out _).mono ?_); rintro r w2 ⟨rfl, hb⟩; have HB2 := Lib.hid (HB1.out.trans (hb.mono HB1.out.size)); have HR2 := Lib.hid (HR1.out.keep hb); clear d0 d1 d2 d3; obtain ⟨⟨d0, d1, d2, d3⟩, _⟩ := SAcc.recs HR2.out; clear hb)
                | (go_at_call 38; (with_reducible refine (CP.out _ HB2.out).mono ?_); rintro r w3 ⟨rfl, hb⟩; have HB3 := Lib.hid (HB2.out.trans (hb.mono HB2.out.size)); have HR3 := Lib.hid (HR2.out.keep hb); clear d0 d1 d2 d3; obtain ⟨⟨d0, d1, d2, d3⟩, _⟩ := SAcc.recs HR3.out; clear hb)
                | (go_at_call 15; (with_reducible refine (CT.out _ HB3.out).mono ?_); rintro r w4 ⟨rfl, hb⟩; have HB4 := Lib.hid (HB3.out.trans (hb.mono HB3.out.size)); have HR4 := Lib.hid (HR3.out.keep hb); clear d0 d1 d2 d3; obtain ⟨⟨d0, d1, d2, d3⟩, _⟩ := SAcc.recs HR4.out; clear hb)
                | (go_at_call 12; (with_reducible refine (CH.out _ HB4.out).mono ?_); rintro r w5 ⟨rfl, hb⟩; have HB5 := Lib.hid (HB4.out.trans (hb.mono HB4.out.size)); have HR5 := Lib.hid (HR4.out.keep hb); clear d0 d1 d2 d3; obtain ⟨⟨d0, d1, d2, d3⟩, _⟩ := SAcc.recs HR5.out; clear hb)
                | (go_at_call 39; (with_reducible refine (CW.out _ HB5.out).mono ?_); rintro r w6 ⟨v3, rfl, ho, hb⟩; have HO3 := Lib.hid (OwnL.lower ho HB5.out.size); have HB6 := Lib.hid (HB5.out.trans (hb.mono HB5.out.size)); clear ho hb))
              go_ret2
              exact ⟨_, by rw [HF.out]; rfl, by rw [HF.out]; exact HO3.out, HB6.out⟩
            · rw [if_neg hz] at hO
              have HF : Hid (O = ([], 4)) := Lib.hid hO
              have ez : (z != 0) = true := bne_iff_ne.2 hz
              clear hO hk hz
              go_enter Try.func7, Try.ntmps7
              go_wp2_with (first
                | (go_at_call 16; (with_reducible refine CM.out.mono ?_); rintro r w1 ⟨rfl, hb⟩; have HB1 := Lib.hid (HB0.out.trans (hb.mono (by simp))); have HR1 := Lib.hid (HR.out.keep hb); obtain ⟨⟨d0, d1, d2, d3⟩, _⟩ := SAcc.recs HR1.out; clear hb)
                | (go_at_call 37; (with_reducible refine (CX.out _).mono ?_); rintro r w2 ⟨rfl, hb⟩; have HB2 := Lib.hid (HB1.out.trans (hb.mono HB1.out.size)); have HR2 := Lib.hid (HR1.out.keep hb); clear d0 d1 d2 d3; obtain ⟨⟨d0, d1, d2, d3⟩, _⟩ := SAcc.recs HR2.out; clear hb)
                | (go_at_call 38; (with_reducible refine (CP.out _ HB2.out).mono ?_); rintro r w3 ⟨rfl, hb⟩; have HB3 := Lib.hid (HB2.out.trans (hb.mono HB2.out.size)); have HR3 := Lib.hid (HR2.out.keep hb); clear d0 d1 d2 d3; obtain ⟨⟨d0, d1, d2, d3⟩, _⟩ := SAcc.recs HR3.out; clear hb)
                | (go_at_call 15; (with_reducible refine (CT.out _ HB3.out).mono ?_); rintro r w4 ⟨rfl, hb⟩; have HB4 := Lib.hid (HB3.out.trans (hb.mono HB3.out.size)); have HR4 := Lib.hid (HR3.out.keep hb); clear d0 d1 d2 d3; obtain ⟨⟨d0, d1, d2, d3⟩, _⟩ := SAcc.recs HR4.out; clear hb)
                | (go_at_call 12; (with_reducible refine (CH.out _ HB4.out).mono ?_); rintro r w5 ⟨rfl, hb⟩; have HB5 := Lib.hid (HB4.out.trans (hb.mono HB4.out.size)); have HR5 := Lib.hid (HR4.out.keep hb); clear d0 d1 d2 d3; obtain ⟨⟨d0, d1, d2, d3⟩, _⟩ := SAcc.recs HR5.out; clear hb))
              go_ret2
              exact ⟨_, by rw [HF.out]; rfl, by rw [HF.out]; exact ownL_nil _ _, HB5.out⟩
          · rw [if_neg hk] at hO
            have ek : (x.kind == 1) = false := beq_eq_false_iff_ne.2 hk
            have HF := Lib.hid hO
            clear hO hk
            go_enter Try.func7, Try.ntmps7
            go_wp2_with (first
              | (go_at_call 16; (with_reducible refine CM.out.mono ?_); rintro r w1 ⟨rfl, hb⟩; have HB1 := Lib.hid (HB0.out.trans (hb.mono (by simp))); have HR1 := Lib.hid (HR.out.keep hb); obtain ⟨⟨d0, d1, d2, d3⟩, _⟩ := SAcc.recs HR1.out; clear hb)
              | (go_at_call 37; (with_reducible refine (CX.out _).mono ?_); rintro r w2 ⟨rfl, hb⟩; have HB2 := Lib.hid (HB1.out.trans (hb.mono HB1.out.size)); have HR2 := Lib.hid (HR1.out.keep hb); clear d0 d1 d2 d3; obtain ⟨⟨d0, d1, d2, d3⟩, _⟩ := SAcc.recs HR2.out; clear hb)
              | (go_at_call 38; (with_reducible refine (CP.out _ HB2.out).mono ?_); rintro r w3 ⟨rfl, hb⟩; have HB3 := Lib.hid (HB2.out.trans (hb.mono HB2.out.size)); have HR3 := Lib.hid (HR2.out.keep hb); clear d0 d1 d2 d3; obtain ⟨⟨d0, d1, d2, d3⟩, _⟩ := SAcc.recs HR3.out; clear hb)
              | (go_at_call 15; (with_reducible refine (CT.out _ HB3.out).mono ?_); rintro r w4 ⟨rfl, hb⟩; have HB4 := Lib.hid (HB3.out.trans (hb.mono HB3.out.size)); have HR4 := Lib.hid (HR3.out.keep hb); clear d0 d1 d2 d3; obtain ⟨⟨d0, d1, d2, d3⟩, _⟩ := SAcc.recs HR4.out; clear hb)
              | (go_at_call 39; (with_reducible refine (CW.out _ HB4.out).mono ?_); rintro r w6 ⟨v3, rfl, ho, hb⟩; have HO3 := Lib.hid (OwnL.lower ho HB4.out.size); have HB6 := Lib.hid (HB4.out.trans (hb.mono HB4.out.size)); clear ho hb))
            go_ret2
            exact ⟨_, by rw [HF.out]; rfl, by rw [HF.out]; exact HO3.out, HB6.out⟩
      · rw [if_neg h1] at hO
        have HF : Hid (O = ([], 7)) := Lib.hid hO
        have e1 : (s != 1) = true := bne_iff_ne.2 h1
        clear hO h0 h1
        go_enter Try.func7, Try.ntmps7
        go_wp2_with (first
          | (go_at_call 16; (with_reducible refine CM.out.mono ?_); rintro r w1 ⟨rfl, hb⟩; have HB1 := Lib.hid (HB0.out.trans (hb.mono (by simp))); have HR1 := Lib.hid (HR.out.keep hb); obtain ⟨⟨d0, d1, d2, d3⟩, _⟩ := SAcc.recs HR1.out; clear hb)
          | (go_at_call 37; (with_reducible refine (CX.out _).mono ?_); rintro r w2 ⟨rfl, hb⟩; have HB2 := Lib.hid (HB1.out.trans (hb.mono HB1.out.size)); have HR2 := Lib.hid (HR1.out.keep hb); clear d0 d1 d2 d3; obtain ⟨⟨d0, d1, d2, d3⟩, _⟩ := SAcc.recs HR2.out; clear hb)
          | (go_at_call 38; (with_reducible refine (CP.out _ HB2.out).mono ?_); rintro r w3 ⟨rfl, hb⟩; have HB3 := Lib.hid (HB2.out.trans (hb.mono HB2.out.size)); have HR3 := Lib.hid (HR2.out.keep hb); clear d0 d1 d2 d3; obtain ⟨⟨d0, d1, d2, d3⟩, _⟩ := SAcc.recs HR3.out; clear hb)
          | (go_at_call 15; (with_reducible refine (CT.out _ HB3.out).mono ?_); rintro r w4 ⟨rfl, hb⟩; have HB4 := Lib.hid (HB3.out.trans (hb.mono HB3.out.size)); have HR4 := Lib.hid (HR3.out.keep hb); clear d0 d1 d2 d3; obtain ⟨⟨d0, d1, d2, d3⟩, _⟩ := SAcc.recs HR4.out; clear hb))
        go_ret2
        exact ⟨_, by rw [HF.out]; rfl, by rw [HF.out]; exact ownL_nil _ _, HB4.out⟩
end Go.Proofs.Ytjlhmiajklddiaa
