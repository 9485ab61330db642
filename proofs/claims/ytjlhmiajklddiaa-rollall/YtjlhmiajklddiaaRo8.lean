/-
  The walk of the reference's Open.
-/
import Derived.Test.YtjlhmiajklddiaaRo7
namespace Go.Proofs.Ytjlhmiajklddiaa
set_option maxRecDepth 8000
open Go Go.RowKit
set_option linter.unusedVariables false

/-- Accounts with one more, where its number belongs. -/
def insAcc (l : List SAcc) (x : SAcc) : List SAcc := l.takeWhile (fun y => decide (y.id < x.id)) ++ x :: l.dropWhile (fun y => decide (y.id < x.id))
def openV (m : List SMember) (l : List SAcc) (x : SAcc) : List SAcc × Int :=
  if rollOk m l then (if accsOk [x] then (if memS m x.member = 0 then ([], 3) else if memS m x.member = 1 then (if (accF l x.id).isSome then ([], 4) else if x.kind = 1 then (if houV l x.member = 0 then (insAcc l x, 0) else ([], 4)) else (insAcc l x, 0)) else ([], 7)) else ([], 1)) else ([], 1)
set_option maxRecDepth 100000 in
set_option maxHeartbeats 32000000 in
theorem ropen_any (B A : Option Addr) (m : List SMember) (l : List SAcc) (x : SAcc) (n' c' n c : Nat) (w : World) (hm : n' = m.length) (hn : n = l.length) (hM : MemL SMember.cells 2 w B m) (hI : MemL SAcc.cells 4 w A l) (hA : c = 0 ∨ ∃ b off, A = some ⟨b, off, none⟩) (hc : n ≤ c) (hc2 : c ≤ 9223372036854775807) (hml : n' ≤ 1000000000000) (hl : n ≤ 1000000000000) : Calls Try.prog 21 #[.slice B n' c', .slice A n c, x.v] w (LRes SAcc.cells 25 4 w (openV m l x)) := by
  have hb0 : Below w.heap.size w (w.alloc (.cells x.cells.toArray 25)) := (Below.refl _ _).alloc (Nat.le_refl _) _
  have CM := Lib.hid (rroll_any B A m l n' c' n c _ hm hn (hM.below hb0 (fun _ => rfl)) (hI.below hb0 (fun _ => rfl)) (by omega) (by omega))
  have CA : Hid (∀ W : World, _) := Lib.hid (fun W => raccs_any (some ⟨W.heap.size, 0, none⟩) [x] 1 1 (W.alloc (.cells x.cells.toArray 25)) rfl (memL_lit lay_Acc W _ [x] (by simp) rfl) (by omega))
  have CF := Lib.hid (fun W (hW : Below w.heap.size w W) => rfindA_any A l n c x.id W hn (hI.below hW (fun _ => rfl)) (by omega))
  have CS := Lib.hid (fun W (hW : Below w.heap.size w W) => rstat_any B m n' c' x.member W hm (hM.below hW (fun _ => rfl)) (by omega))
  have CH := Lib.hid (fun W (hW : Below w.heap.size w W) => rhouse_any A l n c x.member W hn (hI.below hW (fun _ => rfl)) (by omega))
  have HR0 : Hid (Rec (w.alloc (.cells x.cells.toArray 25)) w.heap.size 25 x.cells) := Lib.hid (Rec.new _ _ _ _ rfl)
  have HB0 := Lib.hid hb0
  have HI := Lib.hid hI
  have HN := Lib.hid hn
  have HA := Lib.hid hA
  dsimp only [SAcc.cells] at CM CA HB0
  clear hn hI hA hm hM hb0
  obtain ⟨O, hO⟩ : ∃ O, O = openV m l x := ⟨_, rfl⟩
  rw [← hO]
  unfold openV at hO
  unfold SAcc.v
  cases hmo : rollOk m l with
  | false =>
    rw [hmo] at hO CM
    clear hmo
    have HF : Hid (O = ([], 1)) := Lib.hid hO
    clear hO
    go_enter Try.func21, Try.ntmps21
    go_wp2_with (first
      | (go_at_call 29; (with_reducible refine CM.out.mono ?_); rintro r w1 ⟨rfl, hb1⟩; have HR1 := Lib.hid (HR0.out.keep hb1); have HB1 := Lib.hid (HB0.out.trans (hb1.mono HB0.out.size)); clear hb1; obtain ⟨⟨k0, k1, k2, k3⟩, _⟩ := SAcc.recs HR1.out))
    go_ret2
    exact ⟨_, by rw [HF.out]; rfl, by rw [HF.out]; exact ownL_nil _ _, HB1.out⟩
  | true =>
    rw [hmo, if_pos rfl] at hO
    rw [hmo] at CM
    clear hmo
    cases hxo : accsOk [x] with
    | false =>
      rw [hxo] at hO CA
      clear hxo
      have HF : Hid (O = ([], 1)) := Lib.hid hO
      clear hO
      go_enter Try.func21, Try.ntmps21
      go_wp2_with (first
        | (go_at_call 29; (with_reducible refine CM.out.mono ?_); rintro r w1 ⟨rfl, hb1⟩; have HR1 := Lib.hid (HR0.out.keep hb1); have HB1 := Lib.hid (HB0.out.trans (hb1.mono HB0.out.size)); clear hb1; obtain ⟨⟨k0, k1, k2, k3⟩, _⟩ := SAcc.recs HR1.out)
        | (go_at_call 28; (with_reducible refine (CA.out w1).mono ?_); rintro r w2 ⟨rfl, hb2⟩; have HR2 := Lib.hid ((HR1.out.keep (alloc_b (Below.refl _ _) (Nat.le_refl _) (.cells #[.int .i64 x.id, .int .i64 x.member, .int .i64 x.kind, .int .i64 x.limit] 25))).keep hb2); have HB2 := Lib.hid ((alloc_b HB1.out (Nat.le_refl _) (.cells #[.int .i64 x.id, .int .i64 x.member, .int .i64 x.kind, .int .i64 x.limit] 25)).trans (hb2.mono (alloc_b HB1.out (Nat.le_refl _) (.cells #[.int .i64 x.id, .int .i64 x.member, .int .i64 x.kind, .int .i64 x.limit] 25)).size)); clear hb2; clear k0 k1 k2 k3; obtain ⟨⟨k0, k1, k2, k3⟩, _⟩ := SAcc.recs HR2.out))
      go_ret2
      exact ⟨_, by rw [HF.out]; rfl, by rw [HF.out]; exact ownL_nil _ _, HB2.out⟩
    | true =>
      rw [hxo, if_pos rfl] at hO
      rw [hxo] at CA
      clear hxo
      obtain ⟨s, hs⟩ : ∃ s, s = memS m x.member := ⟨_, rfl⟩
      rw [← hs] at hO CS
      clear hs
      by_cases h0 : s = 0
      · rw [if_pos h0] at hO
        subst h0
        have HF : Hid (O = ([], 3)) := Lib.hid hO
        clear hO
        go_enter Try.func21, Try.ntmps21
        go_wp2_with (first
          | (go_at_call 29; (with_reducible refine CM.out.mono ?_); rintro r w1 ⟨rfl, hb1⟩; have HR1 := Lib.hid (HR0.out.keep hb1); have HB1 := Lib.hid (HB0.out.trans (hb1.mono HB0.out.size)); clear hb1; obtain ⟨⟨k0, k1, k2, k3⟩, _⟩ := SAcc.recs HR1.out)
          | (go_at_call 28; (with_reducible refine (CA.out w1).mono ?_); rintro r w2 ⟨rfl, hb2⟩; have HR2 := Lib.hid ((HR1.out.keep (alloc_b (Below.refl _ _) (Nat.le_refl _) (.cells #[.int .i64 x.id, .int .i64 x.member, .int .i64 x.kind, .int .i64 x.limit] 25))).keep hb2); have HB2 := Lib.hid ((alloc_b HB1.out (Nat.le_refl _) (.cells #[.int .i64 x.id, .int .i64 x.member, .int .i64 x.kind, .int .i64 x.limit] 25)).trans (hb2.mono (alloc_b HB1.out (Nat.le_refl _) (.cells #[.int .i64 x.id, .int .i64 x.member, .int .i64 x.kind, .int .i64 x.limit] 25)).size)); clear hb2; clear k0 k1 k2 k3; obtain ⟨⟨k0, k1, k2, k3⟩, _⟩ := SAcc.recs HR2.out)
          | (go_at_call 44; (with_reducible refine (CS.out _ HB2.out).mono ?_); rintro r wq ⟨rfl, hwq⟩; obtain rfl : w2 = wq := hwq))
        go_ret2
        exact ⟨_, by rw [HF.out]; rfl, by rw [HF.out]; exact ownL_nil _ _, HB2.out⟩
      rw [if_neg h0] at hO
      have e0 : (s == 0) = false := beq_eq_false_iff_ne.2 h0
      clear h0
      by_cases h1 : s = 1
      · rw [if_pos h1] at hO
        have e1 : (s != 1) = false := by rw [h1]; rfl
        clear h1
        obtain ⟨y, hy⟩ : ∃ y, y = (accF l x.id).getD SAcc.zero := ⟨_, rfl⟩
        obtain ⟨q, hq⟩ : ∃ q, q = (accF l x.id).isSome := ⟨_, rfl⟩
        obtain ⟨h, hh⟩ : ∃ h, h = houV l x.member := ⟨_, rfl⟩
        rw [← hq, ← hh] at hO
        rw [← hy, ← hq] at CF
        rw [← hh] at CH
        unfold SAcc.v at CF
        clear hy hq hh
        cases q with
        | true =>
          have HF : Hid (O = ([], 4)) := Lib.hid hO
          clear hO
          go_enter Try.func21, Try.ntmps21
          go_wp2_with (first
            | (go_at_call 29; (with_reducible refine CM.out.mono ?_); rintro r w1 ⟨rfl, hb1⟩; have HR1 := Lib.hid (HR0.out.keep hb1); have HB1 := Lib.hid (HB0.out.trans (hb1.mono HB0.out.size)); clear hb1; obtain ⟨⟨k0, k1, k2, k3⟩, _⟩ := SAcc.recs HR1.out)
            | (go_at_call 28; (with_reducible refine (CA.out w1).mono ?_); rintro r w2 ⟨rfl, hb2⟩; have HR2 := Lib.hid ((HR1.out.keep (alloc_b (Below.refl _ _) (Nat.le_refl _) (.cells #[.int .i64 x.id, .int .i64 x.member, .int .i64 x.kind, .int .i64 x.limit] 25))).keep hb2); have HB2 := Lib.hid ((alloc_b HB1.out (Nat.le_refl _) (.cells #[.int .i64 x.id, .int .i64 x.member, .int .i64 x.kind, .int .i64 x.limit] 25)).trans (hb2.mono (alloc_b HB1.out (Nat.le_refl _) (.cells #[.int .i64 x.id, .int .i64 x.member, .int .i64 x.kind, .int .i64 x.limit] 25)).size)); clear hb2; clear k0 k1 k2 k3; obtain ⟨⟨k0, k1, k2, k3⟩, _⟩ := SAcc.recs HR2.out)
            | (go_at_call 44; (with_reducible refine (CS.out _ HB2.out).mono ?_); rintro r wq ⟨rfl, hwq⟩; obtain rfl : w2 = wq := hwq)
            | (go_at_call 46; (with_reducible refine (CF.out _ HB2.out).mono ?_); rintro r w3 ⟨rfl, hb3⟩; have HB3 := Lib.hid (alloc_b (HB2.out.trans (hb3.mono HB2.out.size)) (Nat.le_refl _) (.cells #[.int .i64 y.id, .int .i64 y.member, .int .i64 y.kind, .int .i64 y.limit] 25)); have HR3 := Lib.hid ((HR2.out.keep hb3).keep (alloc_b (Below.refl _ _) (Nat.le_refl _) (.cells #[.int .i64 y.id, .int .i64 y.member, .int .i64 y.kind, .int .i64 y.limit] 25))); clear hb3; clear k0 k1 k2 k3; obtain ⟨⟨k0, k1, k2, k3⟩, _⟩ := SAcc.recs HR3.out))
          go_ret2
          exact ⟨_, by rw [HF.out]; rfl, by rw [HF.out]; exact ownL_nil _ _, HB3.out⟩
        | false =>
          rw [if_neg (by simp)] at hO
          by_cases h2 : x.kind = 1
          · rw [if_pos h2] at hO
            have e2 : (x.kind == 1) = true := beq_iff_eq.2 h2
            clear h2
            by_cases h3 : h = 0
            · rw [if_pos h3] at hO
              have e3 : (h != 0) = false := by rw [h3]; rfl
              clear h3
              have HF : Hid (O = (insAcc l x, 0)) := Lib.hid hO
              clear hO
              rcases HA.out with hc0 | ⟨b, off, rfl⟩
              · obtain rfl : c = 0 := hc0
                obtain rfl : n = 0 := by omega
                obtain rfl : l = [] := List.eq_nil_of_length_eq_zero HN.out.symm
                go_enter Try.func21, Try.ntmps21
                go_wp2_with (first
                  | (go_at_call 29; (with_reducible refine CM.out.mono ?_); rintro r w1 ⟨rfl, hb1⟩; have HR1 := Lib.hid (HR0.out.keep hb1); have HB1 := Lib.hid (HB0.out.trans (hb1.mono HB0.out.size)); clear hb1; obtain ⟨⟨k0, k1, k2, k3⟩, _⟩ := SAcc.recs HR1.out)
                  | (go_at_call 28; (with_reducible refine (CA.out w1).mono ?_); rintro r w2 ⟨rfl, hb2⟩; have HR2 := Lib.hid ((HR1.out.keep (alloc_b (Below.refl _ _) (Nat.le_refl _) (.cells #[.int .i64 x.id, .int .i64 x.member, .int .i64 x.kind, .int .i64 x.limit] 25))).keep hb2); have HB2 := Lib.hid ((alloc_b HB1.out (Nat.le_refl _) (.cells #[.int .i64 x.id, .int .i64 x.member, .int .i64 x.kind, .int .i64 x.limit] 25)).trans (hb2.mono (alloc_b HB1.out (Nat.le_refl _) (.cells #[.int .i64 x.id, .int .i64 x.member, .int .i64 x.kind, .int .i64 x.limit] 25)).size)); clear hb2; clear k0 k1 k2 k3; obtain ⟨⟨k0, k1, k2, k3⟩, _⟩ := SAcc.recs HR2.out)
                  | (go_at_call 44; (with_reducible refine (CS.out _ HB2.out).mono ?_); rintro r wq ⟨rfl, hwq⟩; obtain rfl : w2 = wq := hwq)
                  | (go_at_call 46; (with_reducible refine (CF.out _ HB2.out).mono ?_); rintro r w3 ⟨rfl, hb3⟩; have HB3 := Lib.hid (alloc_b (HB2.out.trans (hb3.mono HB2.out.size)) (Nat.le_refl _) (.cells #[.int .i64 y.id, .int .i64 y.member, .int .i64 y.kind, .int .i64 y.limit] 25)); have HR3 := Lib.hid ((HR2.out.keep hb3).keep (alloc_b (Below.refl _ _) (Nat.le_refl _) (.cells #[.int .i64 y.id, .int .i64 y.member, .int .i64 y.kind, .int .i64 y.limit] 25))); clear hb3; clear k0 k1 k2 k3; obtain ⟨⟨k0, k1, k2, k3⟩, _⟩ := SAcc.recs HR3.out)
                  | (go_at_call 31; (with_reducible refine (CH.out _ HB3.out).mono ?_); rintro r w4 ⟨rfl, hb4⟩; have HB4 := Lib.hid (HB3.out.trans (hb4.mono HB3.out.size)); have HR4 := Lib.hid (HR3.out.keep hb4); clear hb4; clear k0 k1 k2 k3; obtain ⟨⟨k0, k1, k2, k3⟩, _⟩ := SAcc.recs HR4.out))
                clear k0 k1 k2 k3
                go_loopw [12] (fun i wr => i = .int .i64 0 ∧ Hid (Below w.heap.size w wr) ∧ Hid (Rec wr w.heap.size 25 x.cells)) (fun i _ => 0)
                case atStart => exact ⟨rfl, HB4, HR4⟩
                case round =>
                  obtain ⟨rfl, HB, HR⟩ := hrel
                  obtain ⟨⟨k0, k1, k2, k3⟩, _⟩ := SAcc.recs HR.out
                  have HBD : Hid (∀ j, Below w.heap.size w (wr.drewN j)) := Lib.hid (fun j => below_drewN HB.out j)
                  have HRD : Hid (∀ W, Below wr.heap.size wr W → W.cell? ⟨w.heap.size, 0, none⟩ = some (.int .i64 x.id) ∧ W.cell? ⟨w.heap.size, 1, none⟩ = some (.int .i64 x.member) ∧ W.cell? ⟨w.heap.size, 2, none⟩ = some (.int .i64 x.kind) ∧ W.cell? ⟨w.heap.size, 3, none⟩ = some (.int .i64 x.limit)) := Lib.hid (fun W h => (SAcc.recs (HR.out.keep h)).1)
                  have HTW : Hid (insAcc ([] : List SAcc) x = [] ++ x :: []) := Lib.hid rfl
                  have HTL : Hid (0 = ([] : List SAcc).length) := Lib.hid rfl
                  have HDL : Hid (0 = ([] : List SAcc).length) := Lib.hid rfl
                  have HL1 : Hid ((([] : List SAcc).length + ([] : List SAcc).length) * 32 ≤ 140737488355328) := Lib.hid (by simp)
                  have HL2 : Hid (([] : List SAcc).length + ([] : List SAcc).length ≤ 140737488355328) := Lib.hid (by simp)
                  have HL3 : Hid ((([] : List SAcc).length + 1) * 32 ≤ 140737488355328) := Lib.hid (by simp)
                  have HL4 : Hid (([] : List SAcc).length + 1 ≤ 140737488355328) := Lib.hid (by simp)
                  have HL5 : Hid (((([] : List SAcc) ++ [x]).length + ([] : List SAcc).length) * 32 ≤ 140737488355328) := Lib.hid (by simp)
                  have HL6 : Hid ((([] : List SAcc) ++ [x]).length + ([] : List SAcc).length ≤ 140737488355328) := Lib.hid (by simp)
                  have HADN : Hid (A = none → 0 = 0) := Lib.hid (fun _ => rfl)
                  have HAXN : Hid (A = none → 0 = 0) := Lib.hid (fun _ => rfl)
                  have HMF : Hid (MemL SAcc.cells 4 w A []) := Lib.hid (memL_nil _ _)
                  have HMX : Hid (MemL SAcc.cells 4 w A []) := Lib.hid (memL_nil _ _)
                  go_wp2
                  go_quiet (fail)
                  all_goals go_wp2_with (first
                    | (at_builtin; first
                      | (refine wpList_appV lay_Acc rfl (.tmp 67) (.tmp 70) rfl w.heap.size _ [] rfl (ownL_nil _ _) _ 0 0 [] HTL.out rfl (fun _ => rfl) (memL_nil _ _) HL1.out HL2.out (HBD.out _).size ?_; intro v3 w3 ho3 hb3 hg3; rw [List.nil_append] at ho3; have HO3 := Lib.hid ho3; have HB3 := Lib.hid ((HBD.out _).trans hb3); have hsz3 := HB3.out.size; have HRX := Lib.hid (Rec.touch (HR.out.keep (below_drewN (Below.refl _ _) _)) (Touch.grown hg3) (fun h => by cases h)); clear k0 k1 k2 k3; obtain ⟨⟨k0, k1, k2, k3⟩, _⟩ := SAcc.recs HRX.out; clear ho3 hb3 hg3)
                      | (refine wpList_appL lay_Acc rfl (.tmp 72) (.tmp 74) rfl w.heap.size _ [] rfl (HO3.out.alloc _) _ 1 x rfl (lit_one _ _ _ (SAcc.cells x) rfl _ (by simp)) HL3.out HL4.out (by simp; omega) ?_; intro v4 w4 ho4 hg4 _; have HO4 := Lib.hid ho4; have HB4 := Lib.hid ((alloc_b HB3.out (Nat.le_refl _) _).trans (OwnL.below (HO3.out.alloc _) hg4 (by simp; omega))); clear ho4 hg4)
                      | (refine wpList_appV lay_Acc rfl (.tmp 76) (.tmp 79) rfl w.heap.size _ ([] ++ [x]) rfl HO4.out _ 0 0 [] HDL.out rfl (fun _ => rfl) (memL_nil _ _) HL5.out HL6.out HB4.out.size ?_; intro v5 w5 ho5 hb5 _; have HO5 := Lib.hid ho5; have HB5 := Lib.hid (HB4.out.trans hb5); clear ho5 hb5)))
                  all_goals
                    go_ret2
                    exact ⟨_, by rw [HF.out]; rfl, by rw [HF.out, HTW.out]; have := HO5.out; rw [List.append_assoc] at this; exact this, HB5.out⟩
              · skip
                go_enter Try.func21, Try.ntmps21
                go_wp2_with (first
                  | (go_at_call 29; (with_reducible refine CM.out.mono ?_); rintro r w1 ⟨rfl, hb1⟩; have HR1 := Lib.hid (HR0.out.keep hb1); have HB1 := Lib.hid (HB0.out.trans (hb1.mono HB0.out.size)); clear hb1; obtain ⟨⟨k0, k1, k2, k3⟩, _⟩ := SAcc.recs HR1.out)
                  | (go_at_call 28; (with_reducible refine (CA.out w1).mono ?_); rintro r w2 ⟨rfl, hb2⟩; have HR2 := Lib.hid ((HR1.out.keep (alloc_b (Below.refl _ _) (Nat.le_refl _) (.cells #[.int .i64 x.id, .int .i64 x.member, .int .i64 x.kind, .int .i64 x.limit] 25))).keep hb2); have HB2 := Lib.hid ((alloc_b HB1.out (Nat.le_refl _) (.cells #[.int .i64 x.id, .int .i64 x.member, .int .i64 x.kind, .int .i64 x.limit] 25)).trans (hb2.mono (alloc_b HB1.out (Nat.le_refl _) (.cells #[.int .i64 x.id, .int .i64 x.member, .int .i64 x.kind, .int .i64 x.limit] 25)).size)); clear hb2; clear k0 k1 k2 k3; obtain ⟨⟨k0, k1, k2, k3⟩, _⟩ := SAcc.recs HR2.out)
                  | (go_at_call 44; (with_reducible refine (CS.out _ HB2.out).mono ?_); rintro r wq ⟨rfl, hwq⟩; obtain rfl : w2 = wq := hwq)
                  | (go_at_call 46; (with_reducible refine (CF.out _ HB2.out).mono ?_); rintro r w3 ⟨rfl, hb3⟩; have HB3 := Lib.hid (alloc_b (HB2.out.trans (hb3.mono HB2.out.size)) (Nat.le_refl _) (.cells #[.int .i64 y.id, .int .i64 y.member, .int .i64 y.kind, .int .i64 y.limit] 25)); have HR3 := Lib.hid ((HR2.out.keep hb3).keep (alloc_b (Below.refl _ _) (Nat.le_refl _) (.cells #[.int .i64 y.id, .int .i64 y.member, .int .i64 y.kind, .int .i64 y.limit] 25))); clear hb3; clear k0 k1 k2 k3; obtain ⟨⟨k0, k1, k2, k3⟩, _⟩ := SAcc.recs HR3.out)
                  | (go_at_call 31; (with_reducible refine (CH.out _ HB3.out).mono ?_); rintro r w4 ⟨rfl, hb4⟩; have HB4 := Lib.hid (HB3.out.trans (hb4.mono HB3.out.size)); have HR4 := Lib.hid (HR3.out.keep hb4); clear hb4; clear k0 k1 k2 k3; obtain ⟨⟨k0, k1, k2, k3⟩, _⟩ := SAcc.recs HR4.out))
                clear k0 k1 k2 k3
                go_loopw [12] (fun i wr => ∃ k : Nat, k ≤ n ∧ i = .int .i64 (k : Int) ∧ Hid (Below w.heap.size w wr) ∧ Hid (Rec wr w.heap.size 25 x.cells) ∧ Hid (∀ j, j < k → decide ((l.getD j SAcc.zero).id < x.id) = true)) (fun i _ => n - (intOf i).toNat)
                case atStart => exact ⟨0, Nat.zero_le _, rfl, HB4, HR4, Lib.hid (fun j hj => absurd hj (Nat.not_lt_zero j))⟩
                case round =>
                  obtain ⟨k, hk, rfl, HB, HR, HP⟩ := hrel
                  obtain ⟨⟨k0, k1, k2, k3⟩, _⟩ := SAcc.recs HR.out
                  have HBD : Hid (∀ j, Below w.heap.size w (wr.drewN j)) := Lib.hid (fun j => below_drewN HB.out j)
                  by_cases hlt : k < n
                  · have hkl : k < l.length := by rw [← HN.out]; exact hlt
                    have HKL := Lib.hid hkl
                    obtain ⟨b', off', hAe, _, hcells⟩ := SAcc.reads (HI.out.below HB.out (fun _ => rfl)) (by omega)
                    obtain ⟨rfl, rfl⟩ : b = b' ∧ off = off' := by injection hAe with hAe; injection hAe with h1 h2; exact ⟨h1, h2⟩
                    clear hAe
                    obtain ⟨g0, g1, g2, g3⟩ := hcells k hkl
                    obtain ⟨z, hz⟩ : ∃ z, z = l.getD k SAcc.zero := ⟨_, rfl⟩
                    have HZ := Lib.hid hz
                    rw [← hz] at g0 g1 g2 g3
                    clear hz hkl hcells
                    by_cases hxi : z.id < x.id
                    · have e3 : decide (z.id < x.id) = true := decide_eq_true hxi
                      have HE3 := Lib.hid e3
                      clear hxi
                      go_wp2
                      go_quiet (fail)
                      go_wp2
                      go_roundw
                      case rel => exact ⟨k + 1, by omega, by go_num, Lib.hid (below_drewN HB.out _), Lib.hid (HR.out.keep (below_drewN (Below.refl _ _) _)), Lib.hid (fun j hj => by
                        rcases Nat.lt_or_ge j k with h | h
                        · exact HP.out j h
                        · obtain rfl : j = k := by omega
                          rw [← HZ.out]; exact HE3.out)⟩
                      case measure => simp [intOf]; omega
                    · have e3 : decide (z.id < x.id) = false := decide_eq_false hxi
                      have HE3 := Lib.hid e3
                      clear hxi
                      have HTW : Hid (insAcc l x = l.take k ++ x :: l.drop k) := Lib.hid (by
                        obtain ⟨h1, h2⟩ := part_at (l := l) (p := fun y => decide (y.id < x.id)) (k := k) (Nat.le_of_lt HKL.out) (fun j hj => by rw [← SAcc.at (x := SAcc.zero)]; exact HP.out j hj) (fun h => by rw [← SAcc.at (x := SAcc.zero), ← HZ.out]; exact HE3.out)
                        unfold insAcc
                        rw [h1, h2])
                      have HTL : Hid (k = (l.take k).length) := Lib.hid (by rw [List.length_take, ← HN.out]; omega)
                      have HDL : Hid (n - k = (l.drop k).length) := Lib.hid (by rw [List.length_drop, ← HN.out])
                      have HL1 : Hid ((([] : List SAcc).length + (l.take k).length) * 32 ≤ 140737488355328) := Lib.hid (by rw [← HTL.out, List.length_nil]; omega)
                      have HL2 : Hid (([] : List SAcc).length + (l.take k).length ≤ 140737488355328) := Lib.hid (by rw [← HTL.out, List.length_nil]; omega)
                      have HL3 : Hid (((l.take k).length + 1) * 32 ≤ 140737488355328) := Lib.hid (by rw [← HTL.out]; omega)
                      have HL4 : Hid ((l.take k).length + 1 ≤ 140737488355328) := Lib.hid (by rw [← HTL.out]; omega)
                      have HL5 : Hid (((l.take k ++ [x]).length + (l.drop k).length) * 32 ≤ 140737488355328) := Lib.hid (by rw [List.length_append, ← HTL.out, ← HDL.out, List.length_singleton]; omega)
                      have HL6 : Hid ((l.take k ++ [x]).length + (l.drop k).length ≤ 140737488355328) := Lib.hid (by rw [List.length_append, ← HTL.out, ← HDL.out, List.length_singleton]; omega)
                      have hkc : k ≤ c := by omega
                      have HADN : Hid ((some ⟨b, off, none⟩ : Option Addr) = none → c = 0) := Lib.hid (fun h => by cases h)
                      have HAXN : Hid ((some ⟨b, off + k * 4, none⟩ : Option Addr) = none → c - k = 0) := Lib.hid (fun h => by cases h)
                      have HMF : Hid (MemL SAcc.cells 4 w (some ⟨b, off, none⟩) (l.take k)) := Lib.hid (HI.out.front k)
                      have HMX : Hid (MemL SAcc.cells 4 w (some ⟨b, off + k * 4, none⟩) (l.drop k)) := Lib.hid (HI.out.back k)
                      go_wp2
                      go_quiet (fail)
                      go_wp2_with (first
                        | (at_builtin; first
                          | (refine wpList_appV lay_Acc rfl (.tmp 67) (.tmp 70) rfl w.heap.size _ [] rfl (ownL_nil _ _) (some ⟨b, off, none⟩) k c (l.take k) HTL.out rfl (fun h => HADN.out h) (HMF.out.below (HBD.out _) (fun _ => rfl)) HL1.out HL2.out (HBD.out _).size ?_; intro v3 w3 ho3 hb3 hg3; rw [List.nil_append] at ho3; have HO3 := Lib.hid ho3; have HB3 := Lib.hid ((HBD.out _).trans hb3); have hsz3 := HB3.out.size; have HRX := Lib.hid (Rec.touch (HR.out.keep (below_drewN (Below.refl _ _) _)) (Touch.grown hg3) (fun h => by cases h)); clear k0 k1 k2 k3; obtain ⟨⟨k0, k1, k2, k3⟩, _⟩ := SAcc.recs HRX.out; clear ho3 hb3 hg3)
                          | (refine wpList_appL lay_Acc rfl (.tmp 72) (.tmp 74) rfl w.heap.size _ (l.take k) rfl (HO3.out.alloc _) _ 1 x rfl (lit_one _ _ _ (SAcc.cells x) rfl _ (by simp)) HL3.out HL4.out (by simp; omega) ?_; intro v4 w4 ho4 hg4 _; have HO4 := Lib.hid ho4; have HB4 := Lib.hid ((alloc_b HB3.out (Nat.le_refl _) _).trans (OwnL.below (HO3.out.alloc _) hg4 (by simp; omega))); clear ho4 hg4)
                          | (refine wpList_appV lay_Acc rfl (.tmp 76) (.tmp 79) rfl w.heap.size _ ((l.take k) ++ [x]) rfl HO4.out (some ⟨b, off + k * 4, none⟩) (n - k) (c - k) (l.drop k) HDL.out rfl (fun h => HAXN.out h) (HMX.out.below HB4.out (fun _ => rfl)) HL5.out HL6.out HB4.out.size ?_; intro v5 w5 ho5 hb5 _; have HO5 := Lib.hid ho5; have HB5 := Lib.hid (HB4.out.trans hb5); clear ho5 hb5)))
                      go_ret2
                      exact ⟨_, by rw [HF.out]; rfl, by rw [HF.out, HTW.out]; have := HO5.out; rw [List.append_assoc] at this; exact this, HB5.out⟩
                  · have HTW : Hid (insAcc l x = l.take k ++ x :: l.drop k) := Lib.hid (by
                      obtain ⟨h1, h2⟩ := part_at (l := l) (p := fun y => decide (y.id < x.id)) (k := k) (by rw [← HN.out]; exact hk) (fun j hj => by rw [← SAcc.at (x := SAcc.zero)]; exact HP.out j hj) (fun h => by have := HN.out; omega)
                      unfold insAcc
                      rw [h1, h2])
                    have HTL : Hid (k = (l.take k).length) := Lib.hid (by rw [List.length_take, ← HN.out]; omega)
                    have HDL : Hid (n - k = (l.drop k).length) := Lib.hid (by rw [List.length_drop, ← HN.out])
                    have HL1 : Hid ((([] : List SAcc).length + (l.take k).length) * 32 ≤ 140737488355328) := Lib.hid (by rw [← HTL.out, List.length_nil]; omega)
                    have HL2 : Hid (([] : List SAcc).length + (l.take k).length ≤ 140737488355328) := Lib.hid (by rw [← HTL.out, List.length_nil]; omega)
                    have HL3 : Hid (((l.take k).length + 1) * 32 ≤ 140737488355328) := Lib.hid (by rw [← HTL.out]; omega)
                    have HL4 : Hid ((l.take k).length + 1 ≤ 140737488355328) := Lib.hid (by rw [← HTL.out]; omega)
                    have HL5 : Hid (((l.take k ++ [x]).length + (l.drop k).length) * 32 ≤ 140737488355328) := Lib.hid (by rw [List.length_append, ← HTL.out, ← HDL.out, List.length_singleton]; omega)
                    have HL6 : Hid ((l.take k ++ [x]).length + (l.drop k).length ≤ 140737488355328) := Lib.hid (by rw [List.length_append, ← HTL.out, ← HDL.out, List.length_singleton]; omega)
                    have hkc : k ≤ c := by omega
                    obtain ⟨AX, hAX⟩ : ∃ AX, (if c = k then (some ⟨b, off, none⟩ : Option Addr) else some ⟨b, off + k * 4, none⟩) = AX := ⟨_, rfl⟩
                    have HADN : Hid ((some ⟨b, off, none⟩ : Option Addr) = none → c = 0) := Lib.hid (fun h => by cases h)
                    have HAXN : Hid (AX = none → c - k = 0) := Lib.hid (fun h => by rw [← hAX] at h; split at h <;> cases h)
                    have HMF : Hid (MemL SAcc.cells 4 w (some ⟨b, off, none⟩) (l.take k)) := Lib.hid (HI.out.front k)
                    have HMX : Hid (MemL SAcc.cells 4 w AX (l.drop k)) := Lib.hid (by
                      rw [← hAX]
                      by_cases hck : c = k
                      · rw [if_pos hck, List.drop_eq_nil_of_le (by rw [← HN.out]; omega)]; exact memL_nil _ _
                      · rw [if_neg hck]; exact HI.out.back k)
                    go_wp2
                    go_quiet (fail)
                    go_wp2_with (first
                      | (at_builtin; first
                        | (refine wpList_appV lay_Acc rfl (.tmp 67) (.tmp 70) rfl w.heap.size _ [] rfl (ownL_nil _ _) (some ⟨b, off, none⟩) k c (l.take k) HTL.out rfl (fun h => HADN.out h) (HMF.out.below (HBD.out _) (fun _ => rfl)) HL1.out HL2.out (HBD.out _).size ?_; intro v3 w3 ho3 hb3 hg3; rw [List.nil_append] at ho3; have HO3 := Lib.hid ho3; have HB3 := Lib.hid ((HBD.out _).trans hb3); have hsz3 := HB3.out.size; have HRX := Lib.hid (Rec.touch (HR.out.keep (below_drewN (Below.refl _ _) _)) (Touch.grown hg3) (fun h => by cases h)); clear k0 k1 k2 k3; obtain ⟨⟨k0, k1, k2, k3⟩, _⟩ := SAcc.recs HRX.out; clear ho3 hb3 hg3)
                        | (refine wpList_appL lay_Acc rfl (.tmp 72) (.tmp 74) rfl w.heap.size _ (l.take k) rfl (HO3.out.alloc _) _ 1 x rfl (lit_one _ _ _ (SAcc.cells x) rfl _ (by simp)) HL3.out HL4.out (by simp; omega) ?_; intro v4 w4 ho4 hg4 _; have HO4 := Lib.hid ho4; have HB4 := Lib.hid ((alloc_b HB3.out (Nat.le_refl _) _).trans (OwnL.below (HO3.out.alloc _) hg4 (by simp; omega))); clear ho4 hg4)
                        | (refine wpList_appV lay_Acc rfl (.tmp 76) (.tmp 79) rfl w.heap.size _ ((l.take k) ++ [x]) rfl HO4.out AX (n - k) (c - k) (l.drop k) HDL.out rfl (fun h => HAXN.out h) (HMX.out.below HB4.out (fun _ => rfl)) HL5.out HL6.out HB4.out.size ?_; intro v5 w5 ho5 hb5 _; have HO5 := Lib.hid ho5; have HB5 := Lib.hid (HB4.out.trans hb5); clear ho5 hb5)))
                    go_ret2
                    exact ⟨_, by rw [HF.out]; rfl, by rw [HF.out, HTW.out]; have := HO5.out; rw [List.append_assoc] at this; exact this, HB5.out⟩
            · rw [if_neg h3] at hO
              have e3 : (h != 0) = true := bne_iff_ne.2 h3
              clear h3
              have HF : Hid (O = ([], 4)) := Lib.hid hO
              clear hO
              go_enter Try.func21, Try.ntmps21
              go_wp2_with (first
                | (go_at_call 29; (with_reducible refine CM.out.mono ?_); rintro r w1 ⟨rfl, hb1⟩; have HR1 := Lib.hid (HR0.out.keep hb1); have HB1 := Lib.hid (HB0.out.trans (hb1.mono HB0.out.size)); clear hb1; obtain ⟨⟨k0, k1, k2, k3⟩, _⟩ := SAcc.recs HR1.out)
                | (go_at_call 28; (with_reducible refine (CA.out w1).mono ?_); rintro r w2 ⟨rfl, hb2⟩; have HR2 := Lib.hid ((HR1.out.keep (alloc_b (Below.refl _ _) (Nat.le_refl _) (.cells #[.int .i64 x.id, .int .i64 x.member, .int .i64 x.kind, .int .i64 x.limit] 25))).keep hb2); have HB2 := Lib.hid ((alloc_b HB1.out (Nat.le_refl _) (.cells #[.int .i64 x.id, .int .i64 x.member, .int .i64 x.kind, .int .i64 x.limit] 25)).trans (hb2.mono (alloc_b HB1.out (Nat.le_refl _) (.cells #[.int .i64 x.id, .int .i64 x.member, .int .i64 x.kind, .int .i64 x.limit] 25)).size)); clear hb2; clear k0 k1 k2 k3; obtain ⟨⟨k0, k1, k2, k3⟩, _⟩ := SAcc.recs HR2.out)
                | (go_at_call 44; (with_reducible refine (CS.out _ HB2.out).mono ?_); rintro r wq ⟨rfl, hwq⟩; obtain rfl : w2 = wq := hwq)
                | (go_at_call 46; (with_reducible refine (CF.out _ HB2.out).mono ?_); rintro r w3 ⟨rfl, hb3⟩; have HB3 := Lib.hid (alloc_b (HB2.out.trans (hb3.mono HB2.out.size)) (Nat.le_refl _) (.cells #[.int .i64 y.id, .int .i64 y.member, .int .i64 y.kind, .int .i64 y.limit] 25)); have HR3 := Lib.hid ((HR2.out.keep hb3).keep (alloc_b (Below.refl _ _) (Nat.le_refl _) (.cells #[.int .i64 y.id, .int .i64 y.member, .int .i64 y.kind, .int .i64 y.limit] 25))); clear hb3; clear k0 k1 k2 k3; obtain ⟨⟨k0, k1, k2, k3⟩, _⟩ := SAcc.recs HR3.out)
                | (go_at_call 31; (with_reducible refine (CH.out _ HB3.out).mono ?_); rintro r w4 ⟨rfl, hb4⟩; have HB4 := Lib.hid (HB3.out.trans (hb4.mono HB3.out.size)); have HR4 := Lib.hid (HR3.out.keep hb4); clear hb4; clear k0 k1 k2 k3; obtain ⟨⟨k0, k1, k2, k3⟩, _⟩ := SAcc.recs HR4.out))
              go_ret2
              exact ⟨_, by rw [HF.out]; rfl, by rw [HF.out]; exact ownL_nil _ _, HB4.out⟩
          · rw [if_neg h2] at hO
            have e2 : (x.kind == 1) = false := beq_eq_false_iff_ne.2 h2
            clear h2
            have HF : Hid (O = (insAcc l x, 0)) := Lib.hid hO
            clear hO
            rcases HA.out with hc0 | ⟨b, off, rfl⟩
            · obtain rfl : c = 0 := hc0
              obtain rfl : n = 0 := by omega
              obtain rfl : l = [] := List.eq_nil_of_length_eq_zero HN.out.symm
              go_enter Try.func21, Try.ntmps21
              go_wp2_with (first
                | (go_at_call 29; (with_reducible refine CM.out.mono ?_); rintro r w1 ⟨rfl, hb1⟩; have HR1 := Lib.hid (HR0.out.keep hb1); have HB1 := Lib.hid (HB0.out.trans (hb1.mono HB0.out.size)); clear hb1; obtain ⟨⟨k0, k1, k2, k3⟩, _⟩ := SAcc.recs HR1.out)
                | (go_at_call 28; (with_reducible refine (CA.out w1).mono ?_); rintro r w2 ⟨rfl, hb2⟩; have HR2 := Lib.hid ((HR1.out.keep (alloc_b (Below.refl _ _) (Nat.le_refl _) (.cells #[.int .i64 x.id, .int .i64 x.member, .int .i64 x.kind, .int .i64 x.limit] 25))).keep hb2); have HB2 := Lib.hid ((alloc_b HB1.out (Nat.le_refl _) (.cells #[.int .i64 x.id, .int .i64 x.member, .int .i64 x.kind, .int .i64 x.limit] 25)).trans (hb2.mono (alloc_b HB1.out (Nat.le_refl _) (.cells #[.int .i64 x.id, .int .i64 x.member, .int .i64 x.kind, .int .i64 x.limit] 25)).size)); clear hb2; clear k0 k1 k2 k3; obtain ⟨⟨k0, k1, k2, k3⟩, _⟩ := SAcc.recs HR2.out)
                | (go_at_call 44; (with_reducible refine (CS.out _ HB2.out).mono ?_); rintro r wq ⟨rfl, hwq⟩; obtain rfl : w2 = wq := hwq)
                | (go_at_call 46; (with_reducible refine (CF.out _ HB2.out).mono ?_); rintro r w3 ⟨rfl, hb3⟩; have HB3 := Lib.hid (alloc_b (HB2.out.trans (hb3.mono HB2.out.size)) (Nat.le_refl _) (.cells #[.int .i64 y.id, .int .i64 y.member, .int .i64 y.kind, .int .i64 y.limit] 25)); have HR3 := Lib.hid ((HR2.out.keep hb3).keep (alloc_b (Below.refl _ _) (Nat.le_refl _) (.cells #[.int .i64 y.id, .int .i64 y.member, .int .i64 y.kind, .int .i64 y.limit] 25))); clear hb3; clear k0 k1 k2 k3; obtain ⟨⟨k0, k1, k2, k3⟩, _⟩ := SAcc.recs HR3.out))
              clear k0 k1 k2 k3
              go_loopw [12] (fun i wr => i = .int .i64 0 ∧ Hid (Below w.heap.size w wr) ∧ Hid (Rec wr w.heap.size 25 x.cells)) (fun i _ => 0)
              case atStart => exact ⟨rfl, HB3, HR3⟩
              case round =>
                obtain ⟨rfl, HB, HR⟩ := hrel
                obtain ⟨⟨k0, k1, k2, k3⟩, _⟩ := SAcc.recs HR.out
                have HBD : Hid (∀ j, Below w.heap.size w (wr.drewN j)) := Lib.hid (fun j => below_drewN HB.out j)
                have HRD : Hid (∀ W, Below wr.heap.size wr W → W.cell? ⟨w.heap.size, 0, none⟩ = some (.int .i64 x.id) ∧ W.cell? ⟨w.heap.size, 1, none⟩ = some (.int .i64 x.member) ∧ W.cell? ⟨w.heap.size, 2, none⟩ = some (.int .i64 x.kind) ∧ W.cell? ⟨w.heap.size, 3, none⟩ = some (.int .i64 x.limit)) := Lib.hid (fun W h => (SAcc.recs (HR.out.keep h)).1)
                have HTW : Hid (insAcc ([] : List SAcc) x = [] ++ x :: []) := Lib.hid rfl
                have HTL : Hid (0 = ([] : List SAcc).length) := Lib.hid rfl
                have HDL : Hid (0 = ([] : List SAcc).length) := Lib.hid rfl
                have HL1 : Hid ((([] : List SAcc).length + ([] : List SAcc).length) * 32 ≤ 140737488355328) := Lib.hid (by simp)
                have HL2 : Hid (([] : List SAcc).length + ([] : List SAcc).length ≤ 140737488355328) := Lib.hid (by simp)
                have HL3 : Hid ((([] : List SAcc).length + 1) * 32 ≤ 140737488355328) := Lib.hid (by simp)
                have HL4 : Hid (([] : List SAcc).length + 1 ≤ 140737488355328) := Lib.hid (by simp)
                have HL5 : Hid (((([] : List SAcc) ++ [x]).length + ([] : List SAcc).length) * 32 ≤ 140737488355328) := Lib.hid (by simp)
                have HL6 : Hid ((([] : List SAcc) ++ [x]).length + ([] : List SAcc).length ≤ 140737488355328) := Lib.hid (by simp)
                have HADN : Hid (A = none → 0 = 0) := Lib.hid (fun _ => rfl)
                have HAXN : Hid (A = none → 0 = 0) := Lib.hid (fun _ => rfl)
                have HMF : Hid (MemL SAcc.cells 4 w A []) := Lib.hid (memL_nil _ _)
                have HMX : Hid (MemL SAcc.cells 4 w A []) := Lib.hid (memL_nil _ _)
                go_wp2
                go_quiet (fail)
                all_goals go_wp2_with (first
                  | (at_builtin; first
                    | (refine wpList_appV lay_Acc rfl (.tmp 67) (.tmp 70) rfl w.heap.size _ [] rfl (ownL_nil _ _) _ 0 0 [] HTL.out rfl (fun _ => rfl) (memL_nil _ _) HL1.out HL2.out (HBD.out _).size ?_; intro v3 w3 ho3 hb3 hg3; rw [List.nil_append] at ho3; have HO3 := Lib.hid ho3; have HB3 := Lib.hid ((HBD.out _).trans hb3); have hsz3 := HB3.out.size; have HRX := Lib.hid (Rec.touch (HR.out.keep (below_drewN (Below.refl _ _) _)) (Touch.grown hg3) (fun h => by cases h)); clear k0 k1 k2 k3; obtain ⟨⟨k0, k1, k2, k3⟩, _⟩ := SAcc.recs HRX.out; clear ho3 hb3 hg3)
                    | (refine wpList_appL lay_Acc rfl (.tmp 72) (.tmp 74) rfl w.heap.size _ [] rfl (HO3.out.alloc _) _ 1 x rfl (lit_one _ _ _ (SAcc.cells x) rfl _ (by simp)) HL3.out HL4.out (by simp; omega) ?_; intro v4 w4 ho4 hg4 _; have HO4 := Lib.hid ho4; have HB4 := Lib.hid ((alloc_b HB3.out (Nat.le_refl _) _).trans (OwnL.below (HO3.out.alloc _) hg4 (by simp; omega))); clear ho4 hg4)
                    | (refine wpList_appV lay_Acc rfl (.tmp 76) (.tmp 79) rfl w.heap.size _ ([] ++ [x]) rfl HO4.out _ 0 0 [] HDL.out rfl (fun _ => rfl) (memL_nil _ _) HL5.out HL6.out HB4.out.size ?_; intro v5 w5 ho5 hb5 _; have HO5 := Lib.hid ho5; have HB5 := Lib.hid (HB4.out.trans hb5); clear ho5 hb5)))
                all_goals
                  go_ret2
                  exact ⟨_, by rw [HF.out]; rfl, by rw [HF.out, HTW.out]; have := HO5.out; rw [List.append_assoc] at this; exact this, HB5.out⟩
            · skip
              go_enter Try.func21, Try.ntmps21
              go_wp2_with (first
                | (go_at_call 29; (with_reducible refine CM.out.mono ?_); rintro r w1 ⟨rfl, hb1⟩; have HR1 := Lib.hid (HR0.out.keep hb1); have HB1 := Lib.hid (HB0.out.trans (hb1.mono HB0.out.size)); clear hb1; obtain ⟨⟨k0, k1, k2, k3⟩, _⟩ := SAcc.recs HR1.out)
                | (go_at_call 28; (with_reducible refine (CA.out w1).mono ?_); rintro r w2 ⟨rfl, hb2⟩; have HR2 := Lib.hid ((HR1.out.keep (alloc_b (Below.refl _ _) (Nat.le_refl _) (.cells #[.int .i64 x.id, .int .i64 x.member, .int .i64 x.kind, .int .i64 x.limit] 25))).keep hb2); have HB2 := Lib.hid ((alloc_b HB1.out (Nat.le_refl _) (.cells #[.int .i64 x.id, .int .i64 x.member, .int .i64 x.kind, .int .i64 x.limit] 25)).trans (hb2.mono (alloc_b HB1.out (Nat.le_refl _) (.cells #[.int .i64 x.id, .int .i64 x.member, .int .i64 x.kind, .int .i64 x.limit] 25)).size)); clear hb2; clear k0 k1 k2 k3; obtain ⟨⟨k0, k1, k2, k3⟩, _⟩ := SAcc.recs HR2.out)
                | (go_at_call 44; (with_reducible refine (CS.out _ HB2.out).mono ?_); rintro r wq ⟨rfl, hwq⟩; obtain rfl : w2 = wq := hwq)
                | (go_at_call 46; (with_reducible refine (CF.out _ HB2.out).mono ?_); rintro r w3 ⟨rfl, hb3⟩; have HB3 := Lib.hid (alloc_b (HB2.out.trans (hb3.mono HB2.out.size)) (Nat.le_refl _) (.cells #[.int .i64 y.id, .int .i64 y.member, .int .i64 y.kind, .int .i64 y.limit] 25)); have HR3 := Lib.hid ((HR2.out.keep hb3).keep (alloc_b (Below.refl _ _) (Nat.le_refl _) (.cells #[.int .i64 y.id, .int .i64 y.member, .int .i64 y.kind, .int .i64 y.limit] 25))); clear hb3; clear k0 k1 k2 k3; obtain ⟨⟨k0, k1, k2, k3⟩, _⟩ := SAcc.recs HR3.out))
              clear k0 k1 k2 k3
              go_loopw [12] (fun i wr => ∃ k : Nat, k ≤ n ∧ i = .int .i64 (k : Int) ∧ Hid (Below w.heap.size w wr) ∧ Hid (Rec wr w.heap.size 25 x.cells) ∧ Hid (∀ j, j < k → decide ((l.getD j SAcc.zero).id < x.id) = true)) (fun i _ => n - (intOf i).toNat)
              case atStart => exact ⟨0, Nat.zero_le _, rfl, HB3, HR3, Lib.hid (fun j hj => absurd hj (Nat.not_lt_zero j))⟩
              case round =>
                obtain ⟨k, hk, rfl, HB, HR, HP⟩ := hrel
                obtain ⟨⟨k0, k1, k2, k3⟩, _⟩ := SAcc.recs HR.out
                have HBD : Hid (∀ j, Below w.heap.size w (wr.drewN j)) := Lib.hid (fun j => below_drewN HB.out j)
                by_cases hlt : k < n
                · have hkl : k < l.length := by rw [← HN.out]; exact hlt
                  have HKL := Lib.hid hkl
                  obtain ⟨b', off', hAe, _, hcells⟩ := SAcc.reads (HI.out.below HB.out (fun _ => rfl)) (by omega)
                  obtain ⟨rfl, rfl⟩ : b = b' ∧ off = off' := by injection hAe with hAe; injection hAe with h1 h2; exact ⟨h1, h2⟩
                  clear hAe
                  obtain ⟨g0, g1, g2, g3⟩ := hcells k hkl
                  obtain ⟨z, hz⟩ : ∃ z, z = l.getD k SAcc.zero := ⟨_, rfl⟩
                  have HZ := Lib.hid hz
                  rw [← hz] at g0 g1 g2 g3
                  clear hz hkl hcells
                  by_cases hxi : z.id < x.id
                  · have e3 : decide (z.id < x.id) = true := decide_eq_true hxi
                    have HE3 := Lib.hid e3
                    clear hxi
                    go_wp2
                    go_quiet (fail)
                    go_wp2
                    go_roundw
                    case rel => exact ⟨k + 1, by omega, by go_num, Lib.hid (below_drewN HB.out _), Lib.hid (HR.out.keep (below_drewN (Below.refl _ _) _)), Lib.hid (fun j hj => by
                      rcases Nat.lt_or_ge j k with h | h
                      · exact HP.out j h
                      · obtain rfl : j = k := by omega
                        rw [← HZ.out]; exact HE3.out)⟩
                    case measure => simp [intOf]; omega
                  · have e3 : decide (z.id < x.id) = false := decide_eq_false hxi
                    have HE3 := Lib.hid e3
                    clear hxi
                    have HTW : Hid (insAcc l x = l.take k ++ x :: l.drop k) := Lib.hid (by
                      obtain ⟨h1, h2⟩ := part_at (l := l) (p := fun y => decide (y.id < x.id)) (k := k) (Nat.le_of_lt HKL.out) (fun j hj => by rw [← SAcc.at (x := SAcc.zero)]; exact HP.out j hj) (fun h => by rw [← SAcc.at (x := SAcc.zero), ← HZ.out]; exact HE3.out)
                      unfold insAcc
                      rw [h1, h2])
                    have HTL : Hid (k = (l.take k).length) := Lib.hid (by rw [List.length_take, ← HN.out]; omega)
                    have HDL : Hid (n - k = (l.drop k).length) := Lib.hid (by rw [List.length_drop, ← HN.out])
                    have HL1 : Hid ((([] : List SAcc).length + (l.take k).length) * 32 ≤ 140737488355328) := Lib.hid (by rw [← HTL.out, List.length_nil]; omega)
                    have HL2 : Hid (([] : List SAcc).length + (l.take k).length ≤ 140737488355328) := Lib.hid (by rw [← HTL.out, List.length_nil]; omega)
                    have HL3 : Hid (((l.take k).length + 1) * 32 ≤ 140737488355328) := Lib.hid (by rw [← HTL.out]; omega)
                    have HL4 : Hid ((l.take k).length + 1 ≤ 140737488355328) := Lib.hid (by rw [← HTL.out]; omega)
                    have HL5 : Hid (((l.take k ++ [x]).length + (l.drop k).length) * 32 ≤ 140737488355328) := Lib.hid (by rw [List.length_append, ← HTL.out, ← HDL.out, List.length_singleton]; omega)
                    have HL6 : Hid ((l.take k ++ [x]).length + (l.drop k).length ≤ 140737488355328) := Lib.hid (by rw [List.length_append, ← HTL.out, ← HDL.out, List.length_singleton]; omega)
                    have hkc : k ≤ c := by omega
                    have HADN : Hid ((some ⟨b, off, none⟩ : Option Addr) = none → c = 0) := Lib.hid (fun h => by cases h)
                    have HAXN : Hid ((some ⟨b, off + k * 4, none⟩ : Option Addr) = none → c - k = 0) := Lib.hid (fun h => by cases h)
                    have HMF : Hid (MemL SAcc.cells 4 w (some ⟨b, off, none⟩) (l.take k)) := Lib.hid (HI.out.front k)
                    have HMX : Hid (MemL SAcc.cells 4 w (some ⟨b, off + k * 4, none⟩) (l.drop k)) := Lib.hid (HI.out.back k)
                    go_wp2
                    go_quiet (fail)
                    go_wp2_with (first
                      | (at_builtin; first
                        | (refine wpList_appV lay_Acc rfl (.tmp 67) (.tmp 70) rfl w.heap.size _ [] rfl (ownL_nil _ _) (some ⟨b, off, none⟩) k c (l.take k) HTL.out rfl (fun h => HADN.out h) (HMF.out.below (HBD.out _) (fun _ => rfl)) HL1.out HL2.out (HBD.out _).size ?_; intro v3 w3 ho3 hb3 hg3; rw [List.nil_append] at ho3; have HO3 := Lib.hid ho3; have HB3 := Lib.hid ((HBD.out _).trans hb3); have hsz3 := HB3.out.size; have HRX := Lib.hid (Rec.touch (HR.out.keep (below_drewN (Below.refl _ _) _)) (Touch.grown hg3) (fun h => by cases h)); clear k0 k1 k2 k3; obtain ⟨⟨k0, k1, k2, k3⟩, _⟩ := SAcc.recs HRX.out; clear ho3 hb3 hg3)
                        | (refine wpList_appL lay_Acc rfl (.tmp 72) (.tmp 74) rfl w.heap.size _ (l.take k) rfl (HO3.out.alloc _) _ 1 x rfl (lit_one _ _ _ (SAcc.cells x) rfl _ (by simp)) HL3.out HL4.out (by simp; omega) ?_; intro v4 w4 ho4 hg4 _; have HO4 := Lib.hid ho4; have HB4 := Lib.hid ((alloc_b HB3.out (Nat.le_refl _) _).trans (OwnL.below (HO3.out.alloc _) hg4 (by simp; omega))); clear ho4 hg4)
                        | (refine wpList_appV lay_Acc rfl (.tmp 76) (.tmp 79) rfl w.heap.size _ ((l.take k) ++ [x]) rfl HO4.out (some ⟨b, off + k * 4, none⟩) (n - k) (c - k) (l.drop k) HDL.out rfl (fun h => HAXN.out h) (HMX.out.below HB4.out (fun _ => rfl)) HL5.out HL6.out HB4.out.size ?_; intro v5 w5 ho5 hb5 _; have HO5 := Lib.hid ho5; have HB5 := Lib.hid (HB4.out.trans hb5); clear ho5 hb5)))
                    go_ret2
                    exact ⟨_, by rw [HF.out]; rfl, by rw [HF.out, HTW.out]; have := HO5.out; rw [List.append_assoc] at this; exact this, HB5.out⟩
                · have HTW : Hid (insAcc l x = l.take k ++ x :: l.drop k) := Lib.hid (by
                    obtain ⟨h1, h2⟩ := part_at (l := l) (p := fun y => decide (y.id < x.id)) (k := k) (by rw [← HN.out]; exact hk) (fun j hj => by rw [← SAcc.at (x := SAcc.zero)]; exact HP.out j hj) (fun h => by have := HN.out; omega)
                    unfold insAcc
                    rw [h1, h2])
                  have HTL : Hid (k = (l.take k).length) := Lib.hid (by rw [List.length_take, ← HN.out]; omega)
                  have HDL : Hid (n - k = (l.drop k).length) := Lib.hid (by rw [List.length_drop, ← HN.out])
                  have HL1 : Hid ((([] : List SAcc).length + (l.take k).length) * 32 ≤ 140737488355328) := Lib.hid (by rw [← HTL.out, List.length_nil]; omega)
                  have HL2 : Hid (([] : List SAcc).length + (l.take k).length ≤ 140737488355328) := Lib.hid (by rw [← HTL.out, List.length_nil]; omega)
                  have HL3 : Hid (((l.take k).length + 1) * 32 ≤ 140737488355328) := Lib.hid (by rw [← HTL.out]; omega)
                  have HL4 : Hid ((l.take k).length + 1 ≤ 140737488355328) := Lib.hid (by rw [← HTL.out]; omega)
                  have HL5 : Hid (((l.take k ++ [x]).length + (l.drop k).length) * 32 ≤ 140737488355328) := Lib.hid (by rw [List.length_append, ← HTL.out, ← HDL.out, List.length_singleton]; omega)
                  have HL6 : Hid ((l.take k ++ [x]).length + (l.drop k).length ≤ 140737488355328) := Lib.hid (by rw [List.length_append, ← HTL.out, ← HDL.out, List.length_singleton]; omega)
                  have hkc : k ≤ c := by omega
                  obtain ⟨AX, hAX⟩ : ∃ AX, (if c = k then (some ⟨b, off, none⟩ : Option Addr) else some ⟨b, off + k * 4, none⟩) = AX := ⟨_, rfl⟩
                  have HADN : Hid ((some ⟨b, off, none⟩ : Option Addr) = none → c = 0) := Lib.hid (fun h => by cases h)
                  have HAXN : Hid (AX = none → c - k = 0) := Lib.hid (fun h => by rw [← hAX] at h; split at h <;> cases h)
                  have HMF : Hid (MemL SAcc.cells 4 w (some ⟨b, off, none⟩) (l.take k)) := Lib.hid (HI.out.front k)
                  have HMX : Hid (MemL SAcc.cells 4 w AX (l.drop k)) := Lib.hid (by
                    rw [← hAX]
                    by_cases hck : c = k
                    · rw [if_pos hck, List.drop_eq_nil_of_le (by rw [← HN.out]; omega)]; exact memL_nil _ _
                    · rw [if_neg hck]; exact HI.out.back k)
                  go_wp2
                  go_quiet (fail)
                  go_wp2_with (first
                    | (at_builtin; first
                      | (refine wpList_appV lay_Acc rfl (.tmp 67) (.tmp 70) rfl w.heap.size _ [] rfl (ownL_nil _ _) (some ⟨b, off, none⟩) k c (l.take k) HTL.out rfl (fun h => HADN.out h) (HMF.out.below (HBD.out _) (fun _ => rfl)) HL1.out HL2.out (HBD.out _).size ?_; intro v3 w3 ho3 hb3 hg3; rw [List.nil_append] at ho3; have HO3 := Lib.hid ho3; have HB3 := Lib.hid ((HBD.out _).trans hb3); have hsz3 := HB3.out.size; have HRX := Lib.hid (Rec.touch (HR.out.keep (below_drewN (Below.refl _ _) _)) (Touch.grown hg3) (fun h => by cases h)); clear k0 k1 k2 k3; obtain ⟨⟨k0, k1, k2, k3⟩, _⟩ := SAcc.recs HRX.out; clear ho3 hb3 hg3)
                      | (refine wpList_appL lay_Acc rfl (.tmp 72) (.tmp 74) rfl w.heap.size _ (l.take k) rfl (HO3.out.alloc _) _ 1 x rfl (lit_one _ _ _ (SAcc.cells x) rfl _ (by simp)) HL3.out HL4.out (by simp; omega) ?_; intro v4 w4 ho4 hg4 _; have HO4 := Lib.hid ho4; have HB4 := Lib.hid ((alloc_b HB3.out (Nat.le_refl _) _).trans (OwnL.below (HO3.out.alloc _) hg4 (by simp; omega))); clear ho4 hg4)
                      | (refine wpList_appV lay_Acc rfl (.tmp 76) (.tmp 79) rfl w.heap.size _ ((l.take k) ++ [x]) rfl HO4.out AX (n - k) (c - k) (l.drop k) HDL.out rfl (fun h => HAXN.out h) (HMX.out.below HB4.out (fun _ => rfl)) HL5.out HL6.out HB4.out.size ?_; intro v5 w5 ho5 hb5 _; have HO5 := Lib.hid ho5; have HB5 := Lib.hid (HB4.out.trans hb5); clear ho5 hb5)))
                  go_ret2
                  exact ⟨_, by rw [HF.out]; rfl, by rw [HF.out, HTW.out]; have := HO5.out; rw [List.append_assoc] at this; exact this, HB5.out⟩
      · rw [if_neg h1] at hO
        have e1 : (s != 1) = true := bne_iff_ne.2 h1
        clear h1
        have HF : Hid (O = ([], 7)) := Lib.hid hO
        clear hO
        go_enter Try.func21, Try.ntmps21
        go_wp2_with (first
          | (go_at_call 29; (with_reducible refine CM.out.mono ?_); rintro r w1 ⟨rfl, hb1⟩; have HR1 := Lib.hid (HR0.out.keep hb1); have HB1 := Lib.hid (HB0.out.trans (hb1.mono HB0.out.size)); clear hb1; obtain ⟨⟨k0, k1, k2, k3⟩, _⟩ := SAcc.recs HR1.out)
          | (go_at_call 28; (with_reducible refine (CA.out w1).mono ?_); rintro r w2 ⟨rfl, hb2⟩; have HR2 := Lib.hid ((HR1.out.keep (alloc_b (Below.refl _ _) (Nat.le_refl _) (.cells #[.int .i64 x.id, .int .i64 x.member, .int .i64 x.kind, .int .i64 x.limit] 25))).keep hb2); have HB2 := Lib.hid ((alloc_b HB1.out (Nat.le_refl _) (.cells #[.int .i64 x.id, .int .i64 x.member, .int .i64 x.kind, .int .i64 x.limit] 25)).trans (hb2.mono (alloc_b HB1.out (Nat.le_refl _) (.cells #[.int .i64 x.id, .int .i64 x.member, .int .i64 x.kind, .int .i64 x.limit] 25)).size)); clear hb2; clear k0 k1 k2 k3; obtain ⟨⟨k0, k1, k2, k3⟩, _⟩ := SAcc.recs HR2.out)
          | (go_at_call 44; (with_reducible refine (CS.out _ HB2.out).mono ?_); rintro r wq ⟨rfl, hwq⟩; obtain rfl : w2 = wq := hwq))
        go_ret2
        exact ⟨_, by rw [HF.out]; rfl, by rw [HF.out]; exact ownL_nil _ _, HB2.out⟩
end Go.Proofs.Ytjlhmiajklddiaa
