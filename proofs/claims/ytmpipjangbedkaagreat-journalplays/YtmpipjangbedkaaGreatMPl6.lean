import Derived.Test.YtmpipjangbedkaaGreatMPl2
import Derived.Test.YtmpipjangbedkaaGreatMEv4
import Derived.Test.YtmpipjangbedkaaGreatMDag3
/-
  The bytes of a config; the walk of the reference's PutPlan.
-/
namespace Go.Proofs.YtmpipjangbedkaaGreat
set_option maxRecDepth 8000
open Go Go.RowKit
set_option linter.unusedVariables false

/-- Each field fits. -/
structure CfgI (c : Cfg) : Prop where
  insts : ∀ x ∈ c.insts, I64 x.bucket ∧ I64 x.price ∧ I64 x.rate ∧ I64 x.slip
  skin : I64 c.skin
  times : I64 c.times
  port : I64 c.port
  bid : I64 c.bid
  lot : I64 c.lot
  hedge : I64 c.hedge
def insB (x : Ins) : List Nat := ((numB x.bucket ++ numB x.price) ++ numB x.rate) ++ numB x.slip
def restL (c : Cfg) : List Int := [c.skin, c.times, c.port, c.bid, c.lot, c.hedge]
def frontB (c : Cfg) (k : Nat) : List Nat := numB (c.insts.length : Int) ++ (c.insts.take k).flatMap insB
/-- A config's bytes, up to so many of its last numbers. -/
def planB (c : Cfg) (j : Nat) : List Nat := frontB c c.insts.length ++ ((restL c).take j).flatMap numB
def putP (c : Cfg) : List Nat × Int := if planOk c then (planB c 6, 0) else ([], 1)
theorem front_succ (c : Cfg) (k : Nat) (h : k < c.insts.length) : frontB c (k + 1) = frontB c k ++ insB (c.insts.getD k Ins.zero) := by
  unfold frontB
  rw [List.take_succ_eq_append_getElem h, List.flatMap_append, List.getD_eq_getElem?_getD, List.getElem?_eq_getElem h]
  simp
theorem planB_succ (c : Cfg) (j : Nat) (h : j < 6) : planB c (j + 1) = planB c j ++ numB ((restL c).getD j 0) := by
  unfold planB
  have h' : j < (restL c).length := h
  rw [List.take_succ_eq_append_getElem h', List.flatMap_append, List.getD_eq_getElem?_getD, List.getElem?_eq_getElem h']
  simp
theorem insB_len {x : Ins} (h : I64 x.bucket ∧ I64 x.price ∧ I64 x.rate ∧ I64 x.slip) : (insB x).length ≤ 40 := by
  unfold insB
  simp only [List.length_append]
  have := numB_len h.1; have := numB_len h.2.1; have := numB_len h.2.2.1; have := numB_len h.2.2.2
  omega
theorem flat_len : ∀ l : List Ins, (∀ x ∈ l, I64 x.bucket ∧ I64 x.price ∧ I64 x.rate ∧ I64 x.slip) → (l.flatMap insB).length ≤ 40 * l.length := by
  intro l
  induction l with
  | nil => intro _; simp
  | cons x l ih =>
    intro h
    rw [List.flatMap_cons, List.length_append, List.length_cons]
    have := insB_len (h x (List.mem_cons_self ..))
    have := ih (fun y hy => h y (List.mem_cons_of_mem _ hy))
    omega
theorem front_len {c : Cfg} (h : CfgI c) (hl : c.insts.length ≤ 1000000) (k : Nat) : (frontB c k).length ≤ 10 + 40 * c.insts.length := by
  unfold frontB
  rw [List.length_append]
  have h1 := numB_len (n := (c.insts.length : Int)) (by unfold I64; omega)
  have h2 := flat_len (c.insts.take k) (fun x hx => h.insts x (List.mem_of_mem_take hx))
  rw [List.length_take] at h2
  omega
theorem oct_append {a b : List Nat} (ha : Oct a) (hb : Oct b) : Oct (a ++ b) := fun x hx => (List.mem_append.1 hx).elim (ha x) (hb x)
theorem insB_oct (x : Ins) : Oct (insB x) := oct_append (oct_append (oct_append (numB_oct _) (numB_oct _)) (numB_oct _)) (numB_oct _)
theorem front_oct (c : Cfg) (k : Nat) : Oct (frontB c k) := oct_append (numB_oct _) (fun x hx => by
  obtain ⟨y, _, hy⟩ := List.mem_flatMap.1 hx
  exact insB_oct y x hy)
theorem planB_oct (c : Cfg) (j : Nat) : Oct (planB c j) := oct_append (front_oct c _) (fun x hx => by
  obtain ⟨y, _, hy⟩ := List.mem_flatMap.1 hx
  exact numB_oct y x hy)
theorem rest_len : ∀ l : List Int, (∀ x ∈ l, I64 x) → (l.flatMap numB).length ≤ 10 * l.length := by
  intro l
  induction l with
  | nil => intro _; simp
  | cons x l ih =>
    intro h
    rw [List.flatMap_cons, List.length_append, List.length_cons]
    have := numB_len (h x (List.mem_cons_self ..))
    have := ih (fun y hy => h y (List.mem_cons_of_mem _ hy))
    omega
theorem restL_i64 {c : Cfg} (h : CfgI c) : ∀ x ∈ restL c, I64 x := by
  intro x hx
  simp only [restL, List.mem_cons, List.not_mem_nil, or_false] at hx
  rcases hx with rfl | rfl | rfl | rfl | rfl | rfl
  · exact h.skin
  · exact h.times
  · exact h.port
  · exact h.bid
  · exact h.lot
  · exact h.hedge
theorem planB_len {c : Cfg} (h : CfgI c) (hl : c.insts.length ≤ 1000000) (j : Nat) : (planB c j).length ≤ 70 + 40 * c.insts.length := by
  unfold planB
  rw [List.length_append]
  have h1 := front_len h hl c.insts.length
  have h2 := rest_len ((restL c).take j) (fun x hx => restL_i64 h x (List.mem_of_mem_take hx))
  have h3 : ((restL c).take j).length ≤ 6 := by rw [List.length_take]; exact Nat.min_le_right _ _
  omega
/-- Bytes of the call's own. -/
def SpP.own (base : Nat) (l : List Nat) : SpP := ⟨fun v W => OwnB W base v l, fun _ _ _ hb h => h.keep hb⟩
/-- A number behind bytes of the call's own. -/
theorem num_own {base : Nat} {v : Value} {l : List Nat} {n : Int} {w : World} (h : OwnB w base v l) (hO : Oct l) (hl : l.length ≤ 1000000) (hn : I64 n) (hb : base ≤ w.heap.size) : Calls Tryz.prog 39 #[v, .int .i64 n] w fun e w' => ∃ v', e = .returned v' ∧ OwnB w' base v' (l ++ numB n) ∧ Below w.heap.size w w' := by
  obtain ⟨A, c, rfl, hB, _, _, hA, _⟩ := h.form
  refine (number_any A l c n w hB hO hA (by omega) hn).mono ?_
  rintro e w' ⟨v', rfl, ho, hb'⟩
  exact ⟨v', rfl, ho.base hb, hb'⟩
def BytesK7 (w : World) (l : List Nat) (code : Int) (e : Ending) (w' : World) : Prop :=
  ∃ v, e = .returned (.tuple #[v, .int .i64 code]) ∧ OwnB w' w.heap.size v l ∧ Below w.heap.size w w'
set_option maxRecDepth 100000 in
set_option maxHeartbeats 2000000 in
theorem rputplan_any (cf : Cfg) (ok : CfgI cf) (A : Option Addr) (n c : Nat) (w : World) (hn : n = cf.insts.length) (hI : InsM w A cf.insts) : Calls Tryz.prog 13 #[cf.v (.slice A n c)] w (BytesK7 w (putP cf).1 (putP cf).2) := by
  have HN := Lib.hid hn
  have HC0 : Hid (CfAt (w.alloc (.cells (cf.cells (.slice A n c)).toArray 31)) w.heap.size cf (.slice A n c)) := Lib.hid (Rec.new w _ (cf.cells (.slice A n c)) _ rfl)
  have HB0 : Hid (Below w.heap.size w (w.alloc (.cells (cf.cells (.slice A n c)).toArray 31))) := Lib.hid ((Below.refl _ _).alloc (Nat.le_refl _) _)
  have HI := Lib.hid hI
  have CR := Lib.hid (rplan_any cf A n c _ hn (hI.below HB0.out))
  cases hp : planOk cf with
  | false =>
    rw [show putP cf = ([], 1) from by unfold putP; rw [hp]; rfl]
    rw [hp] at CR
    have F : Hid (∀ W, Below w.heap.size w W → BytesK7 w [] 1 (.returned (.tuple #[.slice none 0 0, .int .i64 1])) W) := Lib.hid (fun W hW => ⟨_, rfl, ownB_nil W _, hW⟩)
    unfold Cfg.v at CR ⊢
    simp only [Cfg.cells] at CR
    clear hn hI hp
    go_enter Tryz.func13, Tryz.ntmps13
    go_wp2_with (go_at_call 38; (with_reducible refine CR.out.mono ?_); rintro r w1 ⟨rfl, hb1⟩; have HB1 := Lib.hid hb1; clear hb1)
    go_ret2
    exact F.out _ (HB0.out.trans (HB1.out.mono HB0.out.size))
  | true =>
    have hn6 : n ≤ 6 := by
      rw [hn]
      unfold planOk at hp
      rw [Bool.and_eq_true, Bool.and_eq_true] at hp
      exact of_decide_eq_true hp.1.2
    rw [show putP cf = (planB cf 6, 0) from by unfold putP; rw [hp]; rfl]
    rw [hp] at CR
    have HOK := Lib.hid ok
    have CN := Lib.hid (fun W => num_own (n := (n : Int)) (ownB_nil W w.heap.size) (by unfold Oct; decide) (by simp) (by unfold I64; omega))
    have HF0 : Hid (frontB cf 0 = [] ++ numB (n : Int)) := Lib.hid (by unfold frontB; rw [hn]; simp)
    rw [← HF0.out] at CN
    have HLF : Hid (∀ k, (frontB cf k).length ≤ 300) := Lib.hid (fun k => by have := front_len ok (by omega) k; omega)
    have HLP : Hid (∀ k, (planB cf k).length ≤ 400) := Lib.hid (fun k => by have := planB_len ok (by omega) k; omega)
    unfold Cfg.v at CR ⊢
    simp only [Cfg.cells] at CR
    clear hn hI hp ok HF0
    go_enter Tryz.func13, Tryz.ntmps13
    go_wp2_with (first
      | (go_at_call 38; (with_reducible refine CR.out.mono ?_); rintro r w1 ⟨rfl, hb1⟩; have HB1 := Lib.hid (HB0.out.trans (hb1.mono HB0.out.size)); have HC1 := Lib.hid (HC0.out.keep hb1); obtain ⟨d0, d1, d2, d3, d4, d5, d6⟩ := HC1.out.reads; clear hb1)
      | (go_at_call 39; (with_reducible refine (CN.out _ HB1.out.size).mono ?_); rintro r w2 ⟨v2, rfl, ho2, hb2⟩; have HO2 := Lib.hid ho2; have HB2 := Lib.hid (HB1.out.trans (hb2.mono HB1.out.size)); have HC2 := Lib.hid (HC1.out.keep hb2); clear ho2 hb2 d0 d1 d2 d3 d4 d5 d6))
    go_loopw [4, 5] (fun out i wr => ∃ (k : Nat) (V : Value), V = out ∧ k ≤ n ∧ i = .int .i64 (k : Int) ∧ Hid (OwnB wr w.heap.size V (frontB cf k)) ∧ Hid (CfAt wr w.heap.size cf (.slice A n c)) ∧ Hid (Below w.heap.size w wr)) (fun _ i _ => n - (intOf i).toNat)
    case atStart => exact ⟨0, _, rfl, Nat.zero_le _, rfl, HO2, HC2, HB2⟩
    case round =>
      obtain ⟨k, V, rfl, hk, rfl, HO, HC, HB⟩ := hrel
      obtain ⟨d0, d1, d2, d3, d4, d5, d6⟩ := HC.out.reads
      by_cases hlt : k < n
      · have hkl : k < cf.insts.length := by rw [← HN.out]; exact hlt
        obtain ⟨b, off, rfl, hcells⟩ := (HI.out.below HB.out) (by omega)
        obtain ⟨e0, e1, e2, e3⟩ := hcells k hkl
        have HS := Lib.hid (front_succ cf k hkl)
        have hxi := HOK.out.insts (cf.insts.getD k Ins.zero) (by rw [List.getD_eq_getElem?_getD, List.getElem?_eq_getElem hkl]; exact List.getElem_mem hkl)
        generalize cf.insts.getD k Ins.zero = x at *
        have HXI := Lib.hid hxi
        have HL1 := Lib.hid (HLF.out k)
        have HQ1 := Lib.hid (front_oct cf k)
        have hcl := HC.out.lt
        obtain ⟨F0, hF0⟩ : ∃ F0, F0 = frontB cf k := ⟨_, rfl⟩
        rw [← hF0] at HO HS HL1 HQ1
        have HX0 : Hid (Rec (wr.alloc (.cells x.cells.toArray 70)) wr.heap.size 70 x.cells) := Lib.hid (Rec.new wr _ x.cells _ rfl)
        have HO0 : Hid (OwnB (wr.alloc (.cells x.cells.toArray 70)) w.heap.size V F0) := Lib.hid (HO.out.alloc _)
        have HB3 : Hid (Below wr.heap.size wr (wr.alloc (.cells x.cells.toArray 70))) := Lib.hid ((Below.refl _ _).alloc (Nat.le_refl _) _)
        have HWB : Hid (w.heap.size ≤ (wr.alloc (.cells x.cells.toArray 70)).heap.size) := Lib.hid (Nat.le_trans HB.out.size HB3.out.size)
        have FX : Hid (∀ W, Below (wr.alloc (.cells x.cells.toArray 70)).heap.size (wr.alloc (.cells x.cells.toArray 70)) W → W.cell? ⟨wr.heap.size, 0, none⟩ = some (.int .i64 x.bucket) ∧ W.cell? ⟨wr.heap.size, 1, none⟩ = some (.int .i64 x.price) ∧ W.cell? ⟨wr.heap.size, 2, none⟩ = some (.int .i64 x.rate) ∧ W.cell? ⟨wr.heap.size, 3, none⟩ = some (.int .i64 x.slip)) := Lib.hid (fun W hW => ⟨(HX0.out.keep hW).cell 0 rfl, (HX0.out.keep hW).cell 1 rfl, (HX0.out.keep hW).cell 2 rfl, (HX0.out.keep hW).cell 3 rfl⟩)
        clear hxi hcells hkl hF0 CR CN
        obtain ⟨F1, hF1⟩ : ∃ F, F = F0 ++ numB x.bucket := ⟨_, rfl⟩
        have NN1 : Hid (∀ V W, OwnB W w.heap.size V F0 → w.heap.size ≤ W.heap.size → Calls Tryz.prog 39 #[V, .int .i64 x.bucket] W fun e w' => ∃ v', e = .returned v' ∧ OwnB w' w.heap.size v' F1 ∧ Below W.heap.size W w') := Lib.hid (fun V W h hb => by rw [hF1]; exact num_own h HQ1.out (by have := HL1.out; omega) HXI.out.1 hb)
        have HQ2 : Hid (Oct F1) := Lib.hid (by rw [hF1]; exact oct_append HQ1.out (numB_oct _))
        have HL2 : Hid (F1.length ≤ 310) := Lib.hid (by rw [hF1, List.length_append]; have := numB_len HXI.out.1; have := HL1.out; omega)
        obtain ⟨F2, hF2⟩ : ∃ F, F = F1 ++ numB x.price := ⟨_, rfl⟩
        have NN2 : Hid (∀ V W, OwnB W w.heap.size V F1 → w.heap.size ≤ W.heap.size → Calls Tryz.prog 39 #[V, .int .i64 x.price] W fun e w' => ∃ v', e = .returned v' ∧ OwnB w' w.heap.size v' F2 ∧ Below W.heap.size W w') := Lib.hid (fun V W h hb => by rw [hF2]; exact num_own h HQ2.out (by have := HL2.out; omega) HXI.out.2.1 hb)
        have HQ3 : Hid (Oct F2) := Lib.hid (by rw [hF2]; exact oct_append HQ2.out (numB_oct _))
        have HL3 : Hid (F2.length ≤ 320) := Lib.hid (by rw [hF2, List.length_append]; have := numB_len HXI.out.2.1; have := HL2.out; omega)
        obtain ⟨F3, hF3⟩ : ∃ F, F = F2 ++ numB x.rate := ⟨_, rfl⟩
        have NN3 : Hid (∀ V W, OwnB W w.heap.size V F2 → w.heap.size ≤ W.heap.size → Calls Tryz.prog 39 #[V, .int .i64 x.rate] W fun e w' => ∃ v', e = .returned v' ∧ OwnB w' w.heap.size v' F3 ∧ Below W.heap.size W w') := Lib.hid (fun V W h hb => by rw [hF3]; exact num_own h HQ3.out (by have := HL3.out; omega) HXI.out.2.2.1 hb)
        have HQ4 : Hid (Oct F3) := Lib.hid (by rw [hF3]; exact oct_append HQ3.out (numB_oct _))
        have HL4 : Hid (F3.length ≤ 330) := Lib.hid (by rw [hF3, List.length_append]; have := numB_len HXI.out.2.2.1; have := HL3.out; omega)
        obtain ⟨F4, hF4⟩ : ∃ F, F = F3 ++ numB x.slip := ⟨_, rfl⟩
        have NN4 : Hid (∀ V W, OwnB W w.heap.size V F3 → w.heap.size ≤ W.heap.size → Calls Tryz.prog 39 #[V, .int .i64 x.slip] W fun e w' => ∃ v', e = .returned v' ∧ OwnB w' w.heap.size v' F4 ∧ Below W.heap.size W w') := Lib.hid (fun V W h hb => by rw [hF4]; exact num_own h HQ4.out (by have := HL4.out; omega) HXI.out.2.2.2 hb)
        have HQ5 : Hid (Oct F4) := Lib.hid (by rw [hF4]; exact oct_append HQ4.out (numB_oct _))
        have HL5 : Hid (F4.length ≤ 340) := Lib.hid (by rw [hF4, List.length_append]; have := numB_len HXI.out.2.2.2; have := HL4.out; omega)
        have HF4 : Hid (frontB cf (k + 1) = F4) := Lib.hid (by rw [HS.out, hF4, hF3, hF2, hF1]; unfold insB; simp only [List.append_assoc])
        clear hF1 hF2 hF3 hF4 HS
        go_wp2
        refine wp_region_dagY [28, 29, 30, 31, 32, 33, 34, 35, 36, 37, 38, 39, 40] (fun W W' => Below W.heap.size W W') (fun _ W => Below (wr.alloc (.cells x.cells.toArray 70)).heap.size (wr.alloc (.cells x.cells.toArray 70)) W) (spAt [.val (V), .val (.pointer (some ⟨wr.heap.size, 0, none⟩)), .val (.int .i64 x.bucket), (SpP.own w.heap.size F1), .val (.pointer (some ⟨wr.heap.size, 1, none⟩)), .val (.int .i64 x.price), (SpP.own w.heap.size F2), .val (.pointer (some ⟨wr.heap.size, 2, none⟩)), .val (.int .i64 x.rate), (SpP.own w.heap.size F3), .val (.pointer (some ⟨wr.heap.size, 3, none⟩)), .val (.int .i64 x.slip), (SpP.own w.heap.size F4)]) (fun a v W => OwnB W w.heap.size v F4 ∧ Below (wr.alloc (.cells x.cells.toArray 70)).heap.size (wr.alloc (.cells x.cells.toArray 70)) W) rfl rfl rfl rfl rfl rfl rfl (spAt_st _) (fun _ => (Below.refl _ _).drew) ⟨?_, ?_, ?_, ?_, ?_, ?_, ?_, ?_, ?_, ?_, ?_, ?_, ?_, trivial⟩ ?_ ?_
        · intro a W K r ho hW hr0 hrN0 hpre hK
          have hrN : r ≤ 14 := hrN0
          clear hrN0
          rw [if_pos (wanted_none rfl)]
          have e0 : a.tmps.getD 4 undef = V := ho.slot 4 (by decide)
          go_simp
          exact hK _ _ (Below.refl _ _) (fun _ _ => hW) rfl
        · intro a W K r ho hW hr0 hrN0 hpre hK
          have hrN : r ≤ 14 := hrN0
          clear hrN0
          rw [if_pos (wanted_none rfl)]
          have e0 : a.tmps.getD 6 undef = .pointer (some ⟨wr.heap.size, 0, none⟩) := ho.slot 6 (by decide)
          go_simp
          exact hK _ _ (Below.refl _ _) (fun _ _ => hW) rfl
        · intro a W K r ho hW hr0 hrN0 hpre hK
          have hrN : r ≤ 14 := hrN0
          clear hrN0
          rw [if_pos (wanted_none rfl)]
          have e0 : a.tmps.getD 29 undef = .pointer (some ⟨wr.heap.size, 0, none⟩) := hpre ⟨1, .data⟩ (by simp) rfl _ rfl
          obtain ⟨q0, q1, q2, q3⟩ := FX.out W hW
          go_simp
          exact hK _ _ (Below.refl _ _) (fun _ _ => hW) rfl
        · intro a W K r ho hW hr0 hrN0 hpre hK
          have hrN : r ≤ 14 := hrN0
          clear hrN0
          rw [if_pos (wanted_none rfl)]
          have e0 : a.tmps.getD 28 undef = V := hpre ⟨0, .data⟩ (by simp) rfl _ rfl
          have e1 : a.tmps.getD 30 undef = .int .i64 x.bucket := hpre ⟨2, .data⟩ (by simp) rfl _ rfl
          go_simp
          refine (NN1.out _ _ (HO0.out.keep hW) (Nat.le_trans HWB.out hW.size)).mono ?_
          rintro e w5 ⟨v5, rfl, ho5, hb5⟩
          exact hK _ _ hb5 (fun _ _ => hW.trans (hb5.mono hW.size)) ho5
        · intro a W K r ho hW hr0 hrN0 hpre hK
          have hrN : r ≤ 14 := hrN0
          clear hrN0
          rw [if_pos (wanted_none rfl)]
          have e0 : a.tmps.getD 6 undef = .pointer (some ⟨wr.heap.size, 0, none⟩) := ho.slot 6 (by decide)
          go_simp
          exact hK _ _ (Below.refl _ _) (fun _ _ => hW) rfl
        · intro a W K r ho hW hr0 hrN0 hpre hK
          have hrN : r ≤ 14 := hrN0
          clear hrN0
          rw [if_pos (wanted_none rfl)]
          have e0 : a.tmps.getD 32 undef = .pointer (some ⟨wr.heap.size, 1, none⟩) := hpre ⟨4, .data⟩ (by simp) rfl _ rfl
          obtain ⟨q0, q1, q2, q3⟩ := FX.out W hW
          go_simp
          exact hK _ _ (Below.refl _ _) (fun _ _ => hW) rfl
        · intro a W K r ho hW hr0 hrN0 hpre hK
          have hrN : r ≤ 14 := hrN0
          clear hrN0
          rw [if_pos (wanted_none rfl)]
          have e0 : ((SpP.own w.heap.size F1)).p (a.tmps.getD 31 undef) W := hpre ⟨3, .data⟩ (by simp) rfl _ rfl
          have e1 : a.tmps.getD 33 undef = .int .i64 x.price := hpre ⟨5, .data⟩ (by simp) rfl _ rfl
          obtain ⟨A1, c1, e0x, e0y⟩ := e0.form
          rw [e0x] at e0
          have H0 := Lib.hid e0
          clear e0 e0y
          go_simp
          refine (NN2.out _ _ H0.out (Nat.le_trans HWB.out hW.size)).mono ?_
          rintro e w5 ⟨v5, rfl, ho5, hb5⟩
          exact hK _ _ hb5 (fun _ _ => hW.trans (hb5.mono hW.size)) ho5
        · intro a W K r ho hW hr0 hrN0 hpre hK
          have hrN : r ≤ 14 := hrN0
          clear hrN0
          rw [if_pos (wanted_none rfl)]
          have e0 : a.tmps.getD 6 undef = .pointer (some ⟨wr.heap.size, 0, none⟩) := ho.slot 6 (by decide)
          go_simp
          exact hK _ _ (Below.refl _ _) (fun _ _ => hW) rfl
        · intro a W K r ho hW hr0 hrN0 hpre hK
          have hrN : r ≤ 14 := hrN0
          clear hrN0
          rw [if_pos (wanted_none rfl)]
          have e0 : a.tmps.getD 35 undef = .pointer (some ⟨wr.heap.size, 2, none⟩) := hpre ⟨7, .data⟩ (by simp) rfl _ rfl
          obtain ⟨q0, q1, q2, q3⟩ := FX.out W hW
          go_simp
          exact hK _ _ (Below.refl _ _) (fun _ _ => hW) rfl
        · intro a W K r ho hW hr0 hrN0 hpre hK
          have hrN : r ≤ 14 := hrN0
          clear hrN0
          rw [if_pos (wanted_none rfl)]
          have e0 : ((SpP.own w.heap.size F2)).p (a.tmps.getD 34 undef) W := hpre ⟨6, .data⟩ (by simp) rfl _ rfl
          have e1 : a.tmps.getD 36 undef = .int .i64 x.rate := hpre ⟨8, .data⟩ (by simp) rfl _ rfl
          obtain ⟨A1, c1, e0x, e0y⟩ := e0.form
          rw [e0x] at e0
          have H0 := Lib.hid e0
          clear e0 e0y
          go_simp
          refine (NN3.out _ _ H0.out (Nat.le_trans HWB.out hW.size)).mono ?_
          rintro e w5 ⟨v5, rfl, ho5, hb5⟩
          exact hK _ _ hb5 (fun _ _ => hW.trans (hb5.mono hW.size)) ho5
        · intro a W K r ho hW hr0 hrN0 hpre hK
          have hrN : r ≤ 14 := hrN0
          clear hrN0
          rw [if_pos (wanted_none rfl)]
          have e0 : a.tmps.getD 6 undef = .pointer (some ⟨wr.heap.size, 0, none⟩) := ho.slot 6 (by decide)
          go_simp
          exact hK _ _ (Below.refl _ _) (fun _ _ => hW) rfl
        · intro a W K r ho hW hr0 hrN0 hpre hK
          have hrN : r ≤ 14 := hrN0
          clear hrN0
          rw [if_pos (wanted_none rfl)]
          have e0 : a.tmps.getD 38 undef = .pointer (some ⟨wr.heap.size, 3, none⟩) := hpre ⟨10, .data⟩ (by simp) rfl _ rfl
          obtain ⟨q0, q1, q2, q3⟩ := FX.out W hW
          go_simp
          exact hK _ _ (Below.refl _ _) (fun _ _ => hW) rfl
        · intro a W K r ho hW hr0 hrN0 hpre hK
          have hrN : r ≤ 14 := hrN0
          clear hrN0
          rw [if_pos (wanted_none rfl)]
          have e0 : ((SpP.own w.heap.size F3)).p (a.tmps.getD 37 undef) W := hpre ⟨9, .data⟩ (by simp) rfl _ rfl
          have e1 : a.tmps.getD 39 undef = .int .i64 x.slip := hpre ⟨11, .data⟩ (by simp) rfl _ rfl
          obtain ⟨A1, c1, e0x, e0y⟩ := e0.form
          rw [e0x] at e0
          have H0 := Lib.hid e0
          clear e0 e0y
          go_simp
          refine (NN4.out _ _ H0.out (Nat.le_trans HWB.out hW.size)).mono ?_
          rintro e w5 ⟨v5, rfl, ho5, hb5⟩
          exact hK _ _ hb5 (fun _ _ => hW.trans (hb5.mono hW.size)) ho5
        · intro a W K r ho hW hall hF
          have e0 : OwnB W w.heap.size (a.tmps.getD 40 undef) F4 := hall 12 _ rfl
          obtain ⟨A1, c1, e0x, e0y⟩ := e0.form
          rw [e0x] at e0
          have H0 := Lib.hid e0
          clear e0 e0y hall
          go_simp
          exact hF _ _ ⟨H0.out, hW⟩
        · intro a V' W ho hF
          obtain ⟨e4, hW⟩ := hF
          have heq := ho.eq
          clear ho
          simp only [putL] at heq
          generalize a.tmps.getD 28 undef = u28 at heq
          generalize a.tmps.getD 29 undef = u29 at heq
          generalize a.tmps.getD 30 undef = u30 at heq
          generalize a.tmps.getD 31 undef = u31 at heq
          generalize a.tmps.getD 32 undef = u32 at heq
          generalize a.tmps.getD 33 undef = u33 at heq
          generalize a.tmps.getD 34 undef = u34 at heq
          generalize a.tmps.getD 35 undef = u35 at heq
          generalize a.tmps.getD 36 undef = u36 at heq
          generalize a.tmps.getD 37 undef = u37 at heq
          generalize a.tmps.getD 38 undef = u38 at heq
          generalize a.tmps.getD 39 undef = u39 at heq
          generalize a.tmps.getD 40 undef = u40 at heq
          subst heq
          rename_i hKK
          refine hKK _ _ ?_
          have H4 := Lib.hid e4
          have HB5 := Lib.hid (HB3.out.trans (hW.mono HB3.out.size))
          clear e4 hW
          go_simp
          go_wp2
          go_roundw
          case rel => exact ⟨k + 1, _, rfl, by omega, by go_num, Lib.hid (by rw [HF4.out]; exact H4.out), Lib.hid (HC.out.keep HB5.out), Lib.hid (HB.out.trans (HB5.out.mono HB.out.size))⟩
          case measure => simp [intOf]; omega
      · obtain rfl : k = n := by omega
        have HP0 : Hid (frontB cf k = planB cf 0) := Lib.hid (by unfold planB; rw [HN.out]; simp)
        rw [HP0.out] at HO
        obtain ⟨B7, hB7⟩ : ∃ B7, B7 = wr.heap.size := ⟨_, rfl⟩
        have HE := Lib.hid hB7
        have HL7 : Hid (Rec (wr.alloc (.cells #[.int .i64 cf.skin, .int .i64 cf.times, .int .i64 cf.port, .int .i64 cf.bid, .int .i64 cf.lot, .int .i64 cf.hedge] 2)) B7 2 #[.int .i64 cf.skin, .int .i64 cf.times, .int .i64 cf.port, .int .i64 cf.bid, .int .i64 cf.lot, .int .i64 cf.hedge].toList) := Lib.hid (by rw [hB7]; exact Rec.new wr _ _ _ rfl)
        have HO7 : Hid (OwnB (wr.alloc (.cells #[.int .i64 cf.skin, .int .i64 cf.times, .int .i64 cf.port, .int .i64 cf.bid, .int .i64 cf.lot, .int .i64 cf.hedge] 2)) w.heap.size V (planB cf 0)) := Lib.hid (HO.out.alloc _)
        have HB7 : Hid (Below w.heap.size w (wr.alloc (.cells #[.int .i64 cf.skin, .int .i64 cf.times, .int .i64 cf.port, .int .i64 cf.bid, .int .i64 cf.lot, .int .i64 cf.hedge] 2))) := Lib.hid (HB.out.alloc HB.out.size _)
        clear hB7
        go_wp2
        rw [← HE.out]
        go_loopw [4, 8] (fun out i wq => ∃ (j : Nat) (V' : Value), V' = out ∧ j ≤ 6 ∧ i = .int .i64 (j : Int) ∧ Hid (OwnB wq w.heap.size V' (planB cf j)) ∧ Hid (Rec wq B7 2 #[.int .i64 cf.skin, .int .i64 cf.times, .int .i64 cf.port, .int .i64 cf.bid, .int .i64 cf.lot, .int .i64 cf.hedge].toList) ∧ Hid (Below w.heap.size w wq)) (fun _ i _ => 6 - (intOf i).toNat)
        case atStart => exact ⟨0, _, rfl, Nat.zero_le _, rfl, HO7, HL7, HB7⟩
        case round =>
          obtain ⟨j, V', rfl, hj, rfl, HOj, HLj, HBj⟩ := hrel
          by_cases hlt6 : j < 6
          · have HS := Lib.hid (planB_succ cf j hlt6)
            have hxi := restL_i64 HOK.out ((restL cf).getD j 0) (by rw [List.getD_eq_getElem?_getD, List.getElem?_eq_getElem (show j < (restL cf).length from hlt6)]; exact List.getElem_mem _)
            have hcell : wr.cell? ⟨B7, j, none⟩ = some (.int .i64 ((restL cf).getD j 0)) := by
              refine HLj.out.cell j ?_
              rcases (by omega : j = 0 ∨ j = 1 ∨ j = 2 ∨ j = 3 ∨ j = 4 ∨ j = 5) with rfl | rfl | rfl | rfl | rfl | rfl <;> rfl
            have CNj := Lib.hid (num_own HOj.out (planB_oct cf j) (by have := HLP.out j; omega) hxi HBj.out.size)
            rw [← HS.out] at CNj
            generalize (restL cf).getD j 0 = y at *
            clear hxi
            go_wp2_with (go_at_call 39; (with_reducible refine CNj.out.mono ?_); rintro r w5 ⟨v5, rfl, ho5, hb5⟩; have HO5 := Lib.hid ho5; have HB5 := Lib.hid (HBj.out.trans (hb5.mono HBj.out.size)); have HL5 := Lib.hid (HLj.out.keep hb5); clear ho5 hb5)
            go_roundw
            case rel => exact ⟨j + 1, _, rfl, by omega, by go_num, HO5, HL5, HB5⟩
            case measure => simp [intOf]; omega
          · obtain rfl : j = 6 := by omega
            go_wp2
            go_ret2
            exact ⟨_, rfl, HOj.out, HBj.out⟩
end Go.Proofs.YtmpipjangbedkaaGreat
