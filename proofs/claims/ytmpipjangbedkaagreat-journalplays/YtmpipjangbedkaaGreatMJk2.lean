import Derived.Test.YtmpipjangbedkaaGreatMOkP
import Derived.Test.YtmpipjangbedkaaGreatMPq1
import Derived.Test.YtmpipjangbedkaaGreatMInv
import Derived.Test.YtmpipjangbedkaaGreatMDag3
/-
  The walk of novationlaw9's known.
-/
namespace Go.Proofs.YtmpipjangbedkaaGreat
set_option maxRecDepth 8000
open Go Go.RowKit Go.Shelf
attribute [local go_sem] Oper.semAt_some
set_option linter.unusedVariables false

theorem jlsT_len : (catJ (jls cfS [evT])).length ≤ 812 ∧ (catJ (jls cfS [])).length ≤ 406 := by
  have h1 := jls_long (es := [evT]) cfS_ok cfS_plan (fun x hx => by rw [List.mem_singleton.1 hx]; exact evT_good)
  have h2 := jls_long (es := []) cfS_ok cfS_plan (fun x hx => by cases hx)
  simp at h1 h2
  omega
theorem oct_catJ {ls : List (List Nat)} (h : ∀ x ∈ ls, Oct x ∧ x.length ≤ 400) : Oct (catJ ls) := by
  induction ls with
  | nil => intro x hx; simp [catJ] at hx
  | cons x ls ih =>
    rw [catJ_cons]
    exact (oct_rec (h x List.mem_cons_self).1 (h x List.mem_cons_self).2).append (ih (fun y hy => h y (List.mem_cons_of_mem _ hy)))
theorem jls_octs {cf : Cfg} {es : List Ev} (ok : CfgI cf) (hp : planOk cf = true) (hg : ∀ x ∈ es, Good x) : Oct (catJ (jls cf es)) := by
  refine oct_catJ (fun x hx => ⟨?_, jls_len ok hp hg x hx⟩)
  rcases List.mem_cons.1 hx with rfl | hx
  · exact planB_oct cf 6
  · obtain ⟨e, he, rfl⟩ := List.mem_map.1 hx
    exact textE_oct (hg e he)
theorem goodT : ∀ x ∈ [evT], Good x := fun x hx => by rw [List.mem_singleton.1 hx]; exact evT_good
theorem tjT_start : (newTp 1000).jstart cfS = (tjr 1000 cfS [], 0) := tjr_start cfS_plan (by have := jlsT_len.2; show _ ≤ 1000; omega)
theorem tjT_add : (tjr 1000 cfS []).jadd evT = (tjr 1000 cfS [evT], 0) := tjr_add (es := []) evT_good.2 (by have := jlsT_len.1; show _ ≤ 1000; exact Nat.le_trans this (by omega))
theorem tjT_open : (tjr 1000 cfS [evT]).jopen = (tjr 1000 cfS [evT], cfS, [evT], 0) := tjr_open cfS_ok cfS_plan goodT
theorem next_one {es : List Ev} {x : Nat × Ev} (h : es ++ [x.2] <+: [evT]) (h1 : x.1 = es.length) : es = [] ∧ x = (0, evT) := by
  have h2 := h.length_le
  simp at h2
  subst h2
  obtain ⟨t, ht⟩ := h
  simp at ht
  exact ⟨rfl, Prod.ext h1 ht.1⟩
/-- The counter, and all else as it was at the loop. -/
structure KI (kb : Nat) (w1 : World) (k : Nat) (W : World) : Prop where
  k : Rec W kb 3 [.int .i64 (k : Int)]
  t : Touch (fun i => i = kb) w1 W
  lt : kb < w1.heap.size
theorem KI.last {kb : Nat} {w1 A A' : World} {k : Nat} (h : KI kb w1 k A) (hb : Below w1.heap.size A A') : KI kb w1 k A' :=
  ⟨(hb.block kb h.lt).trans h.k, ⟨hb.os.trans h.t.os, hb.tape.trans h.t.tape, hb.output.trans h.t.output, Nat.le_trans h.t.size hb.size, fun i hi hx => (hb.block i hi).trans (h.t.block i hi hx)⟩, h.lt⟩
theorem KI.next {kb : Nat} {w1 A : World} {k : Nat} (h : KI kb w1 k A) (n : Int) (hn : n = ((k + 1 : Nat) : Int)) : KI kb w1 (k + 1) (A.setCell ⟨kb, 0, none⟩ (.int .i64 n)) := by
  subst hn
  exact ⟨h.k.set 0 _, h.t.trans (Touch.setCell A ⟨kb, 0, none⟩ _) (fun i _ e => e), h.lt⟩
/-- A config like small's, in memory; a list of one event. -/
def SpP.sm : SpP := ⟨fun v W => ∃ A c, v = .agg #[.slice A 1 c, .int .i64 0, .int .i64 0, .int .i64 0, .int .i64 0, .int .i64 1, .int .i64 0] ∧ InsM W A cfS.insts, fun _ _ _ hb h => by obtain ⟨A, c, e, h⟩ := h; exact ⟨A, c, e, h.below hb⟩⟩
def SpP.evl (e : Ev) : SpP := ⟨fun v W => ∃ A c, v = .slice A 1 c ∧ EvM W A [e], fun _ _ _ hb h => by obtain ⟨A, c, h1, h⟩ := h; exact ⟨A, c, h1, h.below hb⟩⟩
theorem evm_new (W : World) (e : Ev) : EvM (W.alloc (.cells #[.int .i64 e.kind, .int .i64 e.member, .int .i64 e.acc, .int .i64 e.inst, .int .i64 e.side, .int .i64 e.id, .int .i64 e.q, .int .i64 e.p] 51)) (some ⟨W.heap.size, 0, none⟩) [e] := by
  have h : EvAt (W.alloc (.cells #[.int .i64 e.kind, .int .i64 e.member, .int .i64 e.acc, .int .i64 e.inst, .int .i64 e.side, .int .i64 e.id, .int .i64 e.q, .int .i64 e.p] 51)) W.heap.size e := Rec.new W _ e.cells _ rfl
  intro _
  refine ⟨_, 0, rfl, fun i hi => ?_⟩
  obtain rfl : i = 0 := by simp at hi; exact hi
  obtain ⟨c0, c1, c2, c3, c4, c5, c6, c7⟩ := h.reads
  exact ⟨c0, c1, c2, c3, c4, c5, c6, c7⟩
set_option maxRecDepth 100000 in
set_option maxHeartbeats 16000000 in
theorem known9_any (w : World) : Calls Tryz.prog 5 #[] w fun e w' => e = .returned (.bool true) ∧ Below w.heap.size w w' := by
  obtain ⟨B, hB⟩ : ∃ B, B = w.heap.size + 1 := ⟨_, rfl⟩
  obtain ⟨TA, hTA⟩ : ∃ T, T = tjr 1000 cfS [] := ⟨_, rfl⟩
  obtain ⟨TB, hTB⟩ : ∃ T, T = tjr 1000 cfS [evT] := ⟨_, rfl⟩
  obtain ⟨L, hL⟩ : ∃ L, L = catJ (jls cfS [evT]) := ⟨_, rfl⟩
  have HLF : Hid (allL L = [evT] ∧ L.length ≤ 812 ∧ 0 < L.length ∧ TB.all = L ∧ TB.down = false) := Lib.hid ⟨by rw [hL]; exact tjr_all cfS_ok cfS_plan goodT, by rw [hL]; exact jlsT_len.1, by rw [hL]; have h3 := catJ_long (jls cfS [evT]); rw [show (jls cfS [evT]).length = 2 from rfl] at h3; omega, by rw [hTB, hL]; rfl, by rw [hTB]; rfl⟩
  have CST : Hid (∀ W v A c, TapeAt false W B B v (newTp 1000) → InsM W A cfS.insts → Calls Tryz.prog 24 #[.pointer (some ⟨B, 0, none⟩), .agg #[.slice A 1 c, .int .i64 0, .int .i64 0, .int .i64 0, .int .i64 0, .int .i64 1, .int .i64 0]] W (WentC false W B B v TA 0)) := Lib.hid (fun W v A c ht hI => by
    have := jstart_any W B B v (newTp 1000) cfS cfS_ok A 1 c rfl hI ht
    rw [tjT_start, ← hTA] at this
    exact this)
  have CAD : Hid (∀ W v, TapeAt false W B B v TA → Calls Tryz.prog 26 #[.pointer (some ⟨B, 0, none⟩), .agg #[.int .i64 10, .int .i64 0, .int .i64 0, .int .i64 0, .int .i64 0, .int .i64 0, .int .i64 3, .int .i64 0]] W (WentC false W B B v TB 0)) := Lib.hid (fun W v ht => by
    have := jadd_any W B B v TA evT evT_good.1 ht
    rw [hTA, tjT_add, ← hTB] at this
    exact this)
  have COZ : Hid (∀ W v, TapeAt false W B B v (newTp 1000) → Calls Tryz.prog 20 #[.pointer (some ⟨B, 0, none⟩)] W fun e w' => ∃ A3 c3 A4 c4, e = .returned (.tuple #[.agg #[.slice A3 0 c3, .int .i64 0, .int .i64 0, .int .i64 0, .int .i64 0, .int .i64 0, .int .i64 0], .slice A4 0 c4, .int .i64 3]) ∧ Went false W B B v (newTp 1000) w') := Lib.hid (fun W v ht => by
    have := jopen_any W B B v (newTp 1000) ht
    rw [new_open] at this
    refine this.mono ?_
    rintro e w' ⟨V, X, rfl, hoi, hoe, hW⟩
    obtain ⟨A3, c3, rfl, _⟩ := OwnL.form hoi lay_ins
    obtain ⟨A4, c4, rfl, _⟩ := OwnL.form hoe lay_ev
    exact ⟨A3, c3, A4, c4, rfl, hW⟩)
  have COP : Hid (∀ W v, TapeAt false W B B v TB → Calls Tryz.prog 20 #[.pointer (some ⟨B, 0, none⟩)] W fun e w' => ∃ A3 c3 A4 c4, e = .returned (.tuple #[.agg #[.slice A3 1 c3, .int .i64 0, .int .i64 0, .int .i64 0, .int .i64 0, .int .i64 1, .int .i64 0], .slice A4 1 c4, .int .i64 0]) ∧ OwnI w' W.heap.size (.slice A3 1 c3) cfS.insts ∧ OwnE w' W.heap.size (.slice A4 1 c4) [evT] ∧ Went false W B B v TB w') := Lib.hid (fun W v ht => by
    have := jopen_any W B B v TB ht
    rw [show TB.jopen = (TB, cfS, [evT], 0) from by rw [hTB]; exact tjT_open] at this
    refine this.mono ?_
    rintro e w' ⟨V, X, rfl, hoi, hoe, hW⟩
    obtain ⟨A3, c3, rfl, _⟩ := OwnL.form hoi lay_ins
    obtain ⟨A4, c4, rfl, _⟩ := OwnL.form hoe lay_ev
    exact ⟨A3, c3, A4, c4, rfl, hoi, hoe, hW⟩)
  have CRD : Hid (∀ W v, TapeAt false W B B v TB → Calls Tryz.prog 27 #[.pointer (some ⟨B, 0, none⟩)] W (BytesC W L 0)) := Lib.hid (fun W v ht => by
    have := read_any W B B v TB ht
    rw [show TB.readL = (L, 0) from by unfold Tp.readL; rw [HLF.out.2.2.2.2, HLF.out.2.2.2.1]; rfl] at this
    exact this)
  have CNO : Hid (∀ W v A c, TapeAt false W B B v TB → InsM W A cfS.insts → Calls Tryz.prog 24 #[.pointer (some ⟨B, 0, none⟩), .agg #[.slice A 1 c, .int .i64 0, .int .i64 0, .int .i64 0, .int .i64 0, .int .i64 1, .int .i64 0]] W fun e w' => e = .returned (.int .i64 4) ∧ Below W.heap.size W w') := Lib.hid (fun W v A c ht hI => jstart_no W B B v TB cfS cfS_ok A 1 c rfl hI ht (by rw [HLF.out.2.2.2.1]; exact HLF.out.2.2.1) HLF.out.2.2.2.2 4 (by rw [cfS_plan]; rfl))
  have CNZ : Hid (∀ W v, TapeAt false W B B v TB → Calls Tryz.prog 24 #[.pointer (some ⟨B, 0, none⟩), .agg #[.slice none 0 0, .int .i64 0, .int .i64 0, .int .i64 0, .int .i64 0, .int .i64 0, .int .i64 0]] W fun e w' => e = .returned (.int .i64 1) ∧ Below W.heap.size W w') := Lib.hid (fun W v ht => jstart_no W B B v TB Cfg.zero cfZ_ok none 0 0 rfl (fun h => by simp [Cfg.zero] at h) ht (by rw [HLF.out.2.2.2.1]; exact HLF.out.2.2.1) HLF.out.2.2.2.2 1 (by rw [cfZ_plan]; rfl))
  have CSM : Hid (∀ W, Calls Tryz.prog 25 #[] W fun r w' => ∃ A c, r = .returned (.agg #[.slice A 1 c, .int .i64 0, .int .i64 0, .int .i64 0, .int .i64 0, .int .i64 1, .int .i64 0]) ∧ InsM w' A cfS.insts ∧ Below W.heap.size W w') := Lib.hid (fun W => small_any W)
  have HO : Hid (Oct L) := Lib.hid (by rw [hL]; exact jls_octs cfS_ok cfS_plan goodT)
  have C1 := Lib.hid (new_any 1000 (w.alloc (.cells #[.bool false] 4)))
  have HR0 : Hid (Rec (w.alloc (.cells #[.bool false] 4)) w.heap.size 4 [.bool false]) := Lib.hid (Rec.new w _ [.bool false] _ rfl)
  have hnil : ∀ (Ba : Nat) (W : World), (binOp .eql 65 (.func (.func 62) #[] #[.pointer (some ⟨Ba, 0, none⟩)]) .nilFunc).run Tryz.prog W = .ok (.bool false) W := fun _ _ => rfl
  have HBX := Lib.hid hB
  clear hTA hTB hL hB
  refine (callsIn_wide (n := 5)).1 ?_
  refine callsIn_of_wp_marks Tryz.func5 rfl trivial ?_ rfl
  simp only [Tryz.ntmps5, List.size_toArray, List.length_nil, Nat.reduceSub, Array.replicate_succ, Array.replicate_zero, List.push_toArray, List.append_toArray, List.nil_append, List.cons_append]
  gi_wp2_with (refine ⟨trivial, ?_⟩; gi_at_call 8; refine (callsIn_wide.2 C1.out).mono ?_; rintro e w1 ⟨rfl, ht, hb⟩; simp only [World.size_alloc] at ht; rw [← HBX.out] at ht; have HB1 : Hid (Below w.heap.size w w1) := Lib.hid ((alloc_below w _).trans (hb.mono (by simp))); have HR1 := Lib.hid (HR0.out.keep hb); have HB2 := Lib.hid (HB1.out.alloc HB1.out.size (.cells #[.int .i64 10, .int .i64 0, .int .i64 0, .int .i64 0, .int .i64 0, .int .i64 0, .int .i64 3, .int .i64 0] 51)); have HT2 := Lib.hid (ht.keep (alloc_below w1 (.cells #[.int .i64 10, .int .i64 0, .int .i64 0, .int .i64 0, .int .i64 0, .int .i64 0, .int .i64 3, .int .i64 0] 51))); have HR2 := Lib.hid (HR1.out.keep (alloc_below w1 (.cells #[.int .i64 10, .int .i64 0, .int .i64 0, .int .i64 0, .int .i64 0, .int .i64 0, .int .i64 3, .int .i64 0] 51))); have HE2 : Hid (EvAt (w1.alloc (.cells #[.int .i64 10, .int .i64 0, .int .i64 0, .int .i64 0, .int .i64 0, .int .i64 0, .int .i64 3, .int .i64 0] 51)) w1.heap.size evT) := Lib.hid (Rec.new w1 _ evT.cells _ rfl); rw [World.size_alloc, ← HBX.out]; clear ht hb)
  clear C1 HR0 HR1 HB1
  gi_wp2_with (first
    | (refine ⟨trivial, ?_⟩; gi_at_call 28; (with_reducible refine (callsIn_wide.2 CAL.out).mono ?_); rintro e w11 ⟨Ba, Bs, va, rfl, hBa, hBs, hA1, hA2, hA3, hba⟩; have HT11 := Lib.hid (HT10.out.keep (hba)); have HR11 := Lib.hid (HR10.out.keep (hba)); have HE11 : Hid (EvAt _ w1.heap.size evT) := Lib.hid (EvAt.keep HE10.out (hba)); have HI11 := Lib.hid (OwnL.keep HI10.out (hba)); have HL11 := Lib.hid (OwnL.keep HL10.out (hba)); have HX11 : Hid (CfAt _ w7.heap.size cfS (.slice A7 1 c7)) := Lib.hid (CfAt.keep HX10.out (hba)); have HB11 := Lib.hid (HB10.out.trans ((hba).mono HB10.out.size)); have HSQ := Lib.hid (all_seq Ba Bs w10.heap.size va L w11 hA1 hBs hA2 hA3 HO.out (by have := HLF.out.2.1; omega)); have hBal := hA1.lt; clear hA1 hA2 hA3 hba hBs)
    | (refine ⟨trivial, ?_⟩; gi_at_call 27; (with_reducible refine (callsIn_wide.2 (CRD.out _ _ HT9.out)).mono ?_); rintro e w10 ⟨vr, rfl, hor, hbr⟩; have HT10 := Lib.hid (HT9.out.keep (hbr)); have HR10 := Lib.hid (HR9.out.keep (hbr)); have HE10 : Hid (EvAt _ w1.heap.size evT) := Lib.hid (EvAt.keep HE9.out (hbr)); have HI10 := Lib.hid (OwnL.keep HI9.out (hbr)); have HL10 := Lib.hid (OwnL.keep HL9.out (hbr)); have HX10 : Hid (CfAt _ w7.heap.size cfS (.slice A7 1 c7)) := Lib.hid (CfAt.keep HX9.out (hbr)); have HB10 := Lib.hid (HB9.out.trans ((hbr).mono HB9.out.size)); obtain ⟨A10, c10, rfl, hyr, _⟩ := OwnB.form hor; have CAL := Lib.hid (jall_any A10 L c10 w10 hyr (by have := HLF.out.2.1; omega)); clear hor hyr hbr)
    | (refine ⟨trivial, ?_⟩; gi_at_call 20; (with_reducible refine (callsIn_wide.2 (COP.out _ _ HT8.out)).mono ?_); rintro e w7 ⟨A7, c7, A9, c9, rfl, hoi, hoe, hW⟩; have HR7 := Lib.hid (went_rec HT8.out HR8.out (by decide) (by decide) hW); have HE7 : Hid (EvAt w7 w1.heap.size evT) := Lib.hid (went_rec HT8.out HE8.out (by decide) (by decide) hW); have HB7 := Lib.hid (went_low HT8.out hW HB8.out (by have := HBX.out; omega)); obtain ⟨v7, ht, htt, hnn⟩ := hW; have HT7 := Lib.hid ht; clear ht htt hnn; have HB9 := Lib.hid (HB7.out.alloc HB7.out.size (.cells #[.slice A7 1 c7, .int .i64 0, .int .i64 0, .int .i64 0, .int .i64 0, .int .i64 1, .int .i64 0] 31)); have HI9 := Lib.hid (OwnL.keep hoi (alloc_below w7 (.cells #[.slice A7 1 c7, .int .i64 0, .int .i64 0, .int .i64 0, .int .i64 0, .int .i64 1, .int .i64 0] 31))); have HL9 := Lib.hid (OwnL.keep hoe (alloc_below w7 (.cells #[.slice A7 1 c7, .int .i64 0, .int .i64 0, .int .i64 0, .int .i64 0, .int .i64 1, .int .i64 0] 31))); have HX9 : Hid (CfAt (w7.alloc (.cells #[.slice A7 1 c7, .int .i64 0, .int .i64 0, .int .i64 0, .int .i64 0, .int .i64 1, .int .i64 0] 31)) w7.heap.size cfS (.slice A7 1 c7)) := Lib.hid (Rec.new w7 _ (cfS.cells (.slice A7 1 c7)) _ rfl); have HT9 := Lib.hid (HT7.out.keep (alloc_below w7 (.cells #[.slice A7 1 c7, .int .i64 0, .int .i64 0, .int .i64 0, .int .i64 0, .int .i64 1, .int .i64 0] 31))); have HR9 := Lib.hid (HR7.out.keep (alloc_below w7 (.cells #[.slice A7 1 c7, .int .i64 0, .int .i64 0, .int .i64 0, .int .i64 0, .int .i64 1, .int .i64 0] 31))); have HE9 : Hid (EvAt _ w1.heap.size evT) := Lib.hid (EvAt.keep HE7.out (alloc_below w7 (.cells #[.slice A7 1 c7, .int .i64 0, .int .i64 0, .int .i64 0, .int .i64 0, .int .i64 1, .int .i64 0] 31))); clear hoi hoe)
    | (refine ⟨trivial, ?_⟩; gi_at_call 26; (with_reducible refine (callsIn_wide.2 (CAD.out _ _ HT6.out)).mono ?_); rintro e w8 ⟨rfl, hW⟩; clear q0 q1 q2 q3 q4 q5 q6 q7; have HR8 := Lib.hid (went_rec HT6.out HR6.out (by decide) (by decide) hW); have HE8 : Hid (EvAt w8 w1.heap.size evT) := Lib.hid (went_rec HT6.out HE6.out (by decide) (by decide) hW); have HB8 := Lib.hid (went_low HT6.out hW HB6.out (by have := HBX.out; omega)); obtain ⟨v8, ht, htt, hnn⟩ := hW; have HT8 := Lib.hid ht; clear ht htt hnn)
    | (refine ⟨trivial, ?_⟩; gi_at_call 24; (with_reducible refine (callsIn_wide.2 (CST.out _ _ _ _ HT5.out HI5.out)).mono ?_); rintro e w6 ⟨rfl, hW⟩; have HR6 := Lib.hid (went_rec HT5.out HR5.out (by decide) (by decide) hW); have HE6 : Hid (EvAt w6 w1.heap.size evT) := Lib.hid (went_rec HT5.out HE5.out (by decide) (by decide) hW); have HB6 := Lib.hid (went_low HT5.out hW HB5.out (by have := HBX.out; omega)); obtain ⟨v6, ht, htt, hnn⟩ := hW; have HT6 := Lib.hid ht; clear ht htt hnn; obtain ⟨q0, q1, q2, q3, q4, q5, q6, q7⟩ := HE6.out.reads; simp only [evT] at q0 q1 q2 q3 q4 q5 q6 q7)
    | (refine ⟨trivial, ?_⟩; gi_at_call 25; (with_reducible refine (callsIn_wide.2 (CSM.out _)).mono ?_); rintro e w5 ⟨A5, c5, rfl, hi5, hb5⟩; have HT5 := Lib.hid (HT4.out.keep (hb5)); have HR5 := Lib.hid (HR4.out.keep (hb5)); have HE5 : Hid (EvAt _ w1.heap.size evT) := Lib.hid (EvAt.keep HE4.out (hb5)); have HB5 := Lib.hid (HB4.out.trans (hb5.mono HB4.out.size)); have HI5 := Lib.hid hi5; clear hi5 hb5)
    | (refine ⟨trivial, ?_⟩; gi_at_call 20; (with_reducible refine (callsIn_wide.2 (COZ.out _ _ HT2.out)).mono ?_); rintro e w3 ⟨A3, c3, A4, c4, rfl, hW⟩; have HR3 := Lib.hid (went_rec HT2.out HR2.out (by decide) (by decide) hW); have HE3 : Hid (EvAt w3 w1.heap.size evT) := Lib.hid (went_rec HT2.out HE2.out (by decide) (by decide) hW); have HB3 := Lib.hid (went_low HT2.out hW HB2.out (by have := HBX.out; omega)); obtain ⟨v3, ht, htt, hnn⟩ := hW; have HT3 := Lib.hid ht; clear ht htt hnn; have HB4 := Lib.hid (HB3.out.alloc HB3.out.size (.cells #[.slice A3 0 c3, .int .i64 0, .int .i64 0, .int .i64 0, .int .i64 0, .int .i64 0, .int .i64 0] 31)); have HT4 := Lib.hid (HT3.out.keep (alloc_below w3 (.cells #[.slice A3 0 c3, .int .i64 0, .int .i64 0, .int .i64 0, .int .i64 0, .int .i64 0, .int .i64 0] 31))); have HR4 := Lib.hid (HR3.out.keep (alloc_below w3 (.cells #[.slice A3 0 c3, .int .i64 0, .int .i64 0, .int .i64 0, .int .i64 0, .int .i64 0, .int .i64 0] 31))); have HE4 : Hid (EvAt _ w1.heap.size evT) := Lib.hid (EvAt.keep HE3.out (alloc_below w3 (.cells #[.slice A3 0 c3, .int .i64 0, .int .i64 0, .int .i64 0, .int .i64 0, .int .i64 0, .int .i64 0] 31)))))
  have hK0 : KI w11.heap.size (w11.alloc (.cells #[.int .i64 0] 3)) 0 (w11.alloc (.cells #[.int .i64 0] 3)) := ⟨Rec.new w11 _ [.int .i64 0] _ rfl, Touch.refl _ _, by simp⟩
  have hB11 := HB11.out
  have hsz := hB11.size
  refine act_name fun a0 ha0 => ?_
  refine wpIn_rangeY rfl (by omega) (gf := 62) (lb := #[.pointer (some ⟨Ba, 0, none⟩)]) (by rw [ha0]; rfl) trivial (enters_of Tryz.func62 (by kernel_rfl) rfl) HSQ.out (fun h k => Kept.trans h k) (fun W l o' h => Kept.putObj o' (by simp at h; omega)) (alloc_below w11 _) (fun _ => rfl)
    (fun pre W => KI w11.heap.size (w11.alloc (.cells #[.int .i64 0] 3)) pre.length W)
    (fun _ _ _ => False)
    (fun s A A' h hb => h.last hb)
    (fun _ _ _ _ h _ => h)
    hK0
    (fun x a' W => ∃ b16, a' = { tmps := (((a0.tmps.setIfInBounds 49 (.int .i64 (x.1 : Int))).setIfInBounds 50 x.2.v).setIfInBounds 15 (.int .i64 (x.1 : Int))).setIfInBounds 16 (.pointer (some ⟨b16, 0, none⟩)), defers := [] } ∧ EvAt W b16 x.2 ∧ w11.heap.size < b16)
    (fun x a' W l o o' h hl ho => by
      obtain ⟨b16, h1, h2, h3⟩ := h
      exact ⟨b16, h1, rec_kept h2 (grownBy_putObj' W l o') (fun r e => by cases e; exact ⟨o, hl, ho⟩), h3⟩)
    ?assign ?body ?done ?stop
  case assign =>
    intro l pre x W K hsW hI hx hK
    obtain ⟨i, ev⟩ := x
    rw [ha0]
    have hb9 := alloc_below W (.cells #[.int .i64 ev.kind, .int .i64 ev.member, .int .i64 ev.acc, .int .i64 ev.inst, .int .i64 ev.side, .int .i64 ev.id, .int .i64 ev.q, .int .i64 ev.p] 51)
    have HFN := Lib.hid (fun a' => hK a' (W.alloc (.cells #[.int .i64 ev.kind, .int .i64 ev.member, .int .i64 ev.acc, .int .i64 ev.inst, .int .i64 ev.side, .int .i64 ev.id, .int .i64 ev.q, .int .i64 ev.p] 51)) (below_kept hb9 (Nat.le_refl _)) (below_kept hb9 (by simp at hsW; omega)) (hI.last (hb9.mono hsW)))
    simp only [encA, Ev.v]
    clear hK
    gi_wp2
    refine HFN.out _ ⟨W.heap.size, ?_, Rec.new W _ ev.cells _ rfl, by simp at hsW; omega⟩
    rw [ha0]
    rfl
  case body =>
    rintro l pre ⟨i, ev⟩ a' W hsW hI ⟨es, rfl, h1, h2⟩ ⟨b16, rfl, hev, hb16⟩
    rw [HLF.out.1] at h2
    obtain ⟨rfl, hx⟩ := next_one h2 h1
    cases hx
    have HI := Lib.hid hI
    have HEV := Lib.hid hev
    have ht1 : Touch (fun i => i = w11.heap.size) w11 W := ((Touch.of_below _ (alloc_below w11 _)).mono (fun _ h => h)).trans hI.t (fun _ _ h => h)
    have he2 : EvAt W w1.heap.size evT := Rec.touch HE11.out ht1 (by have := Rec.lt HE11.out; omega)
    obtain ⟨q0, q1, q2, q3, q4, q5, q6, q7⟩ := EvAt.reads he2
    obtain ⟨r0, r1, r2, r3, r4, r5, r6, r7⟩ := EvAt.reads hev
    simp only [evT] at q0 q1 q2 q3 q4 q5 q6 q7 r0 r1 r2 r3 r4 r5 r6 r7
    have hk := hI.k.cell 0 rfl
    have fk := hI.k.frozen 0
    have heq : ∀ W : World, (binOp .neq 51 (.agg #[.int .i64 10, .int .i64 0, .int .i64 0, .int .i64 0, .int .i64 0, .int .i64 0, .int .i64 3, .int .i64 0]) (.agg #[.int .i64 10, .int .i64 0, .int .i64 0, .int .i64 0, .int .i64 0, .int .i64 0, .int .i64 3, .int .i64 0])).run Tryz.prog W = .ok (.bool false) W := fun W => by
      have := run_ev_ne evT evT W
      rw [decide_eq_true rfl] at this
      exact this
    change W.cell? ⟨w11.heap.size, 0, none⟩ = some (.int .i64 0) at hk
    clear hI hev h1 h2 he2
    rw [ha0]
    simp only [Ev.v, evT]
    gi_wp2
    have hno := HI.out.next 1 rfl
    have hz := HI.out.t.size
    exact ⟨Kept.setCell (.inl (by simp)) _ _, Kept.setCell (.inr (Nat.le_refl _)) _ _, hno⟩
  case stop =>
    rintro D c pre W _ _ h _
    exact h.elim
  case done =>
    rintro D ys Wd hD hS hI hK
    rw [hS, HLF.out.1] at hI
    have HI := Lib.hid hI
    have HK := Lib.hid hK
    have ht1 : Touch (fun i => i = w11.heap.size) w11 Wd := ((Touch.of_below _ (alloc_below w11 _)).mono (fun _ h => h)).trans hI.t (fun _ _ h => h)
    have HT := Lib.hid (HT11.out.touch ht1 (fun k hk e => by have := (HT11.out.lt hk).2; omega))
    have HE : Hid (EvAt Wd w1.heap.size evT) := Lib.hid (Rec.touch HE11.out ht1 (by have := Rec.lt HE11.out; omega))
    have HR := Lib.hid (HR11.out.touch ht1 (by have := HR11.out.lt; omega))
    have HX : Hid (CfAt Wd w7.heap.size cfS (.slice A7 1 c7)) := Lib.hid (Rec.touch HX11.out ht1 (by have := Rec.lt HX11.out; omega))
    have HI7 := Lib.hid (own_insM (OwnL.touch HI11.out ht1 (fun k hk e => by have := (OwnL.lt HI11.out k hk).2; omega)))
    have HL7 : Hid (EvM Wd A9 [evT]) := Lib.hid (by
      obtain ⟨A', c', e, _, h⟩ := ownE_form (OwnL.touch HL11.out ht1 (fun k hk e => by have := (OwnL.lt HL11.out k hk).2; omega))
      injection e with e1
      subst e1
      exact h)
    have HBW : Hid (Below w.heap.size w Wd) := Lib.hid (HB11.out.trans (ht1.below hsz (fun k e => by have e' : k = w11.heap.size := e; omega)))
    have hkc := hI.k.cell 0 rfl
    have HKC : Hid (Wd.cell? ⟨w11.heap.size, 0, none⟩ = some (.int .i64 1)) := Lib.hid hkc
    clear hI hK hS hkc HT11 HE11 HR11 HX11 HI11 HL11 HSQ
    subst ha0
    gi_wp2
    refine wpIn_wide.2 ?_
    refine wp_region_dagL [61, 62, 63, 64, 65, 66, 67, 68, 69, 70, 71, 72, 73, 74, 75, 76, 77, 78, 79, 80, 81, 82, 83, 84, 85, 86, 87, 88, 89, 90, 91, 92, 93, 94, 95, 96, 97, 98, 99, 100, 101, 102, 103, 104, 105] (fun W W' => Below W.heap.size W W') (fun W => Below Wd.heap.size Wd W) (spAt [.val (.int .i64 3), .val (.bool true), .val (.bool true), .val (.int .i64 0), .val (.bool true), .val (.bool true), .val (.bool true), .val (.int .i64 0), .val (.bool true), .val (.bool true), .val (.bool true), .val (.int .i64 0), .val (.bool true), .val (.bool true), .val (.bool true), .val (.agg #[.slice A7 1 c7, .int .i64 0, .int .i64 0, .int .i64 0, .int .i64 0, .int .i64 1, .int .i64 0]), SpP.sm, .val (.bool true), .val (.bool true), .val (.bool true), .val (.slice A9 1 c9), .val (.agg #[.int .i64 10, .int .i64 0, .int .i64 0, .int .i64 0, .int .i64 0, .int .i64 0, .int .i64 3, .int .i64 0]), (SpP.evl evT), .val (.bool true), .val (.bool true), .val (.bool true), .val (.int .i64 0), .val (.bool true), .val (.bool true), .val (.bool true), .val (.int .i64 1), .val (.bool true), .val (.bool true), .val (.bool true), .val (.pointer (some ⟨B, 0, none⟩)), SpP.sm, .val (.int .i64 4), .val (.bool true), .val (.bool true), .val (.bool true), .val (.pointer (some ⟨B, 0, none⟩)), .val (.agg #[.slice none 0 0, .int .i64 0, .int .i64 0, .int .i64 0, .int .i64 0, .int .i64 0, .int .i64 0]), .val (.int .i64 1), .val (.bool true), .val (.bool true)]) (fun a W => a.tmps.getD 0 undef = .pointer (some ⟨w.heap.size, 0, none⟩) ∧ ∃ W1, Below Wd.heap.size Wd W1 ∧ W = W1.setCell ⟨w.heap.size, 0, none⟩ (.bool true)) rfl rfl rfl rfl rfl rfl rfl rfl (spAt_st _) ((Below.refl _ _).drew) ⟨?_, ?_, ?_, ?_, ?_, ?_, ?_, ?_, ?_, ?_, ?_, ?_, ?_, ?_, ?_, ?_, ?_, ?_, ?_, ?_, ?_, ?_, ?_, ?_, ?_, ?_, ?_, ?_, ?_, ?_, ?_, ?_, ?_, ?_, ?_, ?_, ?_, ?_, ?_, ?_, ?_, ?_, ?_, ?_, ?_, trivial⟩ ?_ ?_
    · intro a W K ho hW hpre hK
      rw [if_pos (wanted_none rfl)]
      have e0 : a.tmps.getD 5 undef = .int .i64 3 := ho.slot 5 (by decide)
      go_simp
      exact hK _ _ (Below.refl _ _) hW rfl
    · intro a W K ho hW hpre hK
      rw [if_pos (wanted_none rfl)]
      have e0 : a.tmps.getD 61 undef = .int .i64 3 := hpre ⟨0, .data⟩ (by simp) rfl _ rfl
      go_simp
      exact hK _ _ (Below.refl _ _) hW rfl
    · intro a W K ho hW hpre hK
      rw [if_pos (wanted_none rfl)]
      have e0 : a.tmps.getD 62 undef = .bool true := hpre ⟨1, .data⟩ (by simp) rfl _ rfl
      go_simp
      exact hK _ _ (Below.refl _ _) hW rfl
    · intro a W K ho hW hpre hK
      have eg : a.tmps.getD 63 undef = .bool true := hpre ⟨2, .guard⟩ (by simp) rfl _ rfl
      rw [if_pos (wanted_at ho rfl rfl rfl (Nat.le_of_ble_eq_true rfl) eg)]
      clear eg
      have e0 : a.tmps.getD 6 undef = .int .i64 0 := ho.slot 6 (by decide)
      go_simp
      exact hK _ _ (Below.refl _ _) hW rfl
    · intro a W K ho hW hpre hK
      have eg : a.tmps.getD 63 undef = .bool true := hpre ⟨2, .guard⟩ (by simp) rfl _ rfl
      rw [if_pos (wanted_at ho rfl rfl rfl (Nat.le_of_ble_eq_true rfl) eg)]
      clear eg
      have e0 : a.tmps.getD 64 undef = .int .i64 0 := hpre ⟨3, .data⟩ (by simp) rfl _ rfl
      go_simp
      exact hK _ _ (Below.refl _ _) hW rfl
    · intro a W K ho hW hpre hK
      rw [if_pos (wanted_none rfl)]
      have e0 : a.tmps.getD 63 undef = .bool true := hpre ⟨2, .data⟩ (by simp) rfl _ rfl
      have e1 : a.tmps.getD 65 undef = .bool true := hpre ⟨4, .data⟩ (by simp) rfl _ rfl
      go_simp
      exact hK _ _ (Below.refl _ _) hW rfl
    · intro a W K ho hW hpre hK
      rw [if_pos (wanted_none rfl)]
      have e0 : a.tmps.getD 66 undef = .bool true := hpre ⟨5, .data⟩ (by simp) rfl _ rfl
      go_simp
      exact hK _ _ (Below.refl _ _) hW rfl
    · intro a W K ho hW hpre hK
      have eg : a.tmps.getD 67 undef = .bool true := hpre ⟨6, .guard⟩ (by simp) rfl _ rfl
      rw [if_pos (wanted_at ho rfl rfl rfl (Nat.le_of_ble_eq_true rfl) eg)]
      clear eg
      have e0 : a.tmps.getD 7 undef = .int .i64 0 := ho.slot 7 (by decide)
      go_simp
      exact hK _ _ (Below.refl _ _) hW rfl
    · intro a W K ho hW hpre hK
      have eg : a.tmps.getD 67 undef = .bool true := hpre ⟨6, .guard⟩ (by simp) rfl _ rfl
      rw [if_pos (wanted_at ho rfl rfl rfl (Nat.le_of_ble_eq_true rfl) eg)]
      clear eg
      have e0 : a.tmps.getD 68 undef = .int .i64 0 := hpre ⟨7, .data⟩ (by simp) rfl _ rfl
      go_simp
      exact hK _ _ (Below.refl _ _) hW rfl
    · intro a W K ho hW hpre hK
      rw [if_pos (wanted_none rfl)]
      have e0 : a.tmps.getD 67 undef = .bool true := hpre ⟨6, .data⟩ (by simp) rfl _ rfl
      have e1 : a.tmps.getD 69 undef = .bool true := hpre ⟨8, .data⟩ (by simp) rfl _ rfl
      go_simp
      exact hK _ _ (Below.refl _ _) hW rfl
    · intro a W K ho hW hpre hK
      rw [if_pos (wanted_none rfl)]
      have e0 : a.tmps.getD 70 undef = .bool true := hpre ⟨9, .data⟩ (by simp) rfl _ rfl
      go_simp
      exact hK _ _ (Below.refl _ _) hW rfl
    · intro a W K ho hW hpre hK
      have eg : a.tmps.getD 71 undef = .bool true := hpre ⟨10, .guard⟩ (by simp) rfl _ rfl
      rw [if_pos (wanted_at ho rfl rfl rfl (Nat.le_of_ble_eq_true rfl) eg)]
      clear eg
      have e0 : a.tmps.getD 10 undef = .int .i64 0 := ho.slot 10 (by decide)
      go_simp
      exact hK _ _ (Below.refl _ _) hW rfl
    · intro a W K ho hW hpre hK
      have eg : a.tmps.getD 71 undef = .bool true := hpre ⟨10, .guard⟩ (by simp) rfl _ rfl
      rw [if_pos (wanted_at ho rfl rfl rfl (Nat.le_of_ble_eq_true rfl) eg)]
      clear eg
      have e0 : a.tmps.getD 72 undef = .int .i64 0 := hpre ⟨11, .data⟩ (by simp) rfl _ rfl
      go_simp
      exact hK _ _ (Below.refl _ _) hW rfl
    · intro a W K ho hW hpre hK
      rw [if_pos (wanted_none rfl)]
      have e0 : a.tmps.getD 71 undef = .bool true := hpre ⟨10, .data⟩ (by simp) rfl _ rfl
      have e1 : a.tmps.getD 73 undef = .bool true := hpre ⟨12, .data⟩ (by simp) rfl _ rfl
      go_simp
      exact hK _ _ (Below.refl _ _) hW rfl
    · intro a W K ho hW hpre hK
      rw [if_pos (wanted_none rfl)]
      have e0 : a.tmps.getD 74 undef = .bool true := hpre ⟨13, .data⟩ (by simp) rfl _ rfl
      go_simp
      exact hK _ _ (Below.refl _ _) hW rfl
    · intro a W K ho hW hpre hK
      have eg : a.tmps.getD 75 undef = .bool true := hpre ⟨14, .guard⟩ (by simp) rfl _ rfl
      rw [if_pos (wanted_at ho rfl rfl rfl (Nat.le_of_ble_eq_true rfl) eg)]
      clear eg
      have e0 : a.tmps.getD 8 undef = .pointer (some ⟨w7.heap.size, 0, none⟩) := ho.slot 8 (by decide)
      obtain ⟨q0, q1, q2, q3, q4, q5, q6⟩ := CfAt.reads (CfAt.keep HX.out hW)
      simp only [cfS] at q1 q2 q3 q4 q5 q6
      go_simp
      exact hK _ _ (Below.refl _ _) hW rfl
    · intro a W K ho hW hpre hK
      have eg : a.tmps.getD 75 undef = .bool true := hpre ⟨14, .guard⟩ (by simp) rfl _ rfl
      rw [if_pos (wanted_at ho rfl rfl rfl (Nat.le_of_ble_eq_true rfl) eg)]
      clear eg
      go_simp
      refine (CSM.out _).mono ?_
      rintro e w5 ⟨A5, c5, rfl, hi5, hb5⟩
      exact hK _ _ hb5 (hW.trans (hb5.mono hW.size)) ⟨A5, c5, rfl, hi5⟩
    · intro a W K ho hW hpre hK
      have eg : a.tmps.getD 75 undef = .bool true := hpre ⟨14, .guard⟩ (by simp) rfl _ rfl
      rw [if_pos (wanted_at ho rfl rfl rfl (Nat.le_of_ble_eq_true rfl) eg)]
      clear eg
      have e0 : a.tmps.getD 76 undef = .agg #[.slice A7 1 c7, .int .i64 0, .int .i64 0, .int .i64 0, .int .i64 0, .int .i64 1, .int .i64 0] := hpre ⟨15, .data⟩ (by simp) rfl _ rfl
      have e1 : (SpP.sm).p (a.tmps.getD 77 undef) W := hpre ⟨16, .data⟩ (by simp) rfl _ rfl
      obtain ⟨A5, c5, e1, hi5⟩ := e1
      have CSP := Lib.hid (rsame_any cfS cfS A7 A5 1 1 c7 c5 W rfl rfl (HI7.out.below hW) hi5 (by omega))
      rw [decide_eq_true rfl] at CSP
      simp only [Cfg.v, cfS] at CSP
      clear hi5
      go_simp
      refine CSP.out.mono ?_
      rintro e w5 ⟨rfl, hb5⟩
      exact hK _ _ hb5 (hW.trans (hb5.mono hW.size)) rfl
    · intro a W K ho hW hpre hK
      rw [if_pos (wanted_none rfl)]
      have e0 : a.tmps.getD 75 undef = .bool true := hpre ⟨14, .data⟩ (by simp) rfl _ rfl
      have e1 : a.tmps.getD 78 undef = .bool true := hpre ⟨17, .data⟩ (by simp) rfl _ rfl
      go_simp
      exact hK _ _ (Below.refl _ _) hW rfl
    · intro a W K ho hW hpre hK
      rw [if_pos (wanted_none rfl)]
      have e0 : a.tmps.getD 79 undef = .bool true := hpre ⟨18, .data⟩ (by simp) rfl _ rfl
      go_simp
      exact hK _ _ (Below.refl _ _) hW rfl
    · intro a W K ho hW hpre hK
      have eg : a.tmps.getD 80 undef = .bool true := hpre ⟨19, .guard⟩ (by simp) rfl _ rfl
      rw [if_pos (wanted_at ho rfl rfl rfl (Nat.le_of_ble_eq_true rfl) eg)]
      clear eg
      have e0 : a.tmps.getD 9 undef = .slice A9 1 c9 := ho.slot 9 (by decide)
      go_simp
      exact hK _ _ (Below.refl _ _) hW rfl
    · intro a W K ho hW hpre hK
      have eg : a.tmps.getD 80 undef = .bool true := hpre ⟨19, .guard⟩ (by simp) rfl _ rfl
      rw [if_pos (wanted_at ho rfl rfl rfl (Nat.le_of_ble_eq_true rfl) eg)]
      clear eg
      have e0 : a.tmps.getD 2 undef = .pointer (some ⟨w1.heap.size, 0, none⟩) := ho.slot 2 (by decide)
      obtain ⟨q0, q1, q2, q3, q4, q5, q6, q7⟩ := EvAt.reads (EvAt.keep HE.out hW)
      simp only [evT] at q0 q1 q2 q3 q4 q5 q6 q7
      go_simp
      exact hK _ _ (Below.refl _ _) hW rfl
    · intro a W K ho hW hpre hK
      have eg : a.tmps.getD 80 undef = .bool true := hpre ⟨19, .guard⟩ (by simp) rfl _ rfl
      rw [if_pos (wanted_at ho rfl rfl rfl (Nat.le_of_ble_eq_true rfl) eg)]
      clear eg
      have e0 : a.tmps.getD 82 undef = .agg #[.int .i64 10, .int .i64 0, .int .i64 0, .int .i64 0, .int .i64 0, .int .i64 0, .int .i64 3, .int .i64 0] := hpre ⟨21, .data⟩ (by simp) rfl _ rfl
      rw [Array.getD_eq_getD_getElem?] at e0
      go_simp
      exact hK _ _ (alloc_below _ _) (hW.alloc hW.size _) ⟨_, _, rfl, evm_new W evT⟩
    · intro a W K ho hW hpre hK
      have eg : a.tmps.getD 80 undef = .bool true := hpre ⟨19, .guard⟩ (by simp) rfl _ rfl
      rw [if_pos (wanted_at ho rfl rfl rfl (Nat.le_of_ble_eq_true rfl) eg)]
      clear eg
      have e0 : a.tmps.getD 81 undef = .slice A9 1 c9 := hpre ⟨20, .data⟩ (by simp) rfl _ rfl
      have e1 : ((SpP.evl evT)).p (a.tmps.getD 83 undef) W := hpre ⟨22, .data⟩ (by simp) rfl _ rfl
      obtain ⟨A5, c5, e1, hi5⟩ := e1
      have CSP := Lib.hid (events_any A9 A5 [evT] [evT] 1 1 c9 c5 W rfl rfl (HL7.out.below hW) hi5 (by omega))
      rw [decide_eq_true rfl] at CSP
      clear hi5
      go_simp
      refine CSP.out.mono ?_
      rintro e w5 ⟨rfl, hb5⟩
      exact hK _ _ hb5 (hW.trans (hb5.mono hW.size)) rfl
    · intro a W K ho hW hpre hK
      rw [if_pos (wanted_none rfl)]
      have e0 : a.tmps.getD 80 undef = .bool true := hpre ⟨19, .data⟩ (by simp) rfl _ rfl
      have e1 : a.tmps.getD 84 undef = .bool true := hpre ⟨23, .data⟩ (by simp) rfl _ rfl
      go_simp
      exact hK _ _ (Below.refl _ _) hW rfl
    · intro a W K ho hW hpre hK
      rw [if_pos (wanted_none rfl)]
      have e0 : a.tmps.getD 85 undef = .bool true := hpre ⟨24, .data⟩ (by simp) rfl _ rfl
      go_simp
      exact hK _ _ (Below.refl _ _) hW rfl
    · intro a W K ho hW hpre hK
      have eg : a.tmps.getD 86 undef = .bool true := hpre ⟨25, .guard⟩ (by simp) rfl _ rfl
      rw [if_pos (wanted_at ho rfl rfl rfl (Nat.le_of_ble_eq_true rfl) eg)]
      clear eg
      have e0 : a.tmps.getD 12 undef = .int .i64 0 := ho.slot 12 (by decide)
      go_simp
      exact hK _ _ (Below.refl _ _) hW rfl
    · intro a W K ho hW hpre hK
      have eg : a.tmps.getD 86 undef = .bool true := hpre ⟨25, .guard⟩ (by simp) rfl _ rfl
      rw [if_pos (wanted_at ho rfl rfl rfl (Nat.le_of_ble_eq_true rfl) eg)]
      clear eg
      have e0 : a.tmps.getD 87 undef = .int .i64 0 := hpre ⟨26, .data⟩ (by simp) rfl _ rfl
      go_simp
      exact hK _ _ (Below.refl _ _) hW rfl
    · intro a W K ho hW hpre hK
      rw [if_pos (wanted_none rfl)]
      have e0 : a.tmps.getD 86 undef = .bool true := hpre ⟨25, .data⟩ (by simp) rfl _ rfl
      have e1 : a.tmps.getD 88 undef = .bool true := hpre ⟨27, .data⟩ (by simp) rfl _ rfl
      go_simp
      exact hK _ _ (Below.refl _ _) hW rfl
    · intro a W K ho hW hpre hK
      rw [if_pos (wanted_none rfl)]
      have e0 : a.tmps.getD 89 undef = .bool true := hpre ⟨28, .data⟩ (by simp) rfl _ rfl
      go_simp
      exact hK _ _ (Below.refl _ _) hW rfl
    · intro a W K ho hW hpre hK
      have eg : a.tmps.getD 90 undef = .bool true := hpre ⟨29, .guard⟩ (by simp) rfl _ rfl
      rw [if_pos (wanted_at ho rfl rfl rfl (Nat.le_of_ble_eq_true rfl) eg)]
      clear eg
      have e0 : a.tmps.getD 13 undef = .pointer (some ⟨w11.heap.size, 0, none⟩) := ho.slot 13 (by decide)
      have hkc : W.cell? ⟨w11.heap.size, 0, none⟩ = some (.int .i64 1) := (hW.cell (p := ⟨w11.heap.size, 0, none⟩) (block_lt HKC.out)).trans HKC.out
      go_simp
      exact hK _ _ (Below.refl _ _) hW rfl
    · intro a W K ho hW hpre hK
      have eg : a.tmps.getD 90 undef = .bool true := hpre ⟨29, .guard⟩ (by simp) rfl _ rfl
      rw [if_pos (wanted_at ho rfl rfl rfl (Nat.le_of_ble_eq_true rfl) eg)]
      clear eg
      have e0 : a.tmps.getD 91 undef = .int .i64 1 := hpre ⟨30, .data⟩ (by simp) rfl _ rfl
      go_simp
      exact hK _ _ (Below.refl _ _) hW rfl
    · intro a W K ho hW hpre hK
      rw [if_pos (wanted_none rfl)]
      have e0 : a.tmps.getD 90 undef = .bool true := hpre ⟨29, .data⟩ (by simp) rfl _ rfl
      have e1 : a.tmps.getD 92 undef = .bool true := hpre ⟨31, .data⟩ (by simp) rfl _ rfl
      go_simp
      exact hK _ _ (Below.refl _ _) hW rfl
    · intro a W K ho hW hpre hK
      rw [if_pos (wanted_none rfl)]
      have e0 : a.tmps.getD 93 undef = .bool true := hpre ⟨32, .data⟩ (by simp) rfl _ rfl
      go_simp
      exact hK _ _ (Below.refl _ _) hW rfl
    · intro a W K ho hW hpre hK
      have eg : a.tmps.getD 94 undef = .bool true := hpre ⟨33, .guard⟩ (by simp) rfl _ rfl
      rw [if_pos (wanted_at ho rfl rfl rfl (Nat.le_of_ble_eq_true rfl) eg)]
      clear eg
      have e0 : a.tmps.getD 1 undef = .pointer (some ⟨B, 0, none⟩) := ho.slot 1 (by decide)
      go_simp
      exact hK _ _ (Below.refl _ _) hW rfl
    · intro a W K ho hW hpre hK
      have eg : a.tmps.getD 94 undef = .bool true := hpre ⟨33, .guard⟩ (by simp) rfl _ rfl
      rw [if_pos (wanted_at ho rfl rfl rfl (Nat.le_of_ble_eq_true rfl) eg)]
      clear eg
      go_simp
      refine (CSM.out _).mono ?_
      rintro e w5 ⟨A5, c5, rfl, hi5, hb5⟩
      exact hK _ _ hb5 (hW.trans (hb5.mono hW.size)) ⟨A5, c5, rfl, hi5⟩
    · intro a W K ho hW hpre hK
      have eg : a.tmps.getD 94 undef = .bool true := hpre ⟨33, .guard⟩ (by simp) rfl _ rfl
      rw [if_pos (wanted_at ho rfl rfl rfl (Nat.le_of_ble_eq_true rfl) eg)]
      clear eg
      have e0 : a.tmps.getD 95 undef = .pointer (some ⟨B, 0, none⟩) := hpre ⟨34, .data⟩ (by simp) rfl _ rfl
      have e1 : (SpP.sm).p (a.tmps.getD 96 undef) W := hpre ⟨35, .data⟩ (by simp) rfl _ rfl
      obtain ⟨A5, c5, e1, hi5⟩ := e1
      have CSP := Lib.hid (CNO.out W _ A5 c5 (HT.out.keep hW) hi5)
      clear hi5
      go_simp
      refine CSP.out.mono ?_
      rintro e w5 ⟨rfl, hb5⟩
      exact hK _ _ hb5 (hW.trans (hb5.mono hW.size)) rfl
    · intro a W K ho hW hpre hK
      have eg : a.tmps.getD 94 undef = .bool true := hpre ⟨33, .guard⟩ (by simp) rfl _ rfl
      rw [if_pos (wanted_at ho rfl rfl rfl (Nat.le_of_ble_eq_true rfl) eg)]
      clear eg
      have e0 : a.tmps.getD 97 undef = .int .i64 4 := hpre ⟨36, .data⟩ (by simp) rfl _ rfl
      go_simp
      exact hK _ _ (Below.refl _ _) hW rfl
    · intro a W K ho hW hpre hK
      rw [if_pos (wanted_none rfl)]
      have e0 : a.tmps.getD 94 undef = .bool true := hpre ⟨33, .data⟩ (by simp) rfl _ rfl
      have e1 : a.tmps.getD 98 undef = .bool true := hpre ⟨37, .data⟩ (by simp) rfl _ rfl
      go_simp
      exact hK _ _ (Below.refl _ _) hW rfl
    · intro a W K ho hW hpre hK
      rw [if_pos (wanted_none rfl)]
      have e0 : a.tmps.getD 99 undef = .bool true := hpre ⟨38, .data⟩ (by simp) rfl _ rfl
      go_simp
      exact hK _ _ (Below.refl _ _) hW rfl
    · intro a W K ho hW hpre hK
      have eg : a.tmps.getD 100 undef = .bool true := hpre ⟨39, .guard⟩ (by simp) rfl _ rfl
      rw [if_pos (wanted_at ho rfl rfl rfl (Nat.le_of_ble_eq_true rfl) eg)]
      clear eg
      have e0 : a.tmps.getD 1 undef = .pointer (some ⟨B, 0, none⟩) := ho.slot 1 (by decide)
      go_simp
      exact hK _ _ (Below.refl _ _) hW rfl
    · intro a W K ho hW hpre hK
      have eg : a.tmps.getD 100 undef = .bool true := hpre ⟨39, .guard⟩ (by simp) rfl _ rfl
      rw [if_pos (wanted_at ho rfl rfl rfl (Nat.le_of_ble_eq_true rfl) eg)]
      clear eg
      go_simp
      exact hK _ _ (Below.refl _ _) hW rfl
    · intro a W K ho hW hpre hK
      have eg : a.tmps.getD 100 undef = .bool true := hpre ⟨39, .guard⟩ (by simp) rfl _ rfl
      rw [if_pos (wanted_at ho rfl rfl rfl (Nat.le_of_ble_eq_true rfl) eg)]
      clear eg
      have e0 : a.tmps.getD 101 undef = .pointer (some ⟨B, 0, none⟩) := hpre ⟨40, .data⟩ (by simp) rfl _ rfl
      have e1 : a.tmps.getD 102 undef = .agg #[.slice none 0 0, .int .i64 0, .int .i64 0, .int .i64 0, .int .i64 0, .int .i64 0, .int .i64 0] := hpre ⟨41, .data⟩ (by simp) rfl _ rfl
      have CSP := Lib.hid (CNZ.out W _ (HT.out.keep hW))
      go_simp
      refine CSP.out.mono ?_
      rintro e w5 ⟨rfl, hb5⟩
      exact hK _ _ hb5 (hW.trans (hb5.mono hW.size)) rfl
    · intro a W K ho hW hpre hK
      have eg : a.tmps.getD 100 undef = .bool true := hpre ⟨39, .guard⟩ (by simp) rfl _ rfl
      rw [if_pos (wanted_at ho rfl rfl rfl (Nat.le_of_ble_eq_true rfl) eg)]
      clear eg
      have e0 : a.tmps.getD 103 undef = .int .i64 1 := hpre ⟨42, .data⟩ (by simp) rfl _ rfl
      go_simp
      exact hK _ _ (Below.refl _ _) hW rfl
    · intro a W K ho hW hpre hK
      rw [if_pos (wanted_none rfl)]
      have e0 : a.tmps.getD 100 undef = .bool true := hpre ⟨39, .data⟩ (by simp) rfl _ rfl
      have e1 : a.tmps.getD 104 undef = .bool true := hpre ⟨43, .data⟩ (by simp) rfl _ rfl
      go_simp
      exact hK _ _ (Below.refl _ _) hW rfl
    · intro a W K ho hW hall hF
      have e0 : a.tmps.getD 0 undef = .pointer (some ⟨w.heap.size, 0, none⟩) := ho.slot 0 (by decide)
      have e1 : a.tmps.getD 105 undef = .bool true := hall 44 _ rfl
      have hr := HR.out.keep hW
      have hc := hr.cell 0 rfl
      have hf := hr.frozen 0
      have HF := Lib.hid (hF (W.setCell ⟨w.heap.size, 0, none⟩ (.bool true)) ⟨e0, W, hW, rfl⟩)
      clear hall hF ho hr
      go_simp
      exact HF.out
    · intro a W ho hF
      obtain ⟨e0, W1, hW1, rfl⟩ := hF
      have hdf : a.defers = [{ target := .collected D, args := #[] }] := ho.defers
      obtain ⟨tm, df⟩ := a
      simp only at hdf e0
      subst hdf
      have hr := HR.out.keep hW1
      have hK' : (W1.setCell ⟨w.heap.size, 0, none⟩ (.bool true)).heap[D]? = some (.deferred (some [])) := (KeepsOthers.setCell W1 ⟨w.heap.size, 0, none⟩ (.bool true)).same D _ ((hW1.block D (Array.getElem?_eq_some_iff.1 HK.out).1).trans HK.out) rfl
      have hc11 := cell_kept (World.cell?_setCell_same' W1 ⟨w.heap.size, 0, none⟩ (.bool true) (by rw [hr.cell 0 rfl]; rfl)) (grownBy_putObj' _ D (.deferred none)) (fun r e => by cases e; exact ⟨_, hK', rfl⟩)
      have hB9 : Below w.heap.size w (W1.setCell ⟨w.heap.size, 0, none⟩ (.bool true)) := (HBW.out.trans (hW1.mono HBW.out.size)).setCell (p := ⟨w.heap.size, 0, none⟩) (Nat.le_refl _) _
      have hDs : w.heap.size ≤ D := by simp at hD; omega
      clear ho
      rename_i hKK
      refine hKK _ _ ?_
      clear hKK
      gi_wp2
      refine ⟨by simp, .inl ⟨_, _, rfl, run_takeDeferred hK', ?_⟩⟩
      refine ⟨.bool true, ?_, rfl, hB9.trans (belowK_b (w := w) (Nat.le_refl _) _ D _ _ hDs hK' rfl rfl)⟩
      rw [Array.getD_eq_getD_getElem?] at e0
      simp [results, Tryz.f5, go_sem, hc11, e0]
end Go.Proofs.YtmpipjangbedkaaGreat
