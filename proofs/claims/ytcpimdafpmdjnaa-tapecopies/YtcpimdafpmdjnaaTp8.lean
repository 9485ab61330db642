/-
  The walks of the reference's Append in flight, and of its Cut.
-/
import Derived.Test.YtcpimdafpmdjnaaTp7
namespace Go.Proofs.Ytcpimdafpmdjnaa
open Go.RowKit
set_option linter.unusedVariables false

set_option maxRecDepth 8000 in
set_option maxHeartbeats 4000000 in
theorem rappend_flies (w : World) (base b : Nat) (v : Value) (t : Tp) (A : Option Addr) (c : Nat) (x : List Nat) (hx : Byts w A x) (hxo : Oct x) (hA : A = none → c = 0) (hxc : x.length ≤ c) (hcm : c ≤ 9223372036854775807) (hap : ∀ bb off, A = some ⟨bb, off, none⟩ → 0 < x.length → ¬ foot b v bb) (h : TapeAt true w base b v t) (hd : t.down = false) (hf : ¬ t.room < t.all.length + x.length) (hg : t.rgoes.2 = true) :
    Calls Try.prog 24 #[.pointer (some ⟨b, 0, none⟩), .slice A x.length c] w (WentC true w base b v { t.rgoes.1 with all := t.all ++ x.take (frontN t.keep x.length) } 15) := by
  obtain ⟨c0, c1, _, _, _, c2, _⟩ := h.rreads
  obtain ⟨A1, k, rfl, _⟩ := h.own.form
  have h1 := h.ok.len
  have h2 := h.ok.room
  have hkp := h.ok.keep
  rw [hd] at c2
  obtain ⟨n, hn⟩ : ∃ n, n = x.length := ⟨_, rfl⟩
  obtain ⟨m, hm⟩ : ∃ m, m = t.all.length := ⟨_, rfl⟩
  obtain ⟨R, hR⟩ : ∃ R, R = t.room := ⟨_, rfl⟩
  rw [← hm] at c0 h1
  rw [← hR] at c1 h1 h2
  rw [← hm, ← hn, ← hR] at hf
  have hlt : decide ((R : Int) - (m : Int) < (n : Int)) = false := by simp; omega
  have C : Hid (∀ j, Calls Try.prog 32 #[.pointer (some ⟨b, 0, none⟩)] (w.drewN j) fun e w' => e = .returned (.bool true) ∧ Went true (w.drewN j) base b (.slice A1 t.all.length k) t.rgoes.1 w') := Lib.hid (fun j => by have := falls_any _ base b _ t (h.drewN j); rw [hg] at this; exact this)
  obtain ⟨ga, gr, gk⟩ := t.rgoes_all
  have gok := Tp.rgoes_ok h.ok
  obtain ⟨kp, hkpe⟩ : ∃ kp, kp = t.keep := ⟨_, rfl⟩
  rw [← hkpe] at hkp gk ⊢
  obtain ⟨f, hfe⟩ : ∃ f, f = frontN kp x.length := ⟨_, rfl⟩
  have hfn : f ≤ n := by rw [hfe, hn]; exact frontN_le _ _
  obtain ⟨q, hq⟩ : ∃ q, q = max kp 0 := ⟨_, rfl⟩
  have e1 : (if kp < 0 then 0 else kp) = q := by rw [hq]; split <;> omega
  have e2 : (if (n : Int) < q then (n : Int) else q) = (f : Int) := by rw [hfe, hq]; unfold frontN; rw [← hn]; split <;> omega
  rw [← hfe]
  have HX : Hid (Byts w A (x.take f)) := Lib.hid (by
    intro h0
    obtain ⟨b1, off, e, hc⟩ := hx (by rw [List.length_take] at h0; omega)
    refine ⟨b1, off, e, fun i hi => ?_⟩
    rw [List.length_take] at hi
    rw [hc i (by omega), List.getD_eq_getElem?_getD, List.getD_eq_getElem?_getD, List.getElem?_take_of_lt (by omega)])
  have HA := Lib.hid hA
  have HP := Lib.hid hap
  have HG := Lib.hid ga
  have hfl : (x.take f).length = f := by rw [List.length_take]; omega
  have HF := Lib.hid hfl
  have HOK : Hid ({ t.rgoes.1 with all := t.all ++ x.take f } : Tp).Ok := Lib.hid (by have := gok.app (hxo.take f) (by rw [ga, gr, hfl, ← hm, ← hR]; omega); rw [ga] at this; exact this)
  have HL : Hid (t.all.length + f ≤ 1048576) := Lib.hid (by omega)
  have HK := Lib.hid gk
  rw [← hn] at hxc
  generalize t.rgoes.1 = t1 at *
  rw [← hn]
  clear h hd hg hx hA hap hn hm hR ga gr gok hfe hq hkpe hfl gk
  unfold I64 at hkp
  have hfc : f ≤ c := by omega
  go_enter Try.func24, Try.ntmps24
  go_wp2
  go_quiet (fail)
  go_wp2_with (go_at_call 32; refine (C.out _).mono ?_; rintro e w1 ⟨rfl, v1, h1', ht1, hn1⟩; have HT := Lib.hid h1'; have HT1 := Lib.hid ht1; have HN1 := Lib.hid hn1; have z0 := h1'.box.cell 0 rfl; have z4 := h1'.box.cell 4 rfl; rw [HK.out] at z4; have zf := h1'.box.frozen 0; have zlt := h1'.box.lt; clear h1' ht1 hn1)
  obtain ⟨A4, k4, rfl, hB4, _, _, hA4, _⟩ := OwnB.form HT.out.own
  have hdr : Below w1.heap.size w1 w1.drew := ⟨rfl, rfl, rfl, Nat.le_refl _, fun _ _ => rfl⟩
  have HD := Lib.hid hdr
  have HB4 : Hid (Byts (w1.drew.alloc (.cells #[] 5)) A4 t1.all) := Lib.hid (hB4.below (hdr.alloc (Nat.le_refl _) _))
  have HA4 := Lib.hid hA4
  have HTd : Hid (TapeAt true w1.drew base b (.slice A4 t1.all.length k4) t1) := Lib.hid (HT.out.keep hdr)
  have HL4 : Hid (([] : List Nat).length + t1.all.length ≤ 140737488355328) := Lib.hid (by rw [HG.out]; have := HL.out; simp; omega)
  have HL5 : Hid (t1.all.length + (x.take f).length ≤ 140737488355328) := Lib.hid (by rw [HG.out, HF.out]; have := HL.out; omega)
  have HBx : Hid (Byts w1 A (x.take f)) := Lib.hid ((HX.out.drewN nq).touch HT1.out (fun bb off e h0 => HP.out bb off e (by rw [List.length_take] at h0; omega)))
  clear C c0 c1 c2 hlt hf hB4 hA4 hdr
  go_region_law (first
    | (refine step_app rfl (.tmp 25) (.tmp 29) rfl w1.heap.size (.slice (some ⟨w1.heap.size, 0, none⟩) 0 0) [] (by first | (simp [Act.eval]; done) | (simp [Act.eval, Act.put]; done)) (ownB_lit w1.drew _ _ [] (Nat.le_refl _) (by simp) rfl _ rfl _ rfl) A4 t1.all.length k4 t1.all (by first | (simp [Act.eval]; done) | (simp [Act.eval, Act.put]; done)) rfl HB4.out HA4.out HL4.out (by simp) ?_; intro A2 n2 k2 w2 ho2 hn2 hg2 hm2; rw [List.length_nil, Nat.zero_add] at hn2; subst hn2; rw [List.nil_append] at ho2; have hb2 : Below w1.heap.size w1 w2 := HD.out.trans (below_one (grown_below (ownB_lit w1.drew w1.heap.size #[] [] (Nat.le_refl _) (by simp) rfl _ rfl 0 rfl) hg2 (by simp))); have y4 := (hb2.cell (p := ⟨b, 4, none⟩) zlt).trans z4; have HO2 := Lib.hid ho2; have HB2 := Lib.hid hb2; clear ho2 hg2 hm2 hb2)
    | (refine step_app rfl (.tmp 30) (.tmp 40) rfl w1.heap.size (.slice A2 t1.all.length k2) t1.all (by first | (simp [Act.eval]; done) | (simp [Act.eval, Act.put]; done)) HO2.out A f c (x.take f) (by first | (simp [Act.eval]; done) | (simp [Act.eval, Act.put]; done)) HF.out.symm (HBx.out.below HB2.out) HA.out HL5.out HB2.out.size ?_; intro A3 n3 k3 w3 ho3 hn3 hg3 hm3; rw [HF.out, HG.out] at hn3; subst hn3; rw [HG.out] at ho3; have hb3 : Below w1.heap.size w1 w3 := HB2.out.trans (grown_below HO2.out hg3 HB2.out.size); have x0 := ((HT.out.box.keep hb3).cell 0 rfl); have xf := ((HT.out.box.keep hb3).frozen 0); have HO3 := Lib.hid ho3; have HB3 := Lib.hid hb3; clear ho3 hg3 hm3 hb3))
  all_goals go_wp2
  all_goals go_ret
  all_goals exact ⟨rfl, Went.from ((((Touch.refl _ w).drewN nq).trans HT1.out (fun _ _ h => h))) HN1.out (put_new HT.out HO3.out HB3.out rfl HOK.out)⟩
theorem rappend_any (w : World) (base b : Nat) (v : Value) (t : Tp) (A : Option Addr) (n c : Nat) (x : List Nat) (hnx : n = x.length) (hx : Byts w A x) (hxo : Oct x) (hA : A = none → c = 0) (hxc : x.length ≤ c) (hcm : c ≤ 9223372036854775807) (hap : ∀ bb off, A = some ⟨bb, off, none⟩ → 0 < x.length → ¬ foot b v bb) (h : TapeAt true w base b v t) :
    Calls Try.prog 24 #[.pointer (some ⟨b, 0, none⟩), .slice A n c] w (WentC true w base b v (t.rappend x).1 (t.rappend x).2) := by
  subst hnx
  unfold Tp.rappend
  by_cases hd : t.down = true
  · rw [if_pos hd]; exact rappend_down w base b v t A c x.length h hd
  rw [if_neg hd]
  have hd' : t.down = false := by simpa using hd
  by_cases hf : t.room < t.all.length + x.length
  · rw [if_pos hf]; exact rappend_full w base b v t A c x.length (by omega) h hd' hf
  rw [if_neg hf]
  by_cases hg : t.rgoes.2 = true
  · rw [if_pos hg]; exact rappend_flies w base b v t A c x hx hxo hA hxc hcm hap h hd' hf hg
  · rw [if_neg hg]; exact rappend_goes w base b v t A c x hx hxo hA hap h hd' hf (by simpa using hg)
end Go.Proofs.Ytcpimdafpmdjnaa
