/-
  The walks of the reference's Append and Cut.
-/
import Derived.Test.YtcpimdafpmdjnaaTp6
namespace Go.Proofs.Ytcpimdafpmdjnaa
open Go.RowKit
set_option linter.unusedVariables false

/-- The reference's Append, and its code. -/
def Tp.rappend (t : Tp) (x : List Nat) : Tp × Int :=
  if t.down then (t, 15) else if t.room < t.all.length + x.length then (t, 14) else
  if t.rgoes.2 then ({ t.rgoes.1 with all := t.all ++ x.take (frontN t.keep x.length) }, 15) else ({ t.rgoes.1 with all := t.all ++ x }, 0)
def Tp.rcut (t : Tp) (n : Int) : Tp × Int :=
  if t.down then (t, 15) else if n < 0 ∨ (t.all.length : Int) < n then (t, 1) else
  if t.rgoes.2 then (if 0 < t.keep then ({ t.rgoes.1 with all := t.all.take n.toNat }, 15) else (t.rgoes.1, 15)) else ({ t.rgoes.1 with all := t.all.take n.toNat }, 0)
theorem Byts.front {w : World} {A : Option Addr} {l : List Nat} (h : Byts w A l) (f : Nat) : Byts w A (l.take f) := by
  intro h0
  rw [List.length_take] at h0
  obtain ⟨b1, off, e, hc⟩ := h (by omega)
  refine ⟨b1, off, e, fun i hi => ?_⟩
  rw [List.length_take] at hi
  rw [hc i (by omega), List.getD_eq_getElem?_getD, List.getD_eq_getElem?_getD, List.getElem?_take_of_lt (by omega)]
/-- The store of new bytes. -/
theorem put_new {r : Bool} {w w2 : World} {base b : Nat} {v v2 : Value} {t t2 : Tp} (h : TapeAt r w base b v t) (ho : OwnB w2 w.heap.size v2 t2.all) (hb : Below w.heap.size w w2) (hc : (cellsOf r t v).set 0 v2 = cellsOf r t2 v2) (ok : t2.Ok) :
    Went r w base b v t2 (w2.setCell ⟨b, 0, none⟩ v2) := by
  have h2 := h.keep hb
  have hs : base ≤ w.heap.size := by have := h.low; have := h.box.lt; omega
  exact ⟨v2, h2.put (ho.base hs) hc ok, (Touch.of_below _ hb).set 0 v2, fun k hk => .inr (ho.lt k hk).1⟩
set_option maxRecDepth 8000 in
set_option maxHeartbeats 2000000 in
theorem rappend_down (w : World) (base b : Nat) (v : Value) (t : Tp) (A : Option Addr) (c n : Nat) (h : TapeAt true w base b v t) (hd : t.down = true) :
    Calls Try.prog 24 #[.pointer (some ⟨b, 0, none⟩), .slice A n c] w (WentC true w base b v t 15) := by
  obtain ⟨_, _, _, _, _, c5, _⟩ := h.rreads
  rw [hd] at c5
  have H := Lib.hid h.nil
  clear h hd
  go_enter Try.func24, Try.ntmps24
  go_wp2
  go_ret
  exact ⟨rfl, H.out⟩
set_option maxRecDepth 8000 in
set_option maxHeartbeats 2000000 in
theorem rappend_full (w : World) (base b : Nat) (v : Value) (t : Tp) (A : Option Addr) (c n : Nat) (hn : n ≤ 9223372036854775807) (h : TapeAt true w base b v t) (hd : t.down = false) (hf : t.room < t.all.length + n) :
    Calls Try.prog 24 #[.pointer (some ⟨b, 0, none⟩), .slice A n c] w (WentC true w base b v t 14) := by
  obtain ⟨c0, c1, _, _, _, c2, _⟩ := h.rreads
  obtain ⟨A1, k, rfl, _⟩ := h.own.form
  have h1 := h.ok.len
  have h2 := h.ok.room
  rw [hd] at c2
  have H := Lib.hid h
  generalize t.all.length = m at *
  generalize t.room = R at *
  have hlt : decide ((R : Int) - (m : Int) < (n : Int)) = true := by simp; omega
  clear h hd
  go_enter Try.func24, Try.ntmps24
  go_wp2
  go_quiet (fail)
  go_wp2
  go_ret
  exact ⟨rfl, _, H.out.drewN _, (Touch.refl _ _).drewN _, Near.refl _ _⟩
set_option maxRecDepth 8000 in
set_option maxHeartbeats 4000000 in
theorem rappend_goes (w : World) (base b : Nat) (v : Value) (t : Tp) (A : Option Addr) (c : Nat) (x : List Nat) (hx : Byts w A x) (hxo : Oct x) (hA : A = none → c = 0) (hap : ∀ bb off, A = some ⟨bb, off, none⟩ → 0 < x.length → ¬ foot b v bb) (h : TapeAt true w base b v t) (hd : t.down = false) (hf : ¬ t.room < t.all.length + x.length) (hg : t.rgoes.2 = false) :
    Calls Try.prog 24 #[.pointer (some ⟨b, 0, none⟩), .slice A x.length c] w (WentC true w base b v { t.rgoes.1 with all := t.all ++ x } 0) := by
  obtain ⟨c0, c1, _, _, _, c2, _⟩ := h.rreads
  obtain ⟨A1, k, rfl, _⟩ := h.own.form
  have h1 := h.ok.len
  have h2 := h.ok.room
  rw [hd] at c2
  have H := Lib.hid h
  obtain ⟨n, hn⟩ : ∃ n, n = x.length := ⟨_, rfl⟩
  obtain ⟨m, hm⟩ : ∃ m, m = t.all.length := ⟨_, rfl⟩
  obtain ⟨R, hR⟩ : ∃ R, R = t.room := ⟨_, rfl⟩
  rw [← hm] at c0 h1
  rw [← hR] at c1 h1 h2
  rw [← hm, ← hn, ← hR] at hf
  have hlt : decide ((R : Int) - (m : Int) < (n : Int)) = false := by simp; omega
  have C : Hid (∀ j, Calls Try.prog 32 #[.pointer (some ⟨b, 0, none⟩)] (w.drewN j) fun e w' => e = .returned (.bool false) ∧ Went true (w.drewN j) base b (.slice A1 t.all.length k) t.rgoes.1 w') := Lib.hid (fun j => by have := falls_any _ base b _ t (h.drewN j); rw [hg] at this; exact this)
  obtain ⟨ga, gr, gk⟩ := t.rgoes_all
  have gok := Tp.rgoes_ok h.ok
  have HN := Lib.hid hn
  have HX := Lib.hid hx
  have HA := Lib.hid hA
  have HP := Lib.hid hap
  have HG := Lib.hid ga
  have HOK : Hid ({ t.rgoes.1 with all := t.all ++ x } : Tp).Ok := Lib.hid (by have := gok.app hxo (by rw [ga, gr, ← hm, ← hn, ← hR]; omega); rw [ga] at this; exact this)
  have HL : Hid (t.all.length + x.length ≤ 1048576) := Lib.hid (by omega)
  generalize t.rgoes.1 = t1 at *
  rw [← hn]
  clear h hd hg hx hA hap hn hm hR ga gr gok gk
  go_enter Try.func24, Try.ntmps24
  go_wp2
  go_quiet (fail)
  go_wp2_with (first
    | (go_at_call 32; refine (C.out _).mono ?_; rintro e w1 ⟨rfl, v1, h1', ht1, hn1⟩; have HT := Lib.hid h1'; have HT1 := Lib.hid ht1; have HN1 := Lib.hid hn1; obtain ⟨A4, k4, rfl, hB4, _, _, hA4, _⟩ := OwnB.form h1'.own; have HB4 := Lib.hid hB4; have HA4 := Lib.hid hA4; have z0 := h1'.box.cell 0 rfl; have zf := h1'.box.frozen 0; have zlt := h1'.box.lt; clear h1' ht1 hn1 hB4 hA4)
    | (at_builtin; refine wpList_app rfl (.tmp 45) (.tmp 49) rfl w1.heap.size _ [] rfl (ownB_lit w1 _ _ [] (Nat.le_refl _) ?c1 rfl _ rfl _ rfl) _ _ _ t1.all rfl rfl (HB4.out.below ?c3) HA4.out ?c6 ?c7 ?_))
  case c1 => simp
  case c3 => exact (Below.refl _ _).alloc (Nat.le_refl _) _
  case c6 => rw [HG.out]; have := HL.out; simp; omega
  case c7 => simp
  intro v2 w2 ho2 hg2 _
  have hb2 : Below w1.heap.size w1 w2 := below_one (grown_below (ownB_lit w1 w1.heap.size #[] [] (Nat.le_refl _) (by simp) rfl _ rfl 0 rfl) hg2 (by simp))
  try rw [List.nil_append] at ho2
  have HO2 := Lib.hid ho2
  have HB2 := Lib.hid hb2
  obtain ⟨A2, k2, rfl, _⟩ := OwnB.form ho2
  have y0 := (hb2.cell (p := ⟨b, 0, none⟩) zlt).trans z0
  have yf := (hb2.frozen (p := ⟨b, 0, none⟩) zlt).trans zf
  clear ho2 hb2 hg2 z0 zf
  go_wp2_with (at_builtin; refine wpList_app rfl (.tmp 50) (.tmp 51) rfl w1.heap.size _ t1.all rfl HO2.out _ _ _ x rfl HN.out ?c3 HA.out ?c6 ?c7 ?_)
  case c3 => exact (((HX.out.drewN nq).touch HT1.out HP.out)).below HB2.out
  case c6 => rw [HG.out]; have := HL.out; omega
  case c7 => exact HB2.out.size
  intro v3 w3 ho3 hg3 _
  have hb3 : Below w1.heap.size w1 w3 := HB2.out.trans (grown_below HO2.out hg3 HB2.out.size)
  rw [HG.out] at ho3
  have HO3 := Lib.hid ho3
  have HB3 := Lib.hid hb3
  have x0 := ((HT.out.box.keep hb3).cell 0 rfl)
  have xf := ((HT.out.box.keep hb3).frozen 0)
  obtain ⟨A3, k3, rfl, _⟩ := OwnB.form ho3
  simp only [List.length_append] at HO3 ⊢
  clear ho3 hb3 hg3 y0 yf HO2
  go_wp2
  go_ret
  exact ⟨rfl, Went.from (((Touch.refl _ w).drewN nq).trans HT1.out (fun _ _ h => h)) HN1.out (put_new HT.out HO3.out HB3.out rfl HOK.out)⟩
end Go.Proofs.Ytcpimdafpmdjnaa
