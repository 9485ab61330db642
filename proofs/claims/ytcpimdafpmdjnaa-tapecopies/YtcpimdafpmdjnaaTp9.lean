/-
  The walk of the reference's Cut.
-/
import Derived.Test.YtcpimdafpmdjnaaTp7
namespace Go.Proofs.Ytcpimdafpmdjnaa
open Go.RowKit
set_option linter.unusedVariables false

set_option maxRecDepth 8000 in
set_option maxHeartbeats 2000000 in
theorem rcut_down (w : World) (base b : Nat) (v : Value) (t : Tp) (n : Int) (h : TapeAt true w base b v t) (hd : t.down = true) :
    Calls Try.prog 25 #[.pointer (some ⟨b, 0, none⟩), .int .i64 n] w (WentC true w base b v t 15) := by
  obtain ⟨_, _, _, _, _, c2, _⟩ := h.rreads
  rw [hd] at c2
  have H := Lib.hid h.nil
  clear h hd
  go_enter Try.func25, Try.ntmps25
  go_wp2
  go_ret
  exact ⟨rfl, H.out⟩
set_option maxRecDepth 8000 in
set_option maxHeartbeats 2000000 in
theorem rcut_low (w : World) (base b : Nat) (v : Value) (t : Tp) (n : Int) (h : TapeAt true w base b v t) (hd : t.down = false) (hn : n < 0) :
    Calls Try.prog 25 #[.pointer (some ⟨b, 0, none⟩), .int .i64 n] w (WentC true w base b v t 1) := by
  obtain ⟨_, _, _, _, _, c2, _⟩ := h.rreads
  rw [hd] at c2
  have H := Lib.hid h.nil
  clear h hd
  go_enter Try.func25, Try.ntmps25
  go_wp2
  go_ret
  exact ⟨rfl, H.out⟩
set_option maxRecDepth 8000 in
set_option maxHeartbeats 2000000 in
theorem rcut_high (w : World) (base b : Nat) (v : Value) (t : Tp) (n : Int) (h : TapeAt true w base b v t) (hd : t.down = false) (hn : ¬ n < 0) (hn2 : (t.all.length : Int) < n) :
    Calls Try.prog 25 #[.pointer (some ⟨b, 0, none⟩), .int .i64 n] w (WentC true w base b v t 1) := by
  obtain ⟨c0, _, _, _, _, c2, _⟩ := h.rreads
  obtain ⟨A1, k, rfl, _⟩ := h.own.form
  rw [hd] at c2
  have H := Lib.hid h.nil
  generalize t.all.length = m at *
  clear h hd
  go_enter Try.func25, Try.ntmps25
  go_wp2
  go_ret
  exact ⟨rfl, H.out⟩
set_option maxRecDepth 8000 in
set_option maxHeartbeats 2000000 in
theorem rcut_true (w : World) (base b : Nat) (v : Value) (t : Tp) (n : Nat) (h : TapeAt true w base b v t) (hd : t.down = false) (hn2 : n ≤ t.all.length) (hg : t.rgoes.2 = true) (hk : 0 < t.keep) :
    Calls Try.prog 25 #[.pointer (some ⟨b, 0, none⟩), .int .i64 (n : Int)] w (WentC true w base b v { t.rgoes.1 with all := t.all.take n } 15) := by
  obtain ⟨c0, _, _, _, _, c2, _⟩ := h.rreads
  obtain ⟨A1, k, rfl, _⟩ := h.own.form
  rw [hd] at c2
  have hl := h.ok.len
  have hr := h.ok.room
  have C : Hid (Calls Try.prog 32 #[.pointer (some ⟨b, 0, none⟩)] w fun e w' => e = .returned (.bool true) ∧ Went true w base b (.slice A1 t.all.length k) t.rgoes.1 w') := Lib.hid (by have := falls_any _ base b _ t h; rw [hg] at this; exact this)
  obtain ⟨ga, gr, gk⟩ := t.rgoes_all
  have gok := Tp.rgoes_ok h.ok
  have HOK : Hid ({ t.rgoes.1 with all := t.all.take n } : Tp).Ok := Lib.hid ⟨h.ok.oct.take n, by rw [gr]; simp only [List.length_take]; omega, gok.room, gok.left, gok.keep⟩
  have HG := Lib.hid ga
  have HK := Lib.hid gk
  obtain ⟨m, hm⟩ : ∃ m, m = t.all.length := ⟨_, rfl⟩
  rw [← hm] at c0 hn2 hl
  have HM := Lib.hid hm
  have hnl : (t.all.take n).length = n := by rw [List.length_take]; omega
  have HNL := Lib.hid hnl
  have d1 : ¬ ((n : Int) < 0) := by omega
  have d2 : ¬ ((m : Int) < (n : Int)) := by omega
  have d3 : n ≤ 1048576 := by omega
  generalize t.rgoes.1 = t1 at *
  generalize t.keep = kp at *
  clear h hd hg ga hm gr gk gok hnl
  go_enter Try.func25, Try.ntmps25
  go_wp2_with (first
    | (go_at_call 32; refine C.out.mono ?_; rintro e w1 ⟨rfl, v1, h1', ht1, hn1⟩; have HT := Lib.hid h1'; have HT1 := Lib.hid ht1; have HN1 := Lib.hid hn1; have z0 := h1'.box.cell 0 rfl; have z4 := h1'.box.cell 4 rfl; rw [HK.out] at z4; have zf := h1'.box.frozen 0; have zlt := h1'.box.lt; obtain ⟨A4, k4, rfl, hB4, q1, q2, hA4, _⟩ := OwnB.form h1'.own; have HB4 : Hid (Byts w1 A4 (t.all.take n)) := (Lib.hid (by rw [HG.out] at hB4; exact hB4.front n)); have HA4 := Lib.hid hA4; have q3 : n ≤ t1.all.length := (by rw [HG.out, ← HM.out]; exact hn2); clear h1' ht1 hn1 hB4 hA4)
    | (at_builtin; refine wpList_app rfl (.tmp 33) (.tmp 39) rfl w1.heap.size _ [] rfl (ownB_lit w1 _ _ [] (Nat.le_refl _) ?c1 rfl _ rfl _ rfl) _ _ _ (t.all.take n) rfl HNL.out.symm (HB4.out.below ?c3) HA4.out ?c6 ?c7 ?_))
  case c1 => simp
  case c3 => exact (Below.refl _ _).alloc (Nat.le_refl _) _
  case c6 => rw [HNL.out]; simp; omega
  case c7 => simp
  intro v2 w2 ho2 hg2 _
  have hb2 : Below w1.heap.size w1 w2 := below_one (grown_below (ownB_lit w1 w1.heap.size #[] [] (Nat.le_refl _) (by simp) rfl _ rfl 0 rfl) hg2 (by simp))
  try rw [List.nil_append] at ho2
  have HO2 := Lib.hid ho2
  have HB2 := Lib.hid hb2
  have x0 := ((HT.out.box.keep hb2).cell 0 rfl)
  have xf := ((HT.out.box.keep hb2).frozen 0)
  obtain ⟨A2, k2, rfl, _⟩ := OwnB.form ho2
  clear ho2 hb2 hg2 z0 zf
  go_wp2
  go_ret
  exact ⟨rfl, Went.from HT1.out HN1.out (put_new HT.out (by have := HO2.out; rw [List.length_take] at this; exact this) HB2.out rfl HOK.out)⟩
set_option maxRecDepth 8000 in
set_option maxHeartbeats 2000000 in
theorem rcut_false (w : World) (base b : Nat) (v : Value) (t : Tp) (n : Nat) (h : TapeAt true w base b v t) (hd : t.down = false) (hn2 : n ≤ t.all.length) (hg : t.rgoes.2 = false)  :
    Calls Try.prog 25 #[.pointer (some ⟨b, 0, none⟩), .int .i64 (n : Int)] w (WentC true w base b v { t.rgoes.1 with all := t.all.take n } 0) := by
  obtain ⟨c0, _, _, _, _, c2, _⟩ := h.rreads
  obtain ⟨A1, k, rfl, _⟩ := h.own.form
  rw [hd] at c2
  have hl := h.ok.len
  have hr := h.ok.room
  have C : Hid (Calls Try.prog 32 #[.pointer (some ⟨b, 0, none⟩)] w fun e w' => e = .returned (.bool false) ∧ Went true w base b (.slice A1 t.all.length k) t.rgoes.1 w') := Lib.hid (by have := falls_any _ base b _ t h; rw [hg] at this; exact this)
  obtain ⟨ga, gr, gk⟩ := t.rgoes_all
  have gok := Tp.rgoes_ok h.ok
  have HOK : Hid ({ t.rgoes.1 with all := t.all.take n } : Tp).Ok := Lib.hid ⟨h.ok.oct.take n, by rw [gr]; simp only [List.length_take]; omega, gok.room, gok.left, gok.keep⟩
  have HG := Lib.hid ga
  have HK := Lib.hid gk
  obtain ⟨m, hm⟩ : ∃ m, m = t.all.length := ⟨_, rfl⟩
  rw [← hm] at c0 hn2 hl
  have HM := Lib.hid hm
  have hnl : (t.all.take n).length = n := by rw [List.length_take]; omega
  have HNL := Lib.hid hnl
  have d1 : ¬ ((n : Int) < 0) := by omega
  have d2 : ¬ ((m : Int) < (n : Int)) := by omega
  have d3 : n ≤ 1048576 := by omega
  generalize t.rgoes.1 = t1 at *
  generalize t.keep = kp at *
  clear h hd hg ga hm gr gk gok hnl
  go_enter Try.func25, Try.ntmps25
  go_wp2_with (first
    | (go_at_call 32; refine C.out.mono ?_; rintro e w1 ⟨rfl, v1, h1', ht1, hn1⟩; have HT := Lib.hid h1'; have HT1 := Lib.hid ht1; have HN1 := Lib.hid hn1; have z0 := h1'.box.cell 0 rfl; have z4 := h1'.box.cell 4 rfl; rw [HK.out] at z4; have zf := h1'.box.frozen 0; have zlt := h1'.box.lt; obtain ⟨A4, k4, rfl, hB4, q1, q2, hA4, _⟩ := OwnB.form h1'.own; have HB4 : Hid (Byts w1 A4 (t.all.take n)) := (Lib.hid (by rw [HG.out] at hB4; exact hB4.front n)); have HA4 := Lib.hid hA4; have q3 : n ≤ t1.all.length := (by rw [HG.out, ← HM.out]; exact hn2); clear h1' ht1 hn1 hB4 hA4)
    | (at_builtin; refine wpList_app rfl (.tmp 33) (.tmp 39) rfl w1.heap.size _ [] rfl (ownB_lit w1 _ _ [] (Nat.le_refl _) ?c1 rfl _ rfl _ rfl) _ _ _ (t.all.take n) rfl HNL.out.symm (HB4.out.below ?c3) HA4.out ?c6 ?c7 ?_))
  case c1 => simp
  case c3 => exact (Below.refl _ _).alloc (Nat.le_refl _) _
  case c6 => rw [HNL.out]; simp; omega
  case c7 => simp
  intro v2 w2 ho2 hg2 _
  have hb2 : Below w1.heap.size w1 w2 := below_one (grown_below (ownB_lit w1 w1.heap.size #[] [] (Nat.le_refl _) (by simp) rfl _ rfl 0 rfl) hg2 (by simp))
  try rw [List.nil_append] at ho2
  have HO2 := Lib.hid ho2
  have HB2 := Lib.hid hb2
  have x0 := ((HT.out.box.keep hb2).cell 0 rfl)
  have xf := ((HT.out.box.keep hb2).frozen 0)
  obtain ⟨A2, k2, rfl, _⟩ := OwnB.form ho2
  clear ho2 hb2 hg2 z0 zf
  go_wp2
  go_ret
  exact ⟨rfl, Went.from HT1.out HN1.out (put_new HT.out (by have := HO2.out; rw [List.length_take] at this; exact this) HB2.out rfl HOK.out)⟩
set_option maxRecDepth 8000 in
set_option maxHeartbeats 2000000 in
theorem rcut_not (w : World) (base b : Nat) (v : Value) (t : Tp) (n : Nat) (h : TapeAt true w base b v t) (hd : t.down = false) (hn2 : n ≤ t.all.length) (hg : t.rgoes.2 = true) (hk : ¬ 0 < t.keep) :
    Calls Try.prog 25 #[.pointer (some ⟨b, 0, none⟩), .int .i64 (n : Int)] w (WentC true w base b v t.rgoes.1 15) := by
  obtain ⟨c0, _, _, _, _, c2, _⟩ := h.rreads
  obtain ⟨A1, k, rfl, _⟩ := h.own.form
  rw [hd] at c2
  have C : Hid (Calls Try.prog 32 #[.pointer (some ⟨b, 0, none⟩)] w fun e w' => e = .returned (.bool true) ∧ Went true w base b (.slice A1 t.all.length k) t.rgoes.1 w') := Lib.hid (by have := falls_any _ base b _ t h; rw [hg] at this; exact this)
  obtain ⟨ga, gr, gk⟩ := t.rgoes_all
  have HK := Lib.hid gk
  generalize t.all.length = m at *
  have d1 : ¬ ((n : Int) < 0) := by omega
  have d2 : ¬ ((m : Int) < (n : Int)) := by omega
  generalize t.rgoes.1 = t1 at *
  generalize t.keep = kp at *
  clear h hd hg ga gr gk
  go_enter Try.func25, Try.ntmps25
  go_wp2_with (go_at_call 32; refine C.out.mono ?_; rintro e w1 ⟨rfl, hw⟩; have HW := Lib.hid hw; obtain ⟨v1, h1', _, _⟩ := hw; have z4 := h1'.box.cell 4 rfl; rw [HK.out] at z4; clear h1')
  go_ret
  exact ⟨rfl, HW.out⟩
theorem rcut_any (w : World) (base b : Nat) (v : Value) (t : Tp) (n : Int) (h : TapeAt true w base b v t) :
    Calls Try.prog 25 #[.pointer (some ⟨b, 0, none⟩), .int .i64 n] w (WentC true w base b v (t.rcut n).1 (t.rcut n).2) := by
  unfold Tp.rcut
  by_cases hd : t.down = true
  · rw [if_pos hd]; exact rcut_down w base b v t n h hd
  rw [if_neg hd]
  have hd' : t.down = false := by simpa using hd
  by_cases hn : n < 0
  · rw [if_pos (.inl hn)]; exact rcut_low w base b v t n h hd' hn
  by_cases hm : (t.all.length : Int) < n
  · rw [if_pos (.inr hm)]; exact rcut_high w base b v t n h hd' hn hm
  rw [if_neg (by omega)]
  obtain ⟨m, rfl⟩ : ∃ m : Nat, n = (m : Int) := ⟨n.toNat, by omega⟩
  rw [Int.toNat_natCast]
  by_cases hg : t.rgoes.2 = true
  · rw [if_pos hg]
    by_cases hk : 0 < t.keep
    · rw [if_pos hk]; exact rcut_true w base b v t m h hd' (by omega) hg hk
    · rw [if_neg hk]; exact rcut_not w base b v t m h hd' (by omega) hg hk
  · rw [if_neg hg]; exact rcut_false w base b v t m h hd' (by omega) (by simpa using hg)
end Go.Proofs.Ytcpimdafpmdjnaa
