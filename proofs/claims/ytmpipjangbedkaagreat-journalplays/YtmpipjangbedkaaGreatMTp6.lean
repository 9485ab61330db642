import Derived.Test.YtmpipjangbedkaaGreatMTp4
/-
  Append as a whole; the walk of tape.Cut; what is told of no tape.
-/
namespace Go.Proofs.YtmpipjangbedkaaGreat
set_option maxRecDepth 8000
open Go.RowKit
set_option linter.unusedVariables false

theorem append_any (w : World) (base b : Nat) (v : Value) (t : Tp) (A : Option Addr) (n c : Nat) (x : List Nat) (hnx : n = x.length) (hx : Byts w A x) (hxo : Oct x) (hA : A = none → c = 0) (hxc : x.length ≤ c) (hcm : c ≤ 9223372036854775807) (hap : ∀ bb off, A = some ⟨bb, off, none⟩ → 0 < x.length → ¬ foot b v bb) (h : TapeAt false w base b v t) :
    Calls Tryz.prog 18 #[.pointer (some ⟨b, 0, none⟩), .slice A n c] w (WentC false w base b v (t.append x).1 (t.append x).2) := by
  subst hnx
  unfold Tp.append
  by_cases hd : t.down = true
  · rw [if_pos hd]; exact append_down w base b v t A c x.length h hd
  rw [if_neg hd]
  have hd' : t.down = false := by simpa using hd
  by_cases hf : t.room < t.all.length + x.length
  · rw [if_pos hf]; exact append_full w base b v t A c x.length (by omega) h hd' hf
  rw [if_neg hf]
  by_cases hg : t.goes.2.2 = true
  · rw [if_pos hg]; exact append_flies w base b v t A c x hx hxo hA hxc hcm hap h hd' hf hg
  · rw [if_neg hg]; exact append_goes w base b v t A c x hx hxo hA hap h hd' hf (by simpa using hg)
theorem append_ok {t : Tp} (h : t.Ok) {x : List Nat} (hx : Oct x) : (t.append x).1.Ok := by
  unfold Tp.append
  obtain ⟨ga, gr⟩ := t.goes_all
  have gok := Tp.goes_ok h
  split
  · exact h
  · split
    · exact h
    · split
      · have := gok.app (hx.take (frontN t.goes.2.1 x.length)) (by rw [ga, gr, List.length_take]; omega)
        rw [ga] at this; exact this
      · have := gok.app hx (by rw [ga, gr]; omega)
        rw [ga] at this; exact this

/-- Cut, and its code. -/
def Tp.cut (t : Tp) (n : Int) : Tp × Int :=
  if t.down then (t, 15) else if n < 0 ∨ (t.all.length : Int) < n then (t, 1) else
  if t.goes.2.2 then (if 0 < t.goes.2.1 then ({ t.goes.1 with all := t.all.take n.toNat }, 15) else (t.goes.1, 15)) else ({ t.goes.1 with all := t.all.take n.toNat }, 0)
theorem put_front {r : Bool} {w : World} {base b : Nat} {A : Option Addr} {n c : Nat} {t : Tp} (h : TapeAt r w base b (.slice A n c) t) (m : Nat) (hm : m ≤ t.all.length) :
    Went r w base b (.slice A n c) { t with all := t.all.take m } (w.setCell ⟨b, 0, none⟩ (.slice A m c)) := by
  have ho := h.own.front m hm
  refine ⟨.slice A m c, h.put (t' := { t with all := t.all.take m }) ho (by cases r <;> rfl) ⟨h.ok.oct.take m, by simp only [List.length_take]; have := h.ok.len; omega, h.ok.room, h.ok.left, h.ok.keep⟩, (touch_foot b 0 _ _ w), fun k hk => .inl ?_⟩
  cases A with
  | none => simp [Value.ownBlock] at hk
  | some a => simpa [Value.ownBlock] using hk
set_option maxRecDepth 8000 in
set_option maxHeartbeats 2000000 in
theorem cut_down (w : World) (base b : Nat) (v : Value) (t : Tp) (n : Int) (h : TapeAt false w base b v t) (hd : t.down = true) :
    Calls Tryz.prog 50 #[.pointer (some ⟨b, 0, none⟩), .int .i64 n] w (WentC false w base b v t 15) := by
  obtain ⟨_, _, c2, _⟩ := h.reads
  rw [hd] at c2
  have H := Lib.hid h.nil
  clear h hd
  go_enter Tryz.func50, Tryz.ntmps50
  go_wp2
  go_ret
  exact ⟨rfl, H.out⟩
set_option maxRecDepth 8000 in
set_option maxHeartbeats 2000000 in
theorem cut_low (w : World) (base b : Nat) (v : Value) (t : Tp) (n : Int) (h : TapeAt false w base b v t) (hd : t.down = false) (hn : n < 0) :
    Calls Tryz.prog 50 #[.pointer (some ⟨b, 0, none⟩), .int .i64 n] w (WentC false w base b v t 1) := by
  obtain ⟨_, _, c2, _⟩ := h.reads
  rw [hd] at c2
  have H := Lib.hid h.nil
  clear h hd
  go_enter Tryz.func50, Tryz.ntmps50
  go_wp2
  go_ret
  exact ⟨rfl, H.out⟩
set_option maxRecDepth 8000 in
set_option maxHeartbeats 2000000 in
theorem cut_high (w : World) (base b : Nat) (v : Value) (t : Tp) (n : Int) (h : TapeAt false w base b v t) (hd : t.down = false) (hn : ¬ n < 0) (hn2 : (t.all.length : Int) < n) :
    Calls Tryz.prog 50 #[.pointer (some ⟨b, 0, none⟩), .int .i64 n] w (WentC false w base b v t 1) := by
  obtain ⟨c0, _, c2, _⟩ := h.reads
  obtain ⟨A1, k, rfl, _⟩ := h.own.form
  rw [hd] at c2
  have H := Lib.hid h.nil
  generalize t.all.length = m at *
  clear h hd
  go_enter Tryz.func50, Tryz.ntmps50
  go_wp2
  go_ret
  exact ⟨rfl, H.out⟩
set_option maxRecDepth 8000 in
set_option maxHeartbeats 2000000 in
theorem cut_true (w : World) (base b : Nat) (v : Value) (t : Tp) (n : Nat) (h : TapeAt false w base b v t) (hd : t.down = false) (hn2 : n ≤ t.all.length) (hg : t.goes.2.2 = true) (hk : 0 < t.goes.2.1) :
    Calls Tryz.prog 50 #[.pointer (some ⟨b, 0, none⟩), .int .i64 (n : Int)] w (WentC false w base b v { t.goes.1 with all := t.all.take n } 15) := by
  obtain ⟨c0, _, c2, _⟩ := h.reads
  obtain ⟨A1, k, rfl, _⟩ := h.own.form
  rw [hd] at c2
  have hl := h.ok.len
  have hr := h.ok.room
  have C : Hid (Calls Tryz.prog 47 #[.pointer (some ⟨b, 0, none⟩)] w fun e w' => e = .returned (.tuple #[.int .i64 t.goes.2.1, .bool true]) ∧ Went false w base b (.slice A1 t.all.length k) t.goes.1 w') := Lib.hid (by have := goes_any _ base b _ t h; rw [hg] at this; exact this)
  obtain ⟨ga, gr⟩ := t.goes_all
  have HG := Lib.hid ga
  obtain ⟨m, hm⟩ : ∃ m, m = t.all.length := ⟨_, rfl⟩
  rw [← hm] at c0 hn2 hl
  have HM := Lib.hid hm
  have d1 : ¬ ((n : Int) < 0) := by omega
  have d2 : ¬ ((m : Int) < (n : Int)) := by omega
  generalize t.goes.2.1 = kp at *
  generalize t.goes.1 = t1 at *
  clear h hd hg ga hm gr
  go_enter Tryz.func50, Tryz.ntmps50
  go_wp2_with (go_at_call 47; refine C.out.mono ?_; rintro e w1 ⟨rfl, v1, h1', ht1, hn1⟩; have HT := Lib.hid h1'; have HT1 := Lib.hid ht1; have HN1 := Lib.hid hn1; have z0 := h1'.box.cell 0 rfl; have zf := h1'.box.frozen 0; have zlt := h1'.box.lt; obtain ⟨A4, k4, rfl, _, q1, q2, _⟩ := OwnB.form h1'.own; have q0 := HG.out; have q3 : n ≤ t1.all.length := (by rw [HG.out, ← HM.out]; exact hn2); clear q0; clear h1' ht1 hn1)
  go_ret
  have := put_front HT.out n q3
  rw [HG.out] at this
  exact ⟨rfl, Went.from HT1.out HN1.out (by rw [HG.out]; exact this)⟩
set_option maxRecDepth 8000 in
set_option maxHeartbeats 2000000 in
theorem cut_false (w : World) (base b : Nat) (v : Value) (t : Tp) (n : Nat) (h : TapeAt false w base b v t) (hd : t.down = false) (hn2 : n ≤ t.all.length) (hg : t.goes.2.2 = false)  :
    Calls Tryz.prog 50 #[.pointer (some ⟨b, 0, none⟩), .int .i64 (n : Int)] w (WentC false w base b v { t.goes.1 with all := t.all.take n } 0) := by
  obtain ⟨c0, _, c2, _⟩ := h.reads
  obtain ⟨A1, k, rfl, _⟩ := h.own.form
  rw [hd] at c2
  have hl := h.ok.len
  have hr := h.ok.room
  have C : Hid (Calls Tryz.prog 47 #[.pointer (some ⟨b, 0, none⟩)] w fun e w' => e = .returned (.tuple #[.int .i64 t.goes.2.1, .bool false]) ∧ Went false w base b (.slice A1 t.all.length k) t.goes.1 w') := Lib.hid (by have := goes_any _ base b _ t h; rw [hg] at this; exact this)
  obtain ⟨ga, gr⟩ := t.goes_all
  have HG := Lib.hid ga
  obtain ⟨m, hm⟩ : ∃ m, m = t.all.length := ⟨_, rfl⟩
  rw [← hm] at c0 hn2 hl
  have HM := Lib.hid hm
  have d1 : ¬ ((n : Int) < 0) := by omega
  have d2 : ¬ ((m : Int) < (n : Int)) := by omega
  generalize t.goes.2.1 = kp at *
  generalize t.goes.1 = t1 at *
  clear h hd hg ga hm gr
  go_enter Tryz.func50, Tryz.ntmps50
  go_wp2_with (go_at_call 47; refine C.out.mono ?_; rintro e w1 ⟨rfl, v1, h1', ht1, hn1⟩; have HT := Lib.hid h1'; have HT1 := Lib.hid ht1; have HN1 := Lib.hid hn1; have z0 := h1'.box.cell 0 rfl; have zf := h1'.box.frozen 0; have zlt := h1'.box.lt; obtain ⟨A4, k4, rfl, _, q1, q2, _⟩ := OwnB.form h1'.own; have q0 := HG.out; have q3 : n ≤ t1.all.length := (by rw [HG.out, ← HM.out]; exact hn2); clear q0; clear h1' ht1 hn1)
  go_ret
  have := put_front HT.out n q3
  rw [HG.out] at this
  exact ⟨rfl, Went.from HT1.out HN1.out (by rw [HG.out]; exact this)⟩
set_option maxRecDepth 8000 in
set_option maxHeartbeats 2000000 in
theorem cut_not (w : World) (base b : Nat) (v : Value) (t : Tp) (n : Nat) (h : TapeAt false w base b v t) (hd : t.down = false) (hn2 : n ≤ t.all.length) (hg : t.goes.2.2 = true) (hk : ¬ 0 < t.goes.2.1) :
    Calls Tryz.prog 50 #[.pointer (some ⟨b, 0, none⟩), .int .i64 (n : Int)] w (WentC false w base b v t.goes.1 15) := by
  obtain ⟨c0, _, c2, _⟩ := h.reads
  obtain ⟨A1, k, rfl, _⟩ := h.own.form
  rw [hd] at c2
  have C : Hid (Calls Tryz.prog 47 #[.pointer (some ⟨b, 0, none⟩)] w fun e w' => e = .returned (.tuple #[.int .i64 t.goes.2.1, .bool true]) ∧ Went false w base b (.slice A1 t.all.length k) t.goes.1 w') := Lib.hid (by have := goes_any _ base b _ t h; rw [hg] at this; exact this)
  generalize t.all.length = m at *
  have d1 : ¬ ((n : Int) < 0) := by omega
  have d2 : ¬ ((m : Int) < (n : Int)) := by omega
  generalize t.goes.2.1 = kp at *
  clear h hd hg
  go_enter Tryz.func50, Tryz.ntmps50
  go_wp2_with (go_at_call 47; refine C.out.mono ?_; rintro e w1 ⟨rfl, hw⟩; have HW := Lib.hid hw; clear hw)
  go_ret
  exact ⟨rfl, HW.out⟩
theorem cut_any (w : World) (base b : Nat) (v : Value) (t : Tp) (n : Int) (h : TapeAt false w base b v t) :
    Calls Tryz.prog 50 #[.pointer (some ⟨b, 0, none⟩), .int .i64 n] w (WentC false w base b v (t.cut n).1 (t.cut n).2) := by
  unfold Tp.cut
  by_cases hd : t.down = true
  · rw [if_pos hd]; exact cut_down w base b v t n h hd
  rw [if_neg hd]
  have hd' : t.down = false := by simpa using hd
  by_cases hn : n < 0
  · rw [if_pos (.inl hn)]; exact cut_low w base b v t n h hd' hn
  by_cases hm : (t.all.length : Int) < n
  · rw [if_pos (.inr hm)]; exact cut_high w base b v t n h hd' hn hm
  rw [if_neg (by omega)]
  obtain ⟨m, rfl⟩ : ∃ m : Nat, n = (m : Int) := ⟨n.toNat, by omega⟩
  rw [Int.toNat_natCast]
  by_cases hg : t.goes.2.2 = true
  · rw [if_pos hg]
    by_cases hk : 0 < t.goes.2.1
    · rw [if_pos hk]; exact cut_true w base b v t m h hd' (by omega) hg hk
    · rw [if_neg hk]; exact cut_not w base b v t m h hd' (by omega) hg hk
  · rw [if_neg hg]; exact cut_false w base b v t m h hd' (by omega) (by simpa using hg)

set_option maxRecDepth 8000 in
set_option maxHeartbeats 1000000 in
theorem none_read (w : World) : Calls Tryz.prog 27 #[.pointer none] w fun e w' => e = .returned (.tuple #[.slice none 0 0, .int .i64 3]) ∧ w = w' := by
  go_enter Tryz.func27, Tryz.ntmps27
  go_wp2
  go_ret2
  exact ⟨rfl, rfl⟩
set_option maxRecDepth 8000 in
set_option maxHeartbeats 1000000 in
theorem none_append (A : Value) (w : World) : Calls Tryz.prog 18 #[.pointer none, A] w fun e w' => e = .returned (.int .i64 3) ∧ w = w' := by
  go_enter Tryz.func18, Tryz.ntmps18
  go_wp2
  go_ret
  exact ⟨rfl, rfl⟩
set_option maxRecDepth 8000 in
set_option maxHeartbeats 1000000 in
theorem none_cut (A : Value) (w : World) : Calls Tryz.prog 50 #[.pointer none, A] w fun e w' => e = .returned (.int .i64 3) ∧ w = w' := by
  go_enter Tryz.func50, Tryz.ntmps50
  go_wp2
  go_ret
  exact ⟨rfl, rfl⟩
set_option maxRecDepth 8000 in
set_option maxHeartbeats 1000000 in
theorem none_Len (w : World) : Calls Tryz.prog 57 #[.pointer none] w fun e w' => e = .returned (.int .i64 0) ∧ w = w' := by
  go_enter Tryz.func57, Tryz.ntmps57
  go_wp2
  go_ret
  exact ⟨rfl, rfl⟩
set_option maxRecDepth 8000 in
set_option maxHeartbeats 1000000 in
theorem none_down (w : World) : Calls Tryz.prog 37 #[.pointer none] w fun e w' => e = .returned (.bool false) ∧ w = w' := by
  go_enter Tryz.func37, Tryz.ntmps37
  go_wp2
  go_ret
  exact ⟨rfl, rfl⟩
set_option maxRecDepth 8000 in
set_option maxHeartbeats 1000000 in
theorem none_copy (w : World) : Calls Tryz.prog 36 #[.pointer none] w fun e w' => e = .returned (.pointer none) ∧ w = w' := by
  go_enter Tryz.func36, Tryz.ntmps36
  go_wp2
  go_ret
  exact ⟨rfl, rfl⟩
set_option maxRecDepth 8000 in
set_option maxHeartbeats 1000000 in
theorem none_arm (a b : Value) (w : World) : Calls Tryz.prog 30 #[.pointer none, a, b] w fun e w' => e = .returned (.tuple #[]) ∧ w = w' := by
  go_enter Tryz.func30, Tryz.ntmps30
  go_wp2
  refine bodyPost_ret (results_none rfl _ _ _) rfl ?_
  exact ⟨rfl, rfl⟩
set_option maxRecDepth 8000 in
set_option maxHeartbeats 1000000 in
theorem none_wake (w : World) : Calls Tryz.prog 32 #[.pointer none] w fun e w' => e = .returned (.tuple #[]) ∧ w = w' := by
  go_enter Tryz.func32, Tryz.ntmps32
  go_wp2
  refine bodyPost_ret (results_none rfl _ _ _) rfl ?_
  exact ⟨rfl, rfl⟩
end Go.Proofs.YtmpipjangbedkaaGreat

/-
  The walks of the reference's Append and Cut.
-/
namespace Go.Proofs.YtmpipjangbedkaaGreat
set_option maxRecDepth 8000
open Go.RowKit
set_option linter.unusedVariables false

/-- The reference's Append, and its code. -/
def Tp.rappend (t : Tp) (x : List Nat) : Tp × Int :=
  if t.down then (t, 15) else if t.room < t.all.length + x.length then (t, 14) else
  if t.rgoes.2 then ({ t.rgoes.1 with all := t.all ++ x.take (frontN t.keep x.length) }, 15) else ({ t.rgoes.1 with all := t.all ++ x }, 0)
def Tp.rcut (t : Tp) (n : Int) : Tp × Int :=
  if t.down then (t, 15) else if n < 0 ∨ (t.all.length : Int) < n then (t, 1) else
  if t.rgoes.2 then (if 0 < t.keep then ({ t.rgoes.1 with all := t.all.take n.toNat }, 15) else (t.rgoes.1, 15)) else ({ t.rgoes.1 with all := t.all.take n.toNat }, 0)
theorem Byts.front {w : World} {A : Option Addr} {l : List Nat} (h : Byts w A l) (f : Nat) : Byts w A (l.take f) := by
  intro h0
  rw [List.length_take] at h0
  obtain ⟨b1, off, e, hc⟩ := h (by omega)
  refine ⟨b1, off, e, fun i hi => ?_⟩
  rw [List.length_take] at hi
  rw [hc i (by omega), List.getD_eq_getElem?_getD, List.getD_eq_getElem?_getD, List.getElem?_take_of_lt (by omega)]
/-- The store of new bytes. -/
theorem put_new {r : Bool} {w w2 : World} {base b : Nat} {v v2 : Value} {t t2 : Tp} (h : TapeAt r w base b v t) (ho : OwnB w2 w.heap.size v2 t2.all) (hb : Below w.heap.size w w2) (hc : (cellsOf r t v).set 0 v2 = cellsOf r t2 v2) (ok : t2.Ok) :
    Went r w base b v t2 (w2.setCell ⟨b, 0, none⟩ v2) := by
  have h2 := h.keep hb
  have hs : base ≤ w.heap.size := by have := h.low; have := h.box.lt; omega
  exact ⟨v2, h2.put (ho.base hs) hc ok, (Touch.of_below _ hb).set 0 v2, fun k hk => .inr (ho.lt k hk).1⟩
set_option maxRecDepth 8000 in
set_option maxHeartbeats 2000000 in
theorem rappend_down (w : World) (base b : Nat) (v : Value) (t : Tp) (A : Option Addr) (c n : Nat) (h : TapeAt true w base b v t) (hd : t.down = true) :
    Calls Tryz.prog 19 #[.pointer (some ⟨b, 0, none⟩), .slice A n c] w (WentC true w base b v t 15) := by
  obtain ⟨_, _, _, _, _, c5, _⟩ := h.rreads
  rw [hd] at c5
  have H := Lib.hid h.nil
  clear h hd
  go_enter Tryz.func19, Tryz.ntmps19
  go_wp2
  go_ret
  exact ⟨rfl, H.out⟩
set_option maxRecDepth 8000 in
set_option maxHeartbeats 2000000 in
theorem rappend_full (w : World) (base b : Nat) (v : Value) (t : Tp) (A : Option Addr) (c n : Nat) (hn : n ≤ 9223372036854775807) (h : TapeAt true w base b v t) (hd : t.down = false) (hf : t.room < t.all.length + n) :
    Calls Tryz.prog 19 #[.pointer (some ⟨b, 0, none⟩), .slice A n c] w (WentC true w base b v t 14) := by
  obtain ⟨c0, c1, _, _, _, c2, _⟩ := h.rreads
  obtain ⟨A1, k, rfl, _⟩ := h.own.form
  have h1 := h.ok.len
  have h2 := h.ok.room
  rw [hd] at c2
  have H := Lib.hid h
  generalize t.all.length = m at *
  generalize t.room = R at *
  have hlt : decide ((R : Int) - (m : Int) < (n : Int)) = true := by simp; omega
  clear h hd
  go_enter Tryz.func19, Tryz.ntmps19
  go_wp2
  go_quiet (fail)
  go_wp2
  go_ret
  exact ⟨rfl, _, H.out.drewN _, (Touch.refl _ _).drewN _, Near.refl _ _⟩
set_option maxRecDepth 8000 in
set_option maxHeartbeats 4000000 in
theorem rappend_goes (w : World) (base b : Nat) (v : Value) (t : Tp) (A : Option Addr) (c : Nat) (x : List Nat) (hx : Byts w A x) (hxo : Oct x) (hA : A = none → c = 0) (hap : ∀ bb off, A = some ⟨bb, off, none⟩ → 0 < x.length → ¬ foot b v bb) (h : TapeAt true w base b v t) (hd : t.down = false) (hf : ¬ t.room < t.all.length + x.length) (hg : t.rgoes.2 = false) :
    Calls Tryz.prog 19 #[.pointer (some ⟨b, 0, none⟩), .slice A x.length c] w (WentC true w base b v { t.rgoes.1 with all := t.all ++ x } 0) := by
  obtain ⟨c0, c1, _, _, _, c2, _⟩ := h.rreads
  obtain ⟨A1, k, rfl, _⟩ := h.own.form
  have h1 := h.ok.len
  have h2 := h.ok.room
  rw [hd] at c2
  have H := Lib.hid h
  obtain ⟨n, hn⟩ : ∃ n, n = x.length := ⟨_, rfl⟩
  obtain ⟨m, hm⟩ : ∃ m, m = t.all.length := ⟨_, rfl⟩
  obtain ⟨R, hR⟩ : ∃ R, R = t.room := ⟨_, rfl⟩
  rw [← hm] at c0 h1
  rw [← hR] at c1 h1 h2
  rw [← hm, ← hn, ← hR] at hf
  have hlt : decide ((R : Int) - (m : Int) < (n : Int)) = false := by simp; omega
  have C : Hid (∀ j, Calls Tryz.prog 48 #[.pointer (some ⟨b, 0, none⟩)] (w.drewN j) fun e w' => e = .returned (.bool false) ∧ Went true (w.drewN j) base b (.slice A1 t.all.length k) t.rgoes.1 w') := Lib.hid (fun j => by have := falls_any _ base b _ t (h.drewN j); rw [hg] at this; exact this)
  obtain ⟨ga, gr, gk⟩ := t.rgoes_all
  have gok := Tp.rgoes_ok h.ok
  have HN := Lib.hid hn
  have HX := Lib.hid hx
  have HA := Lib.hid hA
  have HP := Lib.hid hap
  have HG := Lib.hid ga
  have HOK : Hid ({ t.rgoes.1 with all := t.all ++ x } : Tp).Ok := Lib.hid (by have := gok.app hxo (by rw [ga, gr, ← hm, ← hn, ← hR]; omega); rw [ga] at this; exact this)
  have HL : Hid (t.all.length + x.length ≤ 1048576) := Lib.hid (by omega)
  generalize t.rgoes.1 = t1 at *
  rw [← hn]
  clear h hd hg hx hA hap hn hm hR ga gr gok gk
  go_enter Tryz.func19, Tryz.ntmps19
  go_wp2
  go_quiet (fail)
  go_wp2_with (first
    | (go_at_call 48; refine (C.out _).mono ?_; rintro e w1 ⟨rfl, v1, h1', ht1, hn1⟩; have HT := Lib.hid h1'; have HT1 := Lib.hid ht1; have HN1 := Lib.hid hn1; obtain ⟨A4, k4, rfl, hB4, _, _, hA4, _⟩ := OwnB.form h1'.own; have HB4 := Lib.hid hB4; have HA4 := Lib.hid hA4; have z0 := h1'.box.cell 0 rfl; have zf := h1'.box.frozen 0; have zlt := h1'.box.lt; clear h1' ht1 hn1 hB4 hA4)
    | (at_builtin; refine wpList_app rfl (.tmp 45) (.tmp 49) rfl w1.heap.size _ [] rfl (ownB_lit w1 _ _ [] (Nat.le_refl _) ?c1 rfl _ rfl _ rfl) _ _ _ t1.all rfl rfl (HB4.out.below ?c3) HA4.out ?c6 ?c7 ?_))
  case c1 => simp
  case c3 => exact (Below.refl _ _).alloc (Nat.le_refl _) _
  case c6 => rw [HG.out]; have := HL.out; simp; omega
  case c7 => simp
  intro v2 w2 ho2 hg2 _
  have hb2 : Below w1.heap.size w1 w2 := below_one (grown_below (ownB_lit w1 w1.heap.size #[] [] (Nat.le_refl _) (by simp) rfl _ rfl 0 rfl) hg2 (by simp))
  try rw [List.nil_append] at ho2
  have HO2 := Lib.hid ho2
  have HB2 := Lib.hid hb2
  obtain ⟨A2, k2, rfl, _⟩ := OwnB.form ho2
  have y0 := (hb2.cell (p := ⟨b, 0, none⟩) zlt).trans z0
  have yf := (hb2.frozen (p := ⟨b, 0, none⟩) zlt).trans zf
  clear ho2 hb2 hg2 z0 zf
  go_wp2_with (at_builtin; refine wpList_app rfl (.tmp 50) (.tmp 51) rfl w1.heap.size _ t1.all rfl HO2.out _ _ _ x rfl HN.out ?c3 HA.out ?c6 ?c7 ?_)
  case c3 => exact (((HX.out.drewN nq).touch HT1.out HP.out)).below HB2.out
  case c6 => rw [HG.out]; have := HL.out; omega
  case c7 => exact HB2.out.size
  intro v3 w3 ho3 hg3 _
  have hb3 : Below w1.heap.size w1 w3 := HB2.out.trans (grown_below HO2.out hg3 HB2.out.size)
  rw [HG.out] at ho3
  have HO3 := Lib.hid ho3
  have HB3 := Lib.hid hb3
  have x0 := ((HT.out.box.keep hb3).cell 0 rfl)
  have xf := ((HT.out.box.keep hb3).frozen 0)
  obtain ⟨A3, k3, rfl, _⟩ := OwnB.form ho3
  simp only [List.length_append] at HO3 ⊢
  clear ho3 hb3 hg3 y0 yf HO2
  go_wp2
  go_ret
  exact ⟨rfl, Went.from (((Touch.refl _ w).drewN nq).trans HT1.out (fun _ _ h => h)) HN1.out (put_new HT.out HO3.out HB3.out rfl HOK.out)⟩
end Go.Proofs.YtmpipjangbedkaaGreat

/-
  The walk of the reference's Cut.
-/
namespace Go.Proofs.YtmpipjangbedkaaGreat
set_option maxRecDepth 8000
open Go.RowKit
set_option linter.unusedVariables false

set_option maxRecDepth 8000 in
set_option maxHeartbeats 2000000 in
theorem rcut_down (w : World) (base b : Nat) (v : Value) (t : Tp) (n : Int) (h : TapeAt true w base b v t) (hd : t.down = true) :
    Calls Tryz.prog 54 #[.pointer (some ⟨b, 0, none⟩), .int .i64 n] w (WentC true w base b v t 15) := by
  obtain ⟨_, _, _, _, _, c2, _⟩ := h.rreads
  rw [hd] at c2
  have H := Lib.hid h.nil
  clear h hd
  go_enter Tryz.func54, Tryz.ntmps54
  go_wp2
  go_ret
  exact ⟨rfl, H.out⟩
set_option maxRecDepth 8000 in
set_option maxHeartbeats 2000000 in
theorem rcut_low (w : World) (base b : Nat) (v : Value) (t : Tp) (n : Int) (h : TapeAt true w base b v t) (hd : t.down = false) (hn : n < 0) :
    Calls Tryz.prog 54 #[.pointer (some ⟨b, 0, none⟩), .int .i64 n] w (WentC true w base b v t 1) := by
  obtain ⟨_, _, _, _, _, c2, _⟩ := h.rreads
  rw [hd] at c2
  have H := Lib.hid h.nil
  clear h hd
  go_enter Tryz.func54, Tryz.ntmps54
  go_wp2
  go_ret
  exact ⟨rfl, H.out⟩
set_option maxRecDepth 8000 in
set_option maxHeartbeats 2000000 in
theorem rcut_high (w : World) (base b : Nat) (v : Value) (t : Tp) (n : Int) (h : TapeAt true w base b v t) (hd : t.down = false) (hn : ¬ n < 0) (hn2 : (t.all.length : Int) < n) :
    Calls Tryz.prog 54 #[.pointer (some ⟨b, 0, none⟩), .int .i64 n] w (WentC true w base b v t 1) := by
  obtain ⟨c0, _, _, _, _, c2, _⟩ := h.rreads
  obtain ⟨A1, k, rfl, _⟩ := h.own.form
  rw [hd] at c2
  have H := Lib.hid h.nil
  generalize t.all.length = m at *
  clear h hd
  go_enter Tryz.func54, Tryz.ntmps54
  go_wp2
  go_ret
  exact ⟨rfl, H.out⟩
set_option maxRecDepth 8000 in
set_option maxHeartbeats 2000000 in
theorem rcut_true (w : World) (base b : Nat) (v : Value) (t : Tp) (n : Nat) (h : TapeAt true w base b v t) (hd : t.down = false) (hn2 : n ≤ t.all.length) (hg : t.rgoes.2 = true) (hk : 0 < t.keep) :
    Calls Tryz.prog 54 #[.pointer (some ⟨b, 0, none⟩), .int .i64 (n : Int)] w (WentC true w base b v { t.rgoes.1 with all := t.all.take n } 15) := by
  obtain ⟨c0, _, _, _, _, c2, _⟩ := h.rreads
  obtain ⟨A1, k, rfl, _⟩ := h.own.form
  rw [hd] at c2
  have hl := h.ok.len
  have hr := h.ok.room
  have C : Hid (Calls Tryz.prog 48 #[.pointer (some ⟨b, 0, none⟩)] w fun e w' => e = .returned (.bool true) ∧ Went true w base b (.slice A1 t.all.length k) t.rgoes.1 w') := Lib.hid (by have := falls_any _ base b _ t h; rw [hg] at this; exact this)
  obtain ⟨ga, gr, gk⟩ := t.rgoes_all
  have gok := Tp.rgoes_ok h.ok
  have HOK : Hid ({ t.rgoes.1 with all := t.all.take n } : Tp).Ok := Lib.hid ⟨h.ok.oct.take n, by rw [gr]; simp only [List.length_take]; omega, gok.room, gok.left, gok.keep⟩
  have HG := Lib.hid ga
  have HK := Lib.hid gk
  obtain ⟨m, hm⟩ : ∃ m, m = t.all.length := ⟨_, rfl⟩
  rw [← hm] at c0 hn2 hl
  have HM := Lib.hid hm
  have hnl : (t.all.take n).length = n := by rw [List.length_take]; omega
  have HNL := Lib.hid hnl
  have d1 : ¬ ((n : Int) < 0) := by omega
  have d2 : ¬ ((m : Int) < (n : Int)) := by omega
  have d3 : n ≤ 1048576 := by omega
  generalize t.rgoes.1 = t1 at *
  generalize t.keep = kp at *
  clear h hd hg ga hm gr gk gok hnl
  go_enter Tryz.func54, Tryz.ntmps54
  go_wp2_with (first
    | (go_at_call 48; refine C.out.mono ?_; rintro e w1 ⟨rfl, v1, h1', ht1, hn1⟩; have HT := Lib.hid h1'; have HT1 := Lib.hid ht1; have HN1 := Lib.hid hn1; have z0 := h1'.box.cell 0 rfl; have z4 := h1'.box.cell 4 rfl; rw [HK.out] at z4; have zf := h1'.box.frozen 0; have zlt := h1'.box.lt; obtain ⟨A4, k4, rfl, hB4, q1, q2, hA4, _⟩ := OwnB.form h1'.own; have HB4 : Hid (Byts w1 A4 (t.all.take n)) := (Lib.hid (by rw [HG.out] at hB4; exact hB4.front n)); have HA4 := Lib.hid hA4; have q3 : n ≤ t1.all.length := (by rw [HG.out, ← HM.out]; exact hn2); clear h1' ht1 hn1 hB4 hA4)
    | (at_builtin; refine wpList_app rfl (.tmp 33) (.tmp 39) rfl w1.heap.size _ [] rfl (ownB_lit w1 _ _ [] (Nat.le_refl _) ?c1 rfl _ rfl _ rfl) _ _ _ (t.all.take n) rfl HNL.out.symm (HB4.out.below ?c3) HA4.out ?c6 ?c7 ?_))
  case c1 => simp
  case c3 => exact (Below.refl _ _).alloc (Nat.le_refl _) _
  case c6 => rw [HNL.out]; simp; omega
  case c7 => simp
  intro v2 w2 ho2 hg2 _
  have hb2 : Below w1.heap.size w1 w2 := below_one (grown_below (ownB_lit w1 w1.heap.size #[] [] (Nat.le_refl _) (by simp) rfl _ rfl 0 rfl) hg2 (by simp))
  try rw [List.nil_append] at ho2
  have HO2 := Lib.hid ho2
  have HB2 := Lib.hid hb2
  have x0 := ((HT.out.box.keep hb2).cell 0 rfl)
  have xf := ((HT.out.box.keep hb2).frozen 0)
  obtain ⟨A2, k2, rfl, _⟩ := OwnB.form ho2
  clear ho2 hb2 hg2 z0 zf
  go_wp2
  go_ret
  exact ⟨rfl, Went.from HT1.out HN1.out (put_new HT.out (by have := HO2.out; rw [List.length_take] at this; exact this) HB2.out rfl HOK.out)⟩
set_option maxRecDepth 8000 in
set_option maxHeartbeats 2000000 in
theorem rcut_false (w : World) (base b : Nat) (v : Value) (t : Tp) (n : Nat) (h : TapeAt true w base b v t) (hd : t.down = false) (hn2 : n ≤ t.all.length) (hg : t.rgoes.2 = false)  :
    Calls Tryz.prog 54 #[.pointer (some ⟨b, 0, none⟩), .int .i64 (n : Int)] w (WentC true w base b v { t.rgoes.1 with all := t.all.take n } 0) := by
  obtain ⟨c0, _, _, _, _, c2, _⟩ := h.rreads
  obtain ⟨A1, k, rfl, _⟩ := h.own.form
  rw [hd] at c2
  have hl := h.ok.len
  have hr := h.ok.room
  have C : Hid (Calls Tryz.prog 48 #[.pointer (some ⟨b, 0, none⟩)] w fun e w' => e = .returned (.bool false) ∧ Went true w base b (.slice A1 t.all.length k) t.rgoes.1 w') := Lib.hid (by have := falls_any _ base b _ t h; rw [hg] at this; exact this)
  obtain ⟨ga, gr, gk⟩ := t.rgoes_all
  have gok := Tp.rgoes_ok h.ok
  have HOK : Hid ({ t.rgoes.1 with all := t.all.take n } : Tp).Ok := Lib.hid ⟨h.ok.oct.take n, by rw [gr]; simp only [List.length_take]; omega, gok.room, gok.left, gok.keep⟩
  have HG := Lib.hid ga
  have HK := Lib.hid gk
  obtain ⟨m, hm⟩ : ∃ m, m = t.all.length := ⟨_, rfl⟩
  rw [← hm] at c0 hn2 hl
  have HM := Lib.hid hm
  have hnl : (t.all.take n).length = n := by rw [List.length_take]; omega
  have HNL := Lib.hid hnl
  have d1 : ¬ ((n : Int) < 0) := by omega
  have d2 : ¬ ((m : Int) < (n : Int)) := by omega
  have d3 : n ≤ 1048576 := by omega
  generalize t.rgoes.1 = t1 at *
  generalize t.keep = kp at *
  clear h hd hg ga hm gr gk gok hnl
  go_enter Tryz.func54, Tryz.ntmps54
  go_wp2_with (first
    | (go_at_call 48; refine C.out.mono ?_; rintro e w1 ⟨rfl, v1, h1', ht1, hn1⟩; have HT := Lib.hid h1'; have HT1 := Lib.hid ht1; have HN1 := Lib.hid hn1; have z0 := h1'.box.cell 0 rfl; have z4 := h1'.box.cell 4 rfl; rw [HK.out] at z4; have zf := h1'.box.frozen 0; have zlt := h1'.box.lt; obtain ⟨A4, k4, rfl, hB4, q1, q2, hA4, _⟩ := OwnB.form h1'.own; have HB4 : Hid (Byts w1 A4 (t.all.take n)) := (Lib.hid (by rw [HG.out] at hB4; exact hB4.front n)); have HA4 := Lib.hid hA4; have q3 : n ≤ t1.all.length := (by rw [HG.out, ← HM.out]; exact hn2); clear h1' ht1 hn1 hB4 hA4)
    | (at_builtin; refine wpList_app rfl (.tmp 33) (.tmp 39) rfl w1.heap.size _ [] rfl (ownB_lit w1 _ _ [] (Nat.le_refl _) ?c1 rfl _ rfl _ rfl) _ _ _ (t.all.take n) rfl HNL.out.symm (HB4.out.below ?c3) HA4.out ?c6 ?c7 ?_))
  case c1 => simp
  case c3 => exact (Below.refl _ _).alloc (Nat.le_refl _) _
  case c6 => rw [HNL.out]; simp; omega
  case c7 => simp
  intro v2 w2 ho2 hg2 _
  have hb2 : Below w1.heap.size w1 w2 := below_one (grown_below (ownB_lit w1 w1.heap.size #[] [] (Nat.le_refl _) (by simp) rfl _ rfl 0 rfl) hg2 (by simp))
  try rw [List.nil_append] at ho2
  have HO2 := Lib.hid ho2
  have HB2 := Lib.hid hb2
  have x0 := ((HT.out.box.keep hb2).cell 0 rfl)
  have xf := ((HT.out.box.keep hb2).frozen 0)
  obtain ⟨A2, k2, rfl, _⟩ := OwnB.form ho2
  clear ho2 hb2 hg2 z0 zf
  go_wp2
  go_ret
  exact ⟨rfl, Went.from HT1.out HN1.out (put_new HT.out (by have := HO2.out; rw [List.length_take] at this; exact this) HB2.out rfl HOK.out)⟩
set_option maxRecDepth 8000 in
set_option maxHeartbeats 2000000 in
theorem rcut_not (w : World) (base b : Nat) (v : Value) (t : Tp) (n : Nat) (h : TapeAt true w base b v t) (hd : t.down = false) (hn2 : n ≤ t.all.length) (hg : t.rgoes.2 = true) (hk : ¬ 0 < t.keep) :
    Calls Tryz.prog 54 #[.pointer (some ⟨b, 0, none⟩), .int .i64 (n : Int)] w (WentC true w base b v t.rgoes.1 15) := by
  obtain ⟨c0, _, _, _, _, c2, _⟩ := h.rreads
  obtain ⟨A1, k, rfl, _⟩ := h.own.form
  rw [hd] at c2
  have C : Hid (Calls Tryz.prog 48 #[.pointer (some ⟨b, 0, none⟩)] w fun e w' => e = .returned (.bool true) ∧ Went true w base b (.slice A1 t.all.length k) t.rgoes.1 w') := Lib.hid (by have := falls_any _ base b _ t h; rw [hg] at this; exact this)
  obtain ⟨ga, gr, gk⟩ := t.rgoes_all
  have HK := Lib.hid gk
  generalize t.all.length = m at *
  have d1 : ¬ ((n : Int) < 0) := by omega
  have d2 : ¬ ((m : Int) < (n : Int)) := by omega
  generalize t.rgoes.1 = t1 at *
  generalize t.keep = kp at *
  clear h hd hg ga gr gk
  go_enter Tryz.func54, Tryz.ntmps54
  go_wp2_with (go_at_call 48; refine C.out.mono ?_; rintro e w1 ⟨rfl, hw⟩; have HW := Lib.hid hw; obtain ⟨v1, h1', _, _⟩ := hw; have z4 := h1'.box.cell 4 rfl; rw [HK.out] at z4; clear h1')
  go_ret
  exact ⟨rfl, HW.out⟩
theorem rcut_any (w : World) (base b : Nat) (v : Value) (t : Tp) (n : Int) (h : TapeAt true w base b v t) :
    Calls Tryz.prog 54 #[.pointer (some ⟨b, 0, none⟩), .int .i64 n] w (WentC true w base b v (t.rcut n).1 (t.rcut n).2) := by
  unfold Tp.rcut
  by_cases hd : t.down = true
  · rw [if_pos hd]; exact rcut_down w base b v t n h hd
  rw [if_neg hd]
  have hd' : t.down = false := by simpa using hd
  by_cases hn : n < 0
  · rw [if_pos (.inl hn)]; exact rcut_low w base b v t n h hd' hn
  by_cases hm : (t.all.length : Int) < n
  · rw [if_pos (.inr hm)]; exact rcut_high w base b v t n h hd' hn hm
  rw [if_neg (by omega)]
  obtain ⟨m, rfl⟩ : ∃ m : Nat, n = (m : Int) := ⟨n.toNat, by omega⟩
  rw [Int.toNat_natCast]
  by_cases hg : t.rgoes.2 = true
  · rw [if_pos hg]
    by_cases hk : 0 < t.keep
    · rw [if_pos hk]; exact rcut_true w base b v t m h hd' (by omega) hg hk
    · rw [if_neg hk]; exact rcut_not w base b v t m h hd' (by omega) hg hk
  · rw [if_neg hg]; exact rcut_false w base b v t m h hd' (by omega) (by simpa using hg)
end Go.Proofs.YtmpipjangbedkaaGreat
