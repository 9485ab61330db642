/-
  Append as a whole; the walk of tape.Cut; what is told of no tape.
-/
import Derived.Test.YtcpimdafpmdjnaaTp5
namespace Go.Proofs.Ytcpimdafpmdjnaa
open Go.RowKit
set_option linter.unusedVariables false

theorem append_any (w : World) (base b : Nat) (v : Value) (t : Tp) (A : Option Addr) (n c : Nat) (x : List Nat) (hnx : n = x.length) (hx : Byts w A x) (hxo : Oct x) (hA : A = none → c = 0) (hxc : x.length ≤ c) (hcm : c ≤ 9223372036854775807) (hap : ∀ bb off, A = some ⟨bb, off, none⟩ → 0 < x.length → ¬ foot b v bb) (h : TapeAt false w base b v t) :
    Calls Try.prog 17 #[.pointer (some ⟨b, 0, none⟩), .slice A n c] w (WentC false w base b v (t.append x).1 (t.append x).2) := by
  subst hnx
  unfold Tp.append
  by_cases hd : t.down = true
  · rw [if_pos hd]; exact append_down w base b v t A c x.length h hd
  rw [if_neg hd]
  have hd' : t.down = false := by simpa using hd
  by_cases hf : t.room < t.all.length + x.length
  · rw [if_pos hf]; exact append_full w base b v t A c x.length (by omega) h hd' hf
  rw [if_neg hf]
  by_cases hg : t.goes.2.2 = true
  · rw [if_pos hg]; exact append_flies w base b v t A c x hx hxo hA hxc hcm hap h hd' hf hg
  · rw [if_neg hg]; exact append_goes w base b v t A c x hx hxo hA hap h hd' hf (by simpa using hg)
theorem append_ok {t : Tp} (h : t.Ok) {x : List Nat} (hx : Oct x) : (t.append x).1.Ok := by
  unfold Tp.append
  obtain ⟨ga, gr⟩ := t.goes_all
  have gok := Tp.goes_ok h
  split
  · exact h
  · split
    · exact h
    · split
      · have := gok.app (hx.take (frontN t.goes.2.1 x.length)) (by rw [ga, gr, List.length_take]; omega)
        rw [ga] at this; exact this
      · have := gok.app hx (by rw [ga, gr]; omega)
        rw [ga] at this; exact this

/-- Cut, and its code. -/
def Tp.cut (t : Tp) (n : Int) : Tp × Int :=
  if t.down then (t, 15) else if n < 0 ∨ (t.all.length : Int) < n then (t, 1) else
  if t.goes.2.2 then (if 0 < t.goes.2.1 then ({ t.goes.1 with all := t.all.take n.toNat }, 15) else (t.goes.1, 15)) else ({ t.goes.1 with all := t.all.take n.toNat }, 0)
theorem put_front {r : Bool} {w : World} {base b : Nat} {A : Option Addr} {n c : Nat} {t : Tp} (h : TapeAt r w base b (.slice A n c) t) (m : Nat) (hm : m ≤ t.all.length) :
    Went r w base b (.slice A n c) { t with all := t.all.take m } (w.setCell ⟨b, 0, none⟩ (.slice A m c)) := by
  have ho := h.own.front m hm
  refine ⟨.slice A m c, h.put (t' := { t with all := t.all.take m }) ho (by cases r <;> rfl) ⟨h.ok.oct.take m, by simp only [List.length_take]; have := h.ok.len; omega, h.ok.room, h.ok.left, h.ok.keep⟩, (touch_foot b 0 _ _ w), fun k hk => .inl ?_⟩
  cases A with
  | none => simp [Value.ownBlock] at hk
  | some a => simpa [Value.ownBlock] using hk
set_option maxRecDepth 8000 in
set_option maxHeartbeats 2000000 in
theorem cut_down (w : World) (base b : Nat) (v : Value) (t : Tp) (n : Int) (h : TapeAt false w base b v t) (hd : t.down = true) :
    Calls Try.prog 19 #[.pointer (some ⟨b, 0, none⟩), .int .i64 n] w (WentC false w base b v t 15) := by
  obtain ⟨_, _, c2, _⟩ := h.reads
  rw [hd] at c2
  have H := Lib.hid h.nil
  clear h hd
  go_enter Try.func19, Try.ntmps19
  go_wp2
  go_ret
  exact ⟨rfl, H.out⟩
set_option maxRecDepth 8000 in
set_option maxHeartbeats 2000000 in
theorem cut_low (w : World) (base b : Nat) (v : Value) (t : Tp) (n : Int) (h : TapeAt false w base b v t) (hd : t.down = false) (hn : n < 0) :
    Calls Try.prog 19 #[.pointer (some ⟨b, 0, none⟩), .int .i64 n] w (WentC false w base b v t 1) := by
  obtain ⟨_, _, c2, _⟩ := h.reads
  rw [hd] at c2
  have H := Lib.hid h.nil
  clear h hd
  go_enter Try.func19, Try.ntmps19
  go_wp2
  go_ret
  exact ⟨rfl, H.out⟩
set_option maxRecDepth 8000 in
set_option maxHeartbeats 2000000 in
theorem cut_high (w : World) (base b : Nat) (v : Value) (t : Tp) (n : Int) (h : TapeAt false w base b v t) (hd : t.down = false) (hn : ¬ n < 0) (hn2 : (t.all.length : Int) < n) :
    Calls Try.prog 19 #[.pointer (some ⟨b, 0, none⟩), .int .i64 n] w (WentC false w base b v t 1) := by
  obtain ⟨c0, _, c2, _⟩ := h.reads
  obtain ⟨A1, k, rfl, _⟩ := h.own.form
  rw [hd] at c2
  have H := Lib.hid h.nil
  generalize t.all.length = m at *
  clear h hd
  go_enter Try.func19, Try.ntmps19
  go_wp2
  go_ret
  exact ⟨rfl, H.out⟩
set_option maxRecDepth 8000 in
set_option maxHeartbeats 2000000 in
theorem cut_true (w : World) (base b : Nat) (v : Value) (t : Tp) (n : Nat) (h : TapeAt false w base b v t) (hd : t.down = false) (hn2 : n ≤ t.all.length) (hg : t.goes.2.2 = true) (hk : 0 < t.goes.2.1) :
    Calls Try.prog 19 #[.pointer (some ⟨b, 0, none⟩), .int .i64 (n : Int)] w (WentC false w base b v { t.goes.1 with all := t.all.take n } 15) := by
  obtain ⟨c0, _, c2, _⟩ := h.reads
  obtain ⟨A1, k, rfl, _⟩ := h.own.form
  rw [hd] at c2
  have hl := h.ok.len
  have hr := h.ok.room
  have C : Hid (Calls Try.prog 31 #[.pointer (some ⟨b, 0, none⟩)] w fun e w' => e = .returned (.tuple #[.int .i64 t.goes.2.1, .bool true]) ∧ Went false w base b (.slice A1 t.all.length k) t.goes.1 w') := Lib.hid (by have := goes_any _ base b _ t h; rw [hg] at this; exact this)
  obtain ⟨ga, gr⟩ := t.goes_all
  have HG := Lib.hid ga
  obtain ⟨m, hm⟩ : ∃ m, m = t.all.length := ⟨_, rfl⟩
  rw [← hm] at c0 hn2 hl
  have HM := Lib.hid hm
  have d1 : ¬ ((n : Int) < 0) := by omega
  have d2 : ¬ ((m : Int) < (n : Int)) := by omega
  generalize t.goes.2.1 = kp at *
  generalize t.goes.1 = t1 at *
  clear h hd hg ga hm gr
  go_enter Try.func19, Try.ntmps19
  go_wp2_with (go_at_call 31; refine C.out.mono ?_; rintro e w1 ⟨rfl, v1, h1', ht1, hn1⟩; have HT := Lib.hid h1'; have HT1 := Lib.hid ht1; have HN1 := Lib.hid hn1; have z0 := h1'.box.cell 0 rfl; have zf := h1'.box.frozen 0; have zlt := h1'.box.lt; obtain ⟨A4, k4, rfl, _, q1, q2, _⟩ := OwnB.form h1'.own; have q0 := HG.out; have q3 : n ≤ t1.all.length := (by rw [HG.out, ← HM.out]; exact hn2); clear q0; clear h1' ht1 hn1)
  go_ret
  have := put_front HT.out n q3
  rw [HG.out] at this
  exact ⟨rfl, Went.from HT1.out HN1.out (by rw [HG.out]; exact this)⟩
set_option maxRecDepth 8000 in
set_option maxHeartbeats 2000000 in
theorem cut_false (w : World) (base b : Nat) (v : Value) (t : Tp) (n : Nat) (h : TapeAt false w base b v t) (hd : t.down = false) (hn2 : n ≤ t.all.length) (hg : t.goes.2.2 = false)  :
    Calls Try.prog 19 #[.pointer (some ⟨b, 0, none⟩), .int .i64 (n : Int)] w (WentC false w base b v { t.goes.1 with all := t.all.take n } 0) := by
  obtain ⟨c0, _, c2, _⟩ := h.reads
  obtain ⟨A1, k, rfl, _⟩ := h.own.form
  rw [hd] at c2
  have hl := h.ok.len
  have hr := h.ok.room
  have C : Hid (Calls Try.prog 31 #[.pointer (some ⟨b, 0, none⟩)] w fun e w' => e = .returned (.tuple #[.int .i64 t.goes.2.1, .bool false]) ∧ Went false w base b (.slice A1 t.all.length k) t.goes.1 w') := Lib.hid (by have := goes_any _ base b _ t h; rw [hg] at this; exact this)
  obtain ⟨ga, gr⟩ := t.goes_all
  have HG := Lib.hid ga
  obtain ⟨m, hm⟩ : ∃ m, m = t.all.length := ⟨_, rfl⟩
  rw [← hm] at c0 hn2 hl
  have HM := Lib.hid hm
  have d1 : ¬ ((n : Int) < 0) := by omega
  have d2 : ¬ ((m : Int) < (n : Int)) := by omega
  generalize t.goes.2.1 = kp at *
  generalize t.goes.1 = t1 at *
  clear h hd hg ga hm gr
  go_enter Try.func19, Try.ntmps19
  go_wp2_with (go_at_call 31; refine C.out.mono ?_; rintro e w1 ⟨rfl, v1, h1', ht1, hn1⟩; have HT := Lib.hid h1'; have HT1 := Lib.hid ht1; have HN1 := Lib.hid hn1; have z0 := h1'.box.cell 0 rfl; have zf := h1'.box.frozen 0; have zlt := h1'.box.lt; obtain ⟨A4, k4, rfl, _, q1, q2, _⟩ := OwnB.form h1'.own; have q0 := HG.out; have q3 : n ≤ t1.all.length := (by rw [HG.out, ← HM.out]; exact hn2); clear q0; clear h1' ht1 hn1)
  go_ret
  have := put_front HT.out n q3
  rw [HG.out] at this
  exact ⟨rfl, Went.from HT1.out HN1.out (by rw [HG.out]; exact this)⟩
set_option maxRecDepth 8000 in
set_option maxHeartbeats 2000000 in
theorem cut_not (w : World) (base b : Nat) (v : Value) (t : Tp) (n : Nat) (h : TapeAt false w base b v t) (hd : t.down = false) (hn2 : n ≤ t.all.length) (hg : t.goes.2.2 = true) (hk : ¬ 0 < t.goes.2.1) :
    Calls Try.prog 19 #[.pointer (some ⟨b, 0, none⟩), .int .i64 (n : Int)] w (WentC false w base b v t.goes.1 15) := by
  obtain ⟨c0, _, c2, _⟩ := h.reads
  obtain ⟨A1, k, rfl, _⟩ := h.own.form
  rw [hd] at c2
  have C : Hid (Calls Try.prog 31 #[.pointer (some ⟨b, 0, none⟩)] w fun e w' => e = .returned (.tuple #[.int .i64 t.goes.2.1, .bool true]) ∧ Went false w base b (.slice A1 t.all.length k) t.goes.1 w') := Lib.hid (by have := goes_any _ base b _ t h; rw [hg] at this; exact this)
  generalize t.all.length = m at *
  have d1 : ¬ ((n : Int) < 0) := by omega
  have d2 : ¬ ((m : Int) < (n : Int)) := by omega
  generalize t.goes.2.1 = kp at *
  clear h hd hg
  go_enter Try.func19, Try.ntmps19
  go_wp2_with (go_at_call 31; refine C.out.mono ?_; rintro e w1 ⟨rfl, hw⟩; have HW := Lib.hid hw; clear hw)
  go_ret
  exact ⟨rfl, HW.out⟩
theorem cut_any (w : World) (base b : Nat) (v : Value) (t : Tp) (n : Int) (h : TapeAt false w base b v t) :
    Calls Try.prog 19 #[.pointer (some ⟨b, 0, none⟩), .int .i64 n] w (WentC false w base b v (t.cut n).1 (t.cut n).2) := by
  unfold Tp.cut
  by_cases hd : t.down = true
  · rw [if_pos hd]; exact cut_down w base b v t n h hd
  rw [if_neg hd]
  have hd' : t.down = false := by simpa using hd
  by_cases hn : n < 0
  · rw [if_pos (.inl hn)]; exact cut_low w base b v t n h hd' hn
  by_cases hm : (t.all.length : Int) < n
  · rw [if_pos (.inr hm)]; exact cut_high w base b v t n h hd' hn hm
  rw [if_neg (by omega)]
  obtain ⟨m, rfl⟩ : ∃ m : Nat, n = (m : Int) := ⟨n.toNat, by omega⟩
  rw [Int.toNat_natCast]
  by_cases hg : t.goes.2.2 = true
  · rw [if_pos hg]
    by_cases hk : 0 < t.goes.2.1
    · rw [if_pos hk]; exact cut_true w base b v t m h hd' (by omega) hg hk
    · rw [if_neg hk]; exact cut_not w base b v t m h hd' (by omega) hg hk
  · rw [if_neg hg]; exact cut_false w base b v t m h hd' (by omega) (by simpa using hg)

set_option maxRecDepth 8000 in
set_option maxHeartbeats 1000000 in
theorem none_read (w : World) : Calls Try.prog 21 #[.pointer none] w fun e w' => e = .returned (.tuple #[.slice none 0 0, .int .i64 3]) ∧ w = w' := by
  go_enter Try.func21, Try.ntmps21
  go_wp2
  go_ret2
  exact ⟨rfl, rfl⟩
set_option maxRecDepth 8000 in
set_option maxHeartbeats 1000000 in
theorem none_append (A : Value) (w : World) : Calls Try.prog 17 #[.pointer none, A] w fun e w' => e = .returned (.int .i64 3) ∧ w = w' := by
  go_enter Try.func17, Try.ntmps17
  go_wp2
  go_ret
  exact ⟨rfl, rfl⟩
set_option maxRecDepth 8000 in
set_option maxHeartbeats 1000000 in
theorem none_cut (A : Value) (w : World) : Calls Try.prog 19 #[.pointer none, A] w fun e w' => e = .returned (.int .i64 3) ∧ w = w' := by
  go_enter Try.func19, Try.ntmps19
  go_wp2
  go_ret
  exact ⟨rfl, rfl⟩
set_option maxRecDepth 8000 in
set_option maxHeartbeats 1000000 in
theorem none_Len (w : World) : Calls Try.prog 22 #[.pointer none] w fun e w' => e = .returned (.int .i64 0) ∧ w = w' := by
  go_enter Try.func22, Try.ntmps22
  go_wp2
  go_ret
  exact ⟨rfl, rfl⟩
set_option maxRecDepth 8000 in
set_option maxHeartbeats 1000000 in
theorem none_Room (w : World) : Calls Try.prog 23 #[.pointer none] w fun e w' => e = .returned (.int .i64 0) ∧ w = w' := by
  go_enter Try.func23, Try.ntmps23
  go_wp2
  go_ret
  exact ⟨rfl, rfl⟩
set_option maxRecDepth 8000 in
set_option maxHeartbeats 1000000 in
theorem none_down (w : World) : Calls Try.prog 18 #[.pointer none] w fun e w' => e = .returned (.bool false) ∧ w = w' := by
  go_enter Try.func18, Try.ntmps18
  go_wp2
  go_ret
  exact ⟨rfl, rfl⟩
set_option maxRecDepth 8000 in
set_option maxHeartbeats 1000000 in
theorem none_copy (w : World) : Calls Try.prog 14 #[.pointer none] w fun e w' => e = .returned (.pointer none) ∧ w = w' := by
  go_enter Try.func14, Try.ntmps14
  go_wp2
  go_ret
  exact ⟨rfl, rfl⟩
set_option maxRecDepth 8000 in
set_option maxHeartbeats 1000000 in
theorem none_arm (a b : Value) (w : World) : Calls Try.prog 16 #[.pointer none, a, b] w fun e w' => e = .returned (.tuple #[]) ∧ w = w' := by
  go_enter Try.func16, Try.ntmps16
  go_wp2
  refine bodyPost_ret (results_none rfl _ _ _) rfl ?_
  exact ⟨rfl, rfl⟩
set_option maxRecDepth 8000 in
set_option maxHeartbeats 1000000 in
theorem none_wake (w : World) : Calls Try.prog 20 #[.pointer none] w fun e w' => e = .returned (.tuple #[]) ∧ w = w' := by
  go_enter Try.func20, Try.ntmps20
  go_wp2
  refine bodyPost_ret (results_none rfl _ _ _) rfl ?_
  exact ⟨rfl, rfl⟩
end Go.Proofs.Ytcpimdafpmdjnaa
