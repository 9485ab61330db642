import Derived.Test.YtmpipjangbedkaaMTp1
/-
  The walk of tape.Append.
-/
namespace Go.Proofs.Ytmpipjangbedkaa
set_option maxRecDepth 8000
open Go.RowKit
set_option linter.unusedVariables false

/-- How much of a write in flight is done. -/
def frontN (k : Int) (n : Nat) : Nat := min (max k 0).toNat n
theorem frontN_le (k : Int) (n : Nat) : frontN k n ≤ n := by unfold frontN; omega
/-- Append, and its code. -/
def Tp.append (t : Tp) (x : List Nat) : Tp × Int :=
  if t.down then (t, 15) else if t.room < t.all.length + x.length then (t, 14) else
  if t.goes.2.2 then ({ t.goes.1 with all := t.all ++ x.take (frontN t.goes.2.1 x.length) }, 15) else ({ t.goes.1 with all := t.all ++ x }, 0)
theorem TapeAt.drewN {r : Bool} {w : World} {base b : Nat} {v : Value} {t : Tp} (h : TapeAt r w base b v t) (n : Nat) : TapeAt r (w.drewN n) base b v t := h.touch ((Touch.refl (fun _ => False) w).drewN n) (fun _ _ h => h)
/-- What a write answers. -/
def WentC (r : Bool) (w : World) (base b : Nat) (v : Value) (t : Tp) (code : Int) (e : Ending) (w' : World) : Prop := e = .returned (.int .i64 code) ∧ Went r w base b v t w'

set_option maxRecDepth 8000 in
set_option maxHeartbeats 2000000 in
theorem append_down (w : World) (base b : Nat) (v : Value) (t : Tp) (A : Option Addr) (c n : Nat) (h : TapeAt false w base b v t) (hd : t.down = true) :
    Calls Try.prog 47 #[.pointer (some ⟨b, 0, none⟩), .slice A n c] w (WentC false w base b v t 15) := by
  obtain ⟨_, _, c2, _⟩ := h.reads
  rw [hd] at c2
  have H := Lib.hid h.nil
  clear h hd
  go_enter Try.func47, Try.ntmps47
  go_wp2
  go_ret
  exact ⟨rfl, H.out⟩
set_option maxRecDepth 8000 in
set_option maxHeartbeats 2000000 in
theorem append_full (w : World) (base b : Nat) (v : Value) (t : Tp) (A : Option Addr) (c n : Nat) (hn : n ≤ 9223372036854775807) (h : TapeAt false w base b v t) (hd : t.down = false) (hf : t.room < t.all.length + n) :
    Calls Try.prog 47 #[.pointer (some ⟨b, 0, none⟩), .slice A n c] w (WentC false w base b v t 14) := by
  obtain ⟨c0, c1, c2, _⟩ := h.reads
  obtain ⟨A1, k, rfl, _⟩ := h.own.form
  have h1 := h.ok.len
  have h2 := h.ok.room
  rw [hd] at c2
  have H := Lib.hid h
  generalize t.all.length = m at *
  generalize t.room = R at *
  have hlt : decide ((R : Int) - (m : Int) < (n : Int)) = true := by simp; omega
  clear h hd
  go_enter Try.func47, Try.ntmps47
  go_wp2
  go_quiet (fail)
  go_wp2
  go_ret
  exact ⟨rfl, _, H.out.drewN _, (Touch.refl _ _).drewN _, Near.refl _ _⟩
theorem put_app {r : Bool} {w w2 : World} {base b : Nat} {v v2 : Value} {t t2 : Tp} (h : TapeAt r w base b v t) (ho : OwnB w2 base v2 t2.all) (hg : w.grownBy w2 v.ownBlock) (hm : Moved w v v2) (hc : (cellsOf r t v).set 0 v2 = cellsOf r t2 v2) (ok : t2.Ok) :
    Went r w base b v t2 (w2.setCell ⟨b, 0, none⟩ v2) := by
  have ht : Touch (fun k => v.ownBlock = some k) w w2 := Touch.grown hg
  have hb := h.box.touch ht h.not_row
  refine ⟨v2, ⟨h.low, by rw [← hc]; exact hb.set 0 v2, ?_, ok⟩, (ht.mono (fun _ e => .inr e)).set 0 v2, fun k hk => ?_⟩
  · exact ho.touch (Touch.setCell w2 ⟨b, 0, none⟩ v2) (fun k hk e => hb.not_row (tyOf_ne r) ho (by rw [hk]; simp only at e; rw [e]))
  · rcases hm with e | e
    · exact .inl (by rw [← e, hk])
    · right; rw [hk] at e; injection e with e; omega
theorem Tp.Ok.app {t : Tp} (h : t.Ok) {x : List Nat} (hx : Oct x) (hr : t.all.length + x.length ≤ t.room) : ({ t with all := t.all ++ x } : Tp).Ok := ⟨h.oct.append hx, by simp only [List.length_append]; exact hr, h.room, h.left, h.keep⟩
set_option maxRecDepth 8000 in
set_option maxHeartbeats 2000000 in
theorem append_goes (w : World) (base b : Nat) (v : Value) (t : Tp) (A : Option Addr) (c : Nat) (x : List Nat) (hx : Byts w A x) (hxo : Oct x) (hA : A = none → c = 0) (hap : ∀ bb off, A = some ⟨bb, off, none⟩ → 0 < x.length → ¬ foot b v bb) (h : TapeAt false w base b v t) (hd : t.down = false) (hf : ¬ t.room < t.all.length + x.length) (hg : t.goes.2.2 = false) :
    Calls Try.prog 47 #[.pointer (some ⟨b, 0, none⟩), .slice A x.length c] w (WentC false w base b v { t.goes.1 with all := t.all ++ x } 0) := by
  obtain ⟨c0, c1, c2, _⟩ := h.reads
  obtain ⟨A1, k, rfl, _⟩ := h.own.form
  have h1 := h.ok.len
  have h2 := h.ok.room
  rw [hd] at c2
  have H := Lib.hid h
  obtain ⟨n, hn⟩ : ∃ n, n = x.length := ⟨_, rfl⟩
  obtain ⟨m, hm⟩ : ∃ m, m = t.all.length := ⟨_, rfl⟩
  obtain ⟨R, hR⟩ : ∃ R, R = t.room := ⟨_, rfl⟩
  rw [← hm] at c0 h1
  rw [← hR] at c1 h1 h2
  rw [← hm, ← hn, ← hR] at hf
  have hlt : decide ((R : Int) - (m : Int) < (n : Int)) = false := by simp; omega
  have C : Hid (∀ j, Calls Try.prog 38 #[.pointer (some ⟨b, 0, none⟩)] (w.drewN j) fun e w' => e = .returned (.tuple #[.int .i64 t.goes.2.1, .bool false]) ∧ Went false (w.drewN j) base b (.slice A1 t.all.length k) t.goes.1 w') := Lib.hid (fun j => by have := goes_any _ base b _ t (h.drewN j); rw [hg] at this; exact this)
  obtain ⟨ga, gr⟩ := t.goes_all
  have gok := Tp.goes_ok h.ok
  have HN := Lib.hid hn
  have HX := Lib.hid hx
  have HA := Lib.hid hA
  have HP := Lib.hid hap
  have HG := Lib.hid ga
  have HOK : Hid ({ t.goes.1 with all := t.all ++ x } : Tp).Ok := Lib.hid (by have := gok.app hxo (by rw [ga, gr, ← hm, ← hn, ← hR]; omega); rw [ga] at this; exact this)
  have HL : Hid (t.all.length + x.length ≤ 1048576) := Lib.hid (by omega)
  generalize t.goes.2.1 = kp at *
  generalize t.goes.1 = t1 at *
  rw [← hn]
  clear h hd hg hx hA hap hn hm hR ga gr gok
  go_enter Try.func47, Try.ntmps47
  go_wp2
  go_quiet (fail)
  go_wp2_with (first
    | (go_at_call 38; refine (C.out _).mono ?_; rintro e w1 ⟨rfl, v1, h1', ht1, hn1⟩; have HT := Lib.hid h1'; have HT1 := Lib.hid ht1; have HN1 := Lib.hid hn1; have z0 := h1'.box.cell 0 rfl; have zf := h1'.box.frozen 0; have zlt := h1'.box.lt; clear h1' ht1 hn1)
    | (at_builtin; refine wpList_app rfl (.tmp 54) (.tmp 55) rfl base _ t1.all rfl HT.out.own _ _ _ x rfl HN.out ?c3 HA.out ?c6 ?c7 ?_))
  case c3 => exact (HX.out.drewN nq).touch HT1.out HP.out
  case c6 => rw [HG.out]; have := HL.out; omega
  case c7 => have := HT.out.low; omega
  intro v2 w2 ho2 hg2 hm2
  rw [HG.out] at ho2
  have hbx := HT.out.box.touch (Touch.grown hg2) HT.out.not_row
  have z2 := hbx.cell 0 rfl
  have zf2 := hbx.frozen 0
  obtain ⟨A2, k2, rfl, _⟩ := OwnB.form ho2
  simp only [List.length_append] at ho2 hm2 ⊢
  have HO2 := Lib.hid ho2
  have HG2 := Lib.hid hg2
  have HM2 := Lib.hid hm2
  clear hbx ho2 hg2 hm2 z0 zf
  go_wp2
  go_ret
  exact ⟨rfl, Went.from (((Touch.refl _ w).drewN nq).trans HT1.out (fun _ _ h => h)) HN1.out (put_app HT.out HO2.out HG2.out HM2.out rfl HOK.out)⟩
set_option maxRecDepth 8000 in
set_option maxHeartbeats 4000000 in
theorem append_flies (w : World) (base b : Nat) (v : Value) (t : Tp) (A : Option Addr) (c : Nat) (x : List Nat) (hx : Byts w A x) (hxo : Oct x) (hA : A = none → c = 0) (hxc : x.length ≤ c) (hcm : c ≤ 9223372036854775807) (hap : ∀ bb off, A = some ⟨bb, off, none⟩ → 0 < x.length → ¬ foot b v bb) (h : TapeAt false w base b v t) (hd : t.down = false) (hf : ¬ t.room < t.all.length + x.length) (hg : t.goes.2.2 = true) :
    Calls Try.prog 47 #[.pointer (some ⟨b, 0, none⟩), .slice A x.length c] w (WentC false w base b v { t.goes.1 with all := t.all ++ x.take (frontN t.goes.2.1 x.length) } 15) := by
  obtain ⟨c0, c1, c2, _⟩ := h.reads
  obtain ⟨A1, k, rfl, _⟩ := h.own.form
  have h1 := h.ok.len
  have h2 := h.ok.room
  rw [hd] at c2
  have H := Lib.hid h
  have hkp := Tp.goes_keep h.ok
  obtain ⟨n, hn⟩ : ∃ n, n = x.length := ⟨_, rfl⟩
  obtain ⟨m, hm⟩ : ∃ m, m = t.all.length := ⟨_, rfl⟩
  obtain ⟨R, hR⟩ : ∃ R, R = t.room := ⟨_, rfl⟩
  rw [← hm] at c0 h1
  rw [← hR] at c1 h1 h2
  rw [← hm, ← hn, ← hR] at hf
  have hlt : decide ((R : Int) - (m : Int) < (n : Int)) = false := by simp; omega
  have C : Hid (∀ j, Calls Try.prog 38 #[.pointer (some ⟨b, 0, none⟩)] (w.drewN j) fun e w' => e = .returned (.tuple #[.int .i64 t.goes.2.1, .bool true]) ∧ Went false (w.drewN j) base b (.slice A1 t.all.length k) t.goes.1 w') := Lib.hid (fun j => by have := goes_any _ base b _ t (h.drewN j); rw [hg] at this; exact this)
  obtain ⟨ga, gr⟩ := t.goes_all
  have gok := Tp.goes_ok h.ok
  obtain ⟨kp, hkpe⟩ : ∃ kp, kp = t.goes.2.1 := ⟨_, rfl⟩
  rw [← hkpe] at C hkp ⊢
  obtain ⟨f, hfe⟩ : ∃ f, f = frontN kp x.length := ⟨_, rfl⟩
  have hfn : f ≤ n := by rw [hfe, hn]; exact frontN_le _ _
  obtain ⟨q, hq⟩ : ∃ q, q = max kp 0 := ⟨_, rfl⟩
  have e1 : (if kp < 0 then 0 else kp) = q := by rw [hq]; split <;> omega
  have e2 : (if (n : Int) < q then (n : Int) else q) = (f : Int) := by rw [hfe, hq]; unfold frontN; rw [← hn]; split <;> omega
  rw [← hfe]
  have HN := Lib.hid hn
  have HX : Hid (Byts w A (x.take f)) := Lib.hid (by
    intro h0
    obtain ⟨b1, off, e, hc⟩ := hx (by rw [List.length_take] at h0; omega)
    refine ⟨b1, off, e, fun i hi => ?_⟩
    rw [List.length_take] at hi
    rw [hc i (by omega), List.getD_eq_getElem?_getD, List.getD_eq_getElem?_getD, List.getElem?_take_of_lt (by omega)])
  have HA := Lib.hid hA
  have HP := Lib.hid hap
  have HG := Lib.hid ga
  have hfl : (x.take f).length = f := by rw [List.length_take]; omega
  have HF := Lib.hid hfl
  have HOK : Hid ({ t.goes.1 with all := t.all ++ x.take f } : Tp).Ok := Lib.hid (by have := gok.app (hxo.take f) (by rw [ga, gr, hfl, ← hm, ← hR]; omega); rw [ga] at this; exact this)
  have HL : Hid (t.all.length + f ≤ 1048576) := Lib.hid (by omega)
  rw [← hn] at hxc
  generalize t.goes.1 = t1 at *
  rw [← hn]
  clear h hd hg hx hA hap hn hm hR ga gr gok hfe hq hkpe hfl
  unfold I64 at hkp
  have hfc : f ≤ c := by omega
  go_enter Try.func47, Try.ntmps47
  go_wp2
  go_quiet (fail)
  go_wp2_with (go_at_call 38; refine (C.out _).mono ?_; rintro e w1 ⟨rfl, v1, h1', ht1, hn1⟩; have HT := Lib.hid h1'; have HT1 := Lib.hid ht1; have HN1 := Lib.hid hn1; have z0 := h1'.box.cell 0 rfl; have zf := h1'.box.frozen 0; have zlt := h1'.box.lt; clear h1' ht1 hn1)
  obtain ⟨A4, k4, rfl, _⟩ := OwnB.form HT.out.own
  have HBx : Hid (Byts w1.drew A (x.take f)) := Lib.hid ((((HX.out.drewN nq).touch HT1.out (fun bb off e h0 => HP.out bb off e (by rw [List.length_take] at h0; omega))).touch ((Touch.refl (fun _ => False) w1).drew) (fun _ _ _ _ h => h)))
  have HTd : Hid (TapeAt false w1.drew base b (.slice A4 t1.all.length k4) t1) := Lib.hid (HT.out.touch ((Touch.refl (fun _ => False) w1).drew) (fun _ _ h => h))
  have HL4 : Hid (t1.all.length + (x.take f).length ≤ 140737488355328) := Lib.hid (by rw [HG.out, HF.out]; have := HL.out; omega)
  have HB4 : Hid (base ≤ w1.drew.heap.size) := Lib.hid (by have := HTd.out.low; have := HTd.out.box.lt; omega)
  clear C c0 c1 c2 hlt hf
  go_region_law (refine step_app rfl (.tmp 39) (.tmp 46) rfl base (.slice A4 t1.all.length k4) t1.all (by first | (simp [Act.eval]; done) | (simp [Act.eval, Act.put]; done)) HTd.out.own A f c (x.take f) (by first | (simp [Act.eval]; done) | (simp [Act.eval, Act.put]; done)) HF.out.symm HBx.out HA.out HL4.out HB4.out ?_; intro A2 n2 k2 w2 ho2 hn2 hg2 hm2; rw [HF.out, HG.out] at hn2; subst hn2; rw [HG.out] at ho2; have hbx := HTd.out.box.touch (Touch.grown hg2) HTd.out.not_row; have z2 := hbx.cell 0 rfl; have zf2 := hbx.frozen 0; have HO2 := Lib.hid ho2; have HG2 := Lib.hid hg2; have HM2 := Lib.hid hm2; clear hbx ho2 hg2 hm2)
  all_goals go_wp2
  all_goals go_ret
  all_goals exact ⟨rfl, Went.from ((((Touch.refl _ w).drewN nq).trans HT1.out (fun _ _ h => h))) HN1.out (Went.from ((Touch.refl _ w1).drew) (Near.refl _ _) (put_app HTd.out HO2.out HG2.out HM2.out rfl HOK.out))⟩
end Go.Proofs.Ytmpipjangbedkaa

/-
  Append as a whole; the walk of tape.Cut; what is told of no tape.
-/
namespace Go.Proofs.Ytmpipjangbedkaa
set_option maxRecDepth 8000
open Go.RowKit
set_option linter.unusedVariables false

theorem append_any (w : World) (base b : Nat) (v : Value) (t : Tp) (A : Option Addr) (n c : Nat) (x : List Nat) (hnx : n = x.length) (hx : Byts w A x) (hxo : Oct x) (hA : A = none → c = 0) (hxc : x.length ≤ c) (hcm : c ≤ 9223372036854775807) (hap : ∀ bb off, A = some ⟨bb, off, none⟩ → 0 < x.length → ¬ foot b v bb) (h : TapeAt false w base b v t) :
    Calls Try.prog 47 #[.pointer (some ⟨b, 0, none⟩), .slice A n c] w (WentC false w base b v (t.append x).1 (t.append x).2) := by
  subst hnx
  unfold Tp.append
  by_cases hd : t.down = true
  · rw [if_pos hd]; exact append_down w base b v t A c x.length h hd
  rw [if_neg hd]
  have hd' : t.down = false := by simpa using hd
  by_cases hf : t.room < t.all.length + x.length
  · rw [if_pos hf]; exact append_full w base b v t A c x.length (by omega) h hd' hf
  rw [if_neg hf]
  by_cases hg : t.goes.2.2 = true
  · rw [if_pos hg]; exact append_flies w base b v t A c x hx hxo hA hxc hcm hap h hd' hf hg
  · rw [if_neg hg]; exact append_goes w base b v t A c x hx hxo hA hap h hd' hf (by simpa using hg)
theorem append_ok {t : Tp} (h : t.Ok) {x : List Nat} (hx : Oct x) : (t.append x).1.Ok := by
  unfold Tp.append
  obtain ⟨ga, gr⟩ := t.goes_all
  have gok := Tp.goes_ok h
  split
  · exact h
  · split
    · exact h
    · split
      · have := gok.app (hx.take (frontN t.goes.2.1 x.length)) (by rw [ga, gr, List.length_take]; omega)
        rw [ga] at this; exact this
      · have := gok.app hx (by rw [ga, gr]; omega)
        rw [ga] at this; exact this

/-- Cut, and its code. -/
def Tp.cut (t : Tp) (n : Int) : Tp × Int :=
  if t.down then (t, 15) else if n < 0 ∨ (t.all.length : Int) < n then (t, 1) else
  if t.goes.2.2 then (if 0 < t.goes.2.1 then ({ t.goes.1 with all := t.all.take n.toNat }, 15) else (t.goes.1, 15)) else ({ t.goes.1 with all := t.all.take n.toNat }, 0)
theorem put_front {r : Bool} {w : World} {base b : Nat} {A : Option Addr} {n c : Nat} {t : Tp} (h : TapeAt r w base b (.slice A n c) t) (m : Nat) (hm : m ≤ t.all.length) :
    Went r w base b (.slice A n c) { t with all := t.all.take m } (w.setCell ⟨b, 0, none⟩ (.slice A m c)) := by
  have ho := h.own.front m hm
  refine ⟨.slice A m c, h.put (t' := { t with all := t.all.take m }) ho (by cases r <;> rfl) ⟨h.ok.oct.take m, by simp only [List.length_take]; have := h.ok.len; omega, h.ok.room, h.ok.left, h.ok.keep⟩, (touch_foot b 0 _ _ w), fun k hk => .inl ?_⟩
  cases A with
  | none => simp [Value.ownBlock] at hk
  | some a => simpa [Value.ownBlock] using hk
set_option maxRecDepth 8000 in
set_option maxHeartbeats 2000000 in
theorem cut_down (w : World) (base b : Nat) (v : Value) (t : Tp) (n : Int) (h : TapeAt false w base b v t) (hd : t.down = true) :
    Calls Try.prog 19 #[.pointer (some ⟨b, 0, none⟩), .int .i64 n] w (WentC false w base b v t 15) := by
  obtain ⟨_, _, c2, _⟩ := h.reads
  rw [hd] at c2
  have H := Lib.hid h.nil
  clear h hd
  go_enter Try.func19, Try.ntmps19
  go_wp2
  go_ret
  exact ⟨rfl, H.out⟩
set_option maxRecDepth 8000 in
set_option maxHeartbeats 2000000 in
theorem cut_low (w : World) (base b : Nat) (v : Value) (t : Tp) (n : Int) (h : TapeAt false w base b v t) (hd : t.down = false) (hn : n < 0) :
    Calls Try.prog 19 #[.pointer (some ⟨b, 0, none⟩), .int .i64 n] w (WentC false w base b v t 1) := by
  obtain ⟨_, _, c2, _⟩ := h.reads
  rw [hd] at c2
  have H := Lib.hid h.nil
  clear h hd
  go_enter Try.func19, Try.ntmps19
  go_wp2
  go_ret
  exact ⟨rfl, H.out⟩
set_option maxRecDepth 8000 in
set_option maxHeartbeats 2000000 in
theorem cut_high (w : World) (base b : Nat) (v : Value) (t : Tp) (n : Int) (h : TapeAt false w base b v t) (hd : t.down = false) (hn : ¬ n < 0) (hn2 : (t.all.length : Int) < n) :
    Calls Try.prog 19 #[.pointer (some ⟨b, 0, none⟩), .int .i64 n] w (WentC false w base b v t 1) := by
  obtain ⟨c0, _, c2, _⟩ := h.reads
  obtain ⟨A1, k, rfl, _⟩ := h.own.form
  rw [hd] at c2
  have H := Lib.hid h.nil
  generalize t.all.length = m at *
  clear h hd
  go_enter Try.func19, Try.ntmps19
  go_wp2
  go_ret
  exact ⟨rfl, H.out⟩
set_option maxRecDepth 8000 in
set_option maxHeartbeats 2000000 in
theorem cut_true (w : World) (base b : Nat) (v : Value) (t : Tp) (n : Nat) (h : TapeAt false w base b v t) (hd : t.down = false) (hn2 : n ≤ t.all.length) (hg : t.goes.2.2 = true) (hk : 0 < t.goes.2.1) :
    Calls Try.prog 19 #[.pointer (some ⟨b, 0, none⟩), .int .i64 (n : Int)] w (WentC false w base b v { t.goes.1 with all := t.all.take n } 15) := by
  obtain ⟨c0, _, c2, _⟩ := h.reads
  obtain ⟨A1, k, rfl, _⟩ := h.own.form
  rw [hd] at c2
  have hl := h.ok.len
  have hr := h.ok.room
  have C : Hid (Calls Try.prog 38 #[.pointer (some ⟨b, 0, none⟩)] w fun e w' => e = .returned (.tuple #[.int .i64 t.goes.2.1, .bool true]) ∧ Went false w base b (.slice A1 t.all.length k) t.goes.1 w') := Lib.hid (by have := goes_any _ base b _ t h; rw [hg] at this; exact this)
  obtain ⟨ga, gr⟩ := t.goes_all
  have HG := Lib.hid ga
  obtain ⟨m, hm⟩ : ∃ m, m = t.all.length := ⟨_, rfl⟩
  rw [← hm] at c0 hn2 hl
  have HM := Lib.hid hm
  have d1 : ¬ ((n : Int) < 0) := by omega
  have d2 : ¬ ((m : Int) < (n : Int)) := by omega
  generalize t.goes.2.1 = kp at *
  generalize t.goes.1 = t1 at *
  clear h hd hg ga hm gr
  go_enter Try.func19, Try.ntmps19
  go_wp2_with (go_at_call 38; refine C.out.mono ?_; rintro e w1 ⟨rfl, v1, h1', ht1, hn1⟩; have HT := Lib.hid h1'; have HT1 := Lib.hid ht1; have HN1 := Lib.hid hn1; have z0 := h1'.box.cell 0 rfl; have zf := h1'.box.frozen 0; have zlt := h1'.box.lt; obtain ⟨A4, k4, rfl, _, q1, q2, _⟩ := OwnB.form h1'.own; have q0 := HG.out; have q3 : n ≤ t1.all.length := (by rw [HG.out, ← HM.out]; exact hn2); clear q0; clear h1' ht1 hn1)
  go_ret
  have := put_front HT.out n q3
  rw [HG.out] at this
  exact ⟨rfl, Went.from HT1.out HN1.out (by rw [HG.out]; exact this)⟩
set_option maxRecDepth 8000 in
set_option maxHeartbeats 2000000 in
theorem cut_false (w : World) (base b : Nat) (v : Value) (t : Tp) (n : Nat) (h : TapeAt false w base b v t) (hd : t.down = false) (hn2 : n ≤ t.all.length) (hg : t.goes.2.2 = false)  :
    Calls Try.prog 19 #[.pointer (some ⟨b, 0, none⟩), .int .i64 (n : Int)] w (WentC false w base b v { t.goes.1 with all := t.all.take n } 0) := by
  obtain ⟨c0, _, c2, _⟩ := h.reads
  obtain ⟨A1, k, rfl, _⟩ := h.own.form
  rw [hd] at c2
  have hl := h.ok.len
  have hr := h.ok.room
  have C : Hid (Calls Try.prog 38 #[.pointer (some ⟨b, 0, none⟩)] w fun e w' => e = .returned (.tuple #[.int .i64 t.goes.2.1, .bool false]) ∧ Went false w base b (.slice A1 t.all.length k) t.goes.1 w') := Lib.hid (by have := goes_any _ base b _ t h; rw [hg] at this; exact this)
  obtain ⟨ga, gr⟩ := t.goes_all
  have HG := Lib.hid ga
  obtain ⟨m, hm⟩ : ∃ m, m = t.all.length := ⟨_, rfl⟩
  rw [← hm] at c0 hn2 hl
  have HM := Lib.hid hm
  have d1 : ¬ ((n : Int) < 0) := by omega
  have d2 : ¬ ((m : Int) < (n : Int)) := by omega
  generalize t.goes.2.1 = kp at *
  generalize t.goes.1 = t1 at *
  clear h hd hg ga hm gr
  go_enter Try.func19, Try.ntmps19
  go_wp2_with (go_at_call 38; refine C.out.mono ?_; rintro e w1 ⟨rfl, v1, h1', ht1, hn1⟩; have HT := Lib.hid h1'; have HT1 := Lib.hid ht1; have HN1 := Lib.hid hn1; have z0 := h1'.box.cell 0 rfl; have zf := h1'.box.frozen 0; have zlt := h1'.box.lt; obtain ⟨A4, k4, rfl, _, q1, q2, _⟩ := OwnB.form h1'.own; have q0 := HG.out; have q3 : n ≤ t1.all.length := (by rw [HG.out, ← HM.out]; exact hn2); clear q0; clear h1' ht1 hn1)
  go_ret
  have := put_front HT.out n q3
  rw [HG.out] at this
  exact ⟨rfl, Went.from HT1.out HN1.out (by rw [HG.out]; exact this)⟩
set_option maxRecDepth 8000 in
set_option maxHeartbeats 2000000 in
theorem cut_not (w : World) (base b : Nat) (v : Value) (t : Tp) (n : Nat) (h : TapeAt false w base b v t) (hd : t.down = false) (hn2 : n ≤ t.all.length) (hg : t.goes.2.2 = true) (hk : ¬ 0 < t.goes.2.1) :
    Calls Try.prog 19 #[.pointer (some ⟨b, 0, none⟩), .int .i64 (n : Int)] w (WentC false w base b v t.goes.1 15) := by
  obtain ⟨c0, _, c2, _⟩ := h.reads
  obtain ⟨A1, k, rfl, _⟩ := h.own.form
  rw [hd] at c2
  have C : Hid (Calls Try.prog 38 #[.pointer (some ⟨b, 0, none⟩)] w fun e w' => e = .returned (.tuple #[.int .i64 t.goes.2.1, .bool true]) ∧ Went false w base b (.slice A1 t.all.length k) t.goes.1 w') := Lib.hid (by have := goes_any _ base b _ t h; rw [hg] at this; exact this)
  generalize t.all.length = m at *
  have d1 : ¬ ((n : Int) < 0) := by omega
  have d2 : ¬ ((m : Int) < (n : Int)) := by omega
  generalize t.goes.2.1 = kp at *
  clear h hd hg
  go_enter Try.func19, Try.ntmps19
  go_wp2_with (go_at_call 38; refine C.out.mono ?_; rintro e w1 ⟨rfl, hw⟩; have HW := Lib.hid hw; clear hw)
  go_ret
  exact ⟨rfl, HW.out⟩
theorem cut_any (w : World) (base b : Nat) (v : Value) (t : Tp) (n : Int) (h : TapeAt false w base b v t) :
    Calls Try.prog 19 #[.pointer (some ⟨b, 0, none⟩), .int .i64 n] w (WentC false w base b v (t.cut n).1 (t.cut n).2) := by
  unfold Tp.cut
  by_cases hd : t.down = true
  · rw [if_pos hd]; exact cut_down w base b v t n h hd
  rw [if_neg hd]
  have hd' : t.down = false := by simpa using hd
  by_cases hn : n < 0
  · rw [if_pos (.inl hn)]; exact cut_low w base b v t n h hd' hn
  by_cases hm : (t.all.length : Int) < n
  · rw [if_pos (.inr hm)]; exact cut_high w base b v t n h hd' hn hm
  rw [if_neg (by omega)]
  obtain ⟨m, rfl⟩ : ∃ m : Nat, n = (m : Int) := ⟨n.toNat, by omega⟩
  rw [Int.toNat_natCast]
  by_cases hg : t.goes.2.2 = true
  · rw [if_pos hg]
    by_cases hk : 0 < t.goes.2.1
    · rw [if_pos hk]; exact cut_true w base b v t m h hd' (by omega) hg hk
    · rw [if_neg hk]; exact cut_not w base b v t m h hd' (by omega) hg hk
  · rw [if_neg hg]; exact cut_false w base b v t m h hd' (by omega) (by simpa using hg)

set_option maxRecDepth 8000 in
set_option maxHeartbeats 1000000 in
theorem none_read (w : World) : Calls Try.prog 14 #[.pointer none] w fun e w' => e = .returned (.tuple #[.slice none 0 0, .int .i64 3]) ∧ w = w' := by
  go_enter Try.func14, Try.ntmps14
  go_wp2
  go_ret2
  exact ⟨rfl, rfl⟩
set_option maxRecDepth 8000 in
set_option maxHeartbeats 1000000 in
theorem none_append (A : Value) (w : World) : Calls Try.prog 47 #[.pointer none, A] w fun e w' => e = .returned (.int .i64 3) ∧ w = w' := by
  go_enter Try.func47, Try.ntmps47
  go_wp2
  go_ret
  exact ⟨rfl, rfl⟩
set_option maxRecDepth 8000 in
set_option maxHeartbeats 1000000 in
theorem none_cut (A : Value) (w : World) : Calls Try.prog 19 #[.pointer none, A] w fun e w' => e = .returned (.int .i64 3) ∧ w = w' := by
  go_enter Try.func19, Try.ntmps19
  go_wp2
  go_ret
  exact ⟨rfl, rfl⟩
set_option maxRecDepth 8000 in
set_option maxHeartbeats 1000000 in
theorem none_Len (w : World) : Calls Try.prog 18 #[.pointer none] w fun e w' => e = .returned (.int .i64 0) ∧ w = w' := by
  go_enter Try.func18, Try.ntmps18
  go_wp2
  go_ret
  exact ⟨rfl, rfl⟩
set_option maxRecDepth 8000 in
set_option maxHeartbeats 1000000 in
theorem none_down (w : World) : Calls Try.prog 21 #[.pointer none] w fun e w' => e = .returned (.bool false) ∧ w = w' := by
  go_enter Try.func21, Try.ntmps21
  go_wp2
  go_ret
  exact ⟨rfl, rfl⟩
set_option maxRecDepth 8000 in
set_option maxHeartbeats 1000000 in
theorem none_arm (a b : Value) (w : World) : Calls Try.prog 20 #[.pointer none, a, b] w fun e w' => e = .returned (.tuple #[]) ∧ w = w' := by
  go_enter Try.func20, Try.ntmps20
  go_wp2
  refine bodyPost_ret (results_none rfl _ _ _) rfl ?_
  exact ⟨rfl, rfl⟩
set_option maxRecDepth 8000 in
set_option maxHeartbeats 1000000 in
theorem none_wake (w : World) : Calls Try.prog 22 #[.pointer none] w fun e w' => e = .returned (.tuple #[]) ∧ w = w' := by
  go_enter Try.func22, Try.ntmps22
  go_wp2
  refine bodyPost_ret (results_none rfl _ _ _) rfl ?_
  exact ⟨rfl, rfl⟩
end Go.Proofs.Ytmpipjangbedkaa
