import Derived.Test.YtmpipjangbedkaaGreatMTp1
/-
  The walks of bytes.Clone, of both Read and Copy.
-/
namespace Go.Proofs.YtmpipjangbedkaaGreat
set_option maxRecDepth 8000
open Go.RowKit
set_option linter.unusedVariables false

/-- New bytes. -/
def BytesV (w : World) (l : List Nat) (e : Ending) (w' : World) : Prop := ∃ v, e = .returned v ∧ OwnB w' w.heap.size v l ∧ Below w.heap.size w w'
/-- New bytes, and a code. -/
def BytesC (w : World) (l : List Nat) (code : Int) (e : Ending) (w' : World) : Prop :=
  ∃ v, e = .returned (.tuple #[v, .int .i64 code]) ∧ OwnB w' w.heap.size v l ∧ Below w.heap.size w w'

set_option maxRecDepth 8000 in
set_option maxHeartbeats 1000000 in
theorem clone_any (A : Option Addr) (l : List Nat) (c : Nat) (w : World) (hr : Byts w A l) (hn : l.length ≤ 1000000000000) :
    Calls Tryz.prog 60 #[.slice A l.length c] w (BytesV w l) := by
  cases A with
  | none =>
    have h0 : l = [] := by
      cases l with
      | nil => rfl
      | cons x l => obtain ⟨b, off, e, _⟩ := hr (by simp); cases e
    subst h0
    have F : Hid (BytesV w [] (.returned (.slice none 0 0)) w) := Lib.hid ⟨_, rfl, ownB_nil w _, Below.refl _ _⟩
    clear hr
    have he : ∀ w : World, (binOp .eql 26 (.slice none 0 c) (.slice none 0 0)).run Tryz.prog w = .ok (.bool true) w := fun _ => rfl
    go_enter Tryz.func60, Tryz.ntmps60
    go_wp2
    go_ret
    exact F.out
  | some a =>
    obtain ⟨n, hn'⟩ : ∃ n, n = l.length := ⟨_, rfl⟩
    rw [← hn']
    have HN := Lib.hid hn'
    have HB := Lib.hid hr
    rw [← hn'] at hn
    clear hn' hr
    have he : ∀ w : World, (binOp .eql 26 (.slice (some a) n c) (.slice none 0 0)).run Tryz.prog w = .ok (.bool false) w := fun _ => rfl
    go_enter Tryz.func60, Tryz.ntmps60
    go_wp2_with (at_builtin; refine wpList_app rfl (.tmp 5) (.tmp 6) rfl w.heap.size _ [] rfl (ownB_lit w _ _ [] (Nat.le_refl _) ?c1 rfl _ rfl _ rfl) _ _ _ l rfl HN.out (HB.out.below ?c3) ?c5 ?c6 ?c7 ?_)
    case c1 => simp
    case c3 => exact (Below.refl _ _).alloc (Nat.le_refl _) _
    case c5 => intro e; cases e
    case c6 => have := HN.out; simp; omega
    case c7 => simp
    intro v2 w2 ho2 hg2 _
    go_wp2
    go_ret
    exact ⟨v2, rfl, ho2, below_one (grown_below (ownB_lit w w.heap.size #[] [] (Nat.le_refl _) (by simp) rfl _ rfl 0 rfl) hg2 (by simp))⟩

/-- What Read tells. -/
def Tp.readL (t : Tp) : List Nat × Int := if t.down then ([], 15) else (t.all, 0)
set_option maxRecDepth 8000 in
set_option maxHeartbeats 1000000 in
theorem read_any (w : World) (base b : Nat) (v : Value) (t : Tp) (h : TapeAt false w base b v t) :
    Calls Tryz.prog 27 #[.pointer (some ⟨b, 0, none⟩)] w (BytesC w t.readL.1 t.readL.2) := by
  obtain ⟨c0, _, c2, _⟩ := h.reads
  cases hd : t.down with
  | true =>
    rw [show t.readL = ([], 15) from by unfold Tp.readL; rw [hd]; rfl]
    rw [hd] at c2
    have F : Hid (BytesC w [] 15 (.returned (.tuple #[.slice none 0 0, .int .i64 15])) w) := Lib.hid ⟨_, rfl, ownB_nil w _, Below.refl _ _⟩
    clear h
    go_enter Tryz.func27, Tryz.ntmps27
    go_wp2
    go_ret2
    exact F.out
  | false =>
    rw [show t.readL = (t.all, 0) from by unfold Tp.readL; rw [hd]; rfl]
    rw [hd] at c2
    obtain ⟨A, c, rfl, hB, _⟩ := h.own.form
    have := h.ok.len
    have := h.ok.room
    have C := Lib.hid (clone_any A t.all c w hB (by omega))
    generalize t.all.length = n at *
    clear h
    go_enter Tryz.func27, Tryz.ntmps27
    go_wp2_with (go_at_call 60; refine C.out.mono ?_; rintro e w1 ⟨v1, rfl, ho, hb⟩; have HO := Lib.hid ho; obtain ⟨A1, c1, rfl, _⟩ := OwnB.form ho)
    go_ret2
    exact ⟨_, rfl, HO.out, hb⟩
set_option maxRecDepth 8000 in
set_option maxHeartbeats 1000000 in
theorem rread_any (w : World) (base b : Nat) (v : Value) (t : Tp) (h : TapeAt true w base b v t) :
    Calls Tryz.prog 52 #[.pointer (some ⟨b, 0, none⟩)] w (BytesC w t.readL.1 t.readL.2) := by
  obtain ⟨c0, _, _, _, _, c5, _⟩ := h.rreads
  cases hd : t.down with
  | true =>
    rw [show t.readL = ([], 15) from by unfold Tp.readL; rw [hd]; rfl]
    rw [hd] at c5
    have F : Hid (BytesC w [] 15 (.returned (.tuple #[.slice none 0 0, .int .i64 15])) w) := Lib.hid ⟨_, rfl, ownB_nil w _, Below.refl _ _⟩
    clear h
    go_enter Tryz.func52, Tryz.ntmps52
    go_wp2
    go_ret2
    exact F.out
  | false =>
    rw [show t.readL = (t.all, 0) from by unfold Tp.readL; rw [hd]; rfl]
    rw [hd] at c5
    obtain ⟨A, c, rfl, hB, _, _, hA, _⟩ := h.own.form
    have h1 := h.ok.len
    have h2 := h.ok.room
    have hlt := h.box.lt
    obtain ⟨n, hn⟩ : ∃ n, n = t.all.length := ⟨_, rfl⟩
    rw [← hn] at c0 h1
    have HN := Lib.hid hn
    have HB := Lib.hid hB
    have HA := Lib.hid hA
    clear h hn hB hA
    go_enter Tryz.func52, Tryz.ntmps52
    go_wp2_with (at_builtin; refine wpList_app rfl (.tmp 8) (.tmp 12) rfl w.heap.size _ [] rfl (ownB_lit w _ _ [] (Nat.le_refl _) ?c1 rfl _ rfl _ rfl) _ _ _ t.all rfl HN.out (HB.out.below ?c3) HA.out ?c6 ?c7 ?_)
    case c1 => simp
    case c3 => exact (Below.refl _ _).alloc (Nat.le_refl _) _
    case c6 => have := HN.out; simp; omega
    case c7 => simp
    intro v2 w2 ho2 hg2 _
    have HO := Lib.hid ho2
    obtain ⟨A2, c2, rfl, _⟩ := OwnB.form ho2
    go_wp2
    go_ret2
    exact ⟨_, rfl, HO.out, below_one (grown_below (ownB_lit w w.heap.size #[] [] (Nat.le_refl _) (by simp) rfl _ rfl 0 rfl) hg2 (by simp))⟩

/-- Another tape, all of it new. -/
def CopyC (r : Bool) (w : World) (t : Tp) (e : Ending) (w' : World) : Prop := ∃ b v, e = .returned (.pointer (some ⟨b, 0, none⟩)) ∧ TapeAt r w' w.heap.size b v t ∧ Below w.heap.size w w'
theorem copied {r : Bool} {w w1 : World} {t : Tp} {v v' : Value} (ok : t.Ok) (hw : Below (w.heap.size + 1) (w.alloc (.cells (cellsOf r t v).toArray (tyOf r))) w1) (ho : OwnB w1 w.heap.size v' t.all) (hc : (cellsOf r t v).set 0 v' = cellsOf r t v') : TapeAt r (w1.setCell ⟨w.heap.size, 0, none⟩ v') w.heap.size w.heap.size v' t ∧ Below w.heap.size w (w1.setCell ⟨w.heap.size, 0, none⟩ v') := by
  have hr : Rec w1 w.heap.size (tyOf r) (cellsOf r t v) := (hw.block w.heap.size (by omega)).trans (Rec.new w (tyOf r) (cellsOf r t v) _ rfl)
  refine ⟨⟨Nat.le_refl _, by rw [← hc]; exact hr.set 0 v', ?_, ok⟩, (below_one (hw.mono (by omega))).setCell (p := ⟨w.heap.size, 0, none⟩) (by simp) _⟩
  exact ho.touch (Touch.setCell w1 ⟨w.heap.size, 0, none⟩ v') (fun k hk e => hr.not_row (tyOf_ne r) ho (by rw [hk]; simp only at e; rw [e]))
set_option maxRecDepth 8000 in
set_option maxHeartbeats 2000000 in
theorem copy_any (w : World) (base b : Nat) (v : Value) (t : Tp) (h : TapeAt false w base b v t) :
    Calls Tryz.prog 36 #[.pointer (some ⟨b, 0, none⟩)] w (CopyC false w t) := by
  obtain ⟨c0, c1, c2, c3, c4, c5, _⟩ := h.reads
  have hlt := h.box.lt
  obtain ⟨A, c, rfl, hB, _⟩ := h.own.form
  have := h.ok.len
  have := h.ok.room
  have OK := Lib.hid h.ok
  have HB := Lib.hid hB
  have hw0 : Below w.heap.size w (w.alloc (.cells (cellsOf false t (.slice A t.all.length c)).toArray (tyOf false))) := (Below.refl _ _).alloc (Nat.le_refl _) _
  have C := Lib.hid (clone_any A t.all c (w.alloc (.cells (cellsOf false t (.slice A t.all.length c)).toArray (tyOf false))) (hB.below hw0) (by omega))
  simp only [cellsOf, tyOf] at C
  clear h hw0 hB
  go_enter Tryz.func36, Tryz.ntmps36
  go_wp2_with (go_at_call 60; refine C.out.mono ?_; rintro e w1 ⟨v1, rfl, ho, hb⟩; have HO := Lib.hid ho; have HW := Lib.hid hb; have x0 := hb.cell (p := ⟨w.heap.size, 0, none⟩) (by simp); have y0 := hb.frozen (p := ⟨w.heap.size, 0, none⟩) (by simp); obtain ⟨A1, c1, rfl, _⟩ := OwnB.form ho; clear ho hb)
  go_ret
  obtain ⟨k1, k2⟩ := copied (r := false) (t := t) (v := .slice A t.all.length c) OK.out (by have := HW.out; simp only [World.size_alloc] at this; exact this) (HO.out.base (by simp)) rfl
  exact ⟨_, _, rfl, k1, k2⟩
end Go.Proofs.YtmpipjangbedkaaGreat

/-
  The walk of tape.Append.
-/
namespace Go.Proofs.YtmpipjangbedkaaGreat
set_option maxRecDepth 8000
open Go.RowKit
set_option linter.unusedVariables false

/-- How much of a write in flight is done. -/
def frontN (k : Int) (n : Nat) : Nat := min (max k 0).toNat n
theorem frontN_le (k : Int) (n : Nat) : frontN k n ≤ n := by unfold frontN; omega
/-- Append, and its code. -/
def Tp.append (t : Tp) (x : List Nat) : Tp × Int :=
  if t.down then (t, 15) else if t.room < t.all.length + x.length then (t, 14) else
  if t.goes.2.2 then ({ t.goes.1 with all := t.all ++ x.take (frontN t.goes.2.1 x.length) }, 15) else ({ t.goes.1 with all := t.all ++ x }, 0)
theorem TapeAt.drewN {r : Bool} {w : World} {base b : Nat} {v : Value} {t : Tp} (h : TapeAt r w base b v t) (n : Nat) : TapeAt r (w.drewN n) base b v t := h.touch ((Touch.refl (fun _ => False) w).drewN n) (fun _ _ h => h)
/-- What a write answers. -/
def WentC (r : Bool) (w : World) (base b : Nat) (v : Value) (t : Tp) (code : Int) (e : Ending) (w' : World) : Prop := e = .returned (.int .i64 code) ∧ Went r w base b v t w'

set_option maxRecDepth 8000 in
set_option maxHeartbeats 2000000 in
theorem append_down (w : World) (base b : Nat) (v : Value) (t : Tp) (A : Option Addr) (c n : Nat) (h : TapeAt false w base b v t) (hd : t.down = true) :
    Calls Tryz.prog 18 #[.pointer (some ⟨b, 0, none⟩), .slice A n c] w (WentC false w base b v t 15) := by
  obtain ⟨_, _, c2, _⟩ := h.reads
  rw [hd] at c2
  have H := Lib.hid h.nil
  clear h hd
  go_enter Tryz.func18, Tryz.ntmps18
  go_wp2
  go_ret
  exact ⟨rfl, H.out⟩
set_option maxRecDepth 8000 in
set_option maxHeartbeats 2000000 in
theorem append_full (w : World) (base b : Nat) (v : Value) (t : Tp) (A : Option Addr) (c n : Nat) (hn : n ≤ 9223372036854775807) (h : TapeAt false w base b v t) (hd : t.down = false) (hf : t.room < t.all.length + n) :
    Calls Tryz.prog 18 #[.pointer (some ⟨b, 0, none⟩), .slice A n c] w (WentC false w base b v t 14) := by
  obtain ⟨c0, c1, c2, _⟩ := h.reads
  obtain ⟨A1, k, rfl, _⟩ := h.own.form
  have h1 := h.ok.len
  have h2 := h.ok.room
  rw [hd] at c2
  have H := Lib.hid h
  generalize t.all.length = m at *
  generalize t.room = R at *
  have hlt : decide ((R : Int) - (m : Int) < (n : Int)) = true := by simp; omega
  clear h hd
  go_enter Tryz.func18, Tryz.ntmps18
  go_wp2
  go_quiet (fail)
  go_wp2
  go_ret
  exact ⟨rfl, _, H.out.drewN _, (Touch.refl _ _).drewN _, Near.refl _ _⟩
theorem put_app {r : Bool} {w w2 : World} {base b : Nat} {v v2 : Value} {t t2 : Tp} (h : TapeAt r w base b v t) (ho : OwnB w2 base v2 t2.all) (hg : w.grownBy w2 v.ownBlock) (hm : Moved w v v2) (hc : (cellsOf r t v).set 0 v2 = cellsOf r t2 v2) (ok : t2.Ok) :
    Went r w base b v t2 (w2.setCell ⟨b, 0, none⟩ v2) := by
  have ht : Touch (fun k => v.ownBlock = some k) w w2 := Touch.grown hg
  have hb := h.box.touch ht h.not_row
  refine ⟨v2, ⟨h.low, by rw [← hc]; exact hb.set 0 v2, ?_, ok⟩, (ht.mono (fun _ e => .inr e)).set 0 v2, fun k hk => ?_⟩
  · exact ho.touch (Touch.setCell w2 ⟨b, 0, none⟩ v2) (fun k hk e => hb.not_row (tyOf_ne r) ho (by rw [hk]; simp only at e; rw [e]))
  · rcases hm with e | e
    · exact .inl (by rw [← e, hk])
    · right; rw [hk] at e; injection e with e; omega
theorem Tp.Ok.app {t : Tp} (h : t.Ok) {x : List Nat} (hx : Oct x) (hr : t.all.length + x.length ≤ t.room) : ({ t with all := t.all ++ x } : Tp).Ok := ⟨h.oct.append hx, by simp only [List.length_append]; exact hr, h.room, h.left, h.keep⟩
set_option maxRecDepth 8000 in
set_option maxHeartbeats 2000000 in
theorem append_goes (w : World) (base b : Nat) (v : Value) (t : Tp) (A : Option Addr) (c : Nat) (x : List Nat) (hx : Byts w A x) (hxo : Oct x) (hA : A = none → c = 0) (hap : ∀ bb off, A = some ⟨bb, off, none⟩ → 0 < x.length → ¬ foot b v bb) (h : TapeAt false w base b v t) (hd : t.down = false) (hf : ¬ t.room < t.all.length + x.length) (hg : t.goes.2.2 = false) :
    Calls Tryz.prog 18 #[.pointer (some ⟨b, 0, none⟩), .slice A x.length c] w (WentC false w base b v { t.goes.1 with all := t.all ++ x } 0) := by
  obtain ⟨c0, c1, c2, _⟩ := h.reads
  obtain ⟨A1, k, rfl, _⟩ := h.own.form
  have h1 := h.ok.len
  have h2 := h.ok.room
  rw [hd] at c2
  have H := Lib.hid h
  obtain ⟨n, hn⟩ : ∃ n, n = x.length := ⟨_, rfl⟩
  obtain ⟨m, hm⟩ : ∃ m, m = t.all.length := ⟨_, rfl⟩
  obtain ⟨R, hR⟩ : ∃ R, R = t.room := ⟨_, rfl⟩
  rw [← hm] at c0 h1
  rw [← hR] at c1 h1 h2
  rw [← hm, ← hn, ← hR] at hf
  have hlt : decide ((R : Int) - (m : Int) < (n : Int)) = false := by simp; omega
  have C : Hid (∀ j, Calls Tryz.prog 47 #[.pointer (some ⟨b, 0, none⟩)] (w.drewN j) fun e w' => e = .returned (.tuple #[.int .i64 t.goes.2.1, .bool false]) ∧ Went false (w.drewN j) base b (.slice A1 t.all.length k) t.goes.1 w') := Lib.hid (fun j => by have := goes_any _ base b _ t (h.drewN j); rw [hg] at this; exact this)
  obtain ⟨ga, gr⟩ := t.goes_all
  have gok := Tp.goes_ok h.ok
  have HN := Lib.hid hn
  have HX := Lib.hid hx
  have HA := Lib.hid hA
  have HP := Lib.hid hap
  have HG := Lib.hid ga
  have HOK : Hid ({ t.goes.1 with all := t.all ++ x } : Tp).Ok := Lib.hid (by have := gok.app hxo (by rw [ga, gr, ← hm, ← hn, ← hR]; omega); rw [ga] at this; exact this)
  have HL : Hid (t.all.length + x.length ≤ 1048576) := Lib.hid (by omega)
  generalize t.goes.2.1 = kp at *
  generalize t.goes.1 = t1 at *
  rw [← hn]
  clear h hd hg hx hA hap hn hm hR ga gr gok
  go_enter Tryz.func18, Tryz.ntmps18
  go_wp2
  go_quiet (fail)
  go_wp2_with (first
    | (go_at_call 47; refine (C.out _).mono ?_; rintro e w1 ⟨rfl, v1, h1', ht1, hn1⟩; have HT := Lib.hid h1'; have HT1 := Lib.hid ht1; have HN1 := Lib.hid hn1; have z0 := h1'.box.cell 0 rfl; have zf := h1'.box.frozen 0; have zlt := h1'.box.lt; clear h1' ht1 hn1)
    | (at_builtin; refine wpList_app rfl (.tmp 54) (.tmp 55) rfl base _ t1.all rfl HT.out.own _ _ _ x rfl HN.out ?c3 HA.out ?c6 ?c7 ?_))
  case c3 => exact (HX.out.drewN nq).touch HT1.out HP.out
  case c6 => rw [HG.out]; have := HL.out; omega
  case c7 => have := HT.out.low; omega
  intro v2 w2 ho2 hg2 hm2
  rw [HG.out] at ho2
  have hbx := HT.out.box.touch (Touch.grown hg2) HT.out.not_row
  have z2 := hbx.cell 0 rfl
  have zf2 := hbx.frozen 0
  obtain ⟨A2, k2, rfl, _⟩ := OwnB.form ho2
  simp only [List.length_append] at ho2 hm2 ⊢
  have HO2 := Lib.hid ho2
  have HG2 := Lib.hid hg2
  have HM2 := Lib.hid hm2
  clear hbx ho2 hg2 hm2 z0 zf
  go_wp2
  go_ret
  exact ⟨rfl, Went.from (((Touch.refl _ w).drewN nq).trans HT1.out (fun _ _ h => h)) HN1.out (put_app HT.out HO2.out HG2.out HM2.out rfl HOK.out)⟩
set_option maxRecDepth 8000 in
set_option maxHeartbeats 4000000 in
theorem append_flies (w : World) (base b : Nat) (v : Value) (t : Tp) (A : Option Addr) (c : Nat) (x : List Nat) (hx : Byts w A x) (hxo : Oct x) (hA : A = none → c = 0) (hxc : x.length ≤ c) (hcm : c ≤ 9223372036854775807) (hap : ∀ bb off, A = some ⟨bb, off, none⟩ → 0 < x.length → ¬ foot b v bb) (h : TapeAt false w base b v t) (hd : t.down = false) (hf : ¬ t.room < t.all.length + x.length) (hg : t.goes.2.2 = true) :
    Calls Tryz.prog 18 #[.pointer (some ⟨b, 0, none⟩), .slice A x.length c] w (WentC false w base b v { t.goes.1 with all := t.all ++ x.take (frontN t.goes.2.1 x.length) } 15) := by
  obtain ⟨c0, c1, c2, _⟩ := h.reads
  obtain ⟨A1, k, rfl, _⟩ := h.own.form
  have h1 := h.ok.len
  have h2 := h.ok.room
  rw [hd] at c2
  have H := Lib.hid h
  have hkp := Tp.goes_keep h.ok
  obtain ⟨n, hn⟩ : ∃ n, n = x.length := ⟨_, rfl⟩
  obtain ⟨m, hm⟩ : ∃ m, m = t.all.length := ⟨_, rfl⟩
  obtain ⟨R, hR⟩ : ∃ R, R = t.room := ⟨_, rfl⟩
  rw [← hm] at c0 h1
  rw [← hR] at c1 h1 h2
  rw [← hm, ← hn, ← hR] at hf
  have hlt : decide ((R : Int) - (m : Int) < (n : Int)) = false := by simp; omega
  have C : Hid (∀ j, Calls Tryz.prog 47 #[.pointer (some ⟨b, 0, none⟩)] (w.drewN j) fun e w' => e = .returned (.tuple #[.int .i64 t.goes.2.1, .bool true]) ∧ Went false (w.drewN j) base b (.slice A1 t.all.length k) t.goes.1 w') := Lib.hid (fun j => by have := goes_any _ base b _ t (h.drewN j); rw [hg] at this; exact this)
  obtain ⟨ga, gr⟩ := t.goes_all
  have gok := Tp.goes_ok h.ok
  obtain ⟨kp, hkpe⟩ : ∃ kp, kp = t.goes.2.1 := ⟨_, rfl⟩
  rw [← hkpe] at C hkp ⊢
  obtain ⟨f, hfe⟩ : ∃ f, f = frontN kp x.length := ⟨_, rfl⟩
  have hfn : f ≤ n := by rw [hfe, hn]; exact frontN_le _ _
  obtain ⟨q, hq⟩ : ∃ q, q = max kp 0 := ⟨_, rfl⟩
  have e1 : (if kp < 0 then 0 else kp) = q := by rw [hq]; split <;> omega
  have e2 : (if (n : Int) < q then (n : Int) else q) = (f : Int) := by rw [hfe, hq]; unfold frontN; rw [← hn]; split <;> omega
  rw [← hfe]
  have HN := Lib.hid hn
  have HX : Hid (Byts w A (x.take f)) := Lib.hid (by
    intro h0
    obtain ⟨b1, off, e, hc⟩ := hx (by rw [List.length_take] at h0; omega)
    refine ⟨b1, off, e, fun i hi => ?_⟩
    rw [List.length_take] at hi
    rw [hc i (by omega), List.getD_eq_getElem?_getD, List.getD_eq_getElem?_getD, List.getElem?_take_of_lt (by omega)])
  have HA := Lib.hid hA
  have HP := Lib.hid hap
  have HG := Lib.hid ga
  have hfl : (x.take f).length = f := by rw [List.length_take]; omega
  have HF := Lib.hid hfl
  have HOK : Hid ({ t.goes.1 with all := t.all ++ x.take f } : Tp).Ok := Lib.hid (by have := gok.app (hxo.take f) (by rw [ga, gr, hfl, ← hm, ← hR]; omega); rw [ga] at this; exact this)
  have HL : Hid (t.all.length + f ≤ 1048576) := Lib.hid (by omega)
  rw [← hn] at hxc
  generalize t.goes.1 = t1 at *
  rw [← hn]
  clear h hd hg hx hA hap hn hm hR ga gr gok hfe hq hkpe hfl
  unfold I64 at hkp
  have hfc : f ≤ c := by omega
  go_enter Tryz.func18, Tryz.ntmps18
  go_wp2
  go_quiet (fail)
  go_wp2_with (go_at_call 47; refine (C.out _).mono ?_; rintro e w1 ⟨rfl, v1, h1', ht1, hn1⟩; have HT := Lib.hid h1'; have HT1 := Lib.hid ht1; have HN1 := Lib.hid hn1; have z0 := h1'.box.cell 0 rfl; have zf := h1'.box.frozen 0; have zlt := h1'.box.lt; clear h1' ht1 hn1)
  obtain ⟨A4, k4, rfl, _⟩ := OwnB.form HT.out.own
  have HBx : Hid (Byts w1.drew A (x.take f)) := Lib.hid ((((HX.out.drewN nq).touch HT1.out (fun bb off e h0 => HP.out bb off e (by rw [List.length_take] at h0; omega))).touch ((Touch.refl (fun _ => False) w1).drew) (fun _ _ _ _ h => h)))
  have HTd : Hid (TapeAt false w1.drew base b (.slice A4 t1.all.length k4) t1) := Lib.hid (HT.out.touch ((Touch.refl (fun _ => False) w1).drew) (fun _ _ h => h))
  have HL4 : Hid (t1.all.length + (x.take f).length ≤ 140737488355328) := Lib.hid (by rw [HG.out, HF.out]; have := HL.out; omega)
  have HB4 : Hid (base ≤ w1.drew.heap.size) := Lib.hid (by have := HTd.out.low; have := HTd.out.box.lt; omega)
  clear C c0 c1 c2 hlt hf
  go_region_law (refine step_app rfl (.tmp 39) (.tmp 46) rfl base (.slice A4 t1.all.length k4) t1.all (by first | (simp [Act.eval]; done) | (simp [Act.eval, Act.put]; done)) HTd.out.own A f c (x.take f) (by first | (simp [Act.eval]; done) | (simp [Act.eval, Act.put]; done)) HF.out.symm HBx.out HA.out HL4.out HB4.out ?_; intro A2 n2 k2 w2 ho2 hn2 hg2 hm2; rw [HF.out, HG.out] at hn2; subst hn2; rw [HG.out] at ho2; have hbx := HTd.out.box.touch (Touch.grown hg2) HTd.out.not_row; have z2 := hbx.cell 0 rfl; have zf2 := hbx.frozen 0; have HO2 := Lib.hid ho2; have HG2 := Lib.hid hg2; have HM2 := Lib.hid hm2; clear hbx ho2 hg2 hm2)
  all_goals go_wp2
  all_goals go_ret
  all_goals exact ⟨rfl, Went.from ((((Touch.refl _ w).drewN nq).trans HT1.out (fun _ _ h => h))) HN1.out (Went.from ((Touch.refl _ w1).drew) (Near.refl _ _) (put_app HTd.out HO2.out HG2.out HM2.out rfl HOK.out))⟩
end Go.Proofs.YtmpipjangbedkaaGreat
