import Derived.Test.YtmpipjangbedkaaGreatMBst
import Derived.Deep.RegionWith
import Derived.Deep.QuietTactic
import Derived.BigQuiet
/-
  The walk of the reference's Right.
-/
namespace Go.Proofs.YtmpipjangbedkaaGreat
set_option maxRecDepth 8000
open Go Go.RowKit
set_option linter.unusedVariables false

theorem bstr_get (l : List Nat) (hO : Oct l) (k : Nat) (h : k < (bstr l).size) : ((bstr l)[k]'h).toNat = l.getD k 0 := by
  have hk : k < l.length := by rw [bstr_size] at h; exact h
  have e : (bstr l).data.toList = l.map UInt8.ofNat := by unfold bstr; rw [bstr_data]; simp
  have h1 : (bstr l)[k]'h = (bstr l).data.toList[k]'(by rw [e]; simpa using hk) := by simp [ByteArray.getElem_eq_getElem_data]
  rw [h1]
  simp only [e, List.getElem_map]
  rw [List.getD_eq_getElem?_getD, List.getElem?_eq_getElem hk]
  have := hO (l[k]) (List.getElem_mem hk)
  simp
  omega
theorem fields_oct (k : Int) : Oct (fieldsOf k) := by
  unfold fieldsOf
  repeat' split
  all_goals (unfold Oct; decide)
theorem fields_len (k : Int) : (fieldsOf k).length ≤ 5 := by
  unfold fieldsOf
  repeat' split
  all_goals simp
theorem below_dr {w w2 : World} {j : Nat} (h : Below (w.drewN j).heap.size (w.drewN j) w2) : Below w.heap.size w w2 := ⟨h.os, h.tape, h.output, h.size, h.block⟩
/-- The event of these fields alone. -/
def bareOf (e : Ev) (l : List Nat) : Ev := l.foldl (fun b f => b.with f (e.val f)) ⟨e.kind, 0, 0, 0, 0, 0, 0, 0⟩
def inF (e : Ev) (f : Nat) : Bool := decide (loF e.kind f ≤ e.val f) && decide (e.val f ≤ hiF e.kind f)
/-- Is it right? -/
def rightE (e : Ev) : Bool := decide (1 ≤ e.kind ∧ e.kind ≤ 22) && ((fieldsOf e.kind).all (inF e) && decide (bareOf e (fieldsOf e.kind) = e))
/-- An event in a block of its own. -/
def EvAt (w : World) (b : Nat) (e : Ev) : Prop := Rec w b 51 e.cells
theorem EvAt.reads {w : World} {b : Nat} {e : Ev} (h : EvAt w b e) : w.cell? ⟨b, 0, none⟩ = some (.int .i64 e.kind) ∧ w.cell? ⟨b, 1, none⟩ = some (.int .i64 e.member) ∧ w.cell? ⟨b, 2, none⟩ = some (.int .i64 e.acc) ∧ w.cell? ⟨b, 3, none⟩ = some (.int .i64 e.inst) ∧ w.cell? ⟨b, 4, none⟩ = some (.int .i64 e.side) ∧ w.cell? ⟨b, 5, none⟩ = some (.int .i64 e.id) ∧ w.cell? ⟨b, 6, none⟩ = some (.int .i64 e.q) ∧ w.cell? ⟨b, 7, none⟩ = some (.int .i64 e.p) :=
  ⟨Rec.cell h 0 rfl, Rec.cell h 1 rfl, Rec.cell h 2 rfl, Rec.cell h 3 rfl, Rec.cell h 4 rfl, Rec.cell h 5 rfl, Rec.cell h 6 rfl, Rec.cell h 7 rfl⟩
theorem EvAt.keep {w w' : World} {b : Nat} {e : Ev} (h : EvAt w b e) (hb : Below w.heap.size w w') : EvAt w' b e := Rec.keep h hb
/-- An event is stored. -/
def putE (w : World) (b : Nat) (y : Ev) : World := (((((((w.setCell ⟨b, 0, none⟩ (.int .i64 y.kind)).setCell ⟨b, 1, none⟩ (.int .i64 y.member)).setCell ⟨b, 2, none⟩ (.int .i64 y.acc)).setCell ⟨b, 3, none⟩ (.int .i64 y.inst)).setCell ⟨b, 4, none⟩ (.int .i64 y.side)).setCell ⟨b, 5, none⟩ (.int .i64 y.id)).setCell ⟨b, 6, none⟩ (.int .i64 y.q)).setCell ⟨b, 7, none⟩ (.int .i64 y.p)
theorem put_at {w : World} {b : Nat} {x : Ev} (h : EvAt w b x) (y : Ev) : EvAt (putE w b y) b y := by
  have := (((((((Rec.set h 0 (.int .i64 y.kind)).set 1 (.int .i64 y.member)).set 2 (.int .i64 y.acc)).set 3 (.int .i64 y.inst)).set 4 (.int .i64 y.side)).set 5 (.int .i64 y.id)).set 6 (.int .i64 y.q)).set 7 (.int .i64 y.p)
  exact this
theorem put_touch (w : World) (b : Nat) (y : Ev) : Touch (fun k => k = b) w (putE w b y) := by
  unfold putE
  refine ((((((((Touch.setCell w ⟨b, 0, none⟩ _).trans (Touch.setCell _ ⟨b, 1, none⟩ _) ?_).trans (Touch.setCell _ ⟨b, 2, none⟩ _) ?_).trans (Touch.setCell _ ⟨b, 3, none⟩ _) ?_).trans (Touch.setCell _ ⟨b, 4, none⟩ _) ?_).trans (Touch.setCell _ ⟨b, 5, none⟩ _) ?_).trans (Touch.setCell _ ⟨b, 6, none⟩ _) ?_).trans (Touch.setCell _ ⟨b, 7, none⟩ _) ?_) <;> exact fun _ _ h => h
theorem put_other {w : World} {b b' : Nat} {x y : Ev} (h : EvAt w b x) (hne : b ≠ b') : EvAt (putE w b' y) b x := Rec.touch h (put_touch w b' y) hne
theorem put_below {w0 w : World} {B b : Nat} (h : Below B w0 w) (hB : B ≤ b) (y : Ev) : Below B w0 (putE w b y) := by
  have ht := put_touch w b y
  exact ⟨ht.os.trans h.os, ht.tape.trans h.tape, ht.output.trans h.output, Nat.le_trans h.size ht.size, fun k hk => by
    rcases Nat.lt_or_ge k w.heap.size with h1 | h1
    · rw [ht.block k h1 (fun e => by omega)]; exact h.block k hk
    · have : ¬ k < w0.heap.size := by have := h.size; omega
      have h2 : (putE w b y).heap.size = w.heap.size := by simp [putE, World.setCell]
      rw [Array.getElem?_eq_none (by omega), ← h.block k hk, Array.getElem?_eq_none h1]⟩
theorem bare_take (e : Ev) (l : List Nat) (k : Nat) (h : k < l.length) : bareOf e (l.take (k + 1)) = (bareOf e (l.take k)).with (l.getD k 0) (e.val (l.getD k 0)) := by
  unfold bareOf
  rw [List.take_succ_eq_append_getElem h, List.foldl_append, List.getD_eq_getElem?_getD, List.getElem?_eq_getElem h]
  rfl
theorem right_kind {e : Ev} (h : ¬ (1 ≤ e.kind ∧ e.kind ≤ 22)) : rightE e = false := by unfold rightE; rw [decide_eq_false h]; rfl
theorem right_field {e : Ev} {k : Nat} (hk : k < (fieldsOf e.kind).length) (h : e.val ((fieldsOf e.kind).getD k 0) < loF e.kind ((fieldsOf e.kind).getD k 0) ∨ hiF e.kind ((fieldsOf e.kind).getD k 0) < e.val ((fieldsOf e.kind).getD k 0)) : rightE e = false := by
  have hm : (fieldsOf e.kind).getD k 0 ∈ fieldsOf e.kind := by rw [List.getD_eq_getElem?_getD, List.getElem?_eq_getElem hk]; exact List.getElem_mem _
  have : (fieldsOf e.kind).all (inF e) = false := by
    rw [List.all_eq_false]
    refine ⟨_, hm, ?_⟩
    unfold inF
    rcases h with h | h
    · rw [decide_eq_false (show ¬ loF e.kind ((fieldsOf e.kind).getD k 0) ≤ e.val ((fieldsOf e.kind).getD k 0) by omega)]; simp
    · rw [decide_eq_false (show ¬ e.val ((fieldsOf e.kind).getD k 0) ≤ hiF e.kind ((fieldsOf e.kind).getD k 0) by omega)]; simp
  unfold rightE
  rw [this]
  simp
theorem right_all {e : Ev} (hk : 1 ≤ e.kind ∧ e.kind ≤ 22) (h : ∀ j, j < (fieldsOf e.kind).length → loF e.kind ((fieldsOf e.kind).getD j 0) ≤ e.val ((fieldsOf e.kind).getD j 0) ∧ e.val ((fieldsOf e.kind).getD j 0) ≤ hiF e.kind ((fieldsOf e.kind).getD j 0)) : rightE e = decide (bareOf e (fieldsOf e.kind) = e) := by
  have : (fieldsOf e.kind).all (inF e) = true := by
    rw [List.all_eq_true]
    intro f hf
    obtain ⟨j, hj, rfl⟩ := List.getElem_of_mem hf
    have := h j hj
    rw [List.getD_eq_getElem?_getD, List.getElem?_eq_getElem hj] at this
    simp only [Option.getD_some] at this
    unfold inF
    rw [decide_eq_true this.1, decide_eq_true this.2]
    rfl
  unfold rightE
  rw [this, decide_eq_true hk]
  simp
theorem ev_eq (x e : Ev) : decide (x = e) = (decide (x.kind = e.kind) && (decide (x.member = e.member) && (decide (x.acc = e.acc) && (decide (x.inst = e.inst) && (decide (x.side = e.side) && (decide (x.id = e.id) && (decide (x.q = e.q) && decide (x.p = e.p)))))))) := by
  obtain ⟨a0, a1, a2, a3, a4, a5, a6, a7⟩ := x
  obtain ⟨b0, b1, b2, b3, b4, b5, b6, b7⟩ := e
  simp [Bool.decide_and]
set_option maxRecDepth 8000 in
set_option maxHeartbeats 1000000 in
theorem run_ev_eq (x e : Ev) (W : World) : (binOp .eql 51 x.v e.v).run Tryz.prog W = .ok (.bool (decide (x = e))) W := by
  rw [ev_eq]
  unfold Ev.v
  simp [go_sem]
  repeat' split
  all_goals simp_all
set_option maxRecDepth 8000 in
set_option maxHeartbeats 4000000 in
theorem right_any (e : Ev) (w : World) : Calls Tryz.prog 42 #[e.v] w fun r w' => r = .returned (.bool (rightE e)) ∧ Below w.heap.size w w' := by
  have CK := Lib.hid (fun W => kind_any e.kind W)
  by_cases hk : ¬ (1 ≤ e.kind ∧ e.kind ≤ 22)
  · rw [right_kind hk]
    rw [decide_eq_false hk] at CK
    unfold Ev.v
    clear hk
    go_enter Tryz.func42, Tryz.ntmps42
    go_wp2_with (go_at_call 67; (with_reducible refine (CK.out _).mono ?_); rintro e' _ ⟨rfl, rfl⟩)
    go_ret
    exact ⟨rfl, (Below.refl _ _).alloc (Nat.le_refl _) _⟩
  have hk := Classical.not_not.1 hk
  rw [decide_eq_true hk] at CK
  have CF := Lib.hid (fun W => fields_any e.kind W)
  have HK := Lib.hid hk
  obtain ⟨l, hl⟩ : ∃ l, l = fieldsOf e.kind := ⟨_, rfl⟩
  have hO : Oct l := by rw [hl]; exact fields_oct _
  have hlen : l.length ≤ 5 := by rw [hl]; exact fields_len _
  have HL := Lib.hid hl
  rw [← hl] at CF
  have HSZ : Hid ((bstr l).size = l.length) := Lib.hid (bstr_size l)
  have HGT : Hid (∀ k (h : k < (bstr l).size), ((bstr l)[k]'h).toNat = l.getD k 0) := Lib.hid (fun k h => bstr_get l hO k h)
  obtain ⟨S, hS⟩ : ∃ S, S = bstr l := ⟨_, rfl⟩
  rw [← hS] at CF HSZ HGT
  obtain ⟨n, hn⟩ : ∃ n, n = l.length := ⟨_, rfl⟩
  rw [← hn] at HSZ hlen
  have HN := Lib.hid hn
  have hsz := HSZ.out
  have HE1 : Hid (EvAt (w.alloc (.cells e.cells.toArray 51)) w.heap.size e) := Lib.hid (Rec.new w _ e.cells _ rfl)
  unfold Ev.v
  clear hk hl hO hn hS
  go_enter Tryz.func42, Tryz.ntmps42
  go_wp2_with (first
    | (go_at_call 67; (with_reducible refine (CK.out _).mono ?_); rintro e' _ ⟨rfl, rfl⟩)
    | (go_at_call 43; (with_reducible refine (CF.out _).mono ?_); rintro e' _ ⟨rfl, rfl⟩))
  have HW0 : Hid (EvAt ((w.alloc (.cells e.cells.toArray 51)).alloc (.cells (⟨e.kind, 0, 0, 0, 0, 0, 0, 0⟩ : Ev).cells.toArray 51)) w.heap.size e ∧ EvAt ((w.alloc (.cells e.cells.toArray 51)).alloc (.cells (⟨e.kind, 0, 0, 0, 0, 0, 0, 0⟩ : Ev).cells.toArray 51)) (w.heap.size + 1) ⟨e.kind, 0, 0, 0, 0, 0, 0, 0⟩ ∧ Below w.heap.size w ((w.alloc (.cells e.cells.toArray 51)).alloc (.cells (⟨e.kind, 0, 0, 0, 0, 0, 0, 0⟩ : Ev).cells.toArray 51))) := Lib.hid ⟨HE1.out.keep ((Below.refl _ _).alloc (Nat.le_refl _) _), Rec.new _ _ _ _ (by simp), ((Below.refl _ _).alloc (Nat.le_refl _) _).alloc (by simp) _⟩
  clear CK CF HE1
  go_loopw [5] (fun i wr => ∃ k : Nat, k ≤ n ∧ i = .int .i64 k ∧ Hid (EvAt wr w.heap.size e) ∧ Hid (EvAt wr (w.heap.size + 1) (bareOf e (l.take k))) ∧ Hid (Below w.heap.size w wr) ∧ Hid (∀ j, j < k → loF e.kind (l.getD j 0) ≤ e.val (l.getD j 0) ∧ e.val (l.getD j 0) ≤ hiF e.kind (l.getD j 0))) (fun i _ => n - (intOf i).toNat)
  case atStart => exact ⟨0, Nat.zero_le _, rfl, Lib.hid HW0.out.1, Lib.hid HW0.out.2.1, Lib.hid HW0.out.2.2, Lib.hid (fun j hj => absurd hj (Nat.not_lt_zero j))⟩
  case round =>
    obtain ⟨k, hk, rfl, H1, H2, HB, HA⟩ := hrel
    obtain ⟨c0, c1, c2, c3, c4, c5, c6, c7⟩ := H1.out.reads
    by_cases hlt : k < n
    · have hgt := HGT.out k
      have hkl : k < l.length := by rw [← HN.out]; exact hlt
      have HT := Lib.hid (bare_take e l k hkl)
      generalize hf : l.getD k 0 = f at *
      have HF := Lib.hid hf
      clear hf
      have CB : Hid (∀ j, Calls Tryz.prog 68 #[.int .i64 e.kind, .int .u8 (f : Int)] (wr.drewN j) fun r w' => r = .returned (.tuple #[.int .i64 (loF e.kind f), .int .i64 (hiF e.kind f)]) ∧ w' = wr.drewN j) := Lib.hid (fun j => (bounds_any e.kind f _).mono (fun _ _ x => ⟨x.1, x.2.symm⟩))
      have CV := Lib.hid (fun W => value_any e f W)
      unfold Ev.v at CV
      obtain ⟨v, hv⟩ : ∃ v, v = e.val f := ⟨_, rfl⟩
      obtain ⟨lo, hlo⟩ : ∃ lo, lo = loF e.kind f := ⟨_, rfl⟩
      obtain ⟨hi, hhi⟩ : ∃ hi, hi = hiF e.kind f := ⟨_, rfl⟩
      rw [← hv] at CV HT
      rw [← hlo, ← hhi] at CB
      have HV := Lib.hid hv
      have HLo := Lib.hid hlo
      have HHi := Lib.hid hhi
      have hcase : v < lo ∨ (¬ v < lo ∧ hi < v) ∨ (¬ v < lo ∧ ¬ hi < v) := by omega
      clear hv hlo hhi
      rcases hcase with h1 | ⟨h1, h2⟩ | ⟨h1, h2⟩
      · have HR : Hid (rightE e = false) := Lib.hid (right_field (k := k) (by rw [← HL.out]; exact hkl) (.inl (by rw [← HL.out, HF.out, ← HV.out, ← HLo.out]; exact h1)))
        clear HT hkl
        go_wp2
        go_quiet ((go_at_call 68; exact Calls.quiet_of_same (CB.out _)))
        go_wp2
        go_region_with (go_at_call 44; (with_reducible refine (CV.out _).mono ?_); rintro r w2 ⟨rfl, hb2⟩; have HB2 := Lib.hid (below_dr hb2); clear hb2)
        all_goals go_wp2
        all_goals go_ret
        all_goals exact ⟨by rw [HR.out]; rfl, HB.out.trans (HB2.out.mono HB.out.size)⟩
      · have HR : Hid (rightE e = false) := Lib.hid (right_field (k := k) (by rw [← HL.out]; exact hkl) (.inr (by rw [← HL.out, HF.out, ← HV.out, ← HHi.out]; exact h2)))
        clear HT hkl
        go_wp2
        go_quiet ((go_at_call 68; exact Calls.quiet_of_same (CB.out _)))
        go_wp2
        go_region_with (go_at_call 44; (with_reducible refine (CV.out _).mono ?_); rintro r w2 ⟨rfl, hb2⟩; have HB2 := Lib.hid (below_dr hb2); clear hb2)
        all_goals go_wp2
        all_goals go_ret
        all_goals exact ⟨by rw [HR.out]; rfl, HB.out.trans (HB2.out.mono HB.out.size)⟩
      · obtain ⟨x, hx⟩ : ∃ x, x = bareOf e (l.take k) := ⟨_, rfl⟩
        rw [← hx] at H2 HT
        have CW := Lib.hid (fun W => with_any x f v W)
        rw [← HT.out] at CW
        obtain ⟨y, hy⟩ : ∃ y, y = bareOf e (l.take (k + 1)) := ⟨_, rfl⟩
        rw [← hy] at CW
        have HY := Lib.hid hy
        unfold Ev.v at CW
        clear hx hy HT hkl
        go_wp2
        go_quiet ((go_at_call 68; exact Calls.quiet_of_same (CB.out _)))
        go_wp2
        go_region_with (go_at_call 44; (with_reducible refine (CV.out _).mono ?_); rintro r w2 ⟨rfl, hb2⟩; have HB2 := Lib.hid (below_dr hb2); have H3 := Lib.hid (H2.out.keep (below_dr hb2)); obtain ⟨d0, d1, d2, d3, d4, d5, d6, d7⟩ := H3.out.reads; clear hb2)
        all_goals go_wp2
        all_goals go_region_with (go_at_call 69; (with_reducible refine (CW.out _).mono ?_); rintro r w3 ⟨rfl, hb3⟩; have HB3 : Hid (Below w2.heap.size w2 w3) := Lib.hid ⟨hb3.os, hb3.tape, hb3.output, hb3.size, hb3.block⟩; have H4 := Lib.hid (H3.out.keep HB3.out); obtain ⟨g0, g1, g2, g3, g4, g5, g6, g7⟩ := H4.out.reads; have fz0 := Rec.frozen H4.out 0; have fz1 := Rec.frozen H4.out 1; have fz2 := Rec.frozen H4.out 2; have fz3 := Rec.frozen H4.out 3; have fz4 := Rec.frozen H4.out 4; have fz5 := Rec.frozen H4.out 5; have fz6 := Rec.frozen H4.out 6; have fz7 := Rec.frozen H4.out 7; clear hb3)
        all_goals go_wp2
        all_goals go_roundw
        all_goals first
          | exact ⟨k + 1, by omega, by go_num, Lib.hid (put_other ((H1.out.keep HB2.out).keep HB3.out) (by omega)), Lib.hid (by rw [← HY.out]; exact put_at H4.out y), Lib.hid (put_below (HB.out.trans ((HB2.out.trans (HB3.out.mono HB2.out.size)).mono HB.out.size)) (by omega) y), Lib.hid (fun j hj => by
              rcases Nat.lt_or_ge j k with hj' | hj'
              · exact HA.out j hj'
              · obtain rfl : j = k := by omega
                rw [HF.out, ← HV.out, ← HLo.out, ← HHi.out]; omega)⟩
          | (simp [intOf]; omega)
    · obtain rfl : k = n := by omega
      have HTL : Hid (l.take k = fieldsOf e.kind) := Lib.hid (by rw [HN.out, List.take_length, HL.out])
      have HRR : Hid (rightE e = decide (bareOf e (l.take k) = e)) := Lib.hid (by
        rw [HTL.out]
        exact right_all HK.out (fun j hj => by rw [← HL.out] at hj ⊢; exact HA.out j (by rw [HN.out]; exact hj)))
      obtain ⟨d0, d1, d2, d3, d4, d5, d6, d7⟩ := H2.out.reads
      generalize bareOf e (l.take k) = x at *
      have heq : ∀ W : World, (binOp .eql 51 x.v e.v).run Tryz.prog W = .ok (.bool (decide (x = e))) W := fun W => run_ev_eq x e W
      obtain ⟨R, hRe⟩ : ∃ R, R = rightE e := ⟨_, rfl⟩
      rw [← HRR.out, ← hRe] at heq
      have HRE := Lib.hid hRe
      clear hRe
      unfold Ev.v at heq
      go_wp2
      go_ret
      exact ⟨by rw [← HRE.out]; rfl, HB.out⟩
end Go.Proofs.YtmpipjangbedkaaGreat

/-
  The letters of fields. (No program is named here.)
-/
namespace Go.Proofs.YtmpipjangbedkaaGreat
set_option maxRecDepth 8000
open Go Go.RowKit
set_option linter.unusedVariables false

/-- The letters of fields. -/
def letter (f : Nat) : Prop := f = 77 ∨ f = 65 ∨ f = 73 ∨ f = 83 ∨ f = 68 ∨ f = 81 ∨ f = 80
theorem fields_letters (k : Int) : ∀ f ∈ fieldsOf k, letter f := by
  unfold fieldsOf
  repeat' split
  all_goals (intro f hf; first | exact absurd hf List.not_mem_nil | (simp only [List.mem_cons, List.not_mem_nil, or_false] at hf; unfold letter; omega))
theorem fields_nodup (k : Int) : (fieldsOf k).Nodup := by
  unfold fieldsOf
  repeat' split
  all_goals decide
theorem val_with_same {f : Nat} (e : Ev) (n : Int) (h : letter f) : (e.with f n).val f = n := by
  rcases h with rfl | rfl | rfl | rfl | rfl | rfl | rfl <;> rfl
theorem val_with_other {f g : Nat} (e : Ev) (n : Int) (hf : letter f) (hg : letter g) (h : g ≠ f) : (e.with f n).val g = e.val g := by
  rcases hf with rfl | rfl | rfl | rfl | rfl | rfl | rfl <;> rcases hg with rfl | rfl | rfl | rfl | rfl | rfl | rfl <;> first | rfl | exact absurd rfl h
theorem kind_with (e : Ev) (f : Nat) (n : Int) : (e.with f n).kind = e.kind := by
  unfold Ev.with
  repeat' split
  all_goals rfl
end Go.Proofs.YtmpipjangbedkaaGreat

/-
  The walks of the program's isKind, value, withValue, Fields, sideBounds, quantityBounds, priceBounds.
-/
namespace Go.Proofs.YtmpipjangbedkaaGreat
set_option maxRecDepth 8000
open Go Go.RowKit
set_option linter.unusedVariables false

set_option maxRecDepth 8000 in
set_option maxHeartbeats 1000000 in
theorem iskind_any (k : Int) (w : World) : Calls Tryz.prog 92 #[.int .i64 k] w fun e w' => e = .returned (.bool (decide (1 ≤ k ∧ k ≤ 22))) ∧ w = w' := by
  by_cases h : 1 ≤ k
  · by_cases h2 : k ≤ 22
    · have : decide (1 ≤ k ∧ k ≤ 22) = true := by simp; omega
      rw [this]; clear this
      go_enter Tryz.func92, Tryz.ntmps92
      go_wp2
      go_ret
      exact ⟨rfl, rfl⟩
    · have : decide (1 ≤ k ∧ k ≤ 22) = false := by simp; omega
      rw [this]; clear this
      go_enter Tryz.func92, Tryz.ntmps92
      go_wp2
      go_ret
      exact ⟨rfl, rfl⟩
  · have : decide (1 ≤ k ∧ k ≤ 22) = false := by simp; omega
    rw [this]; clear this
    go_enter Tryz.func92, Tryz.ntmps92
    go_wp2
    go_ret
    exact ⟨rfl, rfl⟩
set_option maxRecDepth 8000 in
set_option maxHeartbeats 1000000 in
theorem pvalue_77 (e : Ev) (w : World) : Calls Tryz.prog 80 #[e.v, .int .i32 77] w fun r w' => r = .returned (.int .i64 e.member) ∧ Below w.heap.size w w' := by
  unfold Ev.v
  go_enter Tryz.func80, Tryz.ntmps80
  go_wp2
  go_ret
  exact ⟨rfl, (Below.refl _ _).alloc (Nat.le_refl _) _⟩
set_option maxRecDepth 8000 in
set_option maxHeartbeats 1000000 in
theorem pvalue_65 (e : Ev) (w : World) : Calls Tryz.prog 80 #[e.v, .int .i32 65] w fun r w' => r = .returned (.int .i64 e.acc) ∧ Below w.heap.size w w' := by
  unfold Ev.v
  go_enter Tryz.func80, Tryz.ntmps80
  go_wp2
  go_ret
  exact ⟨rfl, (Below.refl _ _).alloc (Nat.le_refl _) _⟩
set_option maxRecDepth 8000 in
set_option maxHeartbeats 1000000 in
theorem pvalue_73 (e : Ev) (w : World) : Calls Tryz.prog 80 #[e.v, .int .i32 73] w fun r w' => r = .returned (.int .i64 e.inst) ∧ Below w.heap.size w w' := by
  unfold Ev.v
  go_enter Tryz.func80, Tryz.ntmps80
  go_wp2
  go_ret
  exact ⟨rfl, (Below.refl _ _).alloc (Nat.le_refl _) _⟩
set_option maxRecDepth 8000 in
set_option maxHeartbeats 1000000 in
theorem pvalue_83 (e : Ev) (w : World) : Calls Tryz.prog 80 #[e.v, .int .i32 83] w fun r w' => r = .returned (.int .i64 e.side) ∧ Below w.heap.size w w' := by
  unfold Ev.v
  go_enter Tryz.func80, Tryz.ntmps80
  go_wp2
  go_ret
  exact ⟨rfl, (Below.refl _ _).alloc (Nat.le_refl _) _⟩
set_option maxRecDepth 8000 in
set_option maxHeartbeats 1000000 in
theorem pvalue_68 (e : Ev) (w : World) : Calls Tryz.prog 80 #[e.v, .int .i32 68] w fun r w' => r = .returned (.int .i64 e.id) ∧ Below w.heap.size w w' := by
  unfold Ev.v
  go_enter Tryz.func80, Tryz.ntmps80
  go_wp2
  go_ret
  exact ⟨rfl, (Below.refl _ _).alloc (Nat.le_refl _) _⟩
set_option maxRecDepth 8000 in
set_option maxHeartbeats 1000000 in
theorem pvalue_81 (e : Ev) (w : World) : Calls Tryz.prog 80 #[e.v, .int .i32 81] w fun r w' => r = .returned (.int .i64 e.q) ∧ Below w.heap.size w w' := by
  unfold Ev.v
  go_enter Tryz.func80, Tryz.ntmps80
  go_wp2
  go_ret
  exact ⟨rfl, (Below.refl _ _).alloc (Nat.le_refl _) _⟩
set_option maxRecDepth 8000 in
set_option maxHeartbeats 1000000 in
theorem pvalue_80 (e : Ev) (w : World) : Calls Tryz.prog 80 #[e.v, .int .i32 80] w fun r w' => r = .returned (.int .i64 e.p) ∧ Below w.heap.size w w' := by
  unfold Ev.v
  go_enter Tryz.func80, Tryz.ntmps80
  go_wp2
  go_ret
  exact ⟨rfl, (Below.refl _ _).alloc (Nat.le_refl _) _⟩
/-- The letters of fields. -/
def lett (f : Nat) : Prop := f = 77 ∨ f = 65 ∨ f = 73 ∨ f = 83 ∨ f = 68 ∨ f = 81 ∨ f = 80
theorem pvalue_any (e : Ev) (f : Nat) (hf : lett f) (w : World) : Calls Tryz.prog 80 #[e.v, .int .i32 (f : Int)] w fun r w' => r = .returned (.int .i64 (e.val f)) ∧ Below w.heap.size w w' := by
  rcases hf with rfl | rfl | rfl | rfl | rfl | rfl | rfl
  · exact pvalue_77 e w
  · exact pvalue_65 e w
  · exact pvalue_73 e w
  · exact pvalue_83 e w
  · exact pvalue_68 e w
  · exact pvalue_81 e w
  · exact pvalue_80 e w
set_option maxRecDepth 8000 in
set_option maxHeartbeats 1000000 in
theorem pfields_1 (w : World) : Calls Tryz.prog 78 #[.int .i64 1] w fun e w' => e = .returned (.string (bstr (fieldsOf 1))) ∧ w = w' := by
  have H : Hid (.string (bstr (fieldsOf 1)) = Value.string { data := #[77] }) := Lib.hid (congrArg Value.string (by decide +kernel))
  rw [H.out]
  clear H
  go_enter Tryz.func78, Tryz.ntmps78
  go_wp2
  go_ret
  exact ⟨rfl, rfl⟩
set_option maxRecDepth 8000 in
set_option maxHeartbeats 1000000 in
theorem pfields_2 (w : World) : Calls Tryz.prog 78 #[.int .i64 2] w fun e w' => e = .returned (.string (bstr (fieldsOf 2))) ∧ w = w' := by
  have H : Hid (.string (bstr (fieldsOf 2)) = Value.string { data := #[77, 65, 83] }) := Lib.hid (congrArg Value.string (by decide +kernel))
  rw [H.out]
  clear H
  go_enter Tryz.func78, Tryz.ntmps78
  go_wp2
  go_ret
  exact ⟨rfl, rfl⟩
set_option maxRecDepth 8000 in
set_option maxHeartbeats 1000000 in
theorem pfields_3 (w : World) : Calls Tryz.prog 78 #[.int .i64 3] w fun e w' => e = .returned (.string (bstr (fieldsOf 3))) ∧ w = w' := by
  have H : Hid (.string (bstr (fieldsOf 3)) = Value.string { data := #[65, 81] }) := Lib.hid (congrArg Value.string (by decide +kernel))
  rw [H.out]
  clear H
  go_enter Tryz.func78, Tryz.ntmps78
  go_wp2
  go_ret
  exact ⟨rfl, rfl⟩
set_option maxRecDepth 8000 in
set_option maxHeartbeats 1000000 in
theorem pfields_4 (w : World) : Calls Tryz.prog 78 #[.int .i64 4] w fun e w' => e = .returned (.string (bstr (fieldsOf 4))) ∧ w = w' := by
  have H : Hid (.string (bstr (fieldsOf 4)) = Value.string { data := #[65, 81] }) := Lib.hid (congrArg Value.string (by decide +kernel))
  rw [H.out]
  clear H
  go_enter Tryz.func78, Tryz.ntmps78
  go_wp2
  go_ret
  exact ⟨rfl, rfl⟩
set_option maxRecDepth 8000 in
set_option maxHeartbeats 1000000 in
theorem pfields_5 (w : World) : Calls Tryz.prog 78 #[.int .i64 5] w fun e w' => e = .returned (.string (bstr (fieldsOf 5))) ∧ w = w' := by
  have H : Hid (.string (bstr (fieldsOf 5)) = Value.string { data := #[77, 81] }) := Lib.hid (congrArg Value.string (by decide +kernel))
  rw [H.out]
  clear H
  go_enter Tryz.func78, Tryz.ntmps78
  go_wp2
  go_ret
  exact ⟨rfl, rfl⟩
set_option maxRecDepth 8000 in
set_option maxHeartbeats 1000000 in
theorem pfields_6 (w : World) : Calls Tryz.prog 78 #[.int .i64 6] w fun e w' => e = .returned (.string (bstr (fieldsOf 6))) ∧ w = w' := by
  have H : Hid (.string (bstr (fieldsOf 6)) = Value.string { data := #[65, 81] }) := Lib.hid (congrArg Value.string (by decide +kernel))
  rw [H.out]
  clear H
  go_enter Tryz.func78, Tryz.ntmps78
  go_wp2
  go_ret
  exact ⟨rfl, rfl⟩
set_option maxRecDepth 8000 in
set_option maxHeartbeats 1000000 in
theorem pfields_7 (w : World) : Calls Tryz.prog 78 #[.int .i64 7] w fun e w' => e = .returned (.string (bstr (fieldsOf 7))) ∧ w = w' := by
  have H : Hid (.string (bstr (fieldsOf 7)) = Value.string { data := #[65, 73, 83, 81, 80] }) := Lib.hid (congrArg Value.string (by decide +kernel))
  rw [H.out]
  clear H
  go_enter Tryz.func78, Tryz.ntmps78
  go_wp2
  go_ret
  exact ⟨rfl, rfl⟩
set_option maxRecDepth 8000 in
set_option maxHeartbeats 1000000 in
theorem pfields_8 (w : World) : Calls Tryz.prog 78 #[.int .i64 8] w fun e w' => e = .returned (.string (bstr (fieldsOf 8))) ∧ w = w' := by
  have H : Hid (.string (bstr (fieldsOf 8)) = Value.string { data := #[65, 68] }) := Lib.hid (congrArg Value.string (by decide +kernel))
  rw [H.out]
  clear H
  go_enter Tryz.func78, Tryz.ntmps78
  go_wp2
  go_ret
  exact ⟨rfl, rfl⟩
set_option maxRecDepth 8000 in
set_option maxHeartbeats 1000000 in
theorem pfields_9 (w : World) : Calls Tryz.prog 78 #[.int .i64 9] w fun e w' => e = .returned (.string (bstr (fieldsOf 9))) ∧ w = w' := by
  have H : Hid (.string (bstr (fieldsOf 9)) = Value.string { data := #[73, 80] }) := Lib.hid (congrArg Value.string (by decide +kernel))
  rw [H.out]
  clear H
  go_enter Tryz.func78, Tryz.ntmps78
  go_wp2
  go_ret
  exact ⟨rfl, rfl⟩
set_option maxRecDepth 8000 in
set_option maxHeartbeats 1000000 in
theorem pfields_10 (w : World) : Calls Tryz.prog 78 #[.int .i64 10] w fun e w' => e = .returned (.string (bstr (fieldsOf 10))) ∧ w = w' := by
  have H : Hid (.string (bstr (fieldsOf 10)) = Value.string { data := #[81] }) := Lib.hid (congrArg Value.string (by decide +kernel))
  rw [H.out]
  clear H
  go_enter Tryz.func78, Tryz.ntmps78
  go_wp2
  go_ret
  exact ⟨rfl, rfl⟩
set_option maxRecDepth 8000 in
set_option maxHeartbeats 1000000 in
theorem pfields_11 (w : World) : Calls Tryz.prog 78 #[.int .i64 11] w fun e w' => e = .returned (.string (bstr (fieldsOf 11))) ∧ w = w' := by
  have H : Hid (.string (bstr (fieldsOf 11)) = Value.string { data := #[77] }) := Lib.hid (congrArg Value.string (by decide +kernel))
  rw [H.out]
  clear H
  go_enter Tryz.func78, Tryz.ntmps78
  go_wp2
  go_ret
  exact ⟨rfl, rfl⟩
set_option maxRecDepth 8000 in
set_option maxHeartbeats 1000000 in
theorem pfields_12 (w : World) : Calls Tryz.prog 78 #[.int .i64 12] w fun e w' => e = .returned (.string (bstr (fieldsOf 12))) ∧ w = w' := by
  have H : Hid (.string (bstr (fieldsOf 12)) = Value.string { data := #[77] }) := Lib.hid (congrArg Value.string (by decide +kernel))
  rw [H.out]
  clear H
  go_enter Tryz.func78, Tryz.ntmps78
  go_wp2
  go_ret
  exact ⟨rfl, rfl⟩
set_option maxRecDepth 8000 in
set_option maxHeartbeats 1000000 in
theorem pfields_13 (w : World) : Calls Tryz.prog 78 #[.int .i64 13] w fun e w' => e = .returned (.string (bstr (fieldsOf 13))) ∧ w = w' := by
  have H : Hid (.string (bstr (fieldsOf 13)) = Value.string { data := #[77] }) := Lib.hid (congrArg Value.string (by decide +kernel))
  rw [H.out]
  clear H
  go_enter Tryz.func78, Tryz.ntmps78
  go_wp2
  go_ret
  exact ⟨rfl, rfl⟩
set_option maxRecDepth 8000 in
set_option maxHeartbeats 1000000 in
theorem pfields_14 (w : World) : Calls Tryz.prog 78 #[.int .i64 14] w fun e w' => e = .returned (.string (bstr (fieldsOf 14))) ∧ w = w' := by
  have H : Hid (.string (bstr (fieldsOf 14)) = Value.string { data := #[77, 65] }) := Lib.hid (congrArg Value.string (by decide +kernel))
  rw [H.out]
  clear H
  go_enter Tryz.func78, Tryz.ntmps78
  go_wp2
  go_ret
  exact ⟨rfl, rfl⟩
set_option maxRecDepth 8000 in
set_option maxHeartbeats 1000000 in
theorem pfields_15 (w : World) : Calls Tryz.prog 78 #[.int .i64 15] w fun e w' => e = .returned (.string (bstr (fieldsOf 15))) ∧ w = w' := by
  have H : Hid (.string (bstr (fieldsOf 15)) = Value.string { data := #[] }) := Lib.hid (congrArg Value.string (by decide +kernel))
  rw [H.out]
  clear H
  go_enter Tryz.func78, Tryz.ntmps78
  go_wp2
  go_ret
  exact ⟨rfl, rfl⟩
set_option maxRecDepth 8000 in
set_option maxHeartbeats 1000000 in
theorem pfields_16 (w : World) : Calls Tryz.prog 78 #[.int .i64 16] w fun e w' => e = .returned (.string (bstr (fieldsOf 16))) ∧ w = w' := by
  have H : Hid (.string (bstr (fieldsOf 16)) = Value.string { data := #[] }) := Lib.hid (congrArg Value.string (by decide +kernel))
  rw [H.out]
  clear H
  go_enter Tryz.func78, Tryz.ntmps78
  go_wp2
  go_ret
  exact ⟨rfl, rfl⟩
set_option maxRecDepth 8000 in
set_option maxHeartbeats 1000000 in
theorem pfields_17 (w : World) : Calls Tryz.prog 78 #[.int .i64 17] w fun e w' => e = .returned (.string (bstr (fieldsOf 17))) ∧ w = w' := by
  have H : Hid (.string (bstr (fieldsOf 17)) = Value.string { data := #[65, 68, 81, 80] }) := Lib.hid (congrArg Value.string (by decide +kernel))
  rw [H.out]
  clear H
  go_enter Tryz.func78, Tryz.ntmps78
  go_wp2
  go_ret
  exact ⟨rfl, rfl⟩
set_option maxRecDepth 8000 in
set_option maxHeartbeats 1000000 in
theorem pfields_18 (w : World) : Calls Tryz.prog 78 #[.int .i64 18] w fun e w' => e = .returned (.string (bstr (fieldsOf 18))) ∧ w = w' := by
  have H : Hid (.string (bstr (fieldsOf 18)) = Value.string { data := #[] }) := Lib.hid (congrArg Value.string (by decide +kernel))
  rw [H.out]
  clear H
  go_enter Tryz.func78, Tryz.ntmps78
  go_wp2
  go_ret
  exact ⟨rfl, rfl⟩
set_option maxRecDepth 8000 in
set_option maxHeartbeats 1000000 in
theorem pfields_19 (w : World) : Calls Tryz.prog 78 #[.int .i64 19] w fun e w' => e = .returned (.string (bstr (fieldsOf 19))) ∧ w = w' := by
  have H : Hid (.string (bstr (fieldsOf 19)) = Value.string { data := #[77, 68, 80] }) := Lib.hid (congrArg Value.string (by decide +kernel))
  rw [H.out]
  clear H
  go_enter Tryz.func78, Tryz.ntmps78
  go_wp2
  go_ret
  exact ⟨rfl, rfl⟩
set_option maxRecDepth 8000 in
set_option maxHeartbeats 1000000 in
theorem pfields_20 (w : World) : Calls Tryz.prog 78 #[.int .i64 20] w fun e w' => e = .returned (.string (bstr (fieldsOf 20))) ∧ w = w' := by
  have H : Hid (.string (bstr (fieldsOf 20)) = Value.string { data := #[] }) := Lib.hid (congrArg Value.string (by decide +kernel))
  rw [H.out]
  clear H
  go_enter Tryz.func78, Tryz.ntmps78
  go_wp2
  go_ret
  exact ⟨rfl, rfl⟩
set_option maxRecDepth 8000 in
set_option maxHeartbeats 1000000 in
theorem pfields_21 (w : World) : Calls Tryz.prog 78 #[.int .i64 21] w fun e w' => e = .returned (.string (bstr (fieldsOf 21))) ∧ w = w' := by
  have H : Hid (.string (bstr (fieldsOf 21)) = Value.string { data := #[] }) := Lib.hid (congrArg Value.string (by decide +kernel))
  rw [H.out]
  clear H
  go_enter Tryz.func78, Tryz.ntmps78
  go_wp2
  go_ret
  exact ⟨rfl, rfl⟩
set_option maxRecDepth 8000 in
set_option maxHeartbeats 1000000 in
theorem pfields_22 (w : World) : Calls Tryz.prog 78 #[.int .i64 22] w fun e w' => e = .returned (.string (bstr (fieldsOf 22))) ∧ w = w' := by
  have H : Hid (.string (bstr (fieldsOf 22)) = Value.string { data := #[77, 81] }) := Lib.hid (congrArg Value.string (by decide +kernel))
  rw [H.out]
  clear H
  go_enter Tryz.func78, Tryz.ntmps78
  go_wp2
  go_ret
  exact ⟨rfl, rfl⟩
set_option maxRecDepth 8000 in
set_option maxHeartbeats 1000000 in
theorem pfields_else (k : Int) (w : World) (h : k < 1 ∨ 22 < k) : Calls Tryz.prog 78 #[.int .i64 k] w fun e w' => e = .returned (.string (bstr (fieldsOf k))) ∧ w = w' := by
  have hf : fieldsOf k = [] := by
    unfold fieldsOf
    repeat rw [if_neg (by omega)]
  have H : Hid (.string (bstr (fieldsOf k)) = Value.string { data := #[] }) := Lib.hid (by rw [hf]; exact congrArg Value.string (by decide +kernel))
  rw [H.out]
  have b1 : (k == 1) = false := beq_eq_false_iff_ne.2 (by omega)
  have b2 : (k == 2) = false := beq_eq_false_iff_ne.2 (by omega)
  have b3 : (k == 3) = false := beq_eq_false_iff_ne.2 (by omega)
  have b4 : (k == 4) = false := beq_eq_false_iff_ne.2 (by omega)
  have b5 : (k == 5) = false := beq_eq_false_iff_ne.2 (by omega)
  have b6 : (k == 6) = false := beq_eq_false_iff_ne.2 (by omega)
  have b7 : (k == 7) = false := beq_eq_false_iff_ne.2 (by omega)
  have b8 : (k == 8) = false := beq_eq_false_iff_ne.2 (by omega)
  have b9 : (k == 9) = false := beq_eq_false_iff_ne.2 (by omega)
  have b10 : (k == 10) = false := beq_eq_false_iff_ne.2 (by omega)
  have b11 : (k == 11) = false := beq_eq_false_iff_ne.2 (by omega)
  have b12 : (k == 12) = false := beq_eq_false_iff_ne.2 (by omega)
  have b13 : (k == 13) = false := beq_eq_false_iff_ne.2 (by omega)
  have b14 : (k == 14) = false := beq_eq_false_iff_ne.2 (by omega)
  have b15 : (k == 15) = false := beq_eq_false_iff_ne.2 (by omega)
  have b16 : (k == 16) = false := beq_eq_false_iff_ne.2 (by omega)
  have b17 : (k == 17) = false := beq_eq_false_iff_ne.2 (by omega)
  have b18 : (k == 18) = false := beq_eq_false_iff_ne.2 (by omega)
  have b19 : (k == 19) = false := beq_eq_false_iff_ne.2 (by omega)
  have b20 : (k == 20) = false := beq_eq_false_iff_ne.2 (by omega)
  have b21 : (k == 21) = false := beq_eq_false_iff_ne.2 (by omega)
  have b22 : (k == 22) = false := beq_eq_false_iff_ne.2 (by omega)
  clear H hf h
  go_enter Tryz.func78, Tryz.ntmps78
  go_wp2
  go_ret
  exact ⟨rfl, rfl⟩
theorem pfields_any (k : Int) (w : World) : Calls Tryz.prog 78 #[.int .i64 k] w fun e w' => e = .returned (.string (bstr (fieldsOf k))) ∧ w = w' := by
  by_cases h1 : k = 1
  · subst h1; exact pfields_1 w
  by_cases h2 : k = 2
  · subst h2; exact pfields_2 w
  by_cases h3 : k = 3
  · subst h3; exact pfields_3 w
  by_cases h4 : k = 4
  · subst h4; exact pfields_4 w
  by_cases h5 : k = 5
  · subst h5; exact pfields_5 w
  by_cases h6 : k = 6
  · subst h6; exact pfields_6 w
  by_cases h7 : k = 7
  · subst h7; exact pfields_7 w
  by_cases h8 : k = 8
  · subst h8; exact pfields_8 w
  by_cases h9 : k = 9
  · subst h9; exact pfields_9 w
  by_cases h10 : k = 10
  · subst h10; exact pfields_10 w
  by_cases h11 : k = 11
  · subst h11; exact pfields_11 w
  by_cases h12 : k = 12
  · subst h12; exact pfields_12 w
  by_cases h13 : k = 13
  · subst h13; exact pfields_13 w
  by_cases h14 : k = 14
  · subst h14; exact pfields_14 w
  by_cases h15 : k = 15
  · subst h15; exact pfields_15 w
  by_cases h16 : k = 16
  · subst h16; exact pfields_16 w
  by_cases h17 : k = 17
  · subst h17; exact pfields_17 w
  by_cases h18 : k = 18
  · subst h18; exact pfields_18 w
  by_cases h19 : k = 19
  · subst h19; exact pfields_19 w
  by_cases h20 : k = 20
  · subst h20; exact pfields_20 w
  by_cases h21 : k = 21
  · subst h21; exact pfields_21 w
  by_cases h22 : k = 22
  · subst h22; exact pfields_22 w
  exact pfields_else k w (by omega)
set_option maxRecDepth 8000 in
set_option maxHeartbeats 1000000 in
theorem pside_any (k : Int) (w : World) : Calls Tryz.prog 100 #[.int .i64 k] w fun e w' => e = .returned (.tuple #[.int .i64 1, .int .i64 2]) ∧ w = w' := by
  by_cases h2 : k = 2
  · subst h2
    go_enter Tryz.func100, Tryz.ntmps100
    go_wp2
    go_ret2
    exact ⟨rfl, rfl⟩
  · have b2 : (k == 2) = false := beq_eq_false_iff_ne.2 h2
    clear h2
    go_enter Tryz.func100, Tryz.ntmps100
    go_wp2
    go_ret2
    exact ⟨rfl, rfl⟩
set_option maxRecDepth 8000 in
set_option maxHeartbeats 1000000 in
theorem pquant_any (k : Int) (w : World) : Calls Tryz.prog 101 #[.int .i64 k] w fun e w' => e = .returned (.tuple #[.int .i64 (loQ k), .int .i64 (hiQ k)]) ∧ w = w' := by
  by_cases h6 : k = 6
  · subst h6
    rw [show loQ 6 = 0 from rfl, show hiQ 6 = 1000000000000 from rfl]
    go_enter Tryz.func101, Tryz.ntmps101
    go_wp2
    go_ret2
    exact ⟨rfl, rfl⟩
  by_cases h7 : k = 7
  · subst h7
    rw [show loQ 7 = 1 from rfl, show hiQ 7 = 1000000000 from rfl]
    go_enter Tryz.func101, Tryz.ntmps101
    go_wp2
    go_ret2
    exact ⟨rfl, rfl⟩
  by_cases h17 : k = 17
  · subst h17
    rw [show loQ 17 = 1 from rfl, show hiQ 17 = 1000000000 from rfl]
    go_enter Tryz.func101, Tryz.ntmps101
    go_wp2
    go_ret2
    exact ⟨rfl, rfl⟩
  by_cases h10 : k = 10
  · subst h10
    rw [show loQ 10 = 1 from rfl, show hiQ 10 = 1000000 from rfl]
    go_enter Tryz.func101, Tryz.ntmps101
    go_wp2
    go_ret2
    exact ⟨rfl, rfl⟩
  rw [show loQ k = 1 from by unfold loQ; rw [if_neg h6], show hiQ k = 9223372036854775807 from by unfold hiQ; rw [if_neg h6, if_neg (by omega), if_neg h10]]
  have b6 : (k == 6) = false := beq_eq_false_iff_ne.2 h6
  have b7 : (k == 7) = false := beq_eq_false_iff_ne.2 h7
  have b17 : (k == 17) = false := beq_eq_false_iff_ne.2 h17
  have b10 : (k == 10) = false := beq_eq_false_iff_ne.2 h10
  clear h6 h7 h17 h10
  go_enter Tryz.func101, Tryz.ntmps101
  go_wp2
  go_ret2
  exact ⟨rfl, rfl⟩
set_option maxRecDepth 8000 in
set_option maxHeartbeats 1000000 in
theorem pprice_any (k : Int) (w : World) : Calls Tryz.prog 102 #[.int .i64 k] w fun e w' => e = .returned (.tuple #[.int .i64 (loP k), .int .i64 (hiP k)]) ∧ w = w' := by
  by_cases h : k = 19
  · subst h
    rw [show loP 19 = -1152921504606846976 from rfl, show hiP 19 = 1152921504606846976 from rfl]
    go_enter Tryz.func102, Tryz.ntmps102
    go_wp2
    go_ret2
    exact ⟨rfl, rfl⟩
  · rw [show loP k = 1 from by unfold loP; rw [if_neg h], show hiP k = 1000000000000 from by unfold hiP; rw [if_neg h]]
    have b : (k == 19) = false := beq_eq_false_iff_ne.2 h
    clear h
    go_enter Tryz.func102, Tryz.ntmps102
    go_wp2
    go_ret2
    exact ⟨rfl, rfl⟩
end Go.Proofs.YtmpipjangbedkaaGreat
