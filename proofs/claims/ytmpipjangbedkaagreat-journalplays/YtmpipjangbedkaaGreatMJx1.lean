import Derived.Test.YtmpipjangbedkaaGreatMOkP
import Derived.Test.YtmpipjangbedkaaGreatMTp6
import Derived.Test.YtmpipjangbedkaaGreatMFr6
import Derived.Test.YtmpipjangbedkaaGreatMBst
import Derived.Laws.BytesString
import Derived.Laws.Cells
import Derived.Deep.QuietTactic
import Derived.BigQuiet
/-
  The walks of the reference's StartJournal and AddJournal; what the program's journal and the reference's tell is the same.
-/
namespace Go.Proofs.YtmpipjangbedkaaGreat
set_option maxRecDepth 8000
open Go Go.RowKit
set_option linter.unusedVariables false

def Tp.rjstart (t : Tp) (cf : Cfg) : Tp × Int := if planOk cf then (if t.down then (t, 15) else if 0 < t.all.length then (t, 4) else t.rappend (recL (planB cf 6))) else (t, 1)
def Tp.rjadd (t : Tp) (e : Ev) : Tp × Int := if rightE e then t.rappend (recL (textE e)) else (t, 1)
theorem Same.jstart {t s : Tp} (h : Same t s) (cf : Cfg) : Same (t.jstart cf).1 (s.rjstart cf).1 ∧ (t.jstart cf).2 = (s.rjstart cf).2 := by
  unfold Tp.jstart Tp.rjstart
  rw [h.down, h.all]
  cases planOk cf with
  | false => exact ⟨h, rfl⟩
  | true =>
    cases hd : s.down with
    | true => exact ⟨h, rfl⟩
    | false =>
      simp only [Bool.false_eq_true, if_false, if_true]
      by_cases h0 : 0 < s.all.length
      · rw [if_pos h0, if_pos h0]; exact ⟨h, rfl⟩
      · rw [if_neg h0, if_neg h0]; exact h.append _
theorem Same.jadd {t s : Tp} (h : Same t s) (e : Ev) : Same (t.jadd e).1 (s.rjadd e).1 ∧ (t.jadd e).2 = (s.rjadd e).2 := by
  unfold Tp.jadd Tp.rjadd
  cases rightE e with
  | false => exact ⟨h, rfl⟩
  | true => exact h.append _
theorem Same.jopen {t s : Tp} (h : Same t s) : Same t.jopen.1 s.ropen.1 ∧ t.jopen.2 = s.ropen.2 := by
  unfold Tp.jopen Tp.ropen
  obtain ⟨h1, h2⟩ := h.cut (wholeOf (recs s.all))
  rw [h.down, h.all, h2]
  cases hd : s.down with
  | true => exact ⟨h, rfl⟩
  | false =>
    simp only [Bool.false_eq_true, if_false]
    by_cases hw : wholeOf (recs s.all) < s.all.length
    · rw [if_pos hw, if_pos hw]
      by_cases hc : (s.rcut (wholeOf (recs s.all))).2 = 0
      · rw [if_pos hc, if_pos hc]; exact ⟨h1, rfl⟩
      · rw [if_neg hc, if_neg hc]; exact ⟨h1, rfl⟩
    · rw [if_neg hw, if_neg hw]; exact ⟨h, rfl⟩
set_option maxRecDepth 8000 in
set_option maxHeartbeats 2000000 in
theorem radd_any (w : World) (base b : Nat) (v : Value) (t : Tp) (e : Ev) (ok : e.Ok) (h : TapeAt true w base b v t) :
    Calls Tryz.prog 35 #[.pointer (some ⟨b, 0, none⟩), e.v] w (WentC true w base b v (t.rjadd e).1 (t.rjadd e).2) := by
  have HC0 : Hid (EvAt (w.alloc (.cells e.cells.toArray 51)) w.heap.size e) := Lib.hid (Rec.new w _ e.cells _ rfl)
  have HB0 : Hid (Below w.heap.size w (w.alloc (.cells e.cells.toArray 51))) := Lib.hid ((Below.refl _ _).alloc (Nat.le_refl _) _)
  have CP := Lib.hid (putev_any e ok (w.alloc (.cells e.cells.toArray 51)))
  have H := Lib.hid h
  unfold Tp.rjadd
  cases hr : rightE e with
  | false =>
    rw [show putE? e = ([], 1) from by unfold putE?; rw [hr]; rfl] at CP
    obtain ⟨c0, c1, c2, c3, c4, c5, c6, c7⟩ := HC0.out.reads
    unfold Ev.cells at c0 c1 c2 c3 c4 c5 c6 c7
    unfold Ev.v Ev.cells at CP
    unfold Ev.v
    clear h hr ok
    go_enter Tryz.func35, Tryz.ntmps35
    go_wp2_with (go_at_call 16; (with_reducible refine CP.out.mono ?_); rintro r w1 ⟨v1, rfl, hv, hb⟩; have HB1 := Lib.hid (HB0.out.trans (hb.mono HB0.out.size)); clear hv hb)
    go_ret
    exact ⟨rfl, went_keep0 H.out HB1.out⟩
  | true =>
    rw [show putE? e = (textE e, 0) from by unfold putE?; rw [hr]; rfl] at CP
    have HG : Hid (Good e) := Lib.hid ⟨ok, hr⟩
    have HOR := Lib.hid (oct_rec (textE_oct HG.out) (textE_len HG.out))
    obtain ⟨c0, c1, c2, c3, c4, c5, c6, c7⟩ := HC0.out.reads
    unfold Ev.cells at c0 c1 c2 c3 c4 c5 c6 c7
    unfold Ev.v Ev.cells at CP
    unfold Ev.v
    clear h hr ok
    go_enter Tryz.func35, Tryz.ntmps35
    go_wp2_with (first
      | (go_at_call 16; (with_reducible refine CP.out.mono ?_); rintro r w1 ⟨v1, rfl, hv, hb⟩; obtain ⟨A1, c1, rfl, hB1, hl1, hc1, hA1, hlow⟩ := OwnB.form hv; have HB1 := Lib.hid (HB0.out.trans (hb.mono HB0.out.size)); have CF := Lib.hid (rframe_any A1 (textE e) c1 w1 hB1 (textE_oct HG.out) hA1 (textE_len HG.out)); clear hv hb hB1 hl1 hc1 hA1 hlow)
      | (go_at_call 14; (with_reducible refine CF.out.mono ?_); rintro r w2 ⟨v2, rfl, hv, hb⟩; obtain ⟨A2, c2, rfl, hB2, hl2, hc2, hA2, hlow⟩ := OwnB.form hv; have HB2 := Lib.hid (HB1.out.trans (hb.mono HB1.out.size)); have CA := Lib.hid (rappend_any w2 base b v t A2 _ c2 (recL (textE e)) rfl hB2 HOR.out hA2 hl2 hc2 (fun bb off e h0 hf => by have h1 := hlow _ _ _ e; have h2 := (H.out.lt hf).2; have h3 := HB1.out.size; omega) (H.out.keep HB2.out)); clear hv hb hB2 hl2 hc2 hA2 hlow)
      | (go_at_call 19; (with_reducible refine CA.out.mono ?_); rintro r w3 ⟨rfl, h3⟩; have H3 := Lib.hid h3; clear h3))
    go_ret
    exact ⟨rfl, Went.from (Touch.of_below _ HB2.out) (Near.refl _ _) H3.out⟩
set_option maxRecDepth 8000 in
set_option maxHeartbeats 2000000 in
theorem rstart_any (w : World) (base b : Nat) (v : Value) (t : Tp) (cf : Cfg) (ok : CfgI cf) (A : Option Addr) (n c : Nat) (hn : n = cf.insts.length) (hI : InsM w A cf.insts) (h : TapeAt true w base b v t) :
    Calls Tryz.prog 34 #[.pointer (some ⟨b, 0, none⟩), cf.v (.slice A n c)] w (WentC true w base b v (t.rjstart cf).1 (t.rjstart cf).2) := by
  have HC0 : Hid (CfAt (w.alloc (.cells (cf.cells (.slice A n c)).toArray 31)) w.heap.size cf (.slice A n c)) := Lib.hid (Rec.new w _ (cf.cells (.slice A n c)) _ rfl)
  have HB0 : Hid (Below w.heap.size w (w.alloc (.cells (cf.cells (.slice A n c)).toArray 31))) := Lib.hid ((Below.refl _ _).alloc (Nat.le_refl _) _)
  have CP := Lib.hid (rputplan_any cf ok A n c _ hn (hI.below HB0.out))
  have H := Lib.hid h
  have HF : Hid (∀ W, Below w.heap.size w W → ∃ A' c', v = .slice A' t.all.length c' ∧ W.cell? ⟨b, 0, none⟩ = some (.slice A' t.all.length c') ∧ W.cell? ⟨b, 5, none⟩ = some (.bool t.down)) := Lib.hid (fun W hW => by
    obtain ⟨A', c', e, _⟩ := h.own.form
    obtain ⟨q0, _, _, _, _, q5, _⟩ := (h.keep hW).rreads
    rw [e] at q0
    exact ⟨A', c', e, q0, q5⟩)
  unfold Tp.rjstart
  cases hr : planOk cf with
  | false =>
    rw [show putP cf = ([], 1) from by unfold putP; rw [hr]; rfl] at CP
    obtain ⟨c0, c1, c2, c3, c4, c5, c6⟩ := HC0.out.reads
    unfold Cfg.cells at c0 c1 c2 c3 c4 c5 c6
    unfold Cfg.v Cfg.cells at CP
    unfold Cfg.v
    clear h hr ok hn hI
    go_enter Tryz.func34, Tryz.ntmps34
    go_wp2_with (go_at_call 13; (with_reducible refine CP.out.mono ?_); rintro r w1 ⟨v1, rfl, hv, hb⟩; have HB1 := Lib.hid (HB0.out.trans (hb.mono HB0.out.size)); clear hv hb)
    go_ret
    exact ⟨rfl, went_keep0 H.out HB1.out⟩
  | true =>
    rw [show putP cf = (planB cf 6, 0) from by unfold putP; rw [hr]; rfl] at CP
    have HOC := Lib.hid (planB_oct cf 6)
    have HL := Lib.hid (planB_400 ok hr)
    have HOR := Lib.hid (oct_rec HOC.out HL.out)
    obtain ⟨c0, c1, c2, c3, c4, c5, c6⟩ := HC0.out.reads
    unfold Cfg.cells at c0 c1 c2 c3 c4 c5 c6
    unfold Cfg.v Cfg.cells at CP
    unfold Cfg.v
    clear h hr ok hn hI
    rw [if_pos rfl]
    cases hd : t.down with
    | true =>
      rw [hd] at HF
      rw [if_pos rfl]
      clear hd
      go_enter Tryz.func34, Tryz.ntmps34
      go_wp2_with (go_at_call 13; (with_reducible refine CP.out.mono ?_); rintro r w1 ⟨v1, rfl, hv, hb⟩; have HB1 := Lib.hid (HB0.out.trans (hb.mono HB0.out.size)); obtain ⟨_, _, _, f0, f5⟩ := HF.out w1 HB1.out; clear hv hb)
      go_ret
      exact ⟨rfl, went_keep0 H.out HB1.out⟩
    | false =>
      rw [hd] at HF
      rw [if_neg (by decide)]
      by_cases h0 : 0 < t.all.length
      · rw [if_pos h0]
        have hg : decide ((t.all.length : Int) > 0) = true := decide_eq_true (by omega)
        clear hd
        go_enter Tryz.func34, Tryz.ntmps34
        go_wp2_with (go_at_call 13; (with_reducible refine CP.out.mono ?_); rintro r w1 ⟨v1, rfl, hv, hb⟩; have HB1 := Lib.hid (HB0.out.trans (hb.mono HB0.out.size)); obtain ⟨_, _, _, f0, f5⟩ := HF.out w1 HB1.out; clear hv hb)
        go_ret
        exact ⟨rfl, went_keep0 H.out HB1.out⟩
      · rw [if_neg h0]
        have hz : t.all.length = 0 := by omega
        rw [hz] at HF
        clear hd h0
        go_enter Tryz.func34, Tryz.ntmps34
        go_wp2_with (first
          | (go_at_call 13; (with_reducible refine CP.out.mono ?_); rintro r w1 ⟨v1, rfl, hv, hb⟩; have HB1 := Lib.hid (HB0.out.trans (hb.mono HB0.out.size)); obtain ⟨A1, c1, rfl, hB1, hl1, hc1, hA1, hlow⟩ := OwnB.form hv; have CF := Lib.hid (rframe_any A1 (planB cf 6) c1 w1 hB1 HOC.out hA1 HL.out); obtain ⟨_, _, _, f0, f5⟩ := HF.out w1 HB1.out; clear hv hb hB1 hl1 hc1 hA1 hlow)
          | (go_at_call 14; (with_reducible refine CF.out.mono ?_); rintro r w2 ⟨v2, rfl, hv, hb⟩; obtain ⟨A2, c2, rfl, hB2, hl2, hc2, hA2, hlow⟩ := OwnB.form hv; have HB2 := Lib.hid (HB1.out.trans (hb.mono HB1.out.size)); have CA := Lib.hid (rappend_any w2 base b v t A2 _ c2 (recL (planB cf 6)) rfl hB2 HOR.out hA2 hl2 hc2 (fun bb off e h0 hf => by have h1 := hlow _ _ _ e; have h2 := (H.out.lt hf).2; have h3 := HB1.out.size; omega) (H.out.keep HB2.out)); clear hv hb hB2 hl2 hc2 hA2 hlow)
          | (go_at_call 19; (with_reducible refine CA.out.mono ?_); rintro r w3 ⟨rfl, h3⟩; have H3 := Lib.hid h3; clear h3))
        go_ret
        exact ⟨rfl, Went.from (Touch.of_below _ HB2.out) (Near.refl _ _) H3.out⟩
end Go.Proofs.YtmpipjangbedkaaGreat

/-
  The program's tape and the reference's beside each other, from a state on.
-/
namespace Go.Proofs.YtmpipjangbedkaaGreat
set_option maxRecDepth 8000
open Go Go.RowKit
set_option linter.unusedVariables false

/-- A tape of the program beside one of the reference; X: their blocks. -/
def Duo (w : World) (B b b' : Nat) (t s : Tp) (X : Nat → Prop) : Prop :=
  ∃ v v', TapeAt false w B b v t ∧ TapeAt true w B b' v' s ∧ (∀ k, foot b v k → ¬ foot b' v' k) ∧ ∀ k, X k ↔ (foot b v k ∨ foot b' v' k)
section
variable {w w' : World} {B b b' : Nat} {t s : Tp} {X Y : Nat → Prop}
theorem Duo.lt (h : Duo w B b b' t s X) {k : Nat} (hk : X k) : B ≤ k ∧ k < w.heap.size := by
  obtain ⟨v, v', h1, h2, _, h4⟩ := h
  rcases (h4 k).1 hk with h5 | h5
  · exact h1.lt h5
  · exact h2.lt h5
theorem Duo.size (h : Duo w B b b' t s X) : B ≤ w.heap.size := by
  obtain ⟨v, v', h1, _⟩ := h
  have := h1.low; have := h1.box.lt; omega
theorem Duo.touch (h : Duo w B b b' t s X) (ht : Touch Y w w') (hx : ∀ k, X k → ¬ Y k) : Duo w' B b b' t s X := by
  obtain ⟨v, v', h1, h2, h3, h4⟩ := h
  exact ⟨v, v', h1.touch ht (fun k hk => hx k ((h4 k).2 (.inl hk))), h2.touch ht (fun k hk => hx k ((h4 k).2 (.inr hk))), h3, h4⟩
theorem Duo.keep (h : Duo w B b b' t s X) (hb : Below w.heap.size w w') : Duo w' B b b' t s X := h.touch (Touch.of_below (fun _ => False) hb) (fun _ _ h => h)
/-- What a deed on both may turn. -/
def DuoC (w : World) (B b b' : Nat) (t s : Tp) (X : Nat → Prop) (w' : World) : Prop := ∃ X', Duo w' B b b' t s X' ∧ Touch X w w' ∧ ∀ k, X' k → X k ∨ w.heap.size ≤ k
theorem Duo.first {v v' : Value} {t' : Tp} (h1 : TapeAt false w B b v t) (h2 : TapeAt true w B b' v' s) (h3 : ∀ k, foot b v k → ¬ foot b' v' k) (hg : Went false w B b v t' w') :
    ∃ v1, TapeAt false w' B b v1 t' ∧ TapeAt true w' B b' v' s ∧ (∀ k, foot b v1 k → ¬ foot b' v' k) ∧ Touch (foot b v) w w' ∧ Near w v v1 := by
  obtain ⟨v1, g1, g2, g3⟩ := hg
  refine ⟨v1, g1, h2.touch g2 (fun k hk hf => h3 k hf hk), fun k hk hf => ?_, g2, g3⟩
  rcases hk with rfl | hk
  · exact h3 _ (.inl rfl) hf
  · rcases g3 k hk with h5 | h5
    · exact h3 k (.inr h5) hf
    · have := h2.lt hf; omega
theorem Duo.second {v v' : Value} {s' : Tp} (h1 : TapeAt false w B b v t) (h2 : TapeAt true w B b' v' s) (h3 : ∀ k, foot b v k → ¬ foot b' v' k) (hg : Went true w B b' v' s' w') :
    ∃ v1, TapeAt false w' B b v t ∧ TapeAt true w' B b' v1 s' ∧ (∀ k, foot b v k → ¬ foot b' v1 k) ∧ Touch (foot b' v') w w' ∧ Near w v' v1 := by
  obtain ⟨v1, g1, g2, g3⟩ := hg
  refine ⟨v1, h1.touch g2 (fun k hk hf => h3 k hk hf), g1, fun k hk hf => ?_, g2, g3⟩
  rcases hf with rfl | hf
  · exact h3 _ hk (.inl rfl)
  · rcases g3 k hf with h5 | h5
    · exact h3 k hk (.inr h5)
    · have := h1.lt hk; omega
/-- Two deeds, the program's tape first, or the reference's. -/
theorem DuoC.two {w1 : World} {v v' v1 v1' : Value} {t' s' : Tp} (hX : ∀ k, X k ↔ (foot b v k ∨ foot b' v' k)) (a1 : TapeAt false w' B b v1 t') (a2 : TapeAt true w' B b' v1' s') (a3 : ∀ k, foot b v1 k → ¬ foot b' v1' k) (ht : Touch X w w') (n1 : ∀ k, v1.ownBlock = some k → v.ownBlock = some k ∨ w.heap.size ≤ k) (n2 : ∀ k, v1'.ownBlock = some k → v'.ownBlock = some k ∨ w.heap.size ≤ k) : DuoC w B b b' t' s' X w' := by
  refine ⟨fun k => foot b v1 k ∨ foot b' v1' k, ⟨v1, v1', a1, a2, a3, fun _ => Iff.rfl⟩, ht, fun k hk => ?_⟩
  rcases hk with (rfl | hk) | (rfl | hk)
  · exact .inl ((hX _).2 (.inl (.inl rfl)))
  · rcases n1 k hk with h | h
    · exact .inl ((hX k).2 (.inl (.inr h)))
    · exact .inr h
  · exact .inl ((hX _).2 (.inr (.inl rfl)))
  · rcases n2 k hk with h | h
    · exact .inl ((hX k).2 (.inr (.inr h)))
    · exact .inr h
end
/-- Both, with the values of their slices told. -/
def Two (B b b' : Nat) (t s : Tp) (W : World) (v v' : Value) : Prop := TapeAt false W B b v t ∧ TapeAt true W B b' v' s ∧ ∀ k, foot b v k → ¬ foot b' v' k
section
variable {w0 w : World} {B b b' : Nat} {t s : Tp} {X : Nat → Prop} {v v' v0 v0' : Value}
/-- From the state w0 (its slices v0, v0') on. -/
structure On (w0 : World) (B b b' : Nat) (v0 v0' : Value) (t s : Tp) (W : World) : Prop where
  two : ∃ v v', Two B b b' t s W v v' ∧ Near w0 v0 v ∧ Near w0 v0' v'
  touch : Touch (fun k => foot b v0 k ∨ foot b' v0' k) w0 W
theorem Near.next {w0 w : World} {v0 v v1 : Value} (h : Near w0 v0 v) (hs : w0.heap.size ≤ w.heap.size) (h1 : Near w v v1) : Near w0 v0 v1 := fun k hk => by
  rcases h1 k hk with h2 | h2
  · exact h k h2
  · exact .inr (by omega)
theorem On.start (h : Two B b b' t s w v v') : On w B b b' v v' t s w := ⟨⟨v, v', h, Near.refl _ _, Near.refl _ _⟩, Touch.refl _ _⟩
theorem On.keep {W : World} (h : On w0 B b b' v0 v0' t s w) (hb : Below w.heap.size w W) : On w0 B b b' v0 v0' t s W := by
  obtain ⟨⟨v, v', ⟨h1, h2, h3⟩, n1, n2⟩, ht⟩ := h
  exact ⟨⟨v, v', ⟨h1.keep hb, h2.keep hb, h3⟩, n1, n2⟩, ht.trans (Touch.of_below (fun _ => False) hb) (fun _ _ h => h.elim)⟩
theorem foot_near {w0 : World} {b : Nat} {v0 v : Value} (n : Near w0 v0 v) {i : Nat} (hi : i < w0.heap.size) (h : foot b v i) : foot b v0 i := by
  rcases h with h | h
  · exact .inl h
  · rcases n i h with h2 | h2
    · exact .inr h2
    · omega
theorem On.first {W : World} {t' : Tp} (ht0 : Touch (fun k => foot b v0 k ∨ foot b' v0' k) w0 w) (h : Two B b b' t s w v v') (n1 : Near w0 v0 v) (n2 : Near w0 v0' v') (hg : Went false w B b v t' W) : On w0 B b b' v0 v0' t' s W := by
  obtain ⟨v1, g1, g2, g3, g4, g5⟩ := Duo.first h.1 h.2.1 h.2.2 hg
  exact ⟨⟨v1, v', ⟨g1, g2, g3⟩, n1.next ht0.size g5, n2⟩, ht0.trans g4 (fun i hi hf => .inl (foot_near n1 hi hf))⟩
theorem On.second {W : World} {s' : Tp} (ht0 : Touch (fun k => foot b v0 k ∨ foot b' v0' k) w0 w) (h : Two B b b' t s w v v') (n1 : Near w0 v0 v) (n2 : Near w0 v0' v') (hg : Went true w B b' v' s' W) : On w0 B b b' v0 v0' t s' W := by
  obtain ⟨v1, g1, g2, g3, g4, g5⟩ := Duo.second h.1 h.2.1 h.2.2 hg
  exact ⟨⟨v, v1, ⟨g1, g2, g3⟩, n1, n2.next ht0.size g5⟩, ht0.trans g4 (fun i hi hf => .inr (foot_near n2 hi hf))⟩
theorem On.size (h : On w0 B b b' v0 v0' t s w) : B ≤ w.heap.size := by
  obtain ⟨⟨v, v', ⟨h1, _⟩, _⟩, _⟩ := h
  have := h1.low; have := h1.box.lt; omega
/-- The calls on the program's tape. -/
theorem On.append (h : On w0 B b b' v0 v0' t s w) (A : Option Addr) (n c : Nat) (x : List Nat) (hnx : n = x.length) (hx : Byts w A x) (hxo : Oct x) (hA : A = none → c = 0) (hxc : x.length ≤ c) (hcm : c ≤ 9223372036854775807) (hlow : ∀ bb off, A = some ⟨bb, off, none⟩ → 0 < x.length → bb < B) :
    Calls Tryz.prog 18 #[.pointer (some ⟨b, 0, none⟩), .slice A n c] w fun e w' => e = .returned (.int .i64 (t.append x).2) ∧ On w0 B b b' v0 v0' (t.append x).1 s w' := by
  obtain ⟨⟨v, v', h2, n1, n2⟩, ht⟩ := h
  exact (append_any w B b v t A n c x hnx hx hxo hA hxc hcm (fun bb off e h0 hf => by have := hlow bb off e h0; have := h2.1.lt hf; omega) h2.1).mono (fun e w' ⟨e1, e2⟩ => ⟨e1, On.first ht h2 n1 n2 e2⟩)
theorem On.rappend (h : On w0 B b b' v0 v0' t s w) (A : Option Addr) (n c : Nat) (x : List Nat) (hnx : n = x.length) (hx : Byts w A x) (hxo : Oct x) (hA : A = none → c = 0) (hxc : x.length ≤ c) (hcm : c ≤ 9223372036854775807) (hlow : ∀ bb off, A = some ⟨bb, off, none⟩ → 0 < x.length → bb < B) :
    Calls Tryz.prog 19 #[.pointer (some ⟨b', 0, none⟩), .slice A n c] w fun e w' => e = .returned (.int .i64 (s.rappend x).2) ∧ On w0 B b b' v0 v0' t (s.rappend x).1 w' := by
  obtain ⟨⟨v, v', h2, n1, n2⟩, ht⟩ := h
  exact (rappend_any w B b' v' s A n c x hnx hx hxo hA hxc hcm (fun bb off e h0 hf => by have := hlow bb off e h0; have := h2.2.1.lt hf; omega) h2.2.1).mono (fun e w' ⟨e1, e2⟩ => ⟨e1, On.second ht h2 n1 n2 e2⟩)
theorem On.cut (h : On w0 B b b' v0 v0' t s w) (n : Int) : Calls Tryz.prog 50 #[.pointer (some ⟨b, 0, none⟩), .int .i64 n] w fun e w' => e = .returned (.int .i64 (t.cut n).2) ∧ On w0 B b b' v0 v0' (t.cut n).1 s w' := by
  obtain ⟨⟨v, v', h2, n1, n2⟩, ht⟩ := h
  exact (cut_any w B b v t n h2.1).mono (fun e w' ⟨e1, e2⟩ => ⟨e1, On.first ht h2 n1 n2 e2⟩)
theorem On.rcut (h : On w0 B b b' v0 v0' t s w) (n : Int) : Calls Tryz.prog 54 #[.pointer (some ⟨b', 0, none⟩), .int .i64 n] w fun e w' => e = .returned (.int .i64 (s.rcut n).2) ∧ On w0 B b b' v0 v0' t (s.rcut n).1 w' := by
  obtain ⟨⟨v, v', h2, n1, n2⟩, ht⟩ := h
  exact (rcut_any w B b' v' s n h2.2.1).mono (fun e w' ⟨e1, e2⟩ => ⟨e1, On.second ht h2 n1 n2 e2⟩)
theorem On.arm (h : On w0 B b b' v0 v0' t s w) (n k : Int) (hn : I64 n) (hk : I64 k) : Calls Tryz.prog 30 #[.pointer (some ⟨b, 0, none⟩), .int .i64 n, .int .i64 k] w fun e w' => e = .returned (.tuple #[]) ∧ On w0 B b b' v0 v0' (t.arm n k) s w' := by
  obtain ⟨⟨v, v', h2, n1, n2⟩, ht⟩ := h
  exact (arm_any w B b v t n k hn hk h2.1).mono (fun e w' ⟨e1, e2⟩ => ⟨e1, On.first ht h2 n1 n2 e2⟩)
theorem On.rarm (h : On w0 B b b' v0 v0' t s w) (n k : Int) (hn : I64 n) (hk : I64 k) : Calls Tryz.prog 31 #[.pointer (some ⟨b', 0, none⟩), .int .i64 n, .int .i64 k] w fun e w' => e = .returned (.tuple #[]) ∧ On w0 B b b' v0 v0' t (s.rarm n k) w' := by
  obtain ⟨⟨v, v', h2, n1, n2⟩, ht⟩ := h
  exact (rarm_any w B b' v' s n k hn hk h2.2.1).mono (fun e w' ⟨e1, e2⟩ => ⟨e1, On.second ht h2 n1 n2 e2⟩)
theorem On.wake (h : On w0 B b b' v0 v0' t s w) : Calls Tryz.prog 32 #[.pointer (some ⟨b, 0, none⟩)] w fun e w' => e = .returned (.tuple #[]) ∧ On w0 B b b' v0 v0' t.wake s w' := by
  obtain ⟨⟨v, v', h2, n1, n2⟩, ht⟩ := h
  exact (wake_any w B b v t h2.1).mono (fun e w' ⟨e1, e2⟩ => ⟨e1, On.first ht h2 n1 n2 e2⟩)
theorem On.rwake (h : On w0 B b b' v0 v0' t s w) : Calls Tryz.prog 33 #[.pointer (some ⟨b', 0, none⟩)] w fun e w' => e = .returned (.tuple #[]) ∧ On w0 B b b' v0 v0' t s.rwake w' := by
  obtain ⟨⟨v, v', h2, n1, n2⟩, ht⟩ := h
  exact (rwake_any w B b' v' s h2.2.1).mono (fun e w' ⟨e1, e2⟩ => ⟨e1, On.second ht h2 n1 n2 e2⟩)
theorem On.read (h : On w0 B b b' v0 v0' t s w) : Calls Tryz.prog 27 #[.pointer (some ⟨b, 0, none⟩)] w fun e w' => BytesC w t.readL.1 t.readL.2 e w' ∧ On w0 B b b' v0 v0' t s w' := by
  have h' := h
  obtain ⟨⟨v, v', h2, n1, n2⟩, ht⟩ := h
  exact (read_any w B b v t h2.1).mono (fun e w' h1 => ⟨h1, h'.keep (h1.elim fun _ h => h.2.2)⟩)
theorem On.rread (h : On w0 B b b' v0 v0' t s w) : Calls Tryz.prog 52 #[.pointer (some ⟨b', 0, none⟩)] w fun e w' => BytesC w s.readL.1 s.readL.2 e w' ∧ On w0 B b b' v0 v0' t s w' := by
  have h' := h
  obtain ⟨⟨v, v', h2, n1, n2⟩, ht⟩ := h
  exact (rread_any w B b' v' s h2.2.1).mono (fun e w' h1 => ⟨h1, h'.keep (h1.elim fun _ h => h.2.2)⟩)
/-- What is elder and apart stays. -/
theorem On.elder {t' s' : Tp} (h : On w0 B b b' v0 v0' t s w) (h0 : Two B b b' t' s' w0 v0 v0') : Below B w0 w := by
  have hs : B ≤ w0.heap.size := by have := h0.1.low; have := h0.1.box.lt; omega
  refine h.touch.below hs (fun k hk => ?_)
  rcases hk with hk | hk
  · exact (h0.1.lt hk).1
  · exact (h0.2.1.lt hk).1
theorem On.duo (h : On w0 B b b' v0 v0' t s w) (hX : ∀ k, X k ↔ (foot b v0 k ∨ foot b' v0' k)) : DuoC w0 B b b' t s X w := by
  obtain ⟨⟨v, v', h2, n1, n2⟩, ht⟩ := h
  exact DuoC.two (w1 := w) hX h2.1 h2.2.1 h2.2.2 (ht.mono (fun k hk => (hX k).2 hk)) n1 n2
end
section
variable {w0 w : World} {B b b' : Nat} {t s : Tp} {v v' v0 v0' : Value}
theorem On.jadd (h : On w0 B b b' v0 v0' t s w) (e : Ev) (ok : e.Ok) : Calls Tryz.prog 26 #[.pointer (some ⟨b, 0, none⟩), e.v] w fun r w' => r = .returned (.int .i64 (t.jadd e).2) ∧ On w0 B b b' v0 v0' (t.jadd e).1 s w' := by
  obtain ⟨⟨v, v', h2, n1, n2⟩, ht⟩ := h
  exact (jadd_any w B b v t e ok h2.1).mono (fun r w' ⟨e1, e2⟩ => ⟨e1, On.first ht h2 n1 n2 e2⟩)
theorem On.rjadd (h : On w0 B b b' v0 v0' t s w) (e : Ev) (ok : e.Ok) : Calls Tryz.prog 35 #[.pointer (some ⟨b', 0, none⟩), e.v] w fun r w' => r = .returned (.int .i64 (s.rjadd e).2) ∧ On w0 B b b' v0 v0' t (s.rjadd e).1 w' := by
  obtain ⟨⟨v, v', h2, n1, n2⟩, ht⟩ := h
  exact (radd_any w B b' v' s e ok h2.2.1).mono (fun r w' ⟨e1, e2⟩ => ⟨e1, On.second ht h2 n1 n2 e2⟩)
theorem On.jstart (h : On w0 B b b' v0 v0' t s w) (cf : Cfg) (ok : CfgI cf) (A : Option Addr) (n c : Nat) (hn : n = cf.insts.length) (hI : InsM w A cf.insts) : Calls Tryz.prog 24 #[.pointer (some ⟨b, 0, none⟩), cf.v (.slice A n c)] w fun r w' => r = .returned (.int .i64 (t.jstart cf).2) ∧ On w0 B b b' v0 v0' (t.jstart cf).1 s w' := by
  obtain ⟨⟨v, v', h2, n1, n2⟩, ht⟩ := h
  exact (jstart_any w B b v t cf ok A n c hn hI h2.1).mono (fun r w' ⟨e1, e2⟩ => ⟨e1, On.first ht h2 n1 n2 e2⟩)
theorem On.rjstart (h : On w0 B b b' v0 v0' t s w) (cf : Cfg) (ok : CfgI cf) (A : Option Addr) (n c : Nat) (hn : n = cf.insts.length) (hI : InsM w A cf.insts) : Calls Tryz.prog 34 #[.pointer (some ⟨b', 0, none⟩), cf.v (.slice A n c)] w fun r w' => r = .returned (.int .i64 (s.rjstart cf).2) ∧ On w0 B b b' v0 v0' t (s.rjstart cf).1 w' := by
  obtain ⟨⟨v, v', h2, n1, n2⟩, ht⟩ := h
  exact (rstart_any w B b' v' s cf ok A n c hn hI h2.2.1).mono (fun r w' ⟨e1, e2⟩ => ⟨e1, On.second ht h2 n1 n2 e2⟩)
/-- Opened: what it answers, in new memory. -/
def OpenO (w : World) (x : Cfg × List Ev × Int) (e : Ending) (w' : World) : Prop :=
  ∃ A c A' c', e = .returned (.tuple #[x.1.v (.slice A x.1.insts.length c), .slice A' x.2.1.length c', .int .i64 x.2.2]) ∧ OwnI w' w.heap.size (.slice A x.1.insts.length c) x.1.insts ∧ OwnE w' w.heap.size (.slice A' x.2.1.length c') x.2.1
theorem On.jopen (h : On w0 B b b' v0 v0' t s w) : Calls Tryz.prog 20 #[.pointer (some ⟨b, 0, none⟩)] w fun r w' => OpenO w t.jopen.2 r w' ∧ On w0 B b b' v0 v0' t.jopen.1 s w' := by
  obtain ⟨⟨v, v', h2, n1, n2⟩, ht⟩ := h
  refine (jopen_any w B b v t h2.1).mono ?_
  rintro r w' ⟨V, X, rfl, hoi, hoe, hW⟩
  obtain ⟨A, c, rfl, _⟩ := OwnL.form hoi lay_ins
  obtain ⟨A', c', rfl, _⟩ := OwnL.form hoe lay_ev
  exact ⟨⟨A, c, A', c', rfl, hoi, hoe⟩, On.first ht h2 n1 n2 hW⟩
theorem On.ropen (h : On w0 B b b' v0 v0' t s w) : Calls Tryz.prog 21 #[.pointer (some ⟨b', 0, none⟩)] w fun r w' => OpenO w s.ropen.2 r w' ∧ On w0 B b b' v0 v0' t s.ropen.1 w' ∧ Touch (foot b' v0') w0 w0 := by
  obtain ⟨⟨v, v', h2, n1, n2⟩, ht⟩ := h
  refine (ropen_any w B b' v' s h2.2.1).mono ?_
  rintro r w' ⟨V, X, rfl, hoi, hoe, hW⟩
  obtain ⟨A, c, rfl, _⟩ := OwnL.form hoi lay_ins
  obtain ⟨A', c', rfl, _⟩ := OwnL.form hoe lay_ev
  exact ⟨⟨A, c, A', c', rfl, hoi, hoe⟩, On.second ht h2 n1 n2 hW, Touch.refl _ _⟩
end
end Go.Proofs.YtmpipjangbedkaaGreat

/-
  Bytes as a string; what a record of nothing is.
-/
namespace Go.Proofs.YtmpipjangbedkaaGreat
set_option maxRecDepth 8000
open Go Go.RowKit Go.Shelf

/-- The string of bytes. -/
theorem rec_nil : recL [] = [0, 0, 255, 18, 217, 65] := by decide +kernel
theorem next_nine : nextL ([0, 0, 255, 18, 217, 65] ++ [9]) = ([], 6, 0) := by decide +kernel
theorem recs_two : recs ([0, 0, 255, 18, 217, 65] ++ [0, 0, 255, 18, 217, 65]) = [(0, []), (6, [])] := by decide +kernel
theorem whole_one : wholeOf (recs [0, 0, 255, 18, 217, 65]) = 6 := by decide +kernel
theorem crc_nine : crc [49, 50, 51, 52, 53, 54, 55, 56, 57] = 3421780262 := by decide +kernel
theorem bstr_nil : bstr [0, 0, 255, 18, 217, 65] = { data := #[0, 0, 255, 18, 217, 65] } := by decide +kernel
end Go.Proofs.YtmpipjangbedkaaGreat

/-
  The walk of novationlaw9's alike.
-/
namespace Go.Proofs.YtmpipjangbedkaaGreat
set_option maxRecDepth 8000
open Go Go.RowKit
set_option linter.unusedVariables false

theorem drewN_below (w : World) (n : Nat) : Below w.heap.size w (w.drewN n) := ⟨rfl, rfl, rfl, Nat.le_refl _, fun _ _ => rfl⟩
theorem wake_read (t : Tp) : t.wake.readL = (t.all, 0) := by unfold Tp.readL Tp.wake; rfl
set_option maxRecDepth 8000 in
set_option maxHeartbeats 4000000 in
theorem alike_any (w : World) (B b b' : Nat) (t s : Tp) (v v' : Value) (h1 : TapeAt false w B b v t) (h2 : TapeAt true w B b' v' s) (hs : Same t s) :
    Calls Tryz.prog 11 #[.pointer (some ⟨b, 0, none⟩), .pointer (some ⟨b', 0, none⟩)] w fun e w' => e = .returned (.bool true) ∧ Below w.heap.size w w' := by
  have C1 := Lib.hid (copy_any w B b v t h1)
  obtain ⟨A', c', rfl, hB', _⟩ := h2.own.form
  have HB' := Lib.hid hB'
  obtain ⟨n, hn⟩ : ∃ n, n = s.all.length := ⟨_, rfl⟩
  obtain ⟨d, hd⟩ : ∃ d, d = s.down := ⟨_, rfl⟩
  have HF : Hid (∀ W, Below w.heap.size w W → W.cell? ⟨b', 0, none⟩ = some (.slice A' n c') ∧ W.cell? ⟨b', 5, none⟩ = some (.bool d)) := Lib.hid (fun W hW => by
    obtain ⟨q0, q1, _, _, _, q5, _⟩ := (h2.keep hW).rreads
    rw [hn, hd]
    exact ⟨q0, q5⟩)
  have hdown : t.down = d := by rw [hd, hs.down]
  have CD : Hid (∀ W, Below w.heap.size w W → Calls Tryz.prog 37 #[.pointer (some ⟨b, 0, none⟩)] W fun e w' => e = .returned (.bool d) ∧ W = w') := Lib.hid (fun W hW => by rw [← hdown]; exact down_any W B b v t (h1.keep hW))
  have hk := h2.ok.len
  have hk2 := h2.ok.room
  have hkn : n ≤ 1048576 := by omega
  have HAll := Lib.hid hs.all
  have HN := Lib.hid hn
  clear h1 h2 hs hdown hn hd hB' hk hk2
  go_enter Tryz.func11, Tryz.ntmps11
  go_wp2_with (go_at_call 36; (with_reducible refine C1.out.mono ?_); rintro e w1 ⟨bc, vc, rfl, hc, hb1⟩; have HC := Lib.hid hc; have HB1 := Lib.hid hb1; obtain ⟨f0, f5⟩ := HF.out w1 hb1; clear hc hb1)
  have DR : ∀ j, Below w.heap.size w (w1.drewN j) := fun j => HB1.out.trans ((drewN_below w1 j).mono HB1.out.size)
  have CD1 := Lib.hid (fun j => (CD.out (w1.drewN j) (DR j)).mono (fun e w' (x : _ ∧ _) => (⟨x.1, j, x.2.symm⟩ : _ ∧ ∃ m, w' = w1.drewN m)))
  clear DR
  go_quiet (first
    | (go_at_call 37; with_reducible exact CD1.out _))
  have CW : Hid (Calls Tryz.prog 32 #[.pointer (some ⟨bc, 0, none⟩)] (w1.drewN nq) fun e w' => e = .returned (.tuple #[]) ∧ Went false (w1.drewN nq) w.heap.size bc vc t.wake w') := Lib.hid (wake_any _ _ bc vc t (HC.out.drewN nq))
  have HDR := Lib.hid (HB1.out.trans ((drewN_below w1 nq).mono HB1.out.size))
  have HCF := Lib.hid (HC.out.drewN nq)
  clear CD1 CD C1 f0 f5
  go_wp2_with (first
    | (go_at_call 32; (with_reducible refine CW.out.mono ?_); rintro e w2 ⟨rfl, v2, h2, ht2, hn2⟩; have CR := Lib.hid (read_any w2 _ bc v2 _ h2); rw [wake_read, HAll.out] at CR; have HB2 := Lib.hid (HDR.out.trans (ht2.below (Nat.le_trans HB1.out.size (by exact Nat.le_refl _)) (fun k hk => (HCF.out.lt hk).1))); clear h2 ht2 hn2)
    | (go_at_call 27; (with_reducible refine CR.out.mono ?_); rintro e w3 ⟨v3, rfl, ho3, hb3⟩; obtain ⟨A3, c3, rfl, hy3, _⟩ := OwnB.form ho3; have HB3 := Lib.hid (HB2.out.trans (hb3.mono HB2.out.size)); have HY3 := Lib.hid hy3; clear ho3 hb3 hy3))
  obtain ⟨f0, _⟩ := HF.out w3 HB3.out
  have hs1 : ∀ j, (convert 26 9 (.slice A3 s.all.length c3)).run Tryz.prog (w3.drewN j) = .ok (.string (bstr s.all)) (w3.drewN j) := fun j => run_bstr _ A3 s.all _ c3 rfl (HY3.out.drewN j)
  have hs2 : ∀ j, (convert 26 9 (.slice A' n c')).run Tryz.prog (w3.drewN j) = .ok (.string (bstr s.all)) (w3.drewN j) := fun j => run_bstr _ A' s.all _ c' HN.out ((HB'.out.below HB3.out).drewN j)
  go_quiet (fail)
  go_wp2
  go_ret
  exact ⟨rfl, HB3.out.trans ((drewN_below w3 _).mono HB3.out.size)⟩
end Go.Proofs.YtmpipjangbedkaaGreat
