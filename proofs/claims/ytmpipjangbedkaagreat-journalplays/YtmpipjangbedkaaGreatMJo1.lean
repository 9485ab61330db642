import Derived.Test.YtmpipjangbedkaaGreatMJx1
import Derived.Test.YtmpipjangbedkaaGreatMJk2
import Derived.Test.YtmpipjangbedkaaGreatMOkP
import Derived.Test.YtmpipjangbedkaaGreatMPl4
/-
  What JournalOpens keeps beside each other: a deck, a config, two new tapes; and two tapes opened.
-/
namespace Go.Proofs.YtmpipjangbedkaaGreat
set_option maxRecDepth 8000
open Go Go.RowKit
set_option linter.unusedVariables false

structure JO (w : World) (A : Option Addr) (l : List Int) (c hi sD kC bT bR : Nat) (cf : Cfg) (AI : Option Addr) (cI m : Nat) (W : World) : Prop where
  deck : Deck w A l c sD m W
  ok : cf.Ok
  ins : OwnI W (sD + 1) (.slice AI cf.insts.length cI) cf.insts
  insLt : ∀ k, (Value.slice AI cf.insts.length cI).ownBlock = some k → k < hi
  cfg : CfAt W kC cf (.slice AI cf.insts.length cI)
  sep : sD < kC ∧ kC < hi ∧ sD < bT ∧ bT < hi ∧ bT < bR ∧ bR < hi
  t : TapeAt false W (sD + 1) bT (.slice none 0 0) (newTp 100000)
  r : TapeAt true W (sD + 1) bR (.slice none 0 0) (newTp 100000)
  size : hi ≤ W.heap.size
section
variable {w : World} {A : Option Addr} {l : List Int} {c hi sD kC bT bR : Nat} {cf : Cfg} {AI : Option Addr} {cI m m' : Nat} {W W' : World} {X : Nat → Prop}
theorem foot_none {b k : Nat} (h : foot b (.slice none 0 0) k) : k = b := by
  rcases h with h | h
  · exact h
  · simp [Value.ownBlock] at h
theorem JO.touch (h : JO w A l c hi sD kC bT bR cf AI cI m W) (ht : Touch X W W') (hx : ∀ k, X k → k = sD ∨ hi ≤ k) (hd : Deck w A l c sD m' W') : JO w A l c hi sD kC bT bR cf AI cI m' W' := by
  obtain ⟨s1, s2, s3, s4, s5, s6⟩ := h.sep
  refine ⟨hd, h.ok, h.ins.touch ht (fun k hk hX => ?_), h.insLt, Rec.touch h.cfg ht (fun hX => ?_), h.sep, h.t.touch ht (fun k hk hX => ?_), h.r.touch ht (fun k hk hX => ?_), Nat.le_trans h.size ht.size⟩
  · have h1 := (OwnL.lt h.ins k hk).1
    have h2 := h.insLt k hk
    rcases hx k hX with h3 | h3 <;> omega
  · rcases hx _ hX with h3 | h3 <;> omega
  · have := foot_none hk
    rcases hx k hX with h3 | h3 <;> omega
  · have := foot_none hk
    rcases hx k hX with h3 | h3 <;> omega
theorem JO.keep (h : JO w A l c hi sD kC bT bR cf AI cI m W) (hb : Below W.heap.size W W') : JO w A l c hi sD kC bT bR cf AI cI m W' :=
  h.touch (Touch.of_below (fun _ => False) hb) (fun _ hk => hk.elim) (h.deck.keep hb)
theorem JO.draw (h : JO w A l c hi sD kC bT bR cf AI cI m W) (hd : Deck w A l c sD m' W') (ht : Touch (fun k => k = sD) W W') : JO w A l c hi sD kC bT bR cf AI cI m' W' :=
  h.touch ht (fun _ hk => .inl hk) hd
theorem JO.grow (h : JO w A l c hi sD kC bT bR cf AI cI m W) {v : Value} {xs : List Nat} (ho : OwnB W hi v xs) (hg : W.grownBy W' v.ownBlock) : JO w A l c hi sD kC bT bR cf AI cI m W' := by
  have hv : ∀ k, v.ownBlock = some k → hi ≤ k := fun k hk => (OwnB.lt ho k hk).1
  have h1 := h.deck.low
  obtain ⟨s1, s2, s3, s4, s5, s6⟩ := h.sep
  exact h.touch (Touch.grown hg) (fun k hk => .inr (hv k hk)) (h.deck.touch (Touch.grown hg) (fun k hk => by have := hv k hk; omega) (fun hk => by have := hv sD hk; omega))
theorem JO.cfgIn (h : JO w A l c hi sD kC bT bR cf AI cI m W) : CfgIn sD (.slice AI cf.insts.length cI) cf W := CfgIn.of h.ok h.ins h.deck
theorem JO.insM (h : JO w A l c hi sD kC bT bR cf AI cI m W) : InsM W AI cf.insts := own_insM h.ins
/-- The bytes of the call's own stay while the deck is drawn from. -/
theorem JO.own (h : JO w A l c hi sD kC bT bR cf AI cI m W) {v : Value} {xs : List Nat} (ho : OwnB W hi v xs) (ht : Touch (fun k => k = sD) W W') : OwnB W' hi v xs := by
  obtain ⟨s1, s2, s3, s4, s5, s6⟩ := h.sep
  exact ho.touch ht (fun k hk e => by have := (OwnB.lt ho k hk).1; omega)
theorem JO.two (h : JO w A l c hi sD kC bT bR cf AI cI m W) : Two (sD + 1) bT bR (newTp 100000) (newTp 100000) W (.slice none 0 0) (.slice none 0 0) := by
  obtain ⟨s1, s2, s3, s4, s5, s6⟩ := h.sep
  exact ⟨h.t, h.r, fun k hk hf => by have := foot_none hk; have := foot_none hf; omega⟩
/-- The first two calls: both get these bytes. -/
theorem JO.append (h : JO w A l c hi sD kC bT bR cf AI cI m W) (Ax : Option Addr) (n cx : Nat) (x : List Nat) (hnx : n = x.length) (hx : Byts W Ax x) (hxo : Oct x) (hA : Ax = none → cx = 0) (hxc : x.length ≤ cx) (hcm : cx ≤ 9223372036854775807) (hl : x.length ≤ 100000) (hap : ∀ bb off, Ax = some ⟨bb, off, none⟩ → 0 < x.length → bb < W.heap.size ∧ bb ≠ bT ∧ bb ≠ bR) :
    Calls Tryz.prog 18 #[.pointer (some ⟨bT, 0, none⟩), .slice Ax n cx] W fun e w' => e = .returned (.int .i64 0) ∧ On W (sD + 1) bT bR (.slice none 0 0) (.slice none 0 0) (tat 100000 x) (newTp 100000) w' ∧ Byts w' Ax x := by
  have hT := h.two
  have hp : (newTp 100000).append x = (tat 100000 x, 0) := append_plain (t := newTp 100000) rfl rfl (by show 0 + x.length ≤ roomOf 100000; rw [show roomOf 100000 = 100000 from rfl]; omega)
  have hc := append_any W (sD + 1) bT (.slice none 0 0) (newTp 100000) Ax n cx x hnx hx hxo hA hxc hcm (fun bb off e h0 hf => (hap bb off e h0).2.1 (foot_none hf)) h.t
  rw [hp] at hc
  refine hc.mono (fun e w' ⟨e1, e2⟩ => ⟨e1, On.first (Touch.refl _ _) hT (Near.refl _ _) (Near.refl _ _) e2, ?_⟩)
  obtain ⟨_, _, ht, _⟩ := e2
  exact hx.touch ht (fun bb off e h0 hf => (hap bb off e h0).2.1 (foot_none hf))
theorem JO.rappend {w1 : World} {x : List Nat} (h : On W (sD + 1) bT bR (.slice none 0 0) (.slice none 0 0) (tat 100000 x) (newTp 100000) w1) (Ax : Option Addr) (n cx : Nat) (hnx : n = x.length) (hx : Byts w1 Ax x) (hxo : Oct x) (hA : Ax = none → cx = 0) (hxc : x.length ≤ cx) (hcm : cx ≤ 9223372036854775807) (hl : x.length ≤ 100000) (hap : ∀ bb off, Ax = some ⟨bb, off, none⟩ → 0 < x.length → bb < W.heap.size ∧ bb ≠ bT ∧ bb ≠ bR) :
    Calls Tryz.prog 19 #[.pointer (some ⟨bR, 0, none⟩), .slice Ax n cx] w1 fun e w' => e = .returned (.int .i64 0) ∧ ∃ s, Same (tat 100000 x) s ∧ On W (sD + 1) bT bR (.slice none 0 0) (.slice none 0 0) (tat 100000 x) s w' := by
  obtain ⟨⟨v, v', h2, n1, n2⟩, ht⟩ := h
  have hp : (newTp 100000).append x = (tat 100000 x, 0) := append_plain (t := newTp 100000) rfl rfl (by show 0 + x.length ≤ roomOf 100000; rw [show roomOf 100000 = 100000 from rfl]; omega)
  obtain ⟨g1, g2⟩ := (same_new 100000).append x
  rw [hp] at g1 g2
  have hc := rappend_any w1 (sD + 1) bR v' (newTp 100000) Ax n cx x hnx hx hxo hA hxc hcm (fun bb off e h0 hf => by
    obtain ⟨q1, q2, q3⟩ := hap bb off e h0
    exact q3 (foot_none (foot_near n2 q1 hf))) h2.2.1
  rw [← g2] at hc
  exact hc.mono (fun e w' ⟨e1, e2⟩ => ⟨e1, _, g1, On.second ht h2 n1 n2 e2⟩)
end
section
variable {w0 w : World} {B b b' : Nat} {t s : Tp} {v0 v0' : Value}
theorem On.ropen2 (h : On w0 B b b' v0 v0' t s w) : Calls Tryz.prog 21 #[.pointer (some ⟨b', 0, none⟩)] w fun r w' => OpenO w s.ropen.2 r w' ∧ On w0 B b b' v0 v0' t s.ropen.1 w' ∧ ∃ v', TapeAt true w B b' v' s ∧ Went true w B b' v' s.ropen.1 w' := by
  obtain ⟨⟨v, v', h2, n1, n2⟩, ht⟩ := h
  refine (ropen_any w B b' v' s h2.2.1).mono ?_
  rintro r w' ⟨V, X, rfl, hoi, hoe, hW⟩
  obtain ⟨A, c, rfl, _⟩ := OwnL.form hoi lay_ins
  obtain ⟨A', c', rfl, _⟩ := OwnL.form hoe lay_ev
  exact ⟨⟨A, c, A', c', rfl, hoi, hoe⟩, On.second ht h2 n1 n2 hW, v', h2.2.1, hW⟩
theorem On.alike (h : On w0 B b b' v0 v0' t s w) (hs : Same t s) :
    Calls Tryz.prog 11 #[.pointer (some ⟨b, 0, none⟩), .pointer (some ⟨b', 0, none⟩)] w fun e w' => e = .returned (.bool true) ∧ Below w.heap.size w w' := by
  obtain ⟨⟨v, v', h2, n1, n2⟩, ht⟩ := h
  exact alike_any w B b b' t s v v' h2.1 h2.2.1 hs
theorem evs_le : ∀ ls : List (List Nat), (evs ls).1.length ≤ ls.length
  | [] => Nat.le_refl _
  | b :: ls => by
    have ih := evs_le ls
    cases hr : readE b with
    | none => rw [evs_none hr]; simp
    | some e => rw [evs_some hr]; simp; omega
theorem readP_small {b : List Nat} (hO : Oct b) {cf : Cfg} (h : readP b = some cf) : cf.insts.length ≤ 6 := plan_small (readP_is hO h).2.1
theorem openL_len {L : List Nat} (hO : Oct L) : (openL L).1.insts.length ≤ 6 ∧ (openL L).2.1.length ≤ L.length + 1 := by
  have h1 := recs_len L
  have h2 := recs_oct hO
  unfold openL
  by_cases hr : recs L = []
  · rw [if_pos hr]; exact ⟨Nat.zero_le _, Nat.zero_le _⟩
  · rw [if_neg hr]
    unfold jour
    cases hm : (recs L).map (·.2) with
    | nil => exact ⟨Nat.zero_le _, Nat.zero_le _⟩
    | cons a rs =>
      rw [hm] at h2
      have hl : rs.length + 1 = (recs L).length := by have := congrArg List.length hm; rw [List.length_map] at this; rw [this]; rfl
      show (match (readP a).map (fun cf => (cf, evs rs)) with | some (cf, es, 0) => (cf, es, (0 : Int)) | _ => (Cfg.zero, [], 13)).1.insts.length ≤ 6 ∧ (match (readP a).map (fun cf => (cf, evs rs)) with | some (cf, es, 0) => (cf, es, (0 : Int)) | _ => (Cfg.zero, [], 13)).2.1.length ≤ L.length + 1
      cases hp : readP a with
      | none => exact ⟨Nat.zero_le _, Nat.zero_le _⟩
      | some cf =>
        have h3 := readP_small (h2 a List.mem_cons_self).1 hp
        have h4 := evs_le rs
        generalize evs rs = y at h4 ⊢
        obtain ⟨es, k⟩ := y
        simp only [Option.map_some]
        cases k with
        | zero => exact ⟨h3, by simp only at h4 ⊢; omega⟩
        | succ k => exact ⟨Nat.zero_le _, Nat.zero_le _⟩
theorem jopen_len {t : Tp} (ok : t.Ok) : t.jopen.2.1.insts.length ≤ 6 ∧ t.jopen.2.2.1.length ≤ 1048577 := by
  have h1 := openL_len ok.oct
  have h2 := ok.len
  have h3 := ok.room
  have h0 : Cfg.zero.insts.length ≤ 6 ∧ ([] : List Ev).length ≤ 1048577 := ⟨Nat.zero_le _, Nat.zero_le _⟩
  unfold Tp.jopen
  by_cases hd : t.down = true
  · rw [if_pos hd]; exact h0
  · rw [if_neg hd]
    by_cases hw : wholeOf (recs t.all) < t.all.length
    · rw [if_pos hw]
      by_cases hc : (t.cut (wholeOf (recs t.all))).2 = 0
      · rw [if_pos hc]; exact ⟨h1.1, by have := h1.2; simp only at this ⊢; omega⟩
      · rw [if_neg hc]; exact h0
    · rw [if_neg hw]; exact ⟨h1.1, by have := h1.2; simp only at this ⊢; omega⟩
theorem On.opened (h : On w0 B b b' v0 v0' t s w) : t.jopen.2.1.insts.length ≤ 6 ∧ t.jopen.2.2.1.length ≤ 1048577 := by
  obtain ⟨⟨v, v', h2, _⟩, _⟩ := h
  exact jopen_len h2.1.ok
end
end Go.Proofs.YtmpipjangbedkaaGreat

/-
  The walk of novationlaw9.JournalOpens.
-/
namespace Go.Proofs.YtmpipjangbedkaaGreat
set_option maxRecDepth 8000
open Go Go.RowKit Go.Shelf
attribute [local go_sem] Oper.semAt_some
set_option linter.unusedVariables false

theorem byts_lt {w : World} {A : Option Addr} {x : List Nat} (h : Byts w A x) {bb off : Nat} (e : A = some ⟨bb, off, none⟩) (h0 : 0 < x.length) : bb < w.heap.size := by
  obtain ⟨b, o, e2, hc⟩ := h h0
  rw [e] at e2
  injection e2 with e2
  injection e2 with e3 e4
  subst e3
  have := hc 0 h0
  exact block_lt this
theorem evmO {w : World} {base : Nat} {A : Option Addr} {n c : Nat} {l : List Ev} (h : OwnE w base (.slice A n c) l) : EvM w A l := by
  obtain ⟨A', c', e, _, h2⟩ := ownE_form h
  injection e with e1 e2 e3
  rw [e1]; exact h2
theorem jo_new {w w1 w2 w3 w5 w6 : World} {A : Option Addr} {l : List Int} {c m bT : Nat} {cf : Cfg} {AI : Option Addr} {cI : Nat} (h2 : w1.heap.size < w2.heap.size) (h3 : w2.heap.size ≤ w3.heap.size) (ok : cf.Ok) (ho : OwnI w3 w2.heap.size (.slice AI cf.insts.length cI) cf.insts) (hd : Deck w A l c w1.heap.size m w3)
    (hbT : bT = (w3.alloc (.cells #[.slice AI cf.insts.length cI, .int .i64 cf.skin, .int .i64 cf.times, .int .i64 cf.port, .int .i64 cf.bid, .int .i64 cf.lot, .int .i64 cf.hedge] 31)).heap.size) (ht5 : TapeAt false w5 bT bT (.slice none 0 0) (newTp 100000)) (hb5 : Below bT (w3.alloc (.cells #[.slice AI cf.insts.length cI, .int .i64 cf.skin, .int .i64 cf.times, .int .i64 cf.port, .int .i64 cf.bid, .int .i64 cf.lot, .int .i64 cf.hedge] 31)) w5)
    (ht6 : TapeAt true w6 w5.heap.size w5.heap.size (.slice none 0 0) (newTp 100000)) (hb6 : Below w5.heap.size w5 w6) : JO w A l c w6.heap.size w1.heap.size w3.heap.size bT w5.heap.size cf AI cI m w6 := by
  have hal := alloc_below w3 (.cells #[.slice AI cf.insts.length cI, .int .i64 cf.skin, .int .i64 cf.times, .int .i64 cf.port, .int .i64 cf.bid, .int .i64 cf.lot, .int .i64 cf.hedge] 31)
  have hs : bT = w3.heap.size + 1 := by rw [hbT]; simp
  have hB : Below w3.heap.size w3 w6 := (hal.trans (hb5.mono (by omega))).trans (hb6.mono (by have := hb5.size; rw [← hbT] at this; omega))
  have hc : CfAt (w3.alloc (.cells #[.slice AI cf.insts.length cI, .int .i64 cf.skin, .int .i64 cf.times, .int .i64 cf.port, .int .i64 cf.bid, .int .i64 cf.lot, .int .i64 cf.hedge] 31)) w3.heap.size cf (.slice AI cf.insts.length cI) := Rec.new w3 _ (cf.cells (.slice AI cf.insts.length cI)) _ rfl
  have hb5' : Below (w3.alloc (.cells #[.slice AI cf.insts.length cI, .int .i64 cf.skin, .int .i64 cf.times, .int .i64 cf.port, .int .i64 cf.bid, .int .i64 cf.lot, .int .i64 cf.hedge] 31)).heap.size (w3.alloc (.cells #[.slice AI cf.insts.length cI, .int .i64 cf.skin, .int .i64 cf.times, .int .i64 cf.port, .int .i64 cf.bid, .int .i64 cf.lot, .int .i64 cf.hedge] 31)) w5 := by rw [← hbT]; exact hb5
  have l5 := ht5.box.lt
  have l6 := ht6.box.lt
  have s6 := hb6.size
  refine ⟨hd.keep hB, ok, OwnL.lower (OwnL.keep ho hB) (by omega), fun k hk => ?_, CfAt.keep (CfAt.keep hc hb5') hb6, ⟨by omega, by omega, by omega, by omega, by omega, l6⟩, (ht5.keep hb6).lower (by omega), ht6.lower (by omega), Nat.le_refl _⟩
  have := (OwnL.lt ho k hk).2
  omega
theorem mod_le (y L : Nat) : ∃ m : Nat, (y : Int) % ((L : Int) + 1) = (m : Int) ∧ (y : Int).tmod ((L : Int) + 1) = (m : Int) ∧ m ≤ L := by
  refine ⟨y % (L + 1), by rw [show (L : Int) + 1 = ((L + 1 : Nat) : Int) from by omega]; rfl, ?_, by have := Nat.mod_lt y (show 0 < L + 1 by omega); omega⟩
  rw [show (L : Int) + 1 = ((L + 1 : Nat) : Int) from by omega]
  rfl
theorem OwnB.cap {w : World} {base n c : Nat} {A : Option Addr} {xs : List Nat} (h : OwnB w base (.slice A n c) xs) : n ≤ c ∧ xs.length = n := by
  obtain ⟨A', c', e, _, h1, _⟩ := h.form
  injection e with e1 e2 e3
  omega
set_option maxRecDepth 100000 in
set_option maxHeartbeats 32000000 in
theorem jopens_walk (A0 : Option Addr) (x0 : List Nat) (n0 c0 : Nat) (A : Option Addr) (l : List Int) (c n y : Nat) (hk : n = l.length) (hy : y ≤ 65535) (w : World) (hn : Nums w A l)
    (hn0 : n0 = x0.length) (hB0 : Byts w A0 x0) (hO0 : Oct x0) (hA0 : A0 = none → c0 = 0) (hc0 : x0.length ≤ c0) (hm0 : c0 ≤ 9223372036854775807) :
    Calls Tryz.prog 4 #[.slice A0 n0 c0, .slice A n c, .int .u16 (y : Int)] w fun r w' => r = .returned (.bool true) ∧ Below w.heap.size w w' := by
  have CK := Lib.hid (known9_any w)
  have CO := Lib.hid (fun W (h : Below w.heap.size w W) => deck_of w W A l c n hk hn h)
  have HB0 := Lib.hid (Below.refl w.heap.size w)
  have HN0 := Lib.hid hn0
  have HY0 := Lib.hid hB0
  have HO0 := Lib.hid hO0
  have HA0 := Lib.hid hA0
  have HC0 := Lib.hid hc0
  have HM0 := Lib.hid hm0
  clear hn hk hn0 hB0 hO0 hA0 hc0 hm0
  by_cases h4 : 400 < n0
  · have hg : decide ((n0 : Int) > 400) = true := decide_eq_true (by omega)
    go_enter Tryz.func4, Tryz.ntmps4
    go_wp2_with (go_at_call 5; (with_reducible refine CK.out.mono ?_); rintro r w1 ⟨rfl, hb1⟩; have HB1 := Lib.hid (HB0.out.trans (hb1.mono HB0.out.size)); clear hb1)
    go_ret
    exact ⟨rfl, HB1.out⟩
  have hg : decide ((n0 : Int) > 400) = false := decide_eq_false (by omega)
  go_enter Tryz.func4, Tryz.ntmps4
  go_wp2_with (first
    | (go_at_call 12; (with_reducible refine CY.out.mono ?_); rintro r w7 ⟨v7, rfl, hv7, hd7, ht7⟩; have HJ7 := Lib.hid (HJ6.out.draw hd7 ht7); clear hd7 ht7; obtain ⟨d0, d1, d2, d3, d4, d5, d6⟩ := HJ7.out.cfg.reads; have CPP := Lib.hid (rputplan_any cf (ok_cfgI HOK.out) AI cf.insts.length cI w7 rfl HJ7.out.insM); rw [show putP cf = (planB cf 6, 0) from (by unfold putP; rw [ok_plan HOK.out]; rfl)] at CPP; unfold Cfg.v at CPP; have HP4 := Lib.hid (planB_400 (ok_cfgI HOK.out) (ok_plan HOK.out)); have HPO := Lib.hid (planB_oct cf 6); have HXN : Hid (n0 = (x0).length) := Lib.hid (HN0.out); have HXB : Hid (Byts w7 A0 (x0)) := Lib.hid (HY0.out.below HJ7.out.deck.below); have HXO : Hid (Oct (x0)) := Lib.hid (HO0.out); have HXA : Hid (A0 = none → c0 = 0) := Lib.hid (HA0.out); have HXC : Hid ((x0).length ≤ c0) := Lib.hid (HC0.out); have HXM : Hid (c0 ≤ 9223372036854775807) := Lib.hid (HM0.out); have HXL : Hid ((x0).length ≤ 100000) := Lib.hid (by have := HN0.out; omega); have HAP : Hid (∀ bb off, A0 = some ⟨bb, off, none⟩ → 0 < (x0).length → bb < w7.heap.size ∧ bb ≠ bT ∧ bb ≠ w5.heap.size) := Lib.hid (fun bb off e h0 => by have h1 := byts_lt HY0.out e h0; have h2 := HJ7.out.deck.low; have h3 := HJ7.out.size; obtain ⟨s1, s2, s3, s4, s5, s6⟩ := HJ7.out.sep; omega); have CA := Lib.hid (HJ7.out.append A0 n0 c0 x0 HXN.out HXB.out HXO.out HXA.out HXC.out HXM.out HXL.out HAP.out); rcases hv7 with rfl | rfl)
    | (go_at_call 9; (with_reducible refine CR.out.mono ?_); rintro r w6 ⟨rfl, ht6, hb6⟩; obtain ⟨hi, HJ6⟩ : ∃ hi, Hid (JO w A l c hi w1.heap.size w3.heap.size bT w5.heap.size cf AI cI (0 + 60) w6) := ⟨_, Lib.hid (jo_new hlt2 hsz3 HOK.out HO3.out HD3.out HBT.out HT5.out HB5.out ht6 hb6)⟩; have CY := Lib.hid (deck_yesI 2 2 rfl w _ A l c _ (0 + 60) HJ6.out.deck (by omega) (by omega) (by omega)); clear ht6 hb6)
    | (go_at_call 8; (with_reducible refine CN.out.mono ?_); rintro r w5 ⟨rfl, ht5, hb5⟩; have HT5 := Lib.hid ht5; have HB5 := Lib.hid hb5; have CR := Lib.hid (rnew_any 100000 w5); clear ht5 hb5)
    | (go_at_call 7; (with_reducible refine (deck_config w _ A l c _ 0 HD2.out (by omega)).mono ?_); rintro r w3 ⟨cf, v, rfl, hcf, ho3, hd3, ht3⟩; obtain ⟨AI, cI, rfl, _⟩ := OwnL.form ho3 lay_ins; simp only [Cfg.v]; have HOK := Lib.hid hcf; have HO3 := Lib.hid ho3; have HD3 := Lib.hid hd3; have hsz3 := ht3.size; obtain ⟨bT, hbT⟩ : ∃ B, B = (w3.alloc (.cells #[.slice AI cf.insts.length cI, .int .i64 cf.skin, .int .i64 cf.times, .int .i64 cf.port, .int .i64 cf.bid, .int .i64 cf.lot, .int .i64 cf.hedge] 31)).heap.size := ⟨_, rfl⟩; have CN := Lib.hid (new_any 100000 (w3.alloc (.cells #[.slice AI cf.insts.length cI, .int .i64 cf.skin, .int .i64 cf.times, .int .i64 cf.port, .int .i64 cf.bid, .int .i64 cf.lot, .int .i64 cf.hedge] 31))); rw [← hbT] at CN; have HBT := Lib.hid hbT; clear hcf ho3 hd3 ht3 hbT)
    | (go_at_call 6; (with_reducible refine (CO.out _ HB1.out).mono ?_); rintro r w2 ⟨rfl, hd2⟩; have HD2 := Lib.hid hd2; have hlt2 : w1.heap.size < w2.heap.size := (by obtain ⟨_, _, hr2⟩ := hd2.box; exact Rec.lt hr2); clear hd2)
    | (go_at_call 5; (with_reducible refine CK.out.mono ?_); rintro r w1 ⟨rfl, hb1⟩; have HB1 := Lib.hid (HB0.out.trans (hb1.mono HB0.out.size)); clear hb1)
    | (go_at_call 15; (with_reducible refine CNN.out.mono ?_); rintro r w11 ⟨_, rfl, ⟨q, rfl, hq⟩, hd, ht⟩; have HJ11 := Lib.hid (HJ10.out.draw (hd.more (show _ ≤ 100 by omega)) ht); have HO11 := Lib.hid (HJ10.out.own HO10.out ht); clear hd ht)
    | (at_builtin; refine wpList_app rfl (.tmp 54) (.tmp 55) rfl hi _ [] rfl (ownB_nil _ _) _ _ _ (recL (planB cf 6)) rfl rfl HBY9.out HA9.out (by have := HP4.out; rw [recL_length]; simp only [List.length_nil]; omega) HJ9.out.size ?_; rintro v10 w10 ho hg _; have HJ10 := Lib.hid (HJ9.out.grow (ownB_nil _ _) hg); have HO10 := Lib.hid ho; have CNN := Lib.hid (deck_nI 6 6 rfl w _ A l c _ _ HJ10.out.deck (by omega) (by omega) (by omega)); clear ho hg)
    | (go_at_call 14; (with_reducible refine CFP.out.mono ?_); rintro r w9 ⟨v2, rfl, hv, hb⟩; obtain ⟨A2, c2, rfl, hBq, hlq, hcq, hAq, _⟩ := OwnB.form hv; have HJ9 := Lib.hid (HJ8.out.keep hb); have HBY9 := Lib.hid hBq; have HA9 := Lib.hid hAq; clear hv hb hBq hlq hcq hAq)
    | (go_at_call 13; (with_reducible refine CPP.out.mono ?_); rintro r w8 ⟨v1, rfl, hv, hb⟩; obtain ⟨A1, c1, rfl, hBq, hlq, hcq, hAq, _⟩ := OwnB.form hv; have HJ8 := Lib.hid (HJ7.out.keep hb); have CFP := Lib.hid (rframe_any A1 (planB cf 6) c1 w8 hBq HPO.out hAq HP4.out); clear hv hb hBq hlq hcq hAq)
    | (go_at_call 11; (with_reducible refine CAL.out.mono ?_); rintro r wg ⟨rfl, hbg⟩; have HOH := Lib.hid (HOG.out.keep hbg); clear hbg)
    | (go_at_call 23; (with_reducible refine CEV.out.mono ?_); rintro r wf ⟨rfl, hbf⟩; have HOG := Lib.hid (HOF.out.keep hbf); have CAL := Lib.hid (HOG.out.alike HSJ.out); clear hbf)
    | (go_at_call 22; (with_reducible refine CSP.out.mono ?_); rintro r we ⟨rfl, hbe⟩; have HBE := Lib.hid hbe; have CEV := Lib.hid (events_any A6 A8 esx esx esx.length esx.length c6 c8 we rfl rfl (evmO (OwnL.keep HOE6.out hbe)) (evmO (OwnL.keep HOE7.out hbe)) (by have := HLN.out.2; (try dsimp only at this); omega)); rw [decide_eq_true rfl] at CEV; have HOF := Lib.hid (HOD.out.keep hbe); clear hbe)
    | (go_at_call 21; (with_reducible refine CRO.out.mono ?_); rintro r wd ⟨⟨A7, c7, A8, c8, rfl, hoi, hoe⟩, hOd, vd, hTd, hWd⟩; (try simp only [Cfg.v]); have hal := alloc_below wd (.cells #[.slice A7 cfx.insts.length c7, .int .i64 cfx.skin, .int .i64 cfx.times, .int .i64 cfx.port, .int .i64 cfx.bid, .int .i64 cfx.lot, .int .i64 cfx.hedge] 31); have HOD := Lib.hid (hOd.keep hal); have HOI7 := Lib.hid (OwnL.keep hoi hal); have HOE7 := Lib.hid (OwnL.keep hoe hal); have HOI6 := Lib.hid (OwnL.keep (went_own hTd HOI5.out (by decide) (by decide) hWd) hal); have HOE6 := Lib.hid (OwnL.keep (went_own hTd HOE5.out (by decide) (by decide) hWd) hal); have HRX2 := CfAt.keep (went_rec hTd HRX.out (by decide) (by decide) hWd) hal; obtain ⟨d0, d1, d2, d3, d4, d5, d6⟩ := HRX2.reads; have HRY : CfAt (wd.alloc (.cells #[.slice A7 cfx.insts.length c7, .int .i64 cfx.skin, .int .i64 cfx.times, .int .i64 cfx.port, .int .i64 cfx.bid, .int .i64 cfx.lot, .int .i64 cfx.hedge] 31)) wd.heap.size cfx (.slice A7 cfx.insts.length c7) := Rec.new wd _ (cfx.cells (.slice A7 cfx.insts.length c7)) _ rfl; obtain ⟨f0, f1, f2, f3, f4, f5, f6⟩ := HRY.reads; have CSP := Lib.hid (rsame_any cfx cfx A5 A7 cfx.insts.length cfx.insts.length c5 c7 (wd.alloc (.cells #[.slice A7 cfx.insts.length c7, .int .i64 cfx.skin, .int .i64 cfx.times, .int .i64 cfx.port, .int .i64 cfx.bid, .int .i64 cfx.lot, .int .i64 cfx.hedge] 31)) rfl rfl (own_insM HOI6.out) (own_insM HOI7.out) (by have := HLN.out.1; (try dsimp only at this); omega)); rw [decide_eq_true rfl] at CSP; unfold Cfg.v at CSP; clear hoi hoe hOd hTd hWd hal HRX2 HRY)
    | (go_at_call 20; (with_reducible refine CJO.out.mono ?_); rintro r wc ⟨⟨A5, c5, A6, c6, rfl, hoi, hoe⟩, hOc⟩; (try simp only [Cfg.v]); have HOI5 := Lib.hid (OwnL.keep hoi (alloc_below wc (.cells #[.slice A5 cfx.insts.length c5, .int .i64 cfx.skin, .int .i64 cfx.times, .int .i64 cfx.port, .int .i64 cfx.bid, .int .i64 cfx.lot, .int .i64 cfx.hedge] 31))); have HOE5 := Lib.hid (OwnL.keep hoe (alloc_below wc (.cells #[.slice A5 cfx.insts.length c5, .int .i64 cfx.skin, .int .i64 cfx.times, .int .i64 cfx.port, .int .i64 cfx.bid, .int .i64 cfx.lot, .int .i64 cfx.hedge] 31))); have HRX : Hid (CfAt (wc.alloc (.cells #[.slice A5 cfx.insts.length c5, .int .i64 cfx.skin, .int .i64 cfx.times, .int .i64 cfx.port, .int .i64 cfx.bid, .int .i64 cfx.lot, .int .i64 cfx.hedge] 31)) wc.heap.size cfx (.slice A5 cfx.insts.length c5)) := Lib.hid (Rec.new wc _ (cfx.cells (.slice A5 cfx.insts.length c5)) _ rfl); have CRO := (hOc.keep (alloc_below wc (.cells #[.slice A5 cfx.insts.length c5, .int .i64 cfx.skin, .int .i64 cfx.times, .int .i64 cfx.port, .int .i64 cfx.bid, .int .i64 cfx.lot, .int .i64 cfx.hedge] 31))).ropen2; rw [HJS.out] at CRO; have CRO := Lib.hid CRO; unfold OpenO at CRO; dsimp only at CRO; clear hoi hoe hOc)
    | (go_at_call 19; (with_reducible refine CRA.out.mono ?_); rintro r wb ⟨rfl, sb, hsb, hOb⟩; (obtain ⟨cfx, esx, kx, hjx⟩ : ∃ a b c, (tat 100000 x0).jopen.2 = (a, b, c) := ⟨_, _, _, rfl⟩); have hjs := hsb.jopen.2; have hln := hOb.opened; have CJO := hOb.jopen; rw [hjx] at hjs hln CJO; have HLN := Lib.hid hln; have HJS := Lib.hid hjs.symm; have HSJ := Lib.hid hsb.jopen.1; have CJO := Lib.hid CJO; unfold OpenO at CJO; dsimp only at CJO; clear hjx hjs hln hOb hsb)
    | (go_at_call 18; (with_reducible refine CA.out.mono ?_); rintro r wa ⟨rfl, hOa, hBa⟩; have CRA := Lib.hid (JO.rappend hOa A0 n0 c0 HXN.out hBa HXO.out HXA.out HXC.out HXM.out HXL.out HAP.out); clear hOa hBa))
  rotate_left
  · go_ret
    exact ⟨rfl, HJ7.out.deck.below.trans ((HOH.out.elder HJ7.out.two).mono (by have := HJ7.out.deck.low; omega))⟩
  clear HXN HXB HXO HXA HXC HXM HXL HAP CA CK CO CN CR CY
  go_loopw [11, 16] (fun s i wr => ∃ (k : Nat) (X : Value) (xs : List Nat), X = s ∧ i = .int .i64 (k : Int) ∧ k ≤ 5 ∧ Hid (OwnB wr hi X xs) ∧ Hid (Oct xs) ∧ Hid (xs.length ≤ 406 * (6 - k)) ∧ Hid (JO w A l c hi w1.heap.size w3.heap.size bT w5.heap.size cf AI cI (100 + (5 - k) * 100) wr)) (fun _ i _ => (intOf i).toNat)
  case atStart => exact ⟨q, _, [] ++ recL (planB cf 6), rfl, rfl, by omega, HO11, Lib.hid (by rw [List.nil_append]; exact oct_rec HPO.out HP4.out), Lib.hid (by have := HP4.out; rw [List.nil_append, recL_length]; omega), Lib.hid (HJ11.out.draw (HJ11.out.deck.more (by omega)) (Touch.refl _ _))⟩
  case round =>
    obtain ⟨k, X, xs, rfl, rfl, hk5, HO, HXS, HLS, HJ⟩ := hrel
    obtain ⟨e0, e1, e2, e3, e4, e5, e6⟩ := HJ.out.cfg.reads
    by_cases hk0 : k = 0
    · subst hk0
      clear d0 d1 d2 d3 d4 d5 d6
      obtain ⟨A3, c3, rfl, _⟩ := OwnB.form HO.out
      have CY3 := Lib.hid (deck_yesI 3 3 rfl w _ A l c _ _ HJ.out.deck (by omega) (by omega) (by omega))
      go_wp2_with (first
        | (go_at_call 12; (with_reducible refine CY3.out.mono ?_); rintro r w12 ⟨v12, rfl, hv12, hd12, ht12⟩; have HJ12 := Lib.hid (HJ.out.draw hd12 ht12); have HO12 := Lib.hid (HJ.out.own HO.out ht12); have HLa : Hid (xs.length ≤ 3000) := Lib.hid (by have := HLS.out; omega); (obtain ⟨ma, hmaa, hmba, hmla⟩ : ∃ m : Nat, (y : Int) % ((xs.length : Int) + 1) = (m : Int) ∧ (y : Int).tmod ((xs.length : Int) + 1) = (m : Int) ∧ m ≤ xs.length := mod_le y xs.length); have HMa := Lib.hid hmla; have hmca : ma ≤ c3 := (by have := OwnB.cap HO12.out; omega); have HFa := Lib.hid (HO12.out.front ma (by omega)); have HTa : Hid (((xs).take ma).length = ma) := Lib.hid (by rw [List.length_take]; omega); have hz3a : xs.length ≤ 3000 := HLa.out; have CFB := rframe_any A0 x0 c0 w12 (HY0.out.below HJ12.out.deck.below) HO0.out HA0.out (by have := HN0.out; omega); rw [← HN0.out] at CFB; have CFB := Lib.hid CFB; clear hd12 ht12; rcases hv12 with rfl | rfl)
        | (at_builtin; refine wpList_app rfl (.tmp 85) (.tmp 86) rfl hi _ xs rfl HO13.out _ _ _ (recL x0) rfl rfl HBY13.out HA13.out (by have := HLS.out; have := HN0.out; rw [recL_length]; omega) HJ13.out.size ?_; rintro v14 w14 ho hg _; have HJ14 := Lib.hid (HJ13.out.grow HO13.out hg); (obtain ⟨zl, hzl⟩ : ∃ zl, zl = (xs ++ recL x0).length := ⟨_, rfl⟩); obtain ⟨A14, c14, e14, _⟩ := OwnB.form ho; rw [← hzl] at e14; subst e14; have HO14 := Lib.hid ho; have HXb := Lib.hid (Oct.append HXS.out (oct_rec HO0.out (by have := HN0.out; omega))); have HLb : Hid ((xs ++ recL x0).length ≤ 3000) := Lib.hid (by rw [List.length_append, recL_length]; have := HLS.out; have := HN0.out; omega); (obtain ⟨mb, hmab, hmbb, hmlb⟩ : ∃ m : Nat, (y : Int) % ((zl : Int) + 1) = (m : Int) ∧ (y : Int).tmod ((zl : Int) + 1) = (m : Int) ∧ m ≤ zl := mod_le y zl); have HMb := Lib.hid hmlb; have hmcb : mb ≤ c14 := (by have := OwnB.cap HO14.out; omega); have HFb := Lib.hid (HO14.out.front mb (by omega)); have HTb : Hid (((xs ++ recL x0).take mb).length = mb) := Lib.hid (by rw [List.length_take]; omega); have hz3b : zl ≤ 3000 := (by rw [hzl]; exact HLb.out); clear ho hg hzl)
        | (go_at_call 14; (with_reducible refine CFB.out.mono ?_); rintro r w13 ⟨v13, rfl, hv, hb⟩; obtain ⟨A13, c13, rfl, hBq, hlq, hcq, hAq, _⟩ := OwnB.form hv; have HJ13 := Lib.hid (HJ12.out.keep hb); have HO13 := Lib.hid (HO12.out.keep hb); have HBY13 := Lib.hid hBq; have HA13 := Lib.hid hAq; clear hv hb hBq hlq hcq hAq)
        | (at_builtin; refine wpList_app rfl (.tmp 95) (.tmp 96) rfl hi _ ((xs ++ recL x0).take mb) rfl HFb.out _ _ _ x0 rfl HN0.out (HY0.out.below HJ14.out.deck.below) HA0.out (by have := HTb.out; have := HMb.out; have := HLb.out; have := HN0.out; omega) HJ14.out.size ?_; rintro v20 w20 ho hg _; have HJ20 := Lib.hid (HJ14.out.grow HFb.out hg); (obtain ⟨zt, hzt⟩ : ∃ zt, zt = (xs ++ recL x0).take mb := ⟨_, rfl⟩); have HOT : Hid (Oct zt) := Lib.hid (by rw [hzt]; exact Oct.take HXb.out mb); have HTT : Hid (zt.length ≤ 3000) := Lib.hid (by rw [hzt]; have := HTb.out; have := HMb.out; have := HLb.out; omega); rw [← hzt] at ho; obtain ⟨A20, c20, e20, hBq, hlq, hcq, hAq, hwq⟩ := OwnB.form ho; (obtain ⟨xl, hxl⟩ : ∃ xl, xl = (zt ++ x0).length := ⟨_, rfl⟩); rw [← hxl] at e20; subst e20; have HXB := Lib.hid hBq; have HXC := Lib.hid hlq; have HXM := Lib.hid hcq; have HXA := Lib.hid hAq; have HAP : Hid (∀ bb off, A20 = some ⟨bb, off, none⟩ → 0 < (zt ++ x0).length → bb < w20.heap.size ∧ bb ≠ bT ∧ bb ≠ w5.heap.size) := Lib.hid (fun bb off e h0 => by have h1 := byts_lt hBq e h0; have h2 := hwq _ _ _ e; obtain ⟨s1, s2, s3, s4, s5, s6⟩ := HJ20.out.sep; omega); have HXN := Lib.hid hxl; have HXO : Hid (Oct (zt ++ x0)) := Lib.hid (Oct.append HOT.out HO0.out); have HXL : Hid ((zt ++ x0).length ≤ 100000) := Lib.hid (by rw [List.length_append]; have := HTT.out; have := HN0.out; omega); have CA := Lib.hid (HJ20.out.append A20 xl c20 (zt ++ x0) HXN.out HXB.out HXO.out HXA.out HXC.out HXM.out HXL.out HAP.out); clear ho hg hBq hlq hcq hAq hwq hzt hxl)
        | (at_builtin; refine wpList_app rfl (.tmp 95) (.tmp 96) rfl hi _ ((xs).take ma) rfl HFa.out _ _ _ x0 rfl HN0.out (HY0.out.below HJ12.out.deck.below) HA0.out (by have := HTa.out; have := HMa.out; have := HLa.out; have := HN0.out; omega) HJ12.out.size ?_; rintro v20 w20 ho hg _; have HJ20 := Lib.hid (HJ12.out.grow HFa.out hg); (obtain ⟨zt, hzt⟩ : ∃ zt, zt = (xs).take ma := ⟨_, rfl⟩); have HOT : Hid (Oct zt) := Lib.hid (by rw [hzt]; exact Oct.take HXS.out ma); have HTT : Hid (zt.length ≤ 3000) := Lib.hid (by rw [hzt]; have := HTa.out; have := HMa.out; have := HLa.out; omega); rw [← hzt] at ho; obtain ⟨A20, c20, e20, hBq, hlq, hcq, hAq, hwq⟩ := OwnB.form ho; (obtain ⟨xl, hxl⟩ : ∃ xl, xl = (zt ++ x0).length := ⟨_, rfl⟩); rw [← hxl] at e20; subst e20; have HXB := Lib.hid hBq; have HXC := Lib.hid hlq; have HXM := Lib.hid hcq; have HXA := Lib.hid hAq; have HAP : Hid (∀ bb off, A20 = some ⟨bb, off, none⟩ → 0 < (zt ++ x0).length → bb < w20.heap.size ∧ bb ≠ bT ∧ bb ≠ w5.heap.size) := Lib.hid (fun bb off e h0 => by have h1 := byts_lt hBq e h0; have h2 := hwq _ _ _ e; obtain ⟨s1, s2, s3, s4, s5, s6⟩ := HJ20.out.sep; omega); have HXN := Lib.hid hxl; have HXO : Hid (Oct (zt ++ x0)) := Lib.hid (Oct.append HOT.out HO0.out); have HXL : Hid ((zt ++ x0).length ≤ 100000) := Lib.hid (by rw [List.length_append]; have := HTT.out; have := HN0.out; omega); have CA := Lib.hid (HJ20.out.append A20 xl c20 (zt ++ x0) HXN.out HXB.out HXO.out HXA.out HXC.out HXM.out HXL.out HAP.out); clear ho hg hBq hlq hcq hAq hwq hzt hxl)
        | (go_at_call 11; (with_reducible refine CAL.out.mono ?_); rintro r wg ⟨rfl, hbg⟩; have HOH := Lib.hid (HOG.out.keep hbg); clear hbg)
        | (go_at_call 23; (with_reducible refine CEV.out.mono ?_); rintro r wf ⟨rfl, hbf⟩; have HOG := Lib.hid (HOF.out.keep hbf); have CAL := Lib.hid (HOG.out.alike HSJ.out); clear hbf)
        | (go_at_call 22; (with_reducible refine CSP.out.mono ?_); rintro r we ⟨rfl, hbe⟩; have HBE := Lib.hid hbe; have CEV := Lib.hid (events_any A6 A8 esx esx esx.length esx.length c6 c8 we rfl rfl (evmO (OwnL.keep HOE6.out hbe)) (evmO (OwnL.keep HOE7.out hbe)) (by have := HLN.out.2; (try dsimp only at this); omega)); rw [decide_eq_true rfl] at CEV; have HOF := Lib.hid (HOD.out.keep hbe); clear hbe)
        | (go_at_call 21; (with_reducible refine CRO.out.mono ?_); rintro r wd ⟨⟨A7, c7, A8, c8, rfl, hoi, hoe⟩, hOd, vd, hTd, hWd⟩; (try simp only [Cfg.v]); have hal := alloc_below wd (.cells #[.slice A7 cfx.insts.length c7, .int .i64 cfx.skin, .int .i64 cfx.times, .int .i64 cfx.port, .int .i64 cfx.bid, .int .i64 cfx.lot, .int .i64 cfx.hedge] 31); have HOD := Lib.hid (hOd.keep hal); have HOI7 := Lib.hid (OwnL.keep hoi hal); have HOE7 := Lib.hid (OwnL.keep hoe hal); have HOI6 := Lib.hid (OwnL.keep (went_own hTd HOI5.out (by decide) (by decide) hWd) hal); have HOE6 := Lib.hid (OwnL.keep (went_own hTd HOE5.out (by decide) (by decide) hWd) hal); have HRX2 := CfAt.keep (went_rec hTd HRX.out (by decide) (by decide) hWd) hal; obtain ⟨d0, d1, d2, d3, d4, d5, d6⟩ := HRX2.reads; have HRY : CfAt (wd.alloc (.cells #[.slice A7 cfx.insts.length c7, .int .i64 cfx.skin, .int .i64 cfx.times, .int .i64 cfx.port, .int .i64 cfx.bid, .int .i64 cfx.lot, .int .i64 cfx.hedge] 31)) wd.heap.size cfx (.slice A7 cfx.insts.length c7) := Rec.new wd _ (cfx.cells (.slice A7 cfx.insts.length c7)) _ rfl; obtain ⟨f0, f1, f2, f3, f4, f5, f6⟩ := HRY.reads; have CSP := Lib.hid (rsame_any cfx cfx A5 A7 cfx.insts.length cfx.insts.length c5 c7 (wd.alloc (.cells #[.slice A7 cfx.insts.length c7, .int .i64 cfx.skin, .int .i64 cfx.times, .int .i64 cfx.port, .int .i64 cfx.bid, .int .i64 cfx.lot, .int .i64 cfx.hedge] 31)) rfl rfl (own_insM HOI6.out) (own_insM HOI7.out) (by have := HLN.out.1; (try dsimp only at this); omega)); rw [decide_eq_true rfl] at CSP; unfold Cfg.v at CSP; clear hoi hoe hOd hTd hWd hal HRX2 HRY)
        | (go_at_call 20; (with_reducible refine CJO.out.mono ?_); rintro r wc ⟨⟨A5, c5, A6, c6, rfl, hoi, hoe⟩, hOc⟩; (try simp only [Cfg.v]); have HOI5 := Lib.hid (OwnL.keep hoi (alloc_below wc (.cells #[.slice A5 cfx.insts.length c5, .int .i64 cfx.skin, .int .i64 cfx.times, .int .i64 cfx.port, .int .i64 cfx.bid, .int .i64 cfx.lot, .int .i64 cfx.hedge] 31))); have HOE5 := Lib.hid (OwnL.keep hoe (alloc_below wc (.cells #[.slice A5 cfx.insts.length c5, .int .i64 cfx.skin, .int .i64 cfx.times, .int .i64 cfx.port, .int .i64 cfx.bid, .int .i64 cfx.lot, .int .i64 cfx.hedge] 31))); have HRX : Hid (CfAt (wc.alloc (.cells #[.slice A5 cfx.insts.length c5, .int .i64 cfx.skin, .int .i64 cfx.times, .int .i64 cfx.port, .int .i64 cfx.bid, .int .i64 cfx.lot, .int .i64 cfx.hedge] 31)) wc.heap.size cfx (.slice A5 cfx.insts.length c5)) := Lib.hid (Rec.new wc _ (cfx.cells (.slice A5 cfx.insts.length c5)) _ rfl); have CRO := (hOc.keep (alloc_below wc (.cells #[.slice A5 cfx.insts.length c5, .int .i64 cfx.skin, .int .i64 cfx.times, .int .i64 cfx.port, .int .i64 cfx.bid, .int .i64 cfx.lot, .int .i64 cfx.hedge] 31))).ropen2; rw [HJS.out] at CRO; have CRO := Lib.hid CRO; unfold OpenO at CRO; dsimp only at CRO; clear hoi hoe hOc)
        | (go_at_call 19; (with_reducible refine CRA.out.mono ?_); rintro r wb ⟨rfl, sb, hsb, hOb⟩; (obtain ⟨cfx, esx, kx, hjx⟩ : ∃ a b c, (tat 100000 (zt ++ x0)).jopen.2 = (a, b, c) := ⟨_, _, _, rfl⟩); have hjs := hsb.jopen.2; have hln := hOb.opened; have CJO := hOb.jopen; rw [hjx] at hjs hln CJO; have HLN := Lib.hid hln; have HJS := Lib.hid hjs.symm; have HSJ := Lib.hid hsb.jopen.1; have CJO := Lib.hid CJO; unfold OpenO at CJO; dsimp only at CJO; clear hjx hjs hln hOb hsb)
        | (go_at_call 18; (with_reducible refine CA.out.mono ?_); rintro r wa ⟨rfl, hOa, hBa⟩; have CRA := Lib.hid (JO.rappend hOa A20 xl c20 HXN.out hBa HXO.out HXA.out HXC.out HXM.out HXL.out HAP.out); clear hOa hBa))
      · go_ret
        exact ⟨rfl, HJ20.out.deck.below.trans ((HOH.out.elder HJ20.out.two).mono (by have := HJ20.out.deck.low; omega))⟩
      · go_ret
        exact ⟨rfl, HJ20.out.deck.below.trans ((HOH.out.elder HJ20.out.two).mono (by have := HJ20.out.deck.low; omega))⟩
    · have hgt : decide ((k : Int) > 0) = true := decide_eq_true (by omega)
      have CE := Lib.hid (deck_event w wr A l c _ _ HJ.out.deck (by omega) cf (.slice AI cf.insts.length cI) HJ.out.cfgIn)
      unfold Cfg.v at CE
      clear d0 d1 d2 d3 d4 d5 d6
      go_wp2_with (first
        | (at_builtin; refine wpList_app rfl (.tmp 75) (.tmp 76) rfl hi _ xs rfl HO14.out _ _ _ (recL (textE ev)) rfl rfl HBY14.out HA14.out (by have := HLS.out; have := textE_len HG.out; rw [recL_length]; omega) HJ14.out.size ?_; rintro v15 w15 ho hg _; have HJ15 := Lib.hid (HJ14.out.grow HO14.out hg); have HO15 := Lib.hid ho; clear ho hg)
        | (go_at_call 14; (with_reducible refine CFE.out.mono ?_); rintro r w14 ⟨v14, rfl, hv, hb⟩; obtain ⟨A14, c14, rfl, hBq, hlq, hcq, hAq, _⟩ := OwnB.form hv; have HJ14 := Lib.hid (HJ13.out.keep hb); have HO14 := Lib.hid (HO13.out.keep hb); have HBY14 := Lib.hid hBq; have HA14 := Lib.hid hAq; clear hv hb hBq hlq hcq hAq)
        | (go_at_call 16; (with_reducible refine CPE.out.mono ?_); rintro r w13 ⟨v13, rfl, hv, hb⟩; obtain ⟨A13, c13, rfl, hBq, hlq, hcq, hAq, _⟩ := OwnB.form hv; have HJ13 := Lib.hid (HJ12.out.keep hb); have HO13 := Lib.hid (HO12.out.keep hb); have CFE := Lib.hid (rframe_any A13 (textE ev) c13 w13 hBq (textE_oct HG.out) hAq (textE_len HG.out)); clear hv hb hBq hlq hcq hAq)
        | (go_at_call 17; (with_reducible refine CE.out.mono ?_); rintro r w12 ⟨ev, rfl, hok, hri, hd4, ht4⟩; simp only [Ev.v]; have HJ12 := Lib.hid (HJ.out.draw hd4 ht4); have HO12 := Lib.hid (HJ.out.own HO.out ht4); have HG : Hid (Good ev) := Lib.hid ⟨hok, hri⟩; have CPE := Lib.hid (putev_any ev hok w12); rw [show putE? ev = (textE ev, 0) from (by unfold putE?; rw [hri]; rfl)] at CPE; unfold Ev.v at CPE; clear hok hri hd4 ht4))
      go_roundw
      case rel => exact ⟨k - 1, _, xs ++ recL (textE ev), rfl, by go_num, by omega, HO15, Lib.hid (Oct.append HXS.out (oct_rec (textE_oct HG.out) (textE_len HG.out))), Lib.hid (by rw [List.length_append, recL_length]; have := HLS.out; have := textE_len HG.out; omega), Lib.hid (HJ15.out.draw (HJ15.out.deck.more (by omega)) (Touch.refl _ _))⟩
      case measure => simp [intOf]; omega
theorem jopens_top (A0 : Option Addr) (x0 : List Nat) (c0 : Nat) (A : Option Addr) (l : List Int) (c n : Nat) (hk : n = l.length) (a2 : Int) (w2 : (Lit.int .u16 a2).wf = true) (w : World) (hn : Nums w A l) (hB0 : Byts w A0 x0) (hO0 : Oct x0) (hA0 : A0 = none → c0 = 0) (hc0 : x0.length ≤ c0) (hm0 : c0 ≤ 9223372036854775807) :
    Calls Tryz.prog 4 #[.slice A0 x0.length c0, .slice A n c, .int .u16 a2] w fun r w' => r = .returned (.bool true) ∧ Below w.heap.size w w' := by
  have h : 0 ≤ a2 ∧ a2 ≤ 65535 := by simp [Lit.wf, IntKind.min, IntKind.max, IntKind.bits, IntKind.signed] at w2; omega
  have := jopens_walk A0 x0 x0.length c0 A l c n a2.toNat hk (by omega) w hn rfl hB0 hO0 hA0 hc0 hm0
  rwa [show (a2.toNat : Int) = a2 from by omega] at this
end Go.Proofs.YtmpipjangbedkaaGreat
