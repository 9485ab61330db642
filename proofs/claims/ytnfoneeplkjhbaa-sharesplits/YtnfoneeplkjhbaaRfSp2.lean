/-
  The walk of the reference's Split.
-/
import Derived.Test.YtnfoneeplkjhbaaMrgB
import Derived.Test.YtnfoneeplkjhbaaRfOrd
import Derived.Deep.LoopGhost
import Derived.Deep.DeepCutAuto
namespace Go.Proofs.Ytnfoneeplkjhbaa
open Go.RowKit

/-- What stands in memory while the reference cuts shares: the weights' sum, shares, rests. -/
structure RS (w : World) (bs : Nat) (ng : Bool) (A : Option Addr) (n c : Nat) (x : Int) (g1 g2 : Nat) (a b : List Int) (W : World) : Prop where
  big : BigB w bs ng A n c x 66 W
  r1 : RowK W .i64 g1 a
  r2 : RowK W .i64 g2 b
  d1 : bs < g1
  d2 : bs < g2
  d3 : g1 ≠ g2
  l1 : g1 < W.heap.size
  l2 : g2 < W.heap.size
theorem RS.below {w W W' : World} {bs : Nat} {ng : Bool} {A : Option Addr} {n c : Nat} {x : Int} {g1 g2 : Nat} {a b : List Int} (h : RS w bs ng A n c x g1 g2 a b W) (hb : Below W.heap.size W W') : RS w bs ng A n c x g1 g2 a b W' :=
  ⟨h.big.below hb, h.r1.below hb, h.r2.below hb, h.d1, h.d2, h.d3, Nat.lt_of_lt_of_le h.l1 hb.size, Nat.lt_of_lt_of_le h.l2 hb.size⟩
theorem BigB.put {w W : World} {b : Nat} {ng : Bool} {A : Option Addr} {n c m : Nat} {x : Int} (h : BigB w b ng A n c x m W) {g o : Nat} (hg : b < g) {z : Int} (hz : W.cell? ⟨g, o, none⟩ = some (.int .i64 z)) (v : Value) : BigB w b ng A n c x m (W.setCell ⟨g, o, none⟩ v) :=
  ⟨h.1.other (by omega) _ _, h.2.1.setCell hz (fun _ e => by cases e) _, h.2.2.1, h.2.2.2.setCell (p := ⟨g, o, none⟩) (Nat.le_trans h.2.2.1 (Nat.le_of_lt hg)) _⟩
theorem RS.put1 {w W : World} {bs : Nat} {ng : Bool} {A : Option Addr} {n c : Nat} {x : Int} {g1 g2 : Nat} {a b : List Int} (h : RS w bs ng A n c x g1 g2 a b W) (k : Nat) (hk : k < a.length) (v : Int) : RS w bs ng A n c x g1 g2 (a.set k v) b (W.setCell ⟨g1, k, none⟩ (.int .i64 v)) :=
  ⟨h.big.put h.d1 (h.r1 k hk).1 _, h.r1.set k hk v, h.r2.other h.d3 _ _, h.d1, h.d2, h.d3, by simpa [World.setCell] using h.l1, by simpa [World.setCell] using h.l2⟩
theorem RS.put2 {w W : World} {bs : Nat} {ng : Bool} {A : Option Addr} {n c : Nat} {x : Int} {g1 g2 : Nat} {a b : List Int} (h : RS w bs ng A n c x g1 g2 a b W) (k : Nat) (hk : k < b.length) (v : Int) : RS w bs ng A n c x g1 g2 a (b.set k v) (W.setCell ⟨g2, k, none⟩ (.int .i64 v)) :=
  ⟨h.big.put h.d2 (h.r2 k hk).1 _, h.r1.other (Ne.symm h.d3) _ _, h.r2.set k hk v, h.d1, h.d2, h.d3, by simpa [World.setCell] using h.l1, by simpa [World.setCell] using h.l2⟩

/-- All as it was, in a world that is the same below. -/
theorem RS.at {w W W' : World} {bs : Nat} {ng : Bool} {A : Option Addr} {n c : Nat} {x : Int} {g1 g2 : Nat} {a b : List Int} (h : RS w bs ng A n c x g1 g2 a b W) (hb : Below W.heap.size W W') : RS w bs ng A n c x g1 g2 a b W' := h.below hb
/-- A Big in its struct behind a store of an int64 into an elder block. -/
theorem BigB.off {w W : World} {b : Nat} {ng : Bool} {A : Option Addr} {n c m : Nat} {x : Int} (h : BigB w b ng A n c x m W) {g o : Nat} (hg : g < b) {z : Int} (hz : W.cell? ⟨g, o, none⟩ = some (.int .i64 z)) (v : Value) : Box2 (W.setCell ⟨g, o, none⟩ v) b (.bool ng) (.slice A n c) ∧ BigV (W.setCell ⟨g, o, none⟩ v) (.agg #[.bool ng, .slice A n c]) x m :=
  ⟨h.1.other (by omega) _ _, h.2.1.setCell hz (fun _ e => by cases e) _⟩
theorem placeV_ints' (l : List Int) : placeV (ordL l) = (ordI l).map (Value.int .i64) := by unfold placeV ordI; rw [List.map_map]; rfl
theorem RS.start {w W : World} {bs : Nat} {ng : Bool} {A : Option Addr} {n c : Nat} {x : Int} (h : BigB w bs ng A n c x 66 W) (m : Nat) (t : TypeId) :
    RS w bs ng A n c x W.heap.size (W.heap.size + 1) (List.replicate m 0) (List.replicate m 0) ((W.alloc (.cells (madeCells #[.int .i64 0] m) t)).alloc (.cells (madeCells #[.int .i64 0] m) t)).drew ∧
    RS w bs ng A n c x (W.heap.size + 1) W.heap.size (List.replicate m 0) (List.replicate m 0) ((W.alloc (.cells (madeCells #[.int .i64 0] m) t)).alloc (.cells (madeCells #[.int .i64 0] m) t)).drew := by
  have hlt := h.1.lt
  have hb : Below W.heap.size W ((W.alloc (.cells (madeCells #[.int .i64 0] m) t)).alloc (.cells (madeCells #[.int .i64 0] m) t)).drew := (grew1 (grew1 (Below.refl _ _) _) _).drew
  have r1 : RowK ((W.alloc (.cells (madeCells #[.int .i64 0] m) t)).alloc (.cells (madeCells #[.int .i64 0] m) t)).drew .i64 W.heap.size (List.replicate m 0) := ((RowK.new W .i64 m t _ rfl).alloc _).drew
  have r2 : RowK ((W.alloc (.cells (madeCells #[.int .i64 0] m) t)).alloc (.cells (madeCells #[.int .i64 0] m) t)).drew .i64 (W.heap.size + 1) (List.replicate m 0) := (RowK.new _ .i64 m t _ (by simp)).drew
  have hs : ((W.alloc (.cells (madeCells #[.int .i64 0] m) t)).alloc (.cells (madeCells #[.int .i64 0] m) t)).drew.heap.size = W.heap.size + 1 + 1 := by
    change ((W.alloc (.cells (madeCells #[.int .i64 0] m) t)).alloc (.cells (madeCells #[.int .i64 0] m) t)).heap.size = _
    simp
  exact ⟨⟨h.below hb, r1, r2, hlt, by omega, by omega, by omega, by omega⟩, ⟨h.below hb, r2, r1, by omega, hlt, by omega, by omega, by omega⟩⟩

set_option maxRecDepth 8000 in
set_option maxHeartbeats 80000000 in
theorem rsplit_some (t : Int) (A : Option Addr) (l : List Int) (c : Nat) (w : World) (hr : Ints w .i64 A l) (hl : ∀ x ∈ l, I64 x) (hn : l.length ≤ 64) (ht : 0 ≤ t) (ht1 : I64 t) (hw : ∀ x ∈ l, 0 ≤ x) (h : wrongB t l = false) (hS : 0 < l.sum) (hf : fits l.sum = true) :
    Calls Try.prog 12 #[.int .i64 t, .slice A l.length c] w (SliceC w (splitL t l) 0) := by
  have C := wrong_any t A l c w hr (by omega)
  rw [h] at C
  have C1 := Lib.hid C
  have C2 := Lib.hid (sum_told A l c w hr hl hn)
  have C3 : Hid (∀ W v, BigV W v l.sum 66 → Calls Try.prog 23 #[v] W fun e w' => e = .returned (.int .i64 1) ∧ Below W.heap.size W w') := Lib.hid fun W v hv => by
    have := sign_any v _ 66 W hv
    rw [show ord3 l.sum 0 = 1 from by unfold ord3; rw [if_neg (by omega), if_pos (by omega)]] at this
    exact this
  have C4 : Hid (∀ W v, BigV W v l.sum 66 → Calls Try.prog 38 #[v] W fun e w' => e = .returned (.tuple #[.int .i64 l.sum, .bool true]) ∧ Below W.heap.size W w') := Lib.hid fun W v hv => by
    have := int_any v _ 66 W hv
    rw [hf, held_of (fits_iff.1 hf)] at this
    exact this
  have hmk := made_i64 l.length (by omega)
  have HR := Lib.hid hr
  have HL := Lib.hid hl
  have hlk := lack_range t l ht hw hS
  have HM := Lib.hid (fun k => quo_take t l ht hw hS k)
  have HG := Lib.hid (fun k => quo_range t l ht hw hS k)
  have hSi := fits_iff.1 hf
  clear hr hl h C hf
  go_enter Try.func12, Try.ntmps12
  go_wp2_with (first
    | (go_at_call 49; refine C1.out.mono ?_; rintro e w' ⟨rfl, rfl⟩)
    | (go_at_call 22; refine C2.out.mono ?_; rintro e w1 ⟨ng, A1, n1, k1, rfl, hV, hb⟩; have HX := Lib.hid (BigB.new hV hb 42); obtain ⟨i1, i2, i3, i4⟩ := HX.out.1; clear hV hb)
    | (go_at_call 23; refine (C3.out _ _ HX.out.2.1).mono ?_; rintro e w2 ⟨rfl, hb⟩; replace HX := Lib.hid (HX.out.below hb); clear hb i1 i2 i3 i4; obtain ⟨i1, i2, i3, i4⟩ := HX.out.1)
    | (go_at_call 38; refine (C4.out _ _ HX.out.2.1).mono ?_; rintro e w3 ⟨rfl, hb⟩; replace HX := Lib.hid (HX.out.below hb); clear hb))
  go_cut [9, 10] (fun p q wx => ∃ g1 g2, p = .slice (some ⟨g1, 0, none⟩) l.length l.length ∧ q = .slice (some ⟨g2, 0, none⟩) l.length l.length ∧ Hid (RS w w1.heap.size ng A1 n1 k1 l.sum g1 g2 (List.replicate l.length 0) (List.replicate l.length 0) wx))
  case first =>
    go_region
    all_goals
      go_wp2
      go_meet
      first
        | exact ⟨_, _, rfl, rfl, Lib.hid (RS.start HX.out _ _).1⟩
        | exact ⟨_, _, rfl, rfl, Lib.hid (RS.start HX.out _ _).2⟩
  case rest =>
    obtain ⟨g1, g2, rfl, rfl, H0⟩ := hcut
    clear HX i1 i2 i3 i4
    obtain ⟨i1, i2, i3, i4⟩ := H0.out.big.1
    go_wp2_with (go_at_call 23; refine (C3.out _ _ H0.out.big.2.1).mono ?_; rintro e w4 ⟨rfl, hb⟩; replace H0 := Lib.hid (H0.out.below hb); clear hb i1 i2 i3 i4)
    go_loopg [11, 12] l.length (fun gh m i wr => ∃ k : Nat, gh = l.length - k ∧ k ≤ l.length ∧ i = .int .i64 k ∧ m = .int .i64 (t - ((quo t l).take k).sum) ∧ Hid (RS w w1.heap.size ng A1 n1 k1 l.sum g1 g2 (fillTo (quo t l) k) (fillTo (rst t l) k) wr))
    case atStart =>
      refine ⟨0, rfl, Nat.zero_le _, rfl, by simp, ?_⟩
      rw [← fillTo_zero (quo t l) l.length (quo_length t l), ← fillTo_zero (rst t l) l.length (rst_length t l)]
      exact H0
    case round =>
      obtain ⟨k, rfl, hk, rfl, rfl, HS⟩ := hrel
      by_cases hlt : k < l.length
      · obtain ⟨lb, lo, rfl, hc⟩ := HR.out.below HS.out.big.2.2.2 (by omega)
        have q1 := hc k hlt
        have hx := HL.out _ (getD_mem hlt)
        have HQe := Lib.hid (quo_getD t l k hlt)
        have HRe := Lib.hid (rst_getD t l k hlt)
        have hqr := HG.out k hlt
        generalize l.getD k 0 = x at *
        have CT := Lib.hid (whole_told t ht1)
        have CX := Lib.hid (whole_told x hx)
        have CM : Hid (∀ W0 W va vb, Below W0.heap.size W0 W → BigV W0 va t 2 → BigV W0 vb x 2 → Calls Try.prog 28 #[va, vb] W fun e w1 => ∃ (ng : Bool) (A1 : Option Addr) (n1 c1 : Nat), e = .returned (.agg #[.bool ng, .slice A1 n1 c1]) ∧ BigV w1 (.agg #[.bool ng, .slice A1 n1 c1]) (t * x) 5 ∧ Below W.heap.size W w1) := Lib.hid fun W0 W va vb h h1 h2 => times_told va vb t x 2 W (h1.below h) (h2.below h) (by omega)
        have CO : Hid (∀ W0 W va, Below wr.heap.size wr W → Below W0.heap.size W0 W → BigV W0 va (t * x) 5 → Calls Try.prog 50 #[va, .agg #[.bool ng, .slice A1 n1 k1]] W fun e w' => ∃ (nq : Bool) (Q : Option Addr) (lq cq : Nat) (nr : Bool) (R : Option Addr) (lr cr : Nat), e = .returned (.tuple #[.agg #[.bool nq, .slice Q lq cq], .agg #[.bool nr, .slice R lr cr]]) ∧ BigV w' (.agg #[.bool nq, .slice Q lq cq]) (t * x / l.sum) 1354 ∧ BigV w' (.agg #[.bool nr, .slice R lr cr]) (t * x % l.sum) 1354 ∧ Below W.heap.size W w') := Lib.hid fun W0 W va h h1 h2 => over_told va _ (t * x) l.sum 5 66 W (h2.below h1) (HS.out.big.2.1.below h) hS (by omega) (by omega)
        have HSall : Hid (∀ W, Below wr.heap.size wr W → W.cell? ⟨lb, lo + k, none⟩ = some (.int .i64 x) ∧ W.cell? ⟨w1.heap.size, 0, none⟩ = some (.bool ng) ∧ W.cell? ⟨w1.heap.size, 1, none⟩ = some (.slice A1 n1 k1)) := Lib.hid fun W hW => by
          obtain ⟨m1, _⟩ := old_cells hW
          have hbx := HS.out.big.1
          exact ⟨(m1 _ _ (block_lt q1)).trans q1, (m1 _ _ hbx.lt).trans hbx.1, (m1 _ _ hbx.lt).trans hbx.2.1⟩
        have KB : Hid (Bxs wr [] wr.drew) := Lib.hid (Below.refl _ _).drew
        clear hc
        go_wp2
        go_cut [13, 14] (fun p q wx => ∃ (b1 b2 : Nat) (nq : Bool) (Q : Option Addr) (lq cq : Nat) (nr : Bool) (R : Option Addr) (lr cr : Nat), p = .pointer (some ⟨b1, 0, none⟩) ∧ q = .pointer (some ⟨b2, 0, none⟩) ∧ Hid (QR wr b1 b2 nq Q lq cq nr R lr cr (t * x / l.sum) (t * x % l.sum) 1354 wx))
        case first =>
          refine wp_region_off D16 (fun V L W => I16 wr t x l.sum (.slice (some ⟨lb, lo, none⟩) l.length c) lb lo k ng A1 n1 k1 V L W) rfl rfl rfl I16.start ⟨?_, ?_, ?_, ?_, ?_, ?_, ?_, ?_, ?_, ?_, ?_, ?_, ?_, ?_, ?_, ?_, ?_, trivial⟩ ?_
          all_goals intro a W L
          · intro K ho hi hn haf hK
            have e0 : a.tmps.getD 0 undef = .int .i64 t := ho.slot 0 (by decide)
            go_simp
            exact Off.next hK ho (d := 54) (by decide) (Nat.le_of_ble_eq_true rfl) hi.s0
          · intro K ho hi hn haf hK
            have e0 : a.tmps.getD 54 undef = .int .i64 t := hi.f0 (haf ⟨0, .data⟩ (by simp) rfl)
            go_simp
            refine (CT.out _).mono ?_
            rintro e w2 ⟨ng', A', n', k', rfl, hV, hb⟩
            exact Off.next hK ho (d := 55) (by decide) (Nat.le_of_ble_eq_true rfl) ((hi.grow hb).s1 hV)
          · intro K ho hi hn haf hK
            have e0 : a.tmps.getD 1 undef = .slice (some ⟨lb, lo, none⟩) l.length c := ho.slot 1 (by decide)
            go_simp
            exact Off.next hK ho (d := 56) (by decide) (Nat.le_of_ble_eq_true rfl) hi.s2
          · intro K ho hi hn haf hK
            have e0 : a.tmps.getD 12 undef = .int .i64 k := ho.slot 12 (by decide)
            go_simp
            exact Off.next hK ho (d := 57) (by decide) (Nat.le_of_ble_eq_true rfl) hi.s3
          · intro K ho hi hn haf hK
            have e0 : a.tmps.getD 56 undef = .slice (some ⟨lb, lo, none⟩) l.length c := hi.f2 (haf ⟨2, .data⟩ (by simp) rfl)
            have e1 : a.tmps.getD 57 undef = .int .i64 k := hi.f3 (haf ⟨3, .data⟩ (by simp) rfl)
            go_simp
            exact Off.next hK ho (d := 58) (by decide) (Nat.le_of_ble_eq_true rfl) hi.s4
          · intro K ho hi hn haf hK
            have e0 : a.tmps.getD 58 undef = .pointer (some ⟨lb, lo + k, none⟩) := hi.f4 (haf ⟨4, .data⟩ (by simp) rfl)
            have e1 := (HSall.out W hi.old).1
            go_simp
            exact Off.next hK ho (d := 59) (by decide) (Nat.le_of_ble_eq_true rfl) hi.s5
          · intro K ho hi hn haf hK
            have e0 : a.tmps.getD 59 undef = .int .i64 x := hi.f5 (haf ⟨5, .data⟩ (by simp) rfl)
            go_simp
            refine (CX.out _).mono ?_
            rintro e w2 ⟨ng', A', n', k', rfl, hV, hb⟩
            exact Off.next hK ho (d := 60) (by decide) (Nat.le_of_ble_eq_true rfl) ((hi.grow hb).s6 hV)
          · intro K ho hi hn haf hK
            have h1 : BigV W (a.tmps.getD 55 undef) t 2 := hi.f1 (haf ⟨1, .data⟩ (by simp) rfl)
            have h2 : BigV W (a.tmps.getD 60 undef) x 2 := hi.f6 (haf ⟨6, .data⟩ (by simp) rfl)
            obtain ⟨n5, A5, l5, c5, e5⟩ := h1.form
            obtain ⟨n6, A6, l6, c6, e6⟩ := h2.form
            rw [e5] at h1
            rw [e6] at h2
            have H1 := Lib.hid h1
            have H2 := Lib.hid h2
            clear h1 h2
            go_simp
            refine (CM.out _ _ _ _ (Below.refl _ _) H1.out H2.out).mono ?_
            rintro e w2 ⟨ng', A', n', k', rfl, hV, hb⟩
            exact Off.next hK ho (d := 61) (by decide) (Nat.le_of_ble_eq_true rfl) ((hi.grow hb).s7 hV)
          · intro K ho hi hn haf hK
            have e0 : a.tmps.getD 6 undef = .pointer (some ⟨w1.heap.size, 0, none⟩) := ho.slot 6 (by decide)
            have e1 := (HSall.out W hi.old).2.1
            have e2 := (HSall.out W hi.old).2.2
            go_simp
            exact Off.next hK ho (d := 62) (by decide) (Nat.le_of_ble_eq_true rfl) hi.s8
          · intro K ho hi hn haf hK
            have h1 : BigV W (a.tmps.getD 61 undef) (t * x) 5 := hi.f7 (haf ⟨7, .data⟩ (by simp) rfl)
            have e0 : a.tmps.getD 62 undef = .agg #[.bool ng, .slice A1 n1 k1] := hi.f8 (haf ⟨8, .data⟩ (by simp) rfl)
            obtain ⟨n5, A5, l5, c5, e5⟩ := h1.form
            rw [e5] at h1
            have H1 := Lib.hid h1
            clear h1
            go_simp
            refine (CO.out _ _ _ hi.old (Below.refl _ _) H1.out).mono ?_
            rintro e w2 ⟨nq, Q, lq, cq, nr, R, lr, cr, rfl, hVq, hVr, hb⟩
            exact Off.next hK ho (d := 63) (by decide) (Nat.le_of_ble_eq_true rfl) ((hi.grow hb).s9 hn hVq hVr)
          · intro K ho hi hn haf hK
            have h9 := haf ⟨9, .data⟩ (by simp) rfl
            obtain ⟨q, r, e63, hq, hr⟩ := hi.f9 h9
            have e0 : a.tmps.getD 63 undef = .tuple #[q, r] := e63
            have h10 := hi.s10 h9
            rw [e63] at h10
            have H10 := Lib.hid h10
            clear h10 hq hr
            go_simp
            exact Off.next hK ho (d := 53) (by decide) (Nat.le_of_ble_eq_true rfl) H10.out
          · intro K ho hi hn haf hK
            obtain ⟨h9, e53⟩ := hi.f10 (haf ⟨10, .data⟩ (by simp) rfl)
            obtain ⟨q, r, e63, hq, hr⟩ := hi.f9 h9
            have e0 : a.tmps.getD 53 undef = .tuple #[q, r] := e53.trans e63
            go_simp
            exact Off.next hK ho (d := 64) (by decide) (Nat.le_of_ble_eq_true rfl) (hi.s11 (hi.n15 hn) hq)
          · intro K ho hi hn haf hK
            obtain ⟨h9, e53⟩ := hi.f10 (haf ⟨10, .data⟩ (by simp) rfl)
            obtain ⟨q, r, e63, hq, hr⟩ := hi.f9 h9
            have e0 : a.tmps.getD 53 undef = .tuple #[q, r] := e53.trans e63
            go_simp
            exact Off.next hK ho (d := 65) (by decide) (Nat.le_of_ble_eq_true rfl) (hi.s12 (hi.n16 hn) hr)
          · intro K ho hi hn haf hK
            go_simp
            exact Off.next hK ho (d := 13) (by decide) (Nat.le_of_ble_eq_true rfl) (hi.s13 (hi.n15' hn) _)
          · intro K ho hi hn haf hK
            go_simp
            exact Off.next hK ho (d := 14) (by decide) (Nat.le_of_ble_eq_true rfl) (hi.s14 (hi.n16' hn) _)
          · intro K ho hi hn haf hK
            have h13 := haf ⟨13, .data⟩ (by simp) rfl
            have h11 := haf ⟨11, .data⟩ (by simp) rfl
            obtain ⟨b, e13, _, hb, _⟩ := hi.f13 h13
            obtain ⟨nq, Q, lq, cq, e64⟩ := (hi.f11 h11).form
            obtain ⟨j1, j2, j3, j4⟩ := hb hn
            have e0 : a.tmps.getD 13 undef = .pointer (some ⟨b, 0, none⟩) := e13
            have e1 : a.tmps.getD 64 undef = .agg #[.bool nq, .slice Q lq cq] := e64
            go_simp
            exact hK _ _ ho (hi.s15 h13 h11 hn e13 e64)
          · intro K ho hi hn haf hK
            have h14 := haf ⟨14, .data⟩ (by simp) rfl
            have h12 := haf ⟨12, .data⟩ (by simp) rfl
            obtain ⟨b, e14, _, hb, _⟩ := hi.f14 h14
            obtain ⟨nq, Q, lq, cq, e65⟩ := (hi.f12 h12).form
            obtain ⟨j1, j2, j3, j4⟩ := hb hn
            have e0 : a.tmps.getD 14 undef = .pointer (some ⟨b, 0, none⟩) := e14
            have e1 : a.tmps.getD 65 undef = .agg #[.bool nq, .slice Q lq cq] := e65
            go_simp
            exact hK _ _ ho (hi.s16 h14 h12 hn e14 e65)
          · intro ho hi hall
            obtain ⟨b1, b2, nq, Q, lq, cq, nr, R, lr, cr, e13, e14, hQR⟩ := hi.done hall
            have HQR := Lib.hid hQR
            have heq := ho.eq
            have e13' : a.tmps.getD 13 undef = .pointer (some ⟨b1, 0, none⟩) := e13
            have e14' : a.tmps.getD 14 undef = .pointer (some ⟨b2, 0, none⟩) := e14
            clear hi hall hQR ho e13 e14
            simp only [D16, putL, e13', e14'] at heq
            generalize a.tmps.getD 53 undef = v53 at heq
            generalize a.tmps.getD 54 undef = v54 at heq
            generalize a.tmps.getD 55 undef = v55 at heq
            generalize a.tmps.getD 56 undef = v56 at heq
            generalize a.tmps.getD 57 undef = v57 at heq
            generalize a.tmps.getD 58 undef = v58 at heq
            generalize a.tmps.getD 59 undef = v59 at heq
            generalize a.tmps.getD 60 undef = v60 at heq
            generalize a.tmps.getD 61 undef = v61 at heq
            generalize a.tmps.getD 62 undef = v62 at heq
            generalize a.tmps.getD 63 undef = v63 at heq
            generalize a.tmps.getD 64 undef = v64 at heq
            generalize a.tmps.getD 65 undef = v65 at heq
            clear e13' e14'
            subst heq
            go_simp
            go_wp2
            go_meet
            exact ⟨_, _, _, _, _, _, _, _, _, _, rfl, rfl, HQR⟩
        case rest =>
          obtain ⟨b1, b2, nq, Q, lq, cq, nr, R, lr, cr, rfl, rfl, HQR⟩ := hcut
          have hq1 : HQe.out = HQe.out := rfl
          clear hq1
          have hqi : I64 (t * x / l.sum) := by rw [← HQe.out]; unfold I64 at ht1 ⊢; omega
          have hri : I64 (t * x % l.sum) := by
            have e1 := Int.emod_nonneg (t * x) (show l.sum ≠ 0 by omega)
            have e2 := Int.emod_lt_of_pos (t * x) hS
            unfold I64 at hSi ⊢; omega
          have CQ : Hid (∀ W v, BigV W v (t * x / l.sum) 1354 → Calls Try.prog 38 #[v] W fun e w' => e = .returned (.tuple #[.int .i64 ((quo t l).getD k 0), .bool true]) ∧ Below W.heap.size W w') := Lib.hid fun W v hv => by
            have := int_any v _ 1354 W hv
            rw [held_of hqi, fits_of hqi, ← HQe.out] at this
            exact this
          have CR : Hid (∀ W v, BigV W v (t * x % l.sum) 1354 → Calls Try.prog 38 #[v] W fun e w' => e = .returned (.tuple #[.int .i64 ((rst t l).getD k 0), .bool true]) ∧ Below W.heap.size W w') := Lib.hid fun W v hv => by
            have := int_any v _ 1354 W hv
            rw [held_of hri, fits_of hri, ← HRe.out] at this
            exact this
          have HS2 := Lib.hid (show RS w w1.heap.size ng A1 n1 k1 l.sum g1 g2 (fillTo (quo t l) k) (fillTo (rst t l) k) wc from RS.at HS.out HQR.out.1.2.2.2)
          have HL1 := Lib.hid (show k < (fillTo (quo t l) k).length by rw [fillTo_length, quo_length]; exact hlt)
          have HL2 := Lib.hid (show k < (fillTo (rst t l) k).length by rw [fillTo_length, rst_length]; exact hlt)
          have HTS := Lib.hid (take_sum (quo t l) k (by rw [quo_length]; exact hlt))
          have HE1 := Lib.hid (fillTo_step (quo t l) k (by rw [quo_length]; exact hlt))
          have HE2 := Lib.hid (fillTo_step (rst t l) k (by rw [rst_length]; exact hlt))
          have hm := HM.out k
          have hm2 := HM.out (k + 1)
          rw [HTS.out] at hm2
          generalize hQk : (quo t l).getD k 0 = qk at *
          have HQk := Lib.hid hQk
          clear hQk
          generalize (rst t l).getD k 0 = rk at *
          generalize ((quo t l).take k).sum = qs at *
          have hgb := Nat.lt_of_lt_of_le HS.out.l1 HQR.out.1.2.2.1
          have hgb2 := Nat.lt_of_lt_of_le HS.out.l1 HQR.out.2.1.2.2.1
          have hgb3 := Nat.lt_of_lt_of_le HS.out.l2 HQR.out.1.2.2.1
          obtain ⟨j1, j2, j3, j4⟩ := HQR.out.1.1
          clear HS CT CX CM CO HSall KB hqi hri HQe HRe
          go_wp2_with (fail)
          refine (CQ.out _ _ HQR.out.1.2.1).mono ?_
          rintro e wa ⟨rfl, hb⟩
          have hS3 := HS2.out.below hb
          have hQ3 := HQR.out.2.1.below hb
          obtain ⟨p1, p2⟩ := hS3.r1 k HL1.out
          have hS4 := hS3.put1 k HL1.out qk
          rw [HE1.out] at hS4
          have HS4 := Lib.hid hS4
          have hQ4 := hQ3.off (o := k) hgb2 p1 (.int .i64 qk)
          have HQ4 := Lib.hid hQ4
          obtain ⟨j5, j6, j7, j8⟩ := hQ4.1
          clear hS3 hS4 hQ3 hQ4 hb j1 j2 j3 j4
          go_wp2_with (fail)
          refine (CR.out _ _ HQ4.out.2).mono ?_
          rintro e wb ⟨rfl, hb⟩
          have hS5 := HS4.out.below hb
          obtain ⟨p3, p4⟩ := hS5.r2 k HL2.out
          have hS6 := hS5.put2 k HL2.out rk
          have p5 := (hS6.r1 k (by rw [fillTo_length, quo_length]; exact hlt)).1
          rw [fillTo_getD _ _ _ (by rw [quo_length]; exact hlt), if_pos (by omega), HQk.out] at p5
          rw [HE2.out] at hS6
          have HS6 := Lib.hid hS6
          clear hS5 hS6 hb j5 j6 j7 j8
          have hti := ht1
          unfold I64 at hti
          have e3 : IntKind.i64.wrap (t - qs - qk) = t - qs - qk := IntWalk.i64_in _ (by omega)
          go_wp2
          go_roundg (l.length - (k + 1))
          case measure => omega
          case rel => exact ⟨k + 1, rfl, by omega, by go_num, by rw [HTS.out]; congr 1; omega, HS6⟩
      · obtain rfl : k = l.length := by omega
        have ef1 := fillTo_all (quo t l) l.length (quo_length t l).symm
        have ef2 := fillTo_all (rst t l) l.length (rst_length t l).symm
        have et : (quo t l).take l.length = quo t l := by rw [← quo_length t l]; exact List.take_length
        rw [ef1, ef2] at HS
        have CO : Hid (Calls Try.prog 18 #[.slice (some ⟨g2, 0, none⟩) l.length l.length] wr fun e w' => ∃ (Q : Option Addr) (q : Nat), e = .returned (.slice Q l.length q) ∧ Ints w' .i64 Q (ordI (rst t l)) ∧ (∀ b o s, Q = some ⟨b, o, s⟩ → wr.heap.size ≤ b) ∧ Below wr.heap.size wr w') := Lib.hid <| by
          have h := rorder_any (some ⟨g2, 0, none⟩) (rst t l) l.length wr HS.out.r2.ints (by rw [rst_length]; omega)
          rw [rst_length] at h
          refine h.mono ?_
          rintro e w' ⟨v, rfl, ho, hb⟩
          have hlt2 := ho.lt
          rw [show placeV (ordL (rst t l)) = (ordI (rst t l)).map (Value.int .i64) from placeV_ints' _] at ho
          obtain ⟨_, Q, q, rfl, hI⟩ := own_form ho
          exact ⟨Q, q, rfl, hI, (fun b o s e => by subst e; exact (hlt2 b rfl).1), hb⟩
        rw [et, show t - (quo t l).sum = lack t l from rfl]
        obtain ⟨m, hm⟩ := Int.eq_ofNat_of_zero_le hlk.1
        rw [hm] at hlk ⊢
        have hml : m < l.length := by omega
        have HV : Hid (splitL t l = bump (quo t l) (ordL (rst t l)) m) := Lib.hid (by unfold splitL; rw [hm]; rfl)
        clear ef1 ef2 et hlk hmk
        have hgw := HS.out.l1
        go_wp2_with (go_at_call 18; refine CO.out.mono ?_; rintro e w5 ⟨Q, q, rfl, hQ, hQ2, hb⟩; have HQ := Lib.hid hQ; have HS2 := Lib.hid (HS.out.below hb); have HQ2 : Hid (∀ b o s, Q = some ⟨b, o, s⟩ → b ≠ g1) := Lib.hid (fun b o s e => by have := hQ2 b o s e; omega); clear hQ hQ2 hb)
        go_loopg [11, 16] m (fun gh lf i wq => ∃ j : Nat, gh = m - j ∧ j ≤ m ∧ i = .int .i64 j ∧ lf = .int .i64 ((m : Int) - (j : Int)) ∧ Hid (RS w w1.heap.size ng A1 n1 k1 l.sum g1 g2 (bump (quo t l) (ordL (rst t l)) j) (rst t l) wq) ∧ Hid (Ints wq .i64 Q (ordI (rst t l))))
        case atStart => exact ⟨0, rfl, Nat.zero_le _, rfl, by simp, by rw [bump_zero]; exact HS2, HQ⟩
        case round =>
          obtain ⟨j, rfl, hj, rfl, rfl, HS3, HQ3⟩ := hrel
          by_cases hjm : j < m
          · have hjn : j < (rst t l).length := by rw [rst_length]; omega
            obtain ⟨qb, qo, rfl, hcq⟩ := HQ3.out (by rw [ordI_length]; omega)
            have r1 := hcq j (by rw [ordI_length]; exact hjn)
            rw [ordI_getD _ _ hjn] at r1
            have hp := ordL_getD_lt (rst t l) j hjn
            rw [rst_length] at hp
            have hjo : j < (ordL (rst t l)).length := by rw [ordL_length]; exact hjn
            have hat := bump_at (quo t l) (ordL (rst t l)) (ordL_nodup _) j hjo (by rw [quo_length]; exact hp)
            have hst := bump_step (quo t l) (ordL (rst t l)) j hjo
            have hrg := HG.out _ hp
            rw [hm] at hrg
            generalize (ordL (rst t l)).getD j 0 = p at *
            obtain ⟨r3, r4⟩ := HS3.out.r1 p (by rw [bump_length, quo_length]; exact hp)
            rw [hat] at r3
            generalize (quo t l).getD p 0 = qp at *
            have hS4 := HS3.out.put1 p (by rw [bump_length, quo_length]; exact hp) (qp + 1)
            rw [hst] at hS4
            have HS4 := Lib.hid hS4
            have HQn := Lib.hid (HQ2.out _ _ _ rfl)
            have HQ4 := Lib.hid (HQ3.out.other (g := g1) (fun b o s e => by injection e with e; injection e with e; rw [← e]; exact HQn.out) p (.int .i64 (qp + 1)))
            have hti := ht1
            unfold I64 at hti
            have hq1 : IntKind.i64.wrap (qp + 1) = qp + 1 := IntWalk.i64_in _ (by omega)
            have hl1 : IntKind.i64.wrap ((m : Int) - (j : Int) - 1) = (m : Int) - (j : Int) - 1 := IntWalk.i64_in _ (by omega)
            have d1 : decide ((0 : Int) < (m : Int) - (j : Int)) = true := decide_eq_true (by omega)
            have hjl : j < l.length := by omega
            clear hat hst hS4 HS2 HQ CO hcq
            go_wp2
            go_roundg (m - (j + 1))
            case measure => omega
            case rel => exact ⟨j + 1, rfl, by omega, by go_num, by congr 1; omega, HS4, HQ4⟩
          · obtain rfl : j = m := by omega
            have hjl : j < l.length := by omega
            have F : Hid (SliceC w (splitL t l) 0 (.returned (.tuple #[.slice (some ⟨g1, 0, none⟩) l.length l.length, .int .i64 0])) wr) := Lib.hid <| by
              refine ⟨some ⟨g1, 0, none⟩, l.length, by rw [splitL_length], ?_, by rw [splitL_length]; exact Nat.le_refl _, by omega, (fun b o s e => by injection e with e; injection e with e; rw [← e]; exact Nat.le_trans HS3.out.big.2.2.1 (Nat.le_of_lt HS3.out.d1)), HS3.out.big.2.2.2⟩
              rw [HV.out]
              exact HS3.out.r1.ints
            clear CO HS2 HQ
            rw [Int.sub_self]
            go_wp2
            go_ret2
            exact F.out
end Go.Proofs.Ytnfoneeplkjhbaa
