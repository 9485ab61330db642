/-
  The walk of the reference's quotient: the number's bits, then quotient and rest bit by bit.
-/
import Derived.Test.YtiblbhppojfdaaaRef1h
import Derived.Test.YtiblbhppojfdaaaOv0
import Derived.Deep.LoopGhost
import Derived.Deep.DeepCutAuto
import Derived.Deep.CutBlock
import Derived.Deep.RegionWith
import Derived.BigRegion
import Derived.Test.YtiblbhppojfdaaaHeld4
namespace Go.Proofs.Ytiblbhppojfdaaa
open Go.RowKit

theorem pow_mono {j k : Nat} (h : j ≤ k) : (2 : Int) ^ j ≤ 2 ^ k := by
  induction k with
  | zero => obtain rfl : j = 0 := by omega
            exact Int.le_refl _
  | succ k ih =>
    by_cases e : j = k + 1
    · subst e; exact Int.le_refl _
    · have h1 := ih (by omega)
      have h2 : (0 : Int) < 2 ^ k := Int.pow_pos (by omega)
      rw [Int.pow_succ 2 k]
      omega
theorem own_below {w w' : World} {B e size n : Nat} {v : Value} {xs : List Value} (h : w.ownsRow B e size v n xs) (hb : Below w.heap.size w w') : w'.ownsRow B e size v n xs := by
  refine ⟨h.1, ?_⟩
  rcases h.2 with h0 | ⟨g, cap, cur, e1, h1, h2, h3⟩
  · exact .inl h0
  · have hg : g < w.heap.size := (Array.getElem?_eq_some_iff.1 h2).1
    exact .inr ⟨g, cap, cur, e1, h1, (hb.block g hg).trans h2, h3⟩
/-- Numbers in another block stay behind an append. -/
theorem ints_grown {w w' : World} {row : Option Nat} {b : Nat} {l : List Int} (h : Ints w .u64 (some ⟨b, 0, none⟩) l) (hg : w.grownBy w' row) (hne : some b ≠ row) : Ints w' .u64 (some ⟨b, 0, none⟩) l := by
  intro h0
  obtain ⟨b', off, e, hc⟩ := h h0
  injection e with e
  injection e with e1 e2
  subst e1 e2
  exact ⟨_, _, rfl, fun i hi => hg.cell (hc i hi) hne⟩

/-- The four structs that a division begins with. -/
structure Beg (w : World) (a0 a1 d0 d1 : Value) (w' : World) : Prop where
  ba : Box2 w' w.heap.size a0 a1
  bd : Box2 w' (w.heap.size + 1) d0 d1
  b2 : Box2 w' (w.heap.size + 1 + 1) (.bool false) (.slice none 0 0)
  b3 : Box2 w' (w.heap.size + 1 + 1 + 1) (.bool false) (.slice none 0 0)
  old : Below w.heap.size w w'
theorem Beg.below {w w1 w2 : World} {a0 a1 d0 d1 : Value} (h : Beg w a0 a1 d0 d1 w1) (hb : Below w1.heap.size w1 w2) : Beg w a0 a1 d0 d1 w2 :=
  ⟨h.ba.below hb, h.bd.below hb, h.b2.below hb, h.b3.below hb, h.old.trans (hb.mono h.old.size)⟩
theorem Beg.new (w : World) (a0 a1 d0 d1 : Value) (t : TypeId) :
    Beg w a0 a1 d0 d1 ((((w.alloc (.cells #[a0, a1] t)).alloc (.cells #[d0, d1] t)).alloc (.cells #[.bool false, .slice none 0 0] t)).alloc (.cells #[.bool false, .slice none 0 0] t)) :=
  ⟨(((Box2.new w a0 a1 t _ rfl).alloc _).alloc _).alloc _, ((Box2.new _ d0 d1 t _ (by simp)).alloc _).alloc _, (Box2.new _ _ _ t _ (by simp)).alloc _, Box2.new _ _ _ t _ (by simp),
    ((((Below.refl _ _).alloc (Nat.le_refl _) _).alloc (by simp) _).alloc (by simp; omega) _).alloc (by simp; omega) _⟩

/-- The six structs that a division works with. -/
structure OvS (w : World) (g : Nat) (a0 a1 d0 d1 q0 q1 r0 r1 : Value) (w' : World) : Prop extends Beg w a0 a1 d0 d1 w' where
  bq : Box2 w' g q0 q1
  br : Box2 w' (g + 1) r0 r1
theorem OvS.below {w w1 w2 : World} {g : Nat} {a0 a1 d0 d1 q0 q1 r0 r1 : Value} (h : OvS w g a0 a1 d0 d1 q0 q1 r0 r1 w1) (hb : Below w1.heap.size w1 w2) : OvS w g a0 a1 d0 d1 q0 q1 r0 r1 w2 :=
  ⟨h.toBeg.below hb, h.bq.below hb, h.br.below hb⟩
theorem Beg.set2 {w w1 : World} {g : Nat} {a0 a1 d0 d1 : Value} (h : Beg w a0 a1 d0 d1 w1) (hg : w.heap.size + 4 ≤ g) (v0 v1 : Value) : Beg w a0 a1 d0 d1 ((w1.setCell ⟨g, 0, none⟩ v0).setCell ⟨g, 1, none⟩ v1) :=
  ⟨(h.ba.other (by omega) _ _).other (by omega) _ _, (h.bd.other (by omega) _ _).other (by omega) _ _, (h.b2.other (by omega) _ _).other (by omega) _ _, (h.b3.other (by omega) _ _).other (by omega) _ _, (h.old.setCell (by simp; omega) _).setCell (by simp; omega) _⟩
theorem OvS.setq {w w1 : World} {g : Nat} {a0 a1 d0 d1 q0 q1 r0 r1 : Value} (h : OvS w g a0 a1 d0 d1 q0 q1 r0 r1 w1) (hg : w.heap.size + 4 ≤ g) (v0 v1 : Value) : OvS w g a0 a1 d0 d1 v0 v1 r0 r1 ((w1.setCell ⟨g, 0, none⟩ v0).setCell ⟨g, 1, none⟩ v1) :=
  ⟨h.toBeg.set2 hg v0 v1, h.bq.set v0 v1, (h.br.other (by omega) _ _).other (by omega) _ _⟩
theorem OvS.setr {w w1 : World} {g : Nat} {a0 a1 d0 d1 q0 q1 r0 r1 : Value} (h : OvS w g a0 a1 d0 d1 q0 q1 r0 r1 w1) (hg : w.heap.size + 4 ≤ g) (v0 v1 : Value) : OvS w g a0 a1 d0 d1 q0 q1 v0 v1 ((w1.setCell ⟨g + 1, 0, none⟩ v0).setCell ⟨g + 1, 1, none⟩ v1) :=
  ⟨h.toBeg.set2 (by omega) v0 v1, (h.bq.other (by omega) _ _).other (by omega) _ _, h.br.set v0 v1⟩
theorem big_set2 {w : World} {b : Nat} {f : Bool} {A0 : Option Addr} {n0 c0 : Nat} (H : Box2 w b (.bool f) (.slice A0 n0 c0)) (v0 v1 : Value) {v : Value} {x : Int} {n : Nat} (hV : BigV w v x n) : BigV ((w.setCell ⟨b, 0, none⟩ v0).setCell ⟨b, 1, none⟩ v1) v x n := by
  have h2' : (w.setCell ⟨b, 0, none⟩ v0).cell? ⟨b, 1, none⟩ = some (.slice A0 n0 c0) := by
    rw [World.cell?_setCell_other _ _ _ _ (by simp)]; exact H.2.1
  exact (hV.setCell H.1 (fun _ e => by cases e) _).setCell h2' (fun _ e => by cases e) _
theorem ints_set2 {w : World} {b : Nat} {f : Bool} {A0 : Option Addr} {n0 c0 : Nat} (H : Box2 w b (.bool f) (.slice A0 n0 c0)) (v0 v1 : Value) {A : Option Addr} {l : List Int} (hV : Ints w .u64 A l) : Ints ((w.setCell ⟨b, 0, none⟩ v0).setCell ⟨b, 1, none⟩ v1) .u64 A l := by
  have h2' : (w.setCell ⟨b, 0, none⟩ v0).cell? ⟨b, 1, none⟩ = some (.slice A0 n0 c0) := by
    rw [World.cell?_setCell_other _ _ _ _ (by simp)]; exact H.2.1
  exact (hV.setCell H.1 (fun _ e => by cases e) _).setCell h2' (fun _ e => by cases e) _

theorem below_four {w w2 : World} {v0 v1 u0 u1 : Value} (h : Below w.heap.size w w2) : Below w.heap.size w ((((w2.setCell ⟨w.heap.size + 1 + 1, 0, none⟩ v0).setCell ⟨w.heap.size + 1 + 1, 1, none⟩ v1).setCell ⟨w.heap.size + 1 + 1 + 1, 0, none⟩ u0).setCell ⟨w.heap.size + 1 + 1 + 1, 1, none⟩ u1) :=
  (((h.setCell (by simp; omega) _).setCell (by simp; omega) _).setCell (by simp; omega) _).setCell (by simp; omega) _

theorem qr_other {W : World} {g : Nat} {q0 q1 r0 r1 : Value} (h : Box2 W g q0 q1 ∧ Box2 W (g + 1) r0 r1) {b' : Nat} (hb : b' < g) (o : Nat) (v : Value) : Box2 (W.setCell ⟨b', o, none⟩ v) g q0 q1 ∧ Box2 (W.setCell ⟨b', o, none⟩ v) (g + 1) r0 r1 :=
  ⟨h.1.other (by omega) _ _, h.2.other (by omega) _ _⟩
theorem qr_four {W : World} {g : Nat} {q0 q1 r0 r1 : Value} (h : Box2 W g q0 q1 ∧ Box2 W (g + 1) r0 r1) :
    W.cell? ⟨g, 0, none⟩ = some q0 ∧ W.cell? ⟨g, 1, none⟩ = some q1 ∧ W.cell? ⟨g + 1, 0, none⟩ = some r0 ∧ W.cell? ⟨g + 1, 1, none⟩ = some r1 := ⟨h.1.1, h.1.2.1, h.2.1, h.2.2.1⟩

/-- All that a division has in hand: the structs, the bits, the divisor, quotient and rest so far. -/
structure OvB (w : World) (g : Nat) (a0 a1 d0 d1 : Value) (Bt : Option Addr) (bs : List Int) (y : Int) (m : Nat) (nq : Bool) (Q : Option Addr) (lq cq : Nat) (nr : Bool) (R : Option Addr) (lr cr : Nat) (xq xr : Int) (N : Nat) (w' : World) : Prop where
  st : OvS w g a0 a1 d0 d1 (.bool nq) (.slice Q lq cq) (.bool nr) (.slice R lr cr) w'
  hg : w.heap.size + 4 ≤ g
  bits : Ints w' .u64 Bt bs
  dv : BigV w' (.agg #[d0, d1]) y m
  qv : BigV w' (.agg #[.bool nq, .slice Q lq cq]) xq N
  rv : BigV w' (.agg #[.bool nr, .slice R lr cr]) xr N
theorem OvB.below {w w1 w2 : World} {g : Nat} {a0 a1 d0 d1 : Value} {Bt : Option Addr} {bs : List Int} {y : Int} {m : Nat} {nq : Bool} {Q : Option Addr} {lq cq : Nat} {nr : Bool} {R : Option Addr} {lr cr : Nat} {xq xr : Int} {N : Nat}
    (h : OvB w g a0 a1 d0 d1 Bt bs y m nq Q lq cq nr R lr cr xq xr N w1) (hb : Below w1.heap.size w1 w2) : OvB w g a0 a1 d0 d1 Bt bs y m nq Q lq cq nr R lr cr xq xr N w2 :=
  ⟨h.st.below hb, h.hg, h.bits.below hb, h.dv.below hb, h.qv.below hb, h.rv.below hb⟩
theorem OvB.more {w w1 : World} {g : Nat} {a0 a1 d0 d1 : Value} {Bt : Option Addr} {bs : List Int} {y : Int} {m : Nat} {nq : Bool} {Q : Option Addr} {lq cq : Nat} {nr : Bool} {R : Option Addr} {lr cr : Nat} {xq xr : Int} {N N' : Nat}
    (h : OvB w g a0 a1 d0 d1 Bt bs y m nq Q lq cq nr R lr cr xq xr N w1) (hN : N ≤ N') : OvB w g a0 a1 d0 d1 Bt bs y m nq Q lq cq nr R lr cr xq xr N' w1 :=
  ⟨h.st, h.hg, h.bits, h.dv, h.qv.more hN, h.rv.more hN⟩
theorem OvB.setq {w w1 : World} {g : Nat} {a0 a1 d0 d1 : Value} {Bt : Option Addr} {bs : List Int} {y : Int} {m : Nat} {nq : Bool} {Q : Option Addr} {lq cq : Nat} {nr : Bool} {R : Option Addr} {lr cr : Nat} {xq xr : Int} {N : Nat}
    (h : OvB w g a0 a1 d0 d1 Bt bs y m nq Q lq cq nr R lr cr xq xr N w1) {nq' : Bool} {Q' : Option Addr} {lq' cq' : Nat} {xq' : Int} (hV : BigV w1 (.agg #[.bool nq', .slice Q' lq' cq']) xq' N) :
    OvB w g a0 a1 d0 d1 Bt bs y m nq' Q' lq' cq' nr R lr cr xq' xr N ((w1.setCell ⟨g, 0, none⟩ (.bool nq')).setCell ⟨g, 1, none⟩ (.slice Q' lq' cq')) :=
  ⟨h.st.setq h.hg _ _, h.hg, ints_set2 h.st.bq _ _ h.bits, big_set2 h.st.bq _ _ h.dv, big_set2 h.st.bq _ _ hV, big_set2 h.st.bq _ _ h.rv⟩
theorem OvB.setr {w w1 : World} {g : Nat} {a0 a1 d0 d1 : Value} {Bt : Option Addr} {bs : List Int} {y : Int} {m : Nat} {nq : Bool} {Q : Option Addr} {lq cq : Nat} {nr : Bool} {R : Option Addr} {lr cr : Nat} {xq xr : Int} {N : Nat}
    (h : OvB w g a0 a1 d0 d1 Bt bs y m nq Q lq cq nr R lr cr xq xr N w1) {nr' : Bool} {R' : Option Addr} {lr' cr' : Nat} {xr' : Int} (hV : BigV w1 (.agg #[.bool nr', .slice R' lr' cr']) xr' N) :
    OvB w g a0 a1 d0 d1 Bt bs y m nq Q lq cq nr' R' lr' cr' xq xr' N ((w1.setCell ⟨g + 1, 0, none⟩ (.bool nr')).setCell ⟨g + 1, 1, none⟩ (.slice R' lr' cr')) :=
  ⟨h.st.setr h.hg _ _, h.hg, ints_set2 h.st.br _ _ h.bits, big_set2 h.st.br _ _ h.dv, big_set2 h.st.br _ _ h.qv, big_set2 h.st.br _ _ hV⟩
/-- The same, whatever structs hold quotient and rest. -/
def OvP (w : World) (g : Nat) (a0 a1 d0 d1 : Value) (Bt : Option Addr) (bs : List Int) (y : Int) (m : Nat) (xq xr : Int) (N : Nat) (w' : World) : Prop :=
  ∃ (nq : Bool) (Q : Option Addr) (lq cq : Nat) (nr : Bool) (R : Option Addr) (lr cr : Nat), OvB w g a0 a1 d0 d1 Bt bs y m nq Q lq cq nr R lr cr xq xr N w'

/-- Calls that make memory, told with what they leave. -/
theorem plus_told (va vb : Value) (x y : Int) (n : Nat) (w : World) (hx : BigV w va x n) (hy : BigV w vb y n) (hn : n ≤ 100000000000) :
    Calls Try.prog 15 #[va, vb] w fun e w1 => ∃ (ng : Bool) (A1 : Option Addr) (n1 c1 : Nat), e = .returned (.agg #[.bool ng, .slice A1 n1 c1]) ∧ BigV w1 (.agg #[.bool ng, .slice A1 n1 c1]) (x + y) (n + 1) ∧ Below w.heap.size w w1 := by
  refine (plus_any va vb x y n w hx hy hn).mono ?_
  rintro e w1 ⟨v, rfl, hV, hb⟩
  obtain ⟨ng, A1, n1, c1, rfl⟩ := hV.form
  exact ⟨ng, A1, n1, c1, rfl, hV, hb⟩
theorem less_told (va vb : Value) (x y : Int) (n : Nat) (w : World) (hx : BigV w va x n) (hy : BigV w vb y n) (hn : n ≤ 100000000000) :
    Calls Try.prog 16 #[va, vb] w fun e w1 => ∃ (ng : Bool) (A1 : Option Addr) (n1 c1 : Nat), e = .returned (.agg #[.bool ng, .slice A1 n1 c1]) ∧ BigV w1 (.agg #[.bool ng, .slice A1 n1 c1]) (x - y) (n + 1) ∧ Below w.heap.size w w1 := by
  refine (less_any va vb x y n w hx hy hn).mono ?_
  rintro e w1 ⟨v, rfl, hV, hb⟩
  obtain ⟨ng, A1, n1, c1, rfl⟩ := hV.form
  exact ⟨ng, A1, n1, c1, rfl, hV, hb⟩
theorem whole_told (x : Int) (hx : I64 x) (w : World) :
    Calls Try.prog 20 #[.int .i64 x] w fun e w1 => ∃ (ng : Bool) (A1 : Option Addr) (n1 c1 : Nat), e = .returned (.agg #[.bool ng, .slice A1 n1 c1]) ∧ BigV w1 (.agg #[.bool ng, .slice A1 n1 c1]) x 2 ∧ Below w.heap.size w w1 := by
  refine (whole_any x hx w).mono ?_
  rintro e w1 ⟨v, rfl, hV, hb⟩
  obtain ⟨ng, A1, n1, c1, rfl⟩ := hV.form
  exact ⟨ng, A1, n1, c1, rfl, hV, hb⟩
theorem turned_told (va : Value) (x : Int) (n : Nat) (w : World) (hx : BigV w va x n) :
    Calls Try.prog 17 #[va] w fun e w1 => ∃ (ng : Bool) (A1 : Option Addr) (n1 c1 : Nat), e = .returned (.agg #[.bool ng, .slice A1 n1 c1]) ∧ BigV w1 (.agg #[.bool ng, .slice A1 n1 c1]) (-x) n ∧ Below w.heap.size w w1 := by
  refine (turned_any va x n w hx).mono ?_
  rintro e w1 ⟨v, rfl, hV, hb⟩
  obtain ⟨ng, A1, n1, c1, rfl⟩ := hV.form
  exact ⟨ng, A1, n1, c1, rfl, hV, hb⟩

set_option maxRecDepth 100000 in
set_option maxHeartbeats 2000000 in
theorem over_walk (na nd : Bool) (A D : Option Addr) (a : List Int) (ca ld cd n m : Nat) (y : Int) (w : World) (ha : Ints w .u64 A a) (da : Digs a) (nra : Norm a) (la : a.length ≤ n) (hy : BigV w (.agg #[.bool nd, .slice D ld cd]) y m) (hy0 : 0 < y) (hn : n ≤ 1000000) (hm : m ≤ 1000000) :
    Calls Try.prog 63 #[.agg #[.bool na, .slice A a.length ca], .agg #[.bool nd, .slice D ld cd]] w fun e w' => ∃ vq vr : Value, e = .returned (.tuple #[vq, vr]) ∧ BigV w' vq ((if na then -dval a else dval a) / y) (32 * n * 8 + m + 8) ∧ BigV w' vr ((if na then -dval a else dval a) % y) (32 * n * 8 + m + 8) ∧ Below w.heap.size w w' := by
  obtain ⟨i0, hi, hz0, hz1, hz2⟩ := info_parts info_u64
  have HI := Lib.hid hi
  have HZ0 := Lib.hid hz0
  have HZ1 := Lib.hid hz1
  have HZ2 := Lib.hid hz2
  have HBeg := Beg.new w (.bool na) (.slice A a.length ca) (.bool nd) (.slice D ld cd) 28
  obtain ⟨W, hW⟩ : ∃ W, W = ((((w.alloc (.cells #[.bool na, .slice A a.length ca] 28)).alloc (.cells #[.bool nd, .slice D ld cd] 28)).alloc (.cells #[.bool false, .slice none 0 0] 28)).alloc (.cells #[.bool false, .slice none 0 0] 28)) := ⟨_, rfl⟩
  rw [← hW] at HBeg
  have HA := Lib.hid (ha.below HBeg.old)
  have HY := Lib.hid (hy.below HBeg.old)
  have HBG := Lib.hid HBeg
  have HDA := Lib.hid da
  have HDA0 := Lib.hid da
  have HNA := Lib.hid nra
  have HLT := Lib.hid (show dval a < 2 ^ (32 * n) from Int.lt_of_lt_of_le (dval_lt da) (pow_mono (by omega)))
  have HW := Lib.hid hW
  clear hi hz0 hz1 hz2 ha hy HBeg da nra hW
  go_enter Try.func63, Try.ntmps63
  go_upto_block 0 with (fail)
  rw [← HW.out]
  go_cut [6, 7] (fun v _ wx => ∃ bs : List Int, bs.length ≤ 32 * n ∧ wx.ownsRow W.heap.size 22 1 v bs.length (bs.map (Value.int .u64)) ∧ Hid (bapp bs 0 = dval a) ∧ Hid (Bits bs) ∧ Below W.heap.size W wx)
  case first =>
    go_wp2
    go_loopg [6, 7] (dval a).toNat (fun k v xs wr => ∃ (bs cur : List Int) (C : Option Addr) (c : Nat), k = (dval cur).toNat ∧ xs = .slice C cur.length c ∧ cur.length ≤ n ∧ Hid (Ints wr .u64 C cur) ∧ Hid (Digs cur) ∧ Hid (Norm cur) ∧ bs.length ≤ 32 * n ∧ Hid (dval cur < 2 ^ (32 * n - bs.length)) ∧ wr.ownsRow W.heap.size 22 1 v bs.length (bs.map (Value.int .u64)) ∧ Hid (bapp bs (dval cur) = dval a) ∧ Hid (Bits bs) ∧ Below W.heap.size W wr)
    case atStart => exact ⟨[], a, A, ca, rfl, rfl, la, HA, HDA, HNA, by simp, by simpa using HLT, World.ownsRow_nil _ _ _ _, Lib.hid rfl, Lib.hid bits_nil, Below.refl _ _⟩
    case round =>
      obtain ⟨bs, cur, C, c, hk, rfl, hcl, HIc, HDc, HNc, hbl, HLc, hown, HV, HBs, hbel⟩ := hrel
      by_cases h0 : 0 < cur.length
      · have hgt : decide ((0 : Int) < (cur.length : Int)) = true := by simp; omega
        have hpos := dval_pos HDc.out HNc.out h0
        have hb1 : 1 ≤ 32 * n - bs.length := pow_one HLc.out (by omega)
        have CH := Lib.hid (half_any C cur c wr HIc.out HDc.out (by omega))
        have HV2 : Hid (bapp (bs ++ [dval cur % 2]) (dval cur / 2) = dval a) := Lib.hid (by rw [bapp_snoc, show dval cur % 2 + 2 * (dval cur / 2) = dval cur from by omega]; exact HV.out)
        have HB2 : Hid (Bits (bs ++ [dval cur % 2])) := Lib.hid (bits_snoc HBs.out (by omega))
        have HL2 : Hid (dval cur / 2 < 2 ^ (32 * n - (bs.length + 1))) := Lib.hid (pow_half (by rw [show 32 * n - (bs.length + 1) + 1 = 32 * n - bs.length from by omega]; exact HLc.out))
        have hk2 : (dval cur / 2).toNat < gk := by omega
        have hbit : 0 ≤ dval cur % 2 ∧ dval cur % 2 ≤ 1 := by omega
        have hsz := hbel.size
        go_wp2_with (first
          | (go_at_call 76; refine CH.out.mono ?_; rintro e w2 ⟨out, C2, rfl, ho, hI2, hD2, hN2, hv2, hb2, rfl⟩; have HO : Hid (Ints w2 .u64 (some ⟨wr.heap.size, 0, none⟩) out ∧ Digs out ∧ Norm out ∧ dval out = dval cur / 2) := Lib.hid ⟨hI2, hD2, hN2, hv2⟩; have hown2 := own_below hown hb2; have hbel2 := hbel.trans (hb2.mono hbel.size); have hsz2 := hb2.size; clear hI2 hD2 hN2 hv2)
          | (at_builtin; (refine wpList_append_own _ rfl _ _ 26 rfl W.heap.size 22 i0 (.int .u64 0) 1 8 Try.underlying26 HI.out HZ0.out HZ1.out HZ2.out rfl (by decide) _ _ _ rfl (hown2.alloc _) ⟨w2.heap.size, 0, none⟩ 1 1 [.int .u64 (dval cur % 2)] rfl rfl (cell_one_new _ _ _) (one_u64 _) (by unfold maxLen; omega) (by omega) (by simp; omega) ?_)))
        intro v' w3 hown' hgrow _
        have hb3 : Below W.heap.size W w3 := (hbel2.alloc hbel2.size _).grown hgrow (by simp; omega) (fun g hg => (hown2.lt g hg).1)
        have hown3 := own_snoc hown'
        have HI3 : Hid (Ints w3 .u64 (some ⟨wr.heap.size, 0, none⟩) out) := Lib.hid (ints_grown (HO.out.1.below ((Below.refl _ _).alloc (Nat.le_refl _) _)) hgrow (fun e => by have := (hown.lt _ e.symm).2; omega))
        have HD3 := Lib.hid HO.out.2.1
        have HN3 := Lib.hid HO.out.2.2.1
        have hv3 := HO.out.2.2.2
        rw [← hv3] at HV2 HL2 hk2
        clear hown' hgrow hown hown2 hb2 hbel2 hv3 hbel
        go_wp2
        go_roundg (dval out).toNat
        case measure => exact hk2
        case rel => exact ⟨bs ++ [dval cur % 2], out, _, _, rfl, rfl, by omega, HI3, HD3, HN3, by simp; omega, by simpa using HL2, by simpa using hown3, HV2, HB2, hb3⟩
      · have hcur : cur = [] := List.eq_nil_of_length_eq_zero (by omega)
        subst hcur
        have hle : decide ((0 : Int) < (([] : List Int).length : Int)) = false := by simp
        go_wp2
        go_meet
        exact ⟨bs, hbl, hown, HV, HBs, hbel⟩
  case rest =>
    obtain ⟨bs, hbl, hown, HV, HBs, hbel⟩ := hcut
    obtain ⟨_, Bt, cb, rfl, hIb, _, _⟩ := own_form2 hown
    have hWs : W.heap.size = w.heap.size + 4 := by rw [HW.out]; simp
    have hg : w.heap.size + 4 ≤ wc.heap.size := by have := hbel.size; omega
    have HP0 : Hid (OvP w wc.heap.size (.bool na) (.slice A a.length ca) (.bool nd) (.slice D ld cd) Bt bs y m (bapp (bs.drop bs.length) 0 / y) (bapp (bs.drop bs.length) 0 % y) (m + 4 + 6 * (bs.length - bs.length)) ((wc.alloc (.cells #[.bool false, .slice none 0 0] 28)).alloc (.cells #[.bool false, .slice none 0 0] 28))) := Lib.hid <| by
      have hb2 : Below wc.heap.size wc ((wc.alloc (.cells #[.bool false, .slice none 0 0] 28)).alloc (.cells #[.bool false, .slice none 0 0] 28)) := ((Below.refl _ _).alloc (Nat.le_refl _) _).alloc (by simp) _
      have hz : BigV ((wc.alloc (.cells #[.bool false, .slice none 0 0] 28)).alloc (.cells #[.bool false, .slice none 0 0] 28)) (.agg #[.bool false, .slice none 0 0]) 0 (m + 4 + 6 * (bs.length - bs.length)) :=
        ⟨false, none, [], 0, rfl, by simp, by omega, fun h => absurd h (by simp), digs_nil, .inl rfl, by simp, by simp, rfl⟩
      rw [List.drop_length]
      simp only [bapp, Int.zero_ediv, Int.zero_emod]
      exact ⟨false, none, 0, 0, false, none, 0, 0, ⟨⟨(HBG.out.below hbel).below hb2, (Box2.new wc _ _ _ _ rfl).alloc _, Box2.new _ _ _ _ _ (by simp)⟩, hg, hIb.below hb2, (HY.out.below hbel).below hb2, hz, hz⟩⟩
    have HIB := Lib.hid hIb
    obtain ⟨g, hgE⟩ : ∃ g, wc.heap.size = g := ⟨_, rfl⟩
    rw [hgE] at HP0
    clear hown hIb hbel HA HY HBG HDA HNA HLT HI HZ0 HZ1 HZ2 hg
    go_upto_block 2 with (fail)
    clear hgE
    go_cut [12] (fun _ wx => Hid (OvP w g (.bool na) (.slice A a.length ca) (.bool nd) (.slice D ld cd) Bt bs y m (dval a / y) (dval a % y) (m + 4 + 6 * bs.length) wx))
    case first =>
      go_wp2
      go_loopw [12] (fun i wr => ∃ k : Nat, k ≤ bs.length ∧ i = .int .i64 ((k : Int) - 1) ∧ Hid (OvP w g (.bool na) (.slice A a.length ca) (.bool nd) (.slice D ld cd) Bt bs y m (bapp (bs.drop k) 0 / y) (bapp (bs.drop k) 0 % y) (m + 4 + 6 * (bs.length - k)) wr)) (fun i _ => (intOf i + 1).toNat)
      case atStart => exact ⟨bs.length, Nat.le_refl _, rfl, HP0⟩
      case round =>
        obtain ⟨k, hk, rfl, HP⟩ := hrel
        clear HP0
        by_cases hk0 : 0 < k
        · obtain ⟨j, rfl⟩ : ∃ j, k = j + 1 := ⟨k - 1, by omega⟩
          rw [show ((j + 1 : Nat) : Int) - 1 = (j : Int) from by omega]
          have HTd := Lib.hid (bapp_drop bs j (by omega))
          have HTn := Lib.hid (bapp_nn (show Bits (bs.drop (j + 1)) from fun b hb => HBs.out b (List.mem_of_mem_drop hb)))
          have hbt := bits_at HBs.out j (by omega)
          generalize bapp (bs.drop (j + 1)) 0 = T at *
          generalize hN : m + 4 + 6 * (bs.length - (j + 1)) = N at *
          have hNb : N ≤ 1000000000 := by omega
          go_upto_region 11 with (fail)
          go_cut [] (fun wx => Hid (OvP w g (.bool na) (.slice A a.length ca) (.bool nd) (.slice D ld cd) Bt bs y m (T / y + T / y) (T % y + T % y) (N + 1) wx))
          case first =>
            obtain ⟨nq, Q, lq, cq, nr, R, lr, cr, hB⟩ := HP.out
            have HB := Lib.hid (hB.below (Below.refl _ _).drew)
            clear hB HP
            refine wp_region_loads (fun w' => w'.cell? ⟨g, 0, none⟩ = some (.bool nq) ∧ w'.cell? ⟨g, 1, none⟩ = some (.slice Q lq cq) ∧ w'.cell? ⟨g + 1, 0, none⟩ = some (.bool nr) ∧ w'.cell? ⟨g + 1, 1, none⟩ = some (.slice R lr cr)) [0, 1, 3, 4] [2, 5] 6 (by kernel_rfl) [_, _, _, _] [_, _] rfl rfl (by kernel_rfl) ⟨HB.out.st.bq.1, HB.out.st.bq.2.1, HB.out.st.br.1, HB.out.st.br.2.1⟩ ?_
            refine ⟨.agg #[.bool nq, .slice Q lq cq], .inl ⟨rfl, fun w' ⟨s0, s1, s2, s3⟩ => by go_simp⟩, ?_⟩
            refine ⟨.agg #[.bool nq, .slice Q lq cq], .inl ⟨rfl, fun w' ⟨s0, s1, s2, s3⟩ => by go_simp⟩, ?_⟩
            refine ⟨.agg #[.bool nr, .slice R lr cr], .inl ⟨rfl, fun w' ⟨s0, s1, s2, s3⟩ => by go_simp⟩, ?_⟩
            refine ⟨.agg #[.bool nr, .slice R lr cr], .inl ⟨rfl, fun w' ⟨s0, s1, s2, s3⟩ => by go_simp⟩, ?_⟩
            simp only [wpLoads, wpCallsL]
            go_wp2_with (go_at_call 15; refine (plus_told _ _ _ _ N _ HB.out.qv HB.out.qv (by omega)).mono ?_; rintro e wz ⟨ng, A1, n1, c1, rfl, hV, hb⟩; replace HB := Lib.hid (HB.out.below hb); have HVq := Lib.hid hV; clear hV hb)
            refine ⟨⟨HB.out.st.bq.1, HB.out.st.bq.2.1, HB.out.st.br.1, HB.out.st.br.2.1⟩, ?_⟩
            dsimp only
            go_wp2_with (go_at_call 15; refine (plus_told _ _ _ _ N _ HB.out.rv HB.out.rv (by omega)).mono ?_; rintro e wz ⟨ng2, A2, n2, c2, rfl, hV, hb⟩; replace HB := Lib.hid (HB.out.below hb); replace HVq := Lib.hid (HVq.out.below hb); have HVr := Lib.hid hV; clear hV hb)
            refine ⟨⟨HB.out.st.bq.1, HB.out.st.bq.2.1, HB.out.st.br.1, HB.out.st.br.2.1⟩, ?_⟩
            dsimp only
            obtain ⟨q0, q1, q2, q3⟩ := HB.out.st.bq
            obtain ⟨r0, r1, r2, r3⟩ := (HB.out.st.setq HB.out.hg (.bool ng) (.slice A1 n1 c1)).br
            go_wp2
            refine NoPanic.normal ?_
            go_wp2
            go_meet
            exact Lib.hid ⟨_, _, _, _, _, _, _, _, ((HB.out.more (Nat.le_succ N)).setq HVq.out).setr (big_set2 HB.out.st.bq _ _ HVr.out)⟩
          case rest =>
            have HP1 := hcut
            clear HP hcut
            obtain ⟨nq, Q, lq, cq, nr, R, lr, cr, hB⟩ := HP1.out
            have hbc : ∃ bb off, Bt = some ⟨bb, off, none⟩ ∧ ∀ i, i < bs.length → wc.cell? ⟨bb, off + i, none⟩ = some (.int .u64 (bs.getD i 0)) := hB.bits (by omega)
            obtain ⟨bb, off, rfl, hcb⟩ := hbc
            have hcell := hcb j (by omega)
            have HB0 := Lib.hid hB
            clear hcb hB HP1
            generalize bs.getD j 0 = bt at *
            go_upto_if 45 with (fail)
            go_cut [] (fun wx => Hid (OvP w g (.bool na) (.slice A a.length ca) (.bool nd) (.slice D ld cd) (some ⟨bb, off, none⟩) bs y m (T / y + T / y) (T % y + T % y + bt) (N + 3) wx))
            case first =>
              rcases hbt with rfl | rfl
              · go_wp2
                go_meet
                exact Lib.hid ⟨_, _, _, _, _, _, _, _, by rw [Int.add_zero]; exact HB0.out.more (by omega)⟩
              · go_wp2
                have HB := Lib.hid (HB0.out.below (Below.refl _ _).drew)
                refine wp_region_loads (fun w' => w'.cell? ⟨g + 1, 0, none⟩ = some (.bool nr) ∧ w'.cell? ⟨g + 1, 1, none⟩ = some (.slice R lr cr)) [0] [1, 2] 3 (by kernel_rfl) [_] [_, _] rfl rfl (by kernel_rfl) ⟨HB.out.st.br.1, HB.out.st.br.2.1⟩ ?_
                refine ⟨.agg #[.bool nr, .slice R lr cr], .inl ⟨rfl, fun w' ⟨s0, s1⟩ => by go_simp⟩, ?_⟩
                simp only [wpLoads, wpCallsL]
                go_wp2_with (go_at_call 20; refine (whole_told 1 (by unfold I64; omega) _).mono ?_; rintro e wz ⟨ng, A1, n1, c1, rfl, hV, hb⟩; replace HB := Lib.hid (HB.out.below hb); have HV1 := Lib.hid hV; clear hV hb)
                refine ⟨⟨HB.out.st.br.1, HB.out.st.br.2.1⟩, ?_⟩
                dsimp only
                go_wp2_with (go_at_call 15; refine (plus_told _ _ _ _ (N + 2) _ (HB.out.rv.more (by omega)) (HV1.out.more (by omega)) (by omega)).mono ?_; rintro e wz ⟨ng2, A2, n2, c2, rfl, hV, hb⟩; replace HB := Lib.hid (HB.out.below hb); replace HV1 := Lib.hid (HV1.out.below hb); have HVr := Lib.hid hV; clear hV hb)
                refine ⟨⟨HB.out.st.br.1, HB.out.st.br.2.1⟩, ?_⟩
                dsimp only
                obtain ⟨r0, r1, r2, r3⟩ := HB.out.st.br
                go_wp2
                refine NoPanic.normal ?_
                go_wp2
                go_meet
                exact Lib.hid ⟨_, _, _, _, _, _, _, _, (HB.out.more (show N + 1 ≤ N + 3 by omega)).setr HVr.out⟩
            case rest =>
              have HP2 := hcut
              clear HB0 hcut hcell
              obtain ⟨nq, Q, lq, cq, nr, R, lr, cr, hB⟩ := HP2.out
              have HB0 := Lib.hid hB
              obtain ⟨r0, r1, r2, r3⟩ := hB.st.br
              obtain ⟨d0, d1, d2, d3⟩ := hB.st.bd
              have cc := rcmp_any _ _ _ _ (N + 3) wc hB.rv (hB.dv.more (by omega)) (by omega)
              obtain ⟨o, ho⟩ : ∃ o, ord3 (T % y + T % y + bt) y = o := ⟨_, rfl⟩
              rw [ho] at cc
              have CC := Lib.hid cc
              have HOO := Lib.hid ho
              clear cc ho
              clear hB HP2
              go_upto_if 52 with (go_at_call 26; refine CC.out.mono ?_; rintro e wz ⟨rfl, hb⟩; replace HB0 := Lib.hid (HB0.out.below hb); clear hb)
              by_cases hlt : T % y + T % y + bt < y
              · have hd : o < 0 := by rw [← HOO.out]; unfold ord3; rw [if_pos hlt]; decide
                have hd2 : decide ((0 : Int) ≤ o) = false := by simp; exact hd
                obtain ⟨e1, e2⟩ := bit_less hy0 hbt hlt
                have HE1 := Lib.hid e1
                have HE2 := Lib.hid e2
                clear e1 e2 hlt
                have HP3 : Hid (OvP w g (.bool na) (.slice A a.length ca) (.bool nd) (.slice D ld cd) (some ⟨bb, off, none⟩) bs y m (bapp (bs.drop j) 0 / y) (bapp (bs.drop j) 0 % y) (m + 4 + 6 * (bs.length - j)) _) := Lib.hid ⟨_, _, _, _, _, _, _, _, by rw [HTd.out, HE1.out, HE2.out]; exact HB0.out.more (by omega)⟩
                clear HTd HTn hN hNb HE1 HE2
                go_wp2
                go_roundw
                case rel => exact ⟨j, by omega, rfl, HP3⟩
                case measure => simp [intOf]
              · have hd : 0 ≤ o := by rw [← HOO.out]; unfold ord3; rw [if_neg hlt]; split <;> decide
                obtain ⟨e1, e2⟩ := bit_more hy0 hbt hlt
                have HE1 := Lib.hid e1
                have HE2 := Lib.hid e2
                clear e1 e2 hlt
                go_wp2
                have HB := Lib.hid (HB0.out.below (Below.refl _ _).drew)
                refine wp_region_loads (fun w' => w'.cell? ⟨g, 0, none⟩ = some (.bool nq) ∧ w'.cell? ⟨g, 1, none⟩ = some (.slice Q lq cq) ∧ w'.cell? ⟨g + 1, 0, none⟩ = some (.bool nr) ∧ w'.cell? ⟨g + 1, 1, none⟩ = some (.slice R lr cr) ∧ w'.cell? ⟨w.heap.size + 1, 0, none⟩ = some (.bool nd) ∧ w'.cell? ⟨w.heap.size + 1, 1, none⟩ = some (.slice D ld cd)) [0, 1, 3] [2, 4, 5] 6 (by kernel_rfl) [_, _, _] [_, _, _] rfl rfl (by kernel_rfl) ⟨HB.out.st.bq.1, HB.out.st.bq.2.1, HB.out.st.br.1, HB.out.st.br.2.1, HB.out.st.bd.1, HB.out.st.bd.2.1⟩ ?_
                refine ⟨.agg #[.bool nr, .slice R lr cr], .inl ⟨rfl, fun w' ⟨s0, s1, s2, s3, s4, s5⟩ => by go_simp⟩, ?_⟩
                refine ⟨.agg #[.bool nd, .slice D ld cd], .inl ⟨rfl, fun w' ⟨s0, s1, s2, s3, s4, s5⟩ => by go_simp⟩, ?_⟩
                refine ⟨.agg #[.bool nq, .slice Q lq cq], .inl ⟨rfl, fun w' ⟨s0, s1, s2, s3, s4, s5⟩ => by go_simp⟩, ?_⟩
                simp only [wpLoads, wpCallsL]
                go_wp2_with (go_at_call 16; refine (less_told _ _ _ _ (N + 3) _ HB.out.rv (HB.out.dv.more (by omega)) (by omega)).mono ?_; rintro e wz ⟨ng, A1, n1, c1, rfl, hV, hb⟩; replace HB := Lib.hid (HB.out.below hb); have HVr := Lib.hid hV; clear hV hb)
                refine ⟨⟨HB.out.st.bq.1, HB.out.st.bq.2.1, HB.out.st.br.1, HB.out.st.br.2.1, HB.out.st.bd.1, HB.out.st.bd.2.1⟩, ?_⟩
                dsimp only
                go_wp2_with (go_at_call 20; refine (whole_told 1 (by unfold I64; omega) _).mono ?_; rintro e wz ⟨ng2, A2, n2, c2, rfl, hV, hb⟩; replace HB := Lib.hid (HB.out.below hb); replace HVr := Lib.hid (HVr.out.below hb); have HV1 := Lib.hid hV; clear hV hb)
                refine ⟨⟨HB.out.st.bq.1, HB.out.st.bq.2.1, HB.out.st.br.1, HB.out.st.br.2.1, HB.out.st.bd.1, HB.out.st.bd.2.1⟩, ?_⟩
                dsimp only
                go_wp2_with (go_at_call 15; refine (plus_told _ _ _ _ (N + 3) _ HB.out.qv (HV1.out.more (by omega)) (by omega)).mono ?_; rintro e wz ⟨ng3, A3, n3, c3, rfl, hV, hb⟩; replace HB := Lib.hid (HB.out.below hb); replace HVr := Lib.hid (HVr.out.below hb); replace HV1 := Lib.hid (HV1.out.below hb); have HVq := Lib.hid hV; clear hV hb)
                refine ⟨⟨HB.out.st.bq.1, HB.out.st.bq.2.1, HB.out.st.br.1, HB.out.st.br.2.1, HB.out.st.bd.1, HB.out.st.bd.2.1⟩, ?_⟩
                dsimp only
                obtain ⟨r0, r1, r2, r3⟩ := HB.out.st.br
                obtain ⟨q0, q1, q2, q3⟩ := (HB.out.st.setr HB.out.hg (.bool ng) (.slice A1 n1 c1)).bq
                go_wp2
                have HP3 := Lib.hid (((HB.out.more (show N + 3 ≤ m + 4 + 6 * (bs.length - j) by omega)).setr (HVr.out.more (by omega))).setq (big_set2 HB.out.st.br _ _ (HVq.out.more (show N + 3 + 1 ≤ m + 4 + 6 * (bs.length - j) by omega))))
                rw [← HE1.out, ← HE2.out, ← HTd.out] at HP3
                clear HTd HTn hN hNb HE1 HE2
                refine NoPanic.normal ?_
                go_wp2
                go_roundw
                case rel => exact ⟨j, by omega, rfl, Lib.hid ⟨_, _, _, _, _, _, _, _, HP3.out⟩⟩
                case measure => simp [intOf]
        · obtain rfl : k = 0 := by omega
          have hv := HV.out
          rw [List.drop_zero, hv, Nat.sub_zero] at HP
          go_wp2
          go_meet
          exact HP
    case rest =>
      have HP1 := hcut
      clear HP0 hcut
      obtain ⟨nq, Q, lq, cq, nr, R, lr, cr, hB⟩ := HP1.out
      have HB := Lib.hid hB
      obtain ⟨a0, a1, a2, a3⟩ := hB.st.ba
      obtain ⟨r0, r1, r2, r3⟩ := hB.st.br
      have hN0 := dval_nn HDA0.out
      clear hB HP1
      cases na
      · go_wp2
        replace HB := Lib.hid (HB.out.below (Below.refl _ _).drew)
        have hgg := HB.out.hg
        refine wp_region_loads (fun w' => w'.cell? ⟨g, 0, none⟩ = some (.bool nq) ∧ w'.cell? ⟨g, 1, none⟩ = some (.slice Q lq cq) ∧ w'.cell? ⟨g + 1, 0, none⟩ = some (.bool nr) ∧ w'.cell? ⟨g + 1, 1, none⟩ = some (.slice R lr cr)) [0, 1] [2] 3 (by kernel_rfl) [_, _] [_] rfl rfl (by kernel_rfl) ⟨HB.out.st.bq.1, HB.out.st.bq.2.1, HB.out.st.br.1, HB.out.st.br.2.1⟩ ?_
        obtain ⟨wd, hwd⟩ : ∃ wd, wd = ({ wc with drawn := wc.drawn + 1 } : World) := ⟨_, rfl⟩
        rw [← hwd]
        replace HB : Hid (OvB w g (.bool false) (.slice A a.length ca) (.bool nd) (.slice D ld cd) Bt bs y m nq Q lq cq nr R lr cr (dval a / y) (dval a % y) (m + 4 + 6 * bs.length) wd) := by rw [hwd]; exact HB
        clear hwd a0 a1 a2 a3 r0 r1 r2 r3
        refine ⟨.agg #[.bool nq, .slice Q lq cq], .inl ⟨rfl, fun w' ⟨s0, s1, s2, s3⟩ => by go_simp⟩, ?_⟩
        refine ⟨.agg #[.bool nr, .slice R lr cr], .inl ⟨rfl, fun w' ⟨s0, s1, s2, s3⟩ => by go_simp⟩, ?_⟩
        simp only [wpLoads, wpCallsL]
        obtain ⟨x0, x1, x2, x3⟩ := HB.out.st.b2
        have h3 := (HB.out.st.b3.other (b' := w.heap.size + 1 + 1) (by omega) 0 (.bool nq)).other (b' := w.heap.size + 1 + 1) (by omega) 1 (.slice Q lq cq)
        have HX3 := Lib.hid h3
        obtain ⟨y0, y1, y2, y3⟩ := HX3.out
        clear h3
        go_wp2
        refine ⟨qr_four (qr_other (qr_other ⟨HB.out.st.bq, HB.out.st.br⟩ (by omega) 0 _) (by omega) 1 _), ?_⟩
        dsimp only
        go_wp2
        refine NoPanic.normal ?_
        go_wp2
        have hb2 := ((HB.out.st.b2.set (.bool nq) (.slice Q lq cq)).other (b' := w.heap.size + 1 + 1 + 1) (by omega) 0 (.bool nr)).other (b' := w.heap.size + 1 + 1 + 1) (by omega) 1 (.slice R lr cr)
        have hb3 := HX3.out.set (.bool nr) (.slice R lr cr)
        refine bodyPost_ret (v := .tuple #[.agg #[.bool nq, .slice Q lq cq], .agg #[.bool nr, .slice R lr cr]]) (by simp [results, Try.results63, go_sem, hb2.1, hb2.2.1, hb3.1, hb3.2.1]) rfl ?_
        refine ⟨_, _, rfl, (big_set2 HX3.out _ _ (big_set2 HB.out.st.b2 _ _ HB.out.qv)).more (by omega), (big_set2 HX3.out _ _ (big_set2 HB.out.st.b2 _ _ HB.out.rv)).more (by omega), below_four HB.out.st.old⟩
      · have CS := Lib.hid (sign_any _ _ _ wc HB.out.rv)
        obtain ⟨o, ho⟩ : ∃ o, ord3 (dval a % y) 0 = o := ⟨_, rfl⟩
        have cs := CS.out
        rw [ho] at cs
        replace CS := Lib.hid cs
        clear cs
        by_cases hz : dval a % y = 0
        · have hd : (o == 0) = true := by rw [← ho, hz]; decide
          obtain ⟨e1, e2⟩ := neg_even hy0 hz
          have HE1 := Lib.hid e1
          have HE2 := Lib.hid e2
          clear e1 e2 hz ho
          go_wp2_with (go_at_call 24; refine CS.out.mono ?_; rintro e wz ⟨rfl, hb⟩; replace HB := Lib.hid (HB.out.below hb); clear hb)
          replace HB := Lib.hid (HB.out.below (Below.refl _ _).drew)
          have hgg := HB.out.hg
          refine wp_region_loads (fun w' => w'.cell? ⟨g, 0, none⟩ = some (.bool nq) ∧ w'.cell? ⟨g, 1, none⟩ = some (.slice Q lq cq) ∧ w'.cell? ⟨g + 1, 0, none⟩ = some (.bool nr) ∧ w'.cell? ⟨g + 1, 1, none⟩ = some (.slice R lr cr)) [0, 2] [1, 3] 4 (by kernel_rfl) [_, _] [_, _] rfl rfl (by kernel_rfl) ⟨HB.out.st.bq.1, HB.out.st.bq.2.1, HB.out.st.br.1, HB.out.st.br.2.1⟩ ?_
          refine ⟨.agg #[.bool nq, .slice Q lq cq], .inl ⟨rfl, fun w' ⟨s0, s1, s2, s3⟩ => by go_simp⟩, ?_⟩
          refine ⟨.agg #[.bool nr, .slice R lr cr], .inl ⟨rfl, fun w' ⟨s0, s1, s2, s3⟩ => by go_simp⟩, ?_⟩
          simp only [wpLoads, wpCallsL]
          go_wp2_with (go_at_call 17; refine (turned_told _ _ _ _ HB.out.qv).mono ?_; rintro e wz ⟨ng, A1, n1, c1, rfl, hV, hb⟩; replace HB := Lib.hid (HB.out.below hb); have HVq := Lib.hid hV; clear hV hb)
          refine ⟨⟨HB.out.st.bq.1, HB.out.st.bq.2.1, HB.out.st.br.1, HB.out.st.br.2.1⟩, ?_⟩
          dsimp only
          obtain ⟨x0, x1, x2, x3⟩ := HB.out.st.b2
          have h3 := (HB.out.st.b3.other (b' := w.heap.size + 1 + 1) (by omega) 0 (.bool ng)).other (b' := w.heap.size + 1 + 1) (by omega) 1 (.slice A1 n1 c1)
          have HX3 := Lib.hid h3
          obtain ⟨y0, y1, y2, y3⟩ := HX3.out
          clear h3
          go_wp2
          refine ⟨qr_four (qr_other (qr_other ⟨HB.out.st.bq, HB.out.st.br⟩ (by omega) 0 _) (by omega) 1 _), ?_⟩
          dsimp only
          go_wp2
          refine NoPanic.normal ?_
          go_wp2
          have hb2 := ((HB.out.st.b2.set (.bool ng) (.slice A1 n1 c1)).other (b' := w.heap.size + 1 + 1 + 1) (by omega) 0 (.bool nr)).other (b' := w.heap.size + 1 + 1 + 1) (by omega) 1 (.slice R lr cr)
          have hb3 := HX3.out.set (.bool nr) (.slice R lr cr)
          refine bodyPost_ret (v := .tuple #[.agg #[.bool ng, .slice A1 n1 c1], .agg #[.bool nr, .slice R lr cr]]) (by simp [results, Try.results63, go_sem, hb2.1, hb2.2.1, hb3.1, hb3.2.1]) rfl ?_
          refine ⟨_, _, rfl, by rw [HE1.out]; exact (big_set2 HX3.out _ _ (big_set2 HB.out.st.b2 _ _ HVq.out)).more (by omega), by rw [HE2.out]; exact (big_set2 HX3.out _ _ (big_set2 HB.out.st.b2 _ _ HB.out.rv)).more (by omega), below_four HB.out.st.old⟩
        · have hd : (o == 0) = false := by
            rw [← ho, beq_eq_false_iff_ne]
            unfold ord3
            split <;> (try split) <;> omega
          obtain ⟨e1, e2⟩ := neg_odd hy0 hz
          have HE1 := Lib.hid e1
          have HE2 := Lib.hid e2
          clear e1 e2 hz ho
          go_wp2_with (go_at_call 24; refine CS.out.mono ?_; rintro e wz ⟨rfl, hb⟩; replace HB := Lib.hid (HB.out.below hb); clear hb)
          replace HB := Lib.hid (HB.out.below (Below.refl _ _).drew)
          refine wp_region_loads (fun w' => w'.cell? ⟨g, 0, none⟩ = some (.bool nq) ∧ w'.cell? ⟨g, 1, none⟩ = some (.slice Q lq cq) ∧ w'.cell? ⟨g + 1, 0, none⟩ = some (.bool nr) ∧ w'.cell? ⟨g + 1, 1, none⟩ = some (.slice R lr cr) ∧ w'.cell? ⟨w.heap.size + 1, 0, none⟩ = some (.bool nd) ∧ w'.cell? ⟨w.heap.size + 1, 1, none⟩ = some (.slice D ld cd)) [0, 4, 5] [1, 2, 3, 6] 7 (by kernel_rfl) [_, _, _] [_, _, _, _] rfl rfl (by kernel_rfl) ⟨HB.out.st.bq.1, HB.out.st.bq.2.1, HB.out.st.br.1, HB.out.st.br.2.1, HB.out.st.bd.1, HB.out.st.bd.2.1⟩ ?_
          refine ⟨.agg #[.bool nq, .slice Q lq cq], .inl ⟨rfl, fun w' ⟨s0, s1, s2, s3, s4, s5⟩ => by go_simp⟩, ?_⟩
          refine ⟨.agg #[.bool nd, .slice D ld cd], .inl ⟨rfl, fun w' ⟨s0, s1, s2, s3, s4, s5⟩ => by go_simp⟩, ?_⟩
          refine ⟨.agg #[.bool nr, .slice R lr cr], .inl ⟨rfl, fun w' ⟨s0, s1, s2, s3, s4, s5⟩ => by go_simp⟩, ?_⟩
          simp only [wpLoads, wpCallsL]
          go_wp2_with (go_at_call 17; refine (turned_told _ _ _ _ HB.out.qv).mono ?_; rintro e wz ⟨ng, A1, n1, c1, rfl, hV, hb⟩; replace HB := Lib.hid (HB.out.below hb); have HV1 := Lib.hid hV; clear hV hb)
          refine ⟨⟨HB.out.st.bq.1, HB.out.st.bq.2.1, HB.out.st.br.1, HB.out.st.br.2.1, HB.out.st.bd.1, HB.out.st.bd.2.1⟩, ?_⟩
          dsimp only
          go_wp2_with (go_at_call 20; refine (whole_told 1 (by unfold I64; omega) _).mono ?_; rintro e wz ⟨ng2, A2, n2, c2, rfl, hV, hb⟩; replace HB := Lib.hid (HB.out.below hb); replace HV1 := Lib.hid (HV1.out.below hb); have HV2 := Lib.hid hV; clear hV hb)
          refine ⟨⟨HB.out.st.bq.1, HB.out.st.bq.2.1, HB.out.st.br.1, HB.out.st.br.2.1, HB.out.st.bd.1, HB.out.st.bd.2.1⟩, ?_⟩
          dsimp only
          go_wp2_with (go_at_call 16; refine (less_told _ _ _ _ (m + 4 + 6 * bs.length) _ HV1.out (HV2.out.more (by omega)) (by omega)).mono ?_; rintro e wz ⟨ng3, A3, n3, c3, rfl, hV, hb⟩; replace HB := Lib.hid (HB.out.below hb); replace HV1 := Lib.hid (HV1.out.below hb); replace HV2 := Lib.hid (HV2.out.below hb); have HVq := Lib.hid hV; clear hV hb)
          refine ⟨⟨HB.out.st.bq.1, HB.out.st.bq.2.1, HB.out.st.br.1, HB.out.st.br.2.1, HB.out.st.bd.1, HB.out.st.bd.2.1⟩, ?_⟩
          dsimp only
          go_wp2_with (go_at_call 16; refine (less_told _ _ _ _ (m + 4 + 6 * bs.length) _ (HB.out.dv.more (by omega)) HB.out.rv (by omega)).mono ?_; rintro e wz ⟨ng4, A4, n4, c4, rfl, hV, hb⟩; replace HB := Lib.hid (HB.out.below hb); replace HV1 := Lib.hid (HV1.out.below hb); replace HV2 := Lib.hid (HV2.out.below hb); replace HVq := Lib.hid (HVq.out.below hb); have HVr := Lib.hid hV; clear hV hb)
          refine ⟨⟨HB.out.st.bq.1, HB.out.st.bq.2.1, HB.out.st.br.1, HB.out.st.br.2.1, HB.out.st.bd.1, HB.out.st.bd.2.1⟩, ?_⟩
          dsimp only
          obtain ⟨x0, x1, x2, x3⟩ := HB.out.st.b2
          have h3 := (HB.out.st.b3.other (b' := w.heap.size + 1 + 1) (by omega) 0 (.bool ng3)).other (b' := w.heap.size + 1 + 1) (by omega) 1 (.slice A3 n3 c3)
          have HX3 := Lib.hid h3
          obtain ⟨y0, y1, y2, y3⟩ := HX3.out
          have hb2 := ((HB.out.st.b2.set (.bool ng3) (.slice A3 n3 c3)).other (b' := w.heap.size + 1 + 1 + 1) (by omega) 0 (.bool ng4)).other (b' := w.heap.size + 1 + 1 + 1) (by omega) 1 (.slice A4 n4 c4)
          have hb3 := HX3.out.set (.bool ng4) (.slice A4 n4 c4)
          clear h3
          go_wp2
          refine NoPanic.normal ?_
          go_wp2
          refine bodyPost_ret (v := .tuple #[.agg #[.bool ng3, .slice A3 n3 c3], .agg #[.bool ng4, .slice A4 n4 c4]]) (by simp [results, Try.results63, go_sem, hb2.1, hb2.2.1, hb3.1, hb3.2.1]) rfl ?_
          refine ⟨_, _, rfl, by rw [HE1.out]; exact (big_set2 HX3.out _ _ (big_set2 HB.out.st.b2 _ _ HVq.out)).more (by omega), by rw [HE2.out]; exact (big_set2 HX3.out _ _ (big_set2 HB.out.st.b2 _ _ HVr.out)).more (by omega), below_four HB.out.st.old⟩
end Go.Proofs.Ytiblbhppojfdaaa
