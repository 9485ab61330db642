/-
  The walk of the law WideSums.
-/
import Derived.Test.YtimpmffcopdblaaTold2
import Derived.Test.YtimpmffcopdblaaOrders
namespace Go.Proofs.Ytimpmffcopdblaa
open Go.RowKit

/-- What stands in memory while a sum of Wides grows. -/
def SumW (w : World) (g : Nat) (l : List Int) (A : Option Addr) (k : Nat) (neg : Bool) (B : Option Addr) (n c : Nat) (w' : World) : Prop :=
  Box2 w' g (.bool neg) (.slice B n c) ∧ BigV w' (.agg #[.bool neg, .slice B n c]) (l.take k).sum (8 + k) ∧ Wides w' A l ∧ Below w.heap.size w w'
theorem SumW.below {w w1 w2 : World} {g : Nat} {l : List Int} {A : Option Addr} {k : Nat} {neg : Bool} {B : Option Addr} {n c : Nat} (h : SumW w g l A k neg B n c w1) (hb : Below w1.heap.size w1 w2) : SumW w g l A k neg B n c w2 :=
  ⟨h.1.below hb, h.2.1.below hb, h.2.2.1.below hb, h.2.2.2.trans (hb.mono h.2.2.2.size)⟩

theorem Wides.set2 {w : World} {b : Nat} {f : Bool} {A0 : Option Addr} {n0 c0 : Nat} (H : Box2 w b (.bool f) (.slice A0 n0 c0)) (v0 v1 : Value) {A : Option Addr} {l : List Int} (h : Wides w A l) : Wides ((w.setCell ⟨b, 0, none⟩ v0).setCell ⟨b, 1, none⟩ v1) A l := by
  have h2' : (w.setCell ⟨b, 0, none⟩ v0).cell? ⟨b, 1, none⟩ = some (.slice A0 n0 c0) := by
    rw [World.cell?_setCell_other _ _ _ _ (by simp)]; exact H.2.1
  have far : ∀ (W : World) (p q : Addr) (u v x : Value), W.cell? p = some u → W.cell? q = some x → u ≠ x → (W.setCell p v).cell? q = some x := by
    intro W p q u v x hp hq hne
    rw [World.cell?_setCell_other W p q v (fun e => by rw [e, hq] at hp; injection hp with hp; exact hne hp.symm)]
    exact hq
  intro h0
  obtain ⟨b', off, e, hc⟩ := h h0
  refine ⟨b', off, e, fun i hi => ?_⟩
  obtain ⟨k1, k2⟩ := hc i hi
  exact ⟨far _ _ _ _ _ _ h2' (far _ _ _ _ _ _ H.1 k1 (fun e => by cases e)) (fun e => by cases e), far _ _ _ _ _ _ h2' (far _ _ _ _ _ _ H.1 k2 (fun e => by cases e)) (fun e => by cases e)⟩
theorem SumW.next {w w1 : World} {g : Nat} {l : List Int} {A : Option Addr} {k : Nat} {neg : Bool} {B : Option Addr} {n c : Nat} (h : SumW w g l A k neg B n c w1) (hg : w.heap.size ≤ g) {ng : Bool} {B' : Option Addr} {n' c' : Nat} (hV : BigV w1 (.agg #[.bool ng, .slice B' n' c']) (l.take (k + 1)).sum (8 + (k + 1))) :
    SumW w g l A (k + 1) ng B' n' c' ((w1.setCell ⟨g, 0, none⟩ (.bool ng)).setCell ⟨g, 1, none⟩ (.slice B' n' c')) :=
  ⟨h.1.set _ _, big_set2 h.1 _ _ hV, Wides.set2 h.1 _ _ h.2.2.1, below_two h.2.2.2 hg _ _⟩

set_option maxRecDepth 100000 in
set_option maxHeartbeats 2000000 in
theorem wsums_walk (A : Option Addr) (l : List Int) (cap : Nat) (w : World) (hr : Wides w A l) (hl : ∀ x ∈ l, W128 x) (hn : l.length ≤ 9223372036854775807) :
    Calls Try.prog 4 #[.slice A l.length cap] w fun e w' => e = .returned (.bool true) ∧ Below w.heap.size w w' := by
  have c0 := Lib.hid known_any
  by_cases h60 : 60 < l.length
  · have hd : decide ((60 : Int) < (l.length : Int)) = true := by simp; omega
    clear hl hr
    go_enter Try.func4, Try.ntmps4
    go_wp2_with (go_at_call 9; refine (c0.out _).mono ?_; rintro e w1 ⟨rfl, hw1⟩)
    go_ret
    exact ⟨rfl, hw1⟩
  have hd : decide ((60 : Int) < (l.length : Int)) = false := by simp; omega
  have HR := Lib.hid hr
  have HL := Lib.hid hl
  clear hr hl
  go_enter Try.func4, Try.ntmps4
  go_wp2_with (go_at_call 9; refine (c0.out _).mono ?_; rintro e w1 ⟨rfl, hb⟩; have HB1 := Lib.hid hb; clear hb)
  have hg1 := HB1.out.size
  have HS0 : Hid (SumW w w1.heap.size l A 0 false none 0 0 (w1.alloc (.cells #[.bool false, .slice none 0 0] 28))) :=
    Lib.hid ⟨Box2.new _ _ _ _ _ rfl, ⟨false, none, [], 0, rfl, by simp, by omega, fun h => absurd h (by simp), digs_nil, .inl rfl, by simp, by simp, rfl⟩, (HR.out.below HB1.out).below ((Below.refl _ _).alloc (Nat.le_refl _) _), HB1.out.alloc HB1.out.size _⟩
  obtain ⟨g, hgE⟩ : ∃ g, w1.heap.size = g := ⟨_, rfl⟩
  rw [hgE] at HS0 hg1
  go_loopw [4] (fun i wr => ∃ (k : Nat) (neg : Bool) (B : Option Addr) (n c : Nat), k ≤ l.length ∧ i = .int .i64 k ∧ Hid (SumW w g l A k neg B n c wr)) (fun i _ => l.length - (intOf i).toNat)
  case atStart => exact ⟨0, false, none, 0, 0, Nat.zero_le _, rfl, HS0⟩
  case round =>
    obtain ⟨k, neg, B, n, c, hk, rfl, HS⟩ := hrel
    by_cases hlt : k < l.length
    · obtain ⟨b, off, rfl, hc⟩ := HS.out.2.2.1 (by omega)
      obtain ⟨hc1, hc2⟩ := hc k hlt
      have hx := HL.out (l.getD k 0) (by rw [List.getD_eq_getElem?_getD, List.getElem?_eq_getElem hlt]; simp)
      have HT := Lib.hid (take_sum l k hlt)
      have CW := Lib.hid (rwide_walk (l.getD k 0) hx)
      generalize l.getD k 0 = x at *
      generalize up64 x = xh at *
      generalize lo64 x = xl at *
      obtain ⟨q0, q1, q2, q3⟩ := HS.out.1
      clear hc hx HS0
      rw [hgE] at *
      go_wp2
      replace HS := Lib.hid (HS.out.below (Below.refl _ _).drew)
      have hki : (0 : Int) ≤ (k : Int) := by omega
      have hkl : (k : Int) < (l.length : Int) := by omega
      refine wp_region_loads (fun w' => w'.cell? ⟨g, 0, none⟩ = some (.bool neg) ∧ w'.cell? ⟨g, 1, none⟩ = some (.slice B n c) ∧ w'.cell? ⟨b, off + k * 2, none⟩ = some (.int .i64 xh) ∧ w'.cell? ⟨b, off + k * 2 + 1, none⟩ = some (.int .u64 xl)) [0, 1, 2, 3, 4] [5, 6] 7 (by kernel_rfl) [_, _, _, _, _] [_, _] rfl rfl (by kernel_rfl) ⟨q0, q1, hc1, hc2⟩ ?_
      refine ⟨.agg #[.bool neg, .slice B n c], .inl ⟨rfl, fun w' ⟨s0, s1, s2, s3⟩ => by go_simp⟩, ?_⟩
      refine ⟨.slice (some ⟨b, off, none⟩) l.length cap, .inl ⟨rfl, fun w' ⟨s0, s1, s2, s3⟩ => by go_simp⟩, ?_⟩
      refine ⟨.int .i64 (k : Int), .inl ⟨rfl, fun w' ⟨s0, s1, s2, s3⟩ => by go_simp⟩, ?_⟩
      refine ⟨.pointer (some ⟨b, off + k * 2, none⟩), .inl ⟨rfl, fun w' ⟨s0, s1, s2, s3⟩ => by go_simp⟩, ?_⟩
      refine ⟨.agg #[.int .i64 xh, .int .u64 xl], .inl ⟨rfl, fun w' ⟨s0, s1, s2, s3⟩ => by go_simp⟩, ?_⟩
      simp only [wpLoads, wpCallsL]
      have hkeep : ∀ W, SumW w g l (some ⟨b, off, none⟩) k neg B n c W → Below wr.heap.size wr W → W.cell? ⟨g, 0, none⟩ = some (.bool neg) ∧ W.cell? ⟨g, 1, none⟩ = some (.slice B n c) ∧ W.cell? ⟨b, off + k * 2, none⟩ = some (.int .i64 xh) ∧ W.cell? ⟨b, off + k * 2 + 1, none⟩ = some (.int .u64 xl) := by
        intro W hW hbW
        obtain ⟨z1, _⟩ := old_cells hbW
        exact ⟨hW.1.1, hW.1.2.1, by rw [z1 _ _ (block_lt hc1), hc1], by rw [z1 _ _ (block_lt hc2), hc2]⟩
      have HK := Lib.hid hkeep
      have HBW := Lib.hid (show Below wr.heap.size wr wr.drew from (Below.refl _ _).drew)
      clear hkeep
      go_wp2_with (go_at_call 10; refine (CW.out _).mono ?_; rintro e w5 ⟨ng5, A5, n5, c5, rfl, hV, hb⟩; replace HS := Lib.hid (HS.out.below hb); replace HBW := Lib.hid (HBW.out.trans (hb.mono HBW.out.size)); have HV5 := Lib.hid hV; clear hV hb)
      refine ⟨HK.out _ HS.out HBW.out, ?_⟩
      dsimp only
      go_wp2_with (go_at_call 19; refine (plus_told _ _ _ _ (8 + k) _ HS.out.2.1 (HV5.out.more (by omega)) (by omega)).mono ?_; rintro e w6 ⟨ng6, A6, n6, c6, rfl, hV, hb⟩; replace HS := Lib.hid (HS.out.below hb); replace HBW := Lib.hid (HBW.out.trans (hb.mono HBW.out.size)); have HV6 := Lib.hid hV; clear hV hb)
      refine ⟨HK.out _ HS.out HBW.out, ?_⟩
      dsimp only
      obtain ⟨q4, q5, q6, q7⟩ := HS.out.1
      have hv6 := HV6.out
      rw [← HT.out] at hv6
      have HN := Lib.hid (HS.out.next hg1 hv6)
      clear hv6 HV5 HK
      go_wp2
      refine NoPanic.normal ?_
      go_wp2
      go_roundw
      case rel => exact ⟨k + 1, _, _, _, _, by omega, by go_num, HN⟩
      case measure => simp [intOf]; omega
    · obtain rfl : k = l.length := by omega
      have CS := Lib.hid (wsum_any A l cap wr HS.out.2.2.1 HL.out hn)
      have HV := HS.out.2.1
      rw [List.take_length] at HV
      have CT := Lib.hid (fun vb W => told2_walk l.sum vb (8 + l.length) (by omega) W)
      have HVV := Lib.hid HV
      obtain ⟨s, hsE⟩ : ∃ s, l.sum = s := ⟨_, rfl⟩
      rw [hsE] at CS CT HVV
      generalize up64 (wheld s) = sh at *
      generalize lo64 (wheld s) = sl at *
      generalize wfits s = f at *
      clear HV HS0 hsE
      go_wp2_with (first
        | (go_at_call 31; refine CS.out.mono ?_; rintro e w5 ⟨rfl, hb⟩; have HX5 := Lib.hid ((HS.out.1.below hb).alloc (.cells #[.int .i64 sh, .int .u64 sl] 24)); have HB5 := Lib.hid ((HS.out.2.2.2.trans (hb.mono HS.out.2.2.2.size)).alloc (Nat.le_trans HS.out.2.2.2.size hb.size) (.cells #[.int .i64 sh, .int .u64 sl] 24)); have HV5 := Lib.hid ((HVV.out.below hb).below ((Below.refl _ _).alloc (Nat.le_refl _) (.cells #[.int .i64 sh, .int .u64 sl] 24))); clear hb; obtain ⟨q4, q5, q6, q7⟩ := HX5.out)
        | (go_at_call 18; refine (CT.out _ _ HV5.out).mono ?_; rintro e w6 ⟨rfl, hb⟩; have HB6 := Lib.hid (HB5.out.trans (hb.mono HB5.out.size)); clear hb))
      go_ret
      exact ⟨rfl, HB6.out⟩
end Go.Proofs.Ytimpmffcopdblaa
