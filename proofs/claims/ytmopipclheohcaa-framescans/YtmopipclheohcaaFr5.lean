/-
  The walk of the reference's Next.
-/
import Derived.Test.YtmopipclheohcaaFr4
import Derived.Test.YtmopipclheohcaaFr2
import Derived.Deep.DeepCutAuto
namespace Go.Proofs.Ytmopipclheohcaa
open Go.RowKit

/-- The first k bytes are those of the number. -/
def Good (r : List Nat) (S k : Nat) : Prop := ∀ j, j < k → r.getD j 0 = S / 256 ^ j % 256
theorem good_step {r : List Nat} {S k : Nat} (h : Good r S k) (e : r.getD k 0 = S / 256 ^ k % 256) : Good r S (k + 1) := by
  intro j hj
  rcases Nat.lt_or_ge j k with h1 | h1
  · exact h j h1
  · obtain rfl : j = k := by omega
    exact e
theorem good_all {r : List Nat} {S : Nat} (hS : S < 4294967296) (h : Good r S 4) : S = stored r := by
  have h0 := h 0 (by omega)
  have h1 := h 1 (by omega)
  have h2 := h 2 (by omega)
  have h3 := h 3 (by omega)
  unfold stored
  rw [h0, h1, h2, h3]
  simp only [Nat.pow_zero, Nat.pow_succ]
  omega
theorem good_none {r : List Nat} {S k : Nat} (hr : Oct r) (hk : k < 4) (e : r.getD k 0 ≠ S / 256 ^ k % 256) : ¬ S = stored r := by
  intro h
  have g0 := getD_oct hr 0
  have g1 := getD_oct hr 1
  have g2 := getD_oct hr 2
  have g3 := getD_oct hr 3
  apply e
  unfold stored at h
  rw [h]
  rcases (by omega : k = 0 ∨ k = 1 ∨ k = 2 ∨ k = 3) with rfl | rfl | rfl | rfl <;> simp only [Nat.pow_zero, Nat.pow_succ] <;> omega

set_option maxRecDepth 8000 in
set_option maxHeartbeats 1000000 in
theorem rnext_tiny (A : Option Addr) (l : List Nat) (c : Nat) (w : World) (h : l.length < 2) :
    Calls Try.prog 19 #[.slice A l.length c] w (NextC w l) := by
  have F := Lib.hid (nextC_nil w w l 12 (next_short0 h) (Below.refl _ _))
  go_enter Try.func19, Try.ntmps19
  go_wp2
  go_ret3
  exact F.out
set_option maxRecDepth 8000 in
set_option maxHeartbeats 1000000 in
theorem rnext_bad (b off : Nat) (l : List Nat) (c : Nat) (w : World) (hr : Byts w (some ⟨b, off, none⟩) l) (hl : Oct l) (h2 : ¬ l.length < 2) (hn2 : l.length ≤ 1000000000000) (h : 400 < sizeL l ∨ (¬ 400 < sizeL l ∧ l.length < sizeL l + 6)) :
    Calls Try.prog 19 #[.slice (some ⟨b, off, none⟩) l.length c] w (NextC w l) := by
  obtain ⟨b', off', e, hc⟩ := hr (by omega)
  injection e with e; injection e with e1 e2; subst e1; subst e2
  have c0 := hc 0 (by omega)
  have c1 := hc 1 (by omega)
  have g0 := getD_oct hl 0
  have g1 := getD_oct hl 1
  rw [Nat.add_zero] at c0
  obtain ⟨N, hN⟩ : ∃ N, N = sizeL l := ⟨_, rfl⟩
  have hN2 : N = 256 * l.getD 0 0 + l.getD 1 0 := hN
  have j1 := i64w ((l.getD 0 0 : Int)) (by omega) (by omega)
  have j2 := i64w ((l.getD 1 0 : Int)) (by omega) (by omega)
  have j3 := i64w (256 * (l.getD 0 0 : Int)) (by omega) (by omega)
  have j4 : IntKind.i64.wrap (256 * (l.getD 0 0 : Int) + (l.getD 1 0 : Int)) = (N : Int) := by rw [i64w _ (by omega) (by omega)]; omega
  rw [← hN] at h
  by_cases h4 : 400 < N
  · have F := Lib.hid (fun nq => nextC_nil w (w.drewN nq) l 13 (next_bad0 h2 (by rw [← hN]; exact h4)) (below_drewN (Below.refl _ _) nq))
    generalize l.getD 0 0 = x0 at *
    generalize l.getD 1 0 = x1 at *
    clear hN hc hr hl h hN2
    go_enter Try.func19, Try.ntmps19
    go_wp2
    go_quiet (fail)
    go_wp2
    go_ret3
    exact F.out _
  · have h5 : l.length < N + 6 := by omega
    have F := Lib.hid (fun nq => nextC_nil w (w.drewN nq) l 12 (next_short1 h2 (by rw [← hN]; exact h4) (by rw [← hN]; exact h5)) (below_drewN (Below.refl _ _) nq))
    generalize l.getD 0 0 = x0 at *
    generalize l.getD 1 0 = x1 at *
    clear hN hc hr hl h hN2
    go_enter Try.func19, Try.ntmps19
    go_wp2
    go_quiet (fail)
    go_wp2
    go_ret3
    exact F.out _
theorem u8b (x : Nat) (h : x < 256) : IntKind.u8.wrap (x : Int) = (x : Int) := by rw [u8w]; omega
theorem and255i (x : Int) (h0 : 0 ≤ x) (h : x < 4294967296) : bits .and .u32 x 255 = x % 256 := by
  obtain ⟨n, rfl⟩ := Int.eq_ofNat_of_zero_le h0
  rw [and255 n (by omega)]
  omega
set_option maxRecDepth 8000 in
set_option maxHeartbeats 2000000 in
theorem rnext_full (b off : Nat) (l : List Nat) (c : Nat) (w : World) (hr : Byts w (some ⟨b, off, none⟩) l) (hl : Oct l) (h2 : ¬ l.length < 2) (hn2 : l.length ≤ 1000000000000) (hcap : l.length ≤ c) (h4 : ¬ 400 < sizeL l) (h5 : ¬ l.length < sizeL l + 6) :
    Calls Try.prog 19 #[.slice (some ⟨b, off, none⟩) l.length c] w (NextC w l) := by
  obtain ⟨b', off', e, hc⟩ := hr (by omega)
  injection e with e; injection e with e1 e2; subst e1; subst e2
  have c0 := hc 0 (by omega)
  have c1 := hc 1 (by omega)
  have g0 := getD_oct hl 0
  have g1 := getD_oct hl 1
  rw [Nat.add_zero] at c0
  obtain ⟨N, hN⟩ : ∃ N, N = sizeL l := ⟨_, rfl⟩
  have hN2 : N = 256 * l.getD 0 0 + l.getD 1 0 := hN
  have j1 := i64w ((l.getD 0 0 : Int)) (by omega) (by omega)
  have j2 := i64w ((l.getD 1 0 : Int)) (by omega) (by omega)
  have j3 := i64w (256 * (l.getD 0 0 : Int)) (by omega) (by omega)
  have j4 : IntKind.i64.wrap (256 * (l.getD 0 0 : Int) + (l.getD 1 0 : Int)) = (N : Int) := by rw [i64w _ (by omega) (by omega)]; omega
  have hp1 : Byts w (some ⟨b, off, none⟩) (l.take (N + 2)) := by have := hr.part 0 (N + 2) (by omega); simpa using this
  have hp3 : Byts w (some ⟨b, off + 2, none⟩) ((l.drop 2).take N) := hr.part 2 N (by omega)
  have hlen1 : (l.take (N + 2)).length = N + 2 := by rw [List.length_take]; omega
  have HC1 := Lib.hid (fun (w' : World) (hb : Below w.heap.size w w') c => by have := rcrc_any (some ⟨b, off, none⟩) (l.take (N + 2)) c w' (hp1.below hb) (hl.take _) (by rw [List.length_take]; omega); rw [hlen1] at this; exact this)
  have HP3 := Lib.hid hp3
  have HL3 := Lib.hid (show N = ((l.drop 2).take N).length by rw [List.length_take, List.length_drop]; omega)
  have HR := Lib.hid (hl.drop (N + 2))
  have HCC := Lib.hid (fun k (hk : k < 4) => show w.cell? ⟨b, off + (N + 2 + k), none⟩ = some (.int .u8 (((l.drop (N + 2)).getD k 0 : Nat) : Int)) by
    rw [hc (N + 2 + k) (by omega), List.getD_eq_getElem?_getD, List.getD_eq_getElem?_getD, List.getElem?_drop])
  have hS := crc_lt (l.take (N + 2))
  have HOK := Lib.hid (fun (h6 : crc (l.take (N + 2)) = stored (l.drop (N + 2))) => show nextL l = ((l.drop 2).take N, N + 6, 0) by rw [hN] at h6 ⊢; exact next_ok h2 h4 h5 h6)
  have HNO := Lib.hid (fun (h6 : ¬ crc (l.take (N + 2)) = stored (l.drop (N + 2))) => show nextL l = ([], 0, 13) by rw [hN] at h6; exact next_bad1 h2 h4 h5 h6)
  rw [← hN] at h4 h5
  generalize l.getD 0 0 = x0 at *
  generalize l.getD 1 0 = x1 at *
  generalize l.drop (N + 2) = r at *
  generalize crc (l.take (N + 2)) = S at *
  have hbb := block_lt c1
  simp only at hbb
  clear hN hc hr hl hp1 hp3 hlen1 hN2
  go_enter Try.func19, Try.ntmps19
  go_wp2
  go_quiet (fail)
  have q2 : Below w.heap.size w (w.drewN nq) := below_drewN (Below.refl _ _) nq
  clear c0 c1
  generalize w.drewN nq = wq at *
  have C1 := Lib.hid (HC1.out wq q2)
  clear HC1 j1 j2 j3 j4
  have HQ := Lib.hid q2
  clear q2
  have t1 : ((N : Int) + 2).toNat = N + 2 := by omega
  go_wp2_with (go_at_call 12; refine (C1.out _).mono ?_; rintro e w' ⟨rfl, rfl⟩)
  go_loopw [7] (fun i wr => ∃ k : Nat, k ≤ 4 ∧ i = .int .i64 k ∧ Hid (Good r S k) ∧ Hid (Below w.heap.size w wr)) (fun i _ => 4 - (intOf i).toNat)
  case atStart => exact ⟨0, by omega, rfl, Lib.hid (fun j hj => absurd hj (by omega)), HQ⟩
  case round =>
    obtain ⟨k, hk, rfl, HG, HB⟩ := hrel
    by_cases hlt : k < 4
    · have hcell := (HB.out.cell (p := ⟨b, off + (N + 2 + k), none⟩) hbb).trans (HCC.out k hlt)
      have hy := getD_oct HR.out k
      have HST := Lib.hid (fun e => good_step HG.out (k := k) e)
      have HNN := Lib.hid (fun e => HNO.out (good_none HR.out hlt e))
      generalize r.getD k 0 = y at *
      have k1 : ((N : Int) + 2 + (k : Int)).toNat = N + 2 + k := by omega
      obtain ⟨z, hz⟩ : ∃ z, z = S / 256 ^ k % 256 := ⟨_, rfl⟩
      have hz2 : z < 256 := by omega
      have z1 := u8b z hz2
      rcases (by omega : k = 0 ∨ k = 1 ∨ k = 2 ∨ k = 3) with rfl | rfl | rfl | rfl
      · have a1 : bits .and .u32 (S : Int) 255 = (z : Int) := by rw [and255i _ (by omega) (by omega), hz]; simp only [Nat.pow_zero]; omega
        rcases Decidable.em (y = z) with hyz | hyz
        · have HG2 := Lib.hid (HST.out (hyz.trans hz))
          have hd : ((y : Int) != (z : Int)) = false := by rw [hyz]; simp
          clear HST HNN hz hyz
          go_wp2
          go_quiet (fail)
          have HB2 := Lib.hid (below_drewN HB.out nq)
          clear hcell
          generalize wr.drewN nq = wz at *
          go_wp2
          go_roundw
          case rel => exact ⟨0 + 1, by omega, rfl, HG2, HB2⟩
          case measure => simp [intOf]
        · have HX := Lib.hid (HNN.out (fun e => hyz (e.trans hz.symm)))
          have hd : ((y : Int) != (z : Int)) = true := by rw [bne_iff_ne]; exact fun e => hyz (by exact_mod_cast e)
          clear HST HNN hz hyz
          go_wp2
          go_quiet (fail)
          have HB2 := Lib.hid (below_drewN HB.out nq)
          clear hcell
          generalize wr.drewN nq = wz at *
          go_wp2
          go_ret3
          exact nextC_nil w wz l 13 HX.out HB2.out
      · have a1 : bits .and .u32 ((S : Int) / 256) 255 = (z : Int) := by rw [and255i _ (by omega) (by omega), hz]; simp only [Nat.pow_zero, Nat.pow_succ]; omega
        rcases Decidable.em (y = z) with hyz | hyz
        · have HG2 := Lib.hid (HST.out (hyz.trans hz))
          have hd : ((y : Int) != (z : Int)) = false := by rw [hyz]; simp
          clear HST HNN hz hyz
          go_wp2
          go_quiet (fail)
          have HB2 := Lib.hid (below_drewN HB.out nq)
          clear hcell
          generalize wr.drewN nq = wz at *
          go_wp2
          go_roundw
          case rel => exact ⟨1 + 1, by omega, rfl, HG2, HB2⟩
          case measure => simp [intOf]
        · have HX := Lib.hid (HNN.out (fun e => hyz (e.trans hz.symm)))
          have hd : ((y : Int) != (z : Int)) = true := by rw [bne_iff_ne]; exact fun e => hyz (by exact_mod_cast e)
          clear HST HNN hz hyz
          go_wp2
          go_quiet (fail)
          have HB2 := Lib.hid (below_drewN HB.out nq)
          clear hcell
          generalize wr.drewN nq = wz at *
          go_wp2
          go_ret3
          exact nextC_nil w wz l 13 HX.out HB2.out
      · have a1 : bits .and .u32 ((S : Int) / 65536) 255 = (z : Int) := by rw [and255i _ (by omega) (by omega), hz]; simp only [Nat.pow_zero, Nat.pow_succ]; omega
        rcases Decidable.em (y = z) with hyz | hyz
        · have HG2 := Lib.hid (HST.out (hyz.trans hz))
          have hd : ((y : Int) != (z : Int)) = false := by rw [hyz]; simp
          clear HST HNN hz hyz
          go_wp2
          go_quiet (fail)
          have HB2 := Lib.hid (below_drewN HB.out nq)
          clear hcell
          generalize wr.drewN nq = wz at *
          go_wp2
          go_roundw
          case rel => exact ⟨2 + 1, by omega, rfl, HG2, HB2⟩
          case measure => simp [intOf]
        · have HX := Lib.hid (HNN.out (fun e => hyz (e.trans hz.symm)))
          have hd : ((y : Int) != (z : Int)) = true := by rw [bne_iff_ne]; exact fun e => hyz (by exact_mod_cast e)
          clear HST HNN hz hyz
          go_wp2
          go_quiet (fail)
          have HB2 := Lib.hid (below_drewN HB.out nq)
          clear hcell
          generalize wr.drewN nq = wz at *
          go_wp2
          go_ret3
          exact nextC_nil w wz l 13 HX.out HB2.out
      · have a1 : bits .and .u32 ((S : Int) / 16777216) 255 = (z : Int) := by rw [and255i _ (by omega) (by omega), hz]; simp only [Nat.pow_zero, Nat.pow_succ]; omega
        rcases Decidable.em (y = z) with hyz | hyz
        · have HG2 := Lib.hid (HST.out (hyz.trans hz))
          have hd : ((y : Int) != (z : Int)) = false := by rw [hyz]; simp
          clear HST HNN hz hyz
          go_wp2
          go_quiet (fail)
          have HB2 := Lib.hid (below_drewN HB.out nq)
          clear hcell
          generalize wr.drewN nq = wz at *
          go_wp2
          go_roundw
          case rel => exact ⟨3 + 1, by omega, rfl, HG2, HB2⟩
          case measure => simp [intOf]
        · have HX := Lib.hid (HNN.out (fun e => hyz (e.trans hz.symm)))
          have hd : ((y : Int) != (z : Int)) = true := by rw [bne_iff_ne]; exact fun e => hyz (by exact_mod_cast e)
          clear HST HNN hz hyz
          go_wp2
          go_quiet (fail)
          have HB2 := Lib.hid (below_drewN HB.out nq)
          clear hcell
          generalize wr.drewN nq = wz at *
          go_wp2
          go_ret3
          exact nextC_nil w wz l 13 HX.out HB2.out
    · obtain rfl : k = 4 := by omega
      have HX := Lib.hid (HOK.out (good_all hS HG.out))
      have hsz := HB.out.size
      have HP := Lib.hid (HP3.out.below HB.out)
      clear HOK HNO HG
      have t3 : N + 2 - 2 = N := by omega
      go_wp2_with (at_builtin; refine wpList_app rfl (.tmp 51) (.tmp 55) rfl w.heap.size _ [] rfl (ownB_lit wr _ _ [] hsz ?c1 rfl _ rfl _ rfl) _ _ _ ((l.drop 2).take N) rfl HL3.out (HP.out.below ?c3) ?c5 ?c6 ?c7 ?_)
      case c1 => simp
      case c3 => exact (Below.refl _ _).alloc (Nat.le_refl _) _
      case c5 => intro e; cases e
      case c6 => have := HL3.out; simp; omega
      case c7 => simp; omega
      intro v2 w2 ho2 hb2 _
      go_wp2
      go_ret3
      refine ⟨v2, ?_, ?_, (HB.out.alloc hsz _).trans hb2⟩
      · rw [HX.out]
        rfl
      · rw [HX.out]; exact ho2
theorem rnext_any (A : Option Addr) (l : List Nat) (c : Nat) (w : World) (hr : Byts w A l) (hl : Oct l) (hn2 : l.length ≤ 1000000000000) (hcap : l.length ≤ c) :
    Calls Try.prog 19 #[.slice A l.length c] w (NextC w l) := by
  by_cases h2 : l.length < 2
  · exact rnext_tiny A l c w h2
  · obtain ⟨b, off, rfl, _⟩ := hr (by omega)
    by_cases h4 : 400 < sizeL l
    · exact rnext_bad b off l c w hr hl h2 hn2 (.inl h4)
    · by_cases h5 : l.length < sizeL l + 6
      · exact rnext_bad b off l c w hr hl h2 hn2 (.inr ⟨h4, h5⟩)
      · exact rnext_full b off l c w hr hl h2 hn2 hcap h4 h5
end Go.Proofs.Ytmopipclheohcaa
