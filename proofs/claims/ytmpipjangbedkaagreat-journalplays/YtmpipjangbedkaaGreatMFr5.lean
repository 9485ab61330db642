import Derived.Test.YtmpipjangbedkaaGreatMFr4
import Derived.Test.YtmpipjangbedkaaGreatMFr6
import Derived.Deep.DeepCutAuto
/-
  The walk of the reference's Next.
-/
namespace Go.Proofs.YtmpipjangbedkaaGreat
set_option maxRecDepth 8000
open Go.RowKit

/-- The first k bytes are those of the number. -/
def GoodF (r : List Nat) (S k : Nat) : Prop := ∀ j, j < k → r.getD j 0 = S / 256 ^ j % 256
theorem good_step {r : List Nat} {S k : Nat} (h : GoodF r S k) (e : r.getD k 0 = S / 256 ^ k % 256) : GoodF r S (k + 1) := by
  intro j hj
  rcases Nat.lt_or_ge j k with h1 | h1
  · exact h j h1
  · obtain rfl : j = k := by omega
    exact e
theorem good_allF {r : List Nat} {S : Nat} (hS : S < 4294967296) (h : GoodF r S 4) : S = stored r := by
  have h0 := h 0 (by omega)
  have h1 := h 1 (by omega)
  have h2 := h 2 (by omega)
  have h3 := h 3 (by omega)
  unfold stored
  rw [h0, h1, h2, h3]
  simp only [Nat.pow_zero, Nat.pow_succ]
  omega
theorem good_none {r : List Nat} {S k : Nat} (hr : Oct r) (hk : k < 4) (e : r.getD k 0 ≠ S / 256 ^ k % 256) : ¬ S = stored r := by
  intro h
  have g0 := getD_oct hr 0
  have g1 := getD_oct hr 1
  have g2 := getD_oct hr 2
  have g3 := getD_oct hr 3
  apply e
  unfold stored at h
  rw [h]
  rcases (by omega : k = 0 ∨ k = 1 ∨ k = 2 ∨ k = 3) with rfl | rfl | rfl | rfl <;> simp only [Nat.pow_zero, Nat.pow_succ] <;> omega

set_option maxRecDepth 8000 in
set_option maxHeartbeats 1000000 in
theorem rnext_tiny (A : Option Addr) (l : List Nat) (c : Nat) (w : World) (h : l.length < 2) :
    Calls Tryz.prog 70 #[.slice A l.length c] w (NextC w l) := by
  have F := Lib.hid (nextC_nil w w l 12 (next_short0 h) (Below.refl _ _))
  go_enter Tryz.func70, Tryz.ntmps70
  go_wp2
  go_ret3
  exact F.out
set_option maxRecDepth 8000 in
set_option maxHeartbeats 1000000 in
theorem rnext_bad (b off : Nat) (l : List Nat) (c : Nat) (w : World) (hr : Byts w (some ⟨b, off, none⟩) l) (hl : Oct l) (h2 : ¬ l.length < 2) (hn2 : l.length ≤ 1000000000000) (h : 400 < sizeL l ∨ (¬ 400 < sizeL l ∧ l.length < sizeL l + 6)) :
    Calls Tryz.prog 70 #[.slice (some ⟨b, off, none⟩) l.length c] w (NextC w l) := by
  obtain ⟨b', off', e, hc⟩ := hr (by omega)
  injection e with e; injection e with e1 e2; subst e1; subst e2
  have c0 := hc 0 (by omega)
  have c1 := hc 1 (by omega)
  have g0 := getD_oct hl 0
  have g1 := getD_oct hl 1
  rw [Nat.add_zero] at c0
  obtain ⟨N, hN⟩ : ∃ N, N = sizeL l := ⟨_, rfl⟩
  have hN2 : N = 256 * l.getD 0 0 + l.getD 1 0 := hN
  have j1 := i64w ((l.getD 0 0 : Int)) (by omega) (by omega)
  have j2 := i64w ((l.getD 1 0 : Int)) (by omega) (by omega)
  have j3 := i64w (256 * (l.getD 0 0 : Int)) (by omega) (by omega)
  have j4 : IntKind.i64.wrap (256 * (l.getD 0 0 : Int) + (l.getD 1 0 : Int)) = (N : Int) := by rw [i64w _ (by omega) (by omega)]; omega
  rw [← hN] at h
  by_cases h4 : 400 < N
  · have F := Lib.hid (fun nq => nextC_nil w (w.drewN nq) l 13 (next_bad0 h2 (by rw [← hN]; exact h4)) (below_drewN (Below.refl _ _) nq))
    generalize l.getD 0 0 = x0 at *
    generalize l.getD 1 0 = x1 at *
    clear hN hc hr hl h hN2
    go_enter Tryz.func70, Tryz.ntmps70
    go_wp2
    go_quiet (fail)
    go_wp2
    go_ret3
    exact F.out _
  · have h5 : l.length < N + 6 := by omega
    have F := Lib.hid (fun nq => nextC_nil w (w.drewN nq) l 12 (next_short1 h2 (by rw [← hN]; exact h4) (by rw [← hN]; exact h5)) (below_drewN (Below.refl _ _) nq))
    generalize l.getD 0 0 = x0 at *
    generalize l.getD 1 0 = x1 at *
    clear hN hc hr hl h hN2
    go_enter Tryz.func70, Tryz.ntmps70
    go_wp2
    go_quiet (fail)
    go_wp2
    go_ret3
    exact F.out _
theorem u8b (x : Nat) (h : x < 256) : IntKind.u8.wrap (x : Int) = (x : Int) := by rw [u8w]; omega
theorem and255i (x : Int) (h0 : 0 ≤ x) (h : x < 4294967296) : bits .and .u32 x 255 = x % 256 := by
  obtain ⟨n, rfl⟩ := Int.eq_ofNat_of_zero_le h0
  rw [and255 n (by omega)]
  omega
set_option maxRecDepth 8000 in
set_option maxHeartbeats 2000000 in
theorem rnext_full (b off : Nat) (l : List Nat) (c : Nat) (w : World) (hr : Byts w (some ⟨b, off, none⟩) l) (hl : Oct l) (h2 : ¬ l.length < 2) (hn2 : l.length ≤ 1000000000000) (hcap : l.length ≤ c) (h4 : ¬ 400 < sizeL l) (h5 : ¬ l.length < sizeL l + 6) :
    Calls Tryz.prog 70 #[.slice (some ⟨b, off, none⟩) l.length c] w (NextC w l) := by
  obtain ⟨b', off', e, hc⟩ := hr (by omega)
  injection e with e; injection e with e1 e2; subst e1; subst e2
  have c0 := hc 0 (by omega)
  have c1 := hc 1 (by omega)
  have g0 := getD_oct hl 0
  have g1 := getD_oct hl 1
  rw [Nat.add_zero] at c0
  obtain ⟨N, hN⟩ : ∃ N, N = sizeL l := ⟨_, rfl⟩
  have hN2 : N = 256 * l.getD 0 0 + l.getD 1 0 := hN
  have j1 := i64w ((l.getD 0 0 : Int)) (by omega) (by omega)
  have j2 := i64w ((l.getD 1 0 : Int)) (by omega) (by omega)
  have j3 := i64w (256 * (l.getD 0 0 : Int)) (by omega) (by omega)
  have j4 : IntKind.i64.wrap (256 * (l.getD 0 0 : Int) + (l.getD 1 0 : Int)) = (N : Int) := by rw [i64w _ (by omega) (by omega)]; omega
  have hp1 : Byts w (some ⟨b, off, none⟩) (l.take (N + 2)) := by have := hr.part 0 (N + 2) (by omega); simpa using this
  have hp3 : Byts w (some ⟨b, off + 2, none⟩) ((l.drop 2).take N) := hr.part 2 N (by omega)
  have hlen1 : (l.take (N + 2)).length = N + 2 := by rw [List.length_take]; omega
  have HC1 := Lib.hid (fun (w' : World) (hb : Below w.heap.size w w') c => by have := rcrc_any (some ⟨b, off, none⟩) (l.take (N + 2)) c w' (hp1.below hb) (hl.take _) (by rw [List.length_take]; omega); rw [hlen1] at this; exact this)
  have HP3 := Lib.hid hp3
  have HL3 := Lib.hid (show N = ((l.drop 2).take N).length by rw [List.length_take, List.length_drop]; omega)
  have HR := Lib.hid (hl.drop (N + 2))
  have HCC := Lib.hid (fun k (hk : k < 4) => show w.cell? ⟨b, off + (N + 2 + k), none⟩ = some (.int .u8 (((l.drop (N + 2)).getD k 0 : Nat) : Int)) by
    rw [hc (N + 2 + k) (by omega), List.getD_eq_getElem?_getD, List.getD_eq_getElem?_getD, List.getElem?_drop])
  have hS := crc_lt (l.take (N + 2))
  have HOK := Lib.hid (fun (h6 : crc (l.take (N + 2)) = stored (l.drop (N + 2))) => show nextL l = ((l.drop 2).take N, N + 6, 0) by rw [hN] at h6 ⊢; exact next_ok h2 h4 h5 h6)
  have HNO := Lib.hid (fun (h6 : ¬ crc (l.take (N + 2)) = stored (l.drop (N + 2))) => show nextL l = ([], 0, 13) by rw [hN] at h6; exact next_bad1 h2 h4 h5 h6)
  rw [← hN] at h4 h5
  generalize l.getD 0 0 = x0 at *
  generalize l.getD 1 0 = x1 at *
  generalize l.drop (N + 2) = r at *
  generalize crc (l.take (N + 2)) = S at *
  have hbb := block_lt c1
  simp only at hbb
  clear hN hc hr hl hp1 hp3 hlen1 hN2
  go_enter Tryz.func70, Tryz.ntmps70
  go_wp2
  go_quiet (fail)
  have q2 : Below w.heap.size w (w.drewN nq) := below_drewN (Below.refl _ _) nq
  clear c0 c1
  generalize w.drewN nq = wq at *
  have C1 := Lib.hid (HC1.out wq q2)
  clear HC1 j1 j2 j3 j4
  have HQ := Lib.hid q2
  clear q2
  have t1 : ((N : Int) + 2).toNat = N + 2 := by omega
  go_wp2_with (go_at_call 40; refine (C1.out _).mono ?_; rintro e w' ⟨rfl, rfl⟩)
  go_loopw [7] (fun i wr => ∃ k : Nat, k ≤ 4 ∧ i = .int .i64 k ∧ Hid (GoodF r S k) ∧ Hid (Below w.heap.size w wr)) (fun i _ => 4 - (intOf i).toNat)
  case atStart => exact ⟨0, by omega, rfl, Lib.hid (fun j hj => absurd hj (by omega)), HQ⟩
  case round =>
    obtain ⟨k, hk, rfl, HG, HB⟩ := hrel
    by_cases hlt : k < 4
    · have hcell := (HB.out.cell (p := ⟨b, off + (N + 2 + k), none⟩) hbb).trans (HCC.out k hlt)
      have hy := getD_oct HR.out k
      have HST := Lib.hid (fun e => good_step HG.out (k := k) e)
      have HNN := Lib.hid (fun e => HNO.out (good_none HR.out hlt e))
      generalize r.getD k 0 = y at *
      have k1 : ((N : Int) + 2 + (k : Int)).toNat = N + 2 + k := by omega
      obtain ⟨z, hz⟩ : ∃ z, z = S / 256 ^ k % 256 := ⟨_, rfl⟩
      have hz2 : z < 256 := by omega
      have z1 := u8b z hz2
      rcases (by omega : k = 0 ∨ k = 1 ∨ k = 2 ∨ k = 3) with rfl | rfl | rfl | rfl
      · have a1 : bits .and .u32 (S : Int) 255 = (z : Int) := by rw [and255i _ (by omega) (by omega), hz]; simp only [Nat.pow_zero]; omega
        rcases Decidable.em (y = z) with hyz | hyz
        · have HG2 := Lib.hid (HST.out (hyz.trans hz))
          have hd : ((y : Int) != (z : Int)) = false := by rw [hyz]; simp
          clear HST HNN hz hyz
          go_wp2
          go_quiet (fail)
          have HB2 := Lib.hid (below_drewN HB.out nq)
          clear hcell
          generalize wr.drewN nq = wz at *
          go_wp2
          go_roundw
          case rel => exact ⟨0 + 1, by omega, rfl, HG2, HB2⟩
          case measure => simp [intOf]
        · have HX := Lib.hid (HNN.out (fun e => hyz (e.trans hz.symm)))
          have hd : ((y : Int) != (z : Int)) = true := by rw [bne_iff_ne]; exact fun e => hyz (by exact_mod_cast e)
          clear HST HNN hz hyz
          go_wp2
          go_quiet (fail)
          have HB2 := Lib.hid (below_drewN HB.out nq)
          clear hcell
          generalize wr.drewN nq = wz at *
          go_wp2
          go_ret3
          exact nextC_nil w wz l 13 HX.out HB2.out
      · have a1 : bits .and .u32 ((S : Int) / 256) 255 = (z : Int) := by rw [and255i _ (by omega) (by omega), hz]; simp only [Nat.pow_zero, Nat.pow_succ]; omega
        rcases Decidable.em (y = z) with hyz | hyz
        · have HG2 := Lib.hid (HST.out (hyz.trans hz))
          have hd : ((y : Int) != (z : Int)) = false := by rw [hyz]; simp
          clear HST HNN hz hyz
          go_wp2
          go_quiet (fail)
          have HB2 := Lib.hid (below_drewN HB.out nq)
          clear hcell
          generalize wr.drewN nq = wz at *
          go_wp2
          go_roundw
          case rel => exact ⟨1 + 1, by omega, rfl, HG2, HB2⟩
          case measure => simp [intOf]
        · have HX := Lib.hid (HNN.out (fun e => hyz (e.trans hz.symm)))
          have hd : ((y : Int) != (z : Int)) = true := by rw [bne_iff_ne]; exact fun e => hyz (by exact_mod_cast e)
          clear HST HNN hz hyz
          go_wp2
          go_quiet (fail)
          have HB2 := Lib.hid (below_drewN HB.out nq)
          clear hcell
          generalize wr.drewN nq = wz at *
          go_wp2
          go_ret3
          exact nextC_nil w wz l 13 HX.out HB2.out
      · have a1 : bits .and .u32 ((S : Int) / 65536) 255 = (z : Int) := by rw [and255i _ (by omega) (by omega), hz]; simp only [Nat.pow_zero, Nat.pow_succ]; omega
        rcases Decidable.em (y = z) with hyz | hyz
        · have HG2 := Lib.hid (HST.out (hyz.trans hz))
          have hd : ((y : Int) != (z : Int)) = false := by rw [hyz]; simp
          clear HST HNN hz hyz
          go_wp2
          go_quiet (fail)
          have HB2 := Lib.hid (below_drewN HB.out nq)
          clear hcell
          generalize wr.drewN nq = wz at *
          go_wp2
          go_roundw
          case rel => exact ⟨2 + 1, by omega, rfl, HG2, HB2⟩
          case measure => simp [intOf]
        · have HX := Lib.hid (HNN.out (fun e => hyz (e.trans hz.symm)))
          have hd : ((y : Int) != (z : Int)) = true := by rw [bne_iff_ne]; exact fun e => hyz (by exact_mod_cast e)
          clear HST HNN hz hyz
          go_wp2
          go_quiet (fail)
          have HB2 := Lib.hid (below_drewN HB.out nq)
          clear hcell
          generalize wr.drewN nq = wz at *
          go_wp2
          go_ret3
          exact nextC_nil w wz l 13 HX.out HB2.out
      · have a1 : bits .and .u32 ((S : Int) / 16777216) 255 = (z : Int) := by rw [and255i _ (by omega) (by omega), hz]; simp only [Nat.pow_zero, Nat.pow_succ]; omega
        rcases Decidable.em (y = z) with hyz | hyz
        · have HG2 := Lib.hid (HST.out (hyz.trans hz))
          have hd : ((y : Int) != (z : Int)) = false := by rw [hyz]; simp
          clear HST HNN hz hyz
          go_wp2
          go_quiet (fail)
          have HB2 := Lib.hid (below_drewN HB.out nq)
          clear hcell
          generalize wr.drewN nq = wz at *
          go_wp2
          go_roundw
          case rel => exact ⟨3 + 1, by omega, rfl, HG2, HB2⟩
          case measure => simp [intOf]
        · have HX := Lib.hid (HNN.out (fun e => hyz (e.trans hz.symm)))
          have hd : ((y : Int) != (z : Int)) = true := by rw [bne_iff_ne]; exact fun e => hyz (by exact_mod_cast e)
          clear HST HNN hz hyz
          go_wp2
          go_quiet (fail)
          have HB2 := Lib.hid (below_drewN HB.out nq)
          clear hcell
          generalize wr.drewN nq = wz at *
          go_wp2
          go_ret3
          exact nextC_nil w wz l 13 HX.out HB2.out
    · obtain rfl : k = 4 := by omega
      have HX := Lib.hid (HOK.out (good_allF hS HG.out))
      have hsz := HB.out.size
      have HP := Lib.hid (HP3.out.below HB.out)
      clear HOK HNO HG
      have t3 : N + 2 - 2 = N := by omega
      go_wp2_with (at_builtin; refine wpList_appF rfl (.tmp 51) (.tmp 55) rfl w.heap.size _ [] rfl (ownB_lit wr _ _ [] hsz ?c1 rfl _ rfl _ rfl) _ _ _ ((l.drop 2).take N) rfl HL3.out (HP.out.below ?c3) ?c5 ?c6 ?c7 ?_)
      case c1 => simp
      case c3 => exact (Below.refl _ _).alloc (Nat.le_refl _) _
      case c5 => intro e; cases e
      case c6 => have := HL3.out; simp; omega
      case c7 => simp; omega
      intro v2 w2 ho2 hb2 _
      go_wp2
      go_ret3
      refine ⟨v2, ?_, ?_, (HB.out.alloc hsz _).trans hb2⟩
      · rw [HX.out]
        rfl
      · rw [HX.out]; exact ho2
theorem rnext_any (A : Option Addr) (l : List Nat) (c : Nat) (w : World) (hr : Byts w A l) (hl : Oct l) (hn2 : l.length ≤ 1000000000000) (hcap : l.length ≤ c) :
    Calls Tryz.prog 70 #[.slice A l.length c] w (NextC w l) := by
  by_cases h2 : l.length < 2
  · exact rnext_tiny A l c w h2
  · obtain ⟨b, off, rfl, _⟩ := hr (by omega)
    by_cases h4 : 400 < sizeL l
    · exact rnext_bad b off l c w hr hl h2 hn2 (.inl h4)
    · by_cases h5 : l.length < sizeL l + 6
      · exact rnext_bad b off l c w hr hl h2 hn2 (.inr ⟨h4, h5⟩)
      · exact rnext_full b off l c w hr hl h2 hn2 hcap h4 h5
end Go.Proofs.YtmpipjangbedkaaGreat

/-
  The walk of the reference's Records.
-/
namespace Go.Proofs.YtmpipjangbedkaaGreat
set_option maxRecDepth 8000
open Go.RowKit

theorem info_int : (Tryz.prog.info? 3).map (fun i => (i.zero, i.size, i.bytes)) = some (some (.int .i64 0), 1, 8) := by kernel_rfl
theorem info_bytes : (Tryz.prog.info? 26).map (fun i => (i.zero, i.size, i.bytes)) = some (some (.slice none 0 0), 1, 24) := by kernel_rfl
theorem own_below {w w' : World} {B e size n : Nat} {v : Value} {xs : List Value} (h : w.ownsRow B e size v n xs) (hb : Below w.heap.size w w') : w'.ownsRow B e size v n xs := by
  refine ⟨h.1, ?_⟩
  rcases h.2 with hn | ⟨g, cap, cur, rfl, hg, hgg, rest⟩
  · exact .inl hn
  · exact .inr ⟨g, cap, cur, rfl, hg, by rw [hb.block g (Array.getElem?_eq_some_iff.1 hgg).1]; exact hgg, rest⟩
/-- Rows of different element types lie apart. -/
theorem own_apart {w : World} {B B' e e' size size' n n' : Nat} {v v' : Value} {xs xs' : List Value} (h : w.ownsRow B e size v n xs) (h' : w.ownsRow B' e' size' v' n' xs') (hne : e ≠ e') : v.ownBlock = none ∨ v.ownBlock ≠ v'.ownBlock := by
  rcases h.2 with ⟨rfl, _⟩ | ⟨g, cap, cur, rfl, hg, hgg, _⟩
  · exact .inl rfl
  · rcases h'.2 with ⟨rfl, _⟩ | ⟨g', cap', cur', rfl, hg', hgg', _⟩
    · exact .inr (by simp [Value.ownBlock])
    · refine .inr fun e1 => ?_
      have e2 : g = g' := by simpa [Value.ownBlock] using e1
      subst e2
      rw [hgg] at hgg'
      injection hgg' with e3
      injection e3 with _ e4
      exact hne e4
theorem own_grown {w w' : World} {B B' e e' size size' n n' : Nat} {v v' : Value} {xs xs' : List Value} (h : w.ownsRow B e size v n xs) (h' : w.ownsRow B' e' size' v' n' xs') (hne : e ≠ e') (hg : w.grownBy w' v'.ownBlock) : w'.ownsRow B e size v n xs :=
  h.kept hg (own_apart h h' hne)
/-- Places and texts, in rows of the call's own. -/
structure RecS (B : Nat) (W : World) (v1 v2 : Value) (R : List (Nat × List Nat)) : Prop where
  p : W.ownsRow B 3 1 v1 R.length (R.map fun x => Value.int .i64 (x.1 : Int))
  l : ∃ vs : List Value, vs.length = R.length ∧ W.ownsRow B 26 1 v2 R.length vs ∧ ∀ i v, vs[i]? = some v → OwnB W B v (R.getD i (0, [])).2
theorem RecS.nil (B : Nat) (W : World) : RecS B W (.slice none 0 0) (.slice none 0 0) [] := ⟨World.ownsRow_nil _ _ _ _, [], rfl, World.ownsRow_nil _ _ _ _, fun i v h => by simp at h⟩
theorem RecS.below {B : Nat} {W W' : World} {v1 v2 : Value} {R : List (Nat × List Nat)} (h : RecS B W v1 v2 R) (hb : Below W.heap.size W W') : RecS B W' v1 v2 R := by
  obtain ⟨vs, h1, h2, h3⟩ := h.l
  exact ⟨own_below h.p hb, vs, h1, own_below h2 hb, fun i v hv => own_below (h3 i v hv) hb⟩
/-- The first row grown. -/
theorem RecS.first {B : Nat} {W W' : World} {v1 v1' v2 : Value} {R : List (Nat × List Nat)} {x : Nat} (h : RecS B W v1 v2 R) (hg : W.grownBy W' v1.ownBlock) (ho : W'.ownsRow B 3 1 v1' (R.length + 1) ((R.map fun x => Value.int .i64 (x.1 : Int)) ++ [.int .i64 (x : Int)])) :
    (∃ vs : List Value, vs.length = R.length ∧ W'.ownsRow B 26 1 v2 R.length vs ∧ ∀ i v, vs[i]? = some v → OwnB W' B v (R.getD i (0, [])).2) ∧ W'.ownsRow B 3 1 v1' (R.length + 1) ((R.map fun x => Value.int .i64 (x.1 : Int)) ++ [.int .i64 (x : Int)]) := by
  obtain ⟨vs, h1, h2, h3⟩ := h.l
  exact ⟨⟨vs, h1, own_grown h2 h.p (by decide) hg, fun i v hv => own_grown (h3 i v hv) h.p (by decide) hg⟩, ho⟩
/-- Then the second. -/
theorem RecS.second {B : Nat} {W W' : World} {v1 v2 v2' u : Value} {R : List (Nat × List Nat)} {x : Nat} {bs : List Nat} {vs : List Value} (h1 : vs.length = R.length) (h2 : W.ownsRow B 26 1 v2 R.length vs) (h3 : ∀ i v, vs[i]? = some v → OwnB W B v (R.getD i (0, [])).2)
    (hp : W.ownsRow B 3 1 v1 (R.length + 1) ((R.map fun x => Value.int .i64 (x.1 : Int)) ++ [.int .i64 (x : Int)])) (hu : OwnB W B u bs) (hg : W.grownBy W' v2.ownBlock) (ho : W'.ownsRow B 26 1 v2' (R.length + 1) (vs ++ [u])) : RecS B W' v1 v2' (R ++ [(x, bs)]) := by
  have hl : (R ++ [(x, bs)]).length = R.length + 1 := by simp
  refine ⟨?_, vs ++ [u], by simp [h1], by rw [hl]; exact ho, fun i v hv => ?_⟩
  · rw [hl, List.map_append]
    exact own_grown hp h2 (by decide) hg
  · rcases Nat.lt_or_ge i vs.length with hi | hi
    · rw [List.getElem?_append_left hi] at hv
      have := own_grown (h3 i v hv) h2 (by decide) hg
      rw [List.getD_eq_getElem?_getD, List.getElem?_append_left (by omega), ← List.getD_eq_getElem?_getD]
      exact this
    · rw [List.getElem?_append_right hi] at hv
      have h0 : i = vs.length := by
        rcases Nat.lt_or_ge (i - vs.length) 1 with h | h
        · omega
        · rw [List.getElem?_eq_none (by simpa using h)] at hv; cases hv
      subst h0
      simp at hv
      subst hv
      rw [List.getD_eq_getElem?_getD, List.getElem?_append_right (by omega), h1, Nat.sub_self]
      exact own_grown hu h2 (by decide) hg
theorem cell_first (w : World) (t : TypeId) (u : Value) (n : Nat) (hn : n = w.heap.size) : ∀ (j : Nat) (x : Value), [u][j]? = some x → (w.alloc (.cells #[u] t)).cell? ((⟨n, 0, none⟩ : Addr).add j) = some x := by
  subst hn
  intro j x hx
  cases j with
  | zero =>
    simp at hx
    subst hx
    rw [Go.WideShapes.add_plain, World.cell?_alloc_new]
    rfl
  | succ j => simp at hx
theorem one_int (x : Int) : ∀ u ∈ [Value.int .i64 x], u.oneCell' = true := by intro u hu; simp at hu; subst hu; rfl
theorem one_slice (A : Option Addr) (n c : Nat) : ∀ u ∈ [Value.slice A n c], u.oneCell' = true := by intro u hu; simp at hu; subst hu; rfl
/-- What Records answers. -/
def RecordsC (w : World) (L : List Nat) (e : Ending) (w' : World) : Prop :=
  ∃ v1 v2, e = .returned (.tuple #[v1, v2, .int .i64 ((wholeOf (recs L) : Nat) : Int)]) ∧ RecS w.heap.size w' v1 v2 (recs L) ∧ Below w.heap.size w w'
set_option maxRecDepth 8000 in
set_option maxHeartbeats 1000000 in
theorem records_nil (A : Option Addr) (w : World) : Calls Tryz.prog 53 #[.slice A 0 0] w (RecordsC w []) := by
  have C : Hid (Calls Tryz.prog 70 #[.slice A 0 0] w fun e w' => ∃ v, e = .returned (.tuple #[v, .int .i64 0, .int .i64 12]) ∧ Below w.heap.size w w') := Lib.hid ((rnext_tiny A [] 0 w (by simp)).mono (by
    rintro e w' ⟨v, rfl, hv, hb⟩
    exact ⟨v, rfl, hb⟩))
  have F : Hid (∀ w', Below w.heap.size w w' → RecordsC w [] (.returned (.tuple #[.slice none 0 0, .slice none 0 0, .int .i64 0])) w') := Lib.hid fun w' hb => ⟨_, _, rfl, RecS.nil _ _, hb⟩
  cases A
  case none =>
    go_enter Tryz.func53, Tryz.ntmps53
    go_wp2
    go_loopw [5, 6, 7, 8, 9, 10] (fun v1 v2 i _ _ _ wr => v1 = .slice none 0 0 ∧ v2 = .slice none 0 0 ∧ i = .int .i64 0 ∧ wr = w) (fun _ _ _ _ _ _ _ => 0)
    case atStart => exact ⟨rfl, rfl, rfl, rfl⟩
    case round =>
      obtain ⟨rfl, rfl, rfl, rfl⟩ := hrel
      go_wp2_with (go_at_call 70; refine C.out.mono ?_; rintro e w' ⟨v, rfl, hb⟩)
      go_ret3
      exact F.out _ hb
  case some =>
    go_enter Tryz.func53, Tryz.ntmps53
    go_wp2
    go_loopw [5, 6, 7, 8, 9, 10] (fun v1 v2 i _ _ _ wr => v1 = .slice none 0 0 ∧ v2 = .slice none 0 0 ∧ i = .int .i64 0 ∧ wr = w) (fun _ _ _ _ _ _ _ => 0)
    case atStart => exact ⟨rfl, rfl, rfl, rfl⟩
    case round =>
      obtain ⟨rfl, rfl, rfl, rfl⟩ := hrel
      go_wp2_with (go_at_call 70; refine C.out.mono ?_; rintro e w' ⟨v, rfl, hb⟩)
      go_ret3
      exact F.out _ hb
/-- What is known behind a call of Next. -/
def NextX (w : World) (X : List Nat × Nat × Nat) (e : Ending) (w' : World) : Prop :=
  ∃ v, e = .returned (.tuple #[v, .int .i64 ((X.2.1 : Nat) : Int), .int .i64 ((X.2.2 : Nat) : Int)]) ∧ OwnB w' w.heap.size v X.1 ∧ Below w.heap.size w w'
theorem recs_grow {L : List Nat} {R : List (Nat × List Nat)} {f p : Nat} (h : recs L = R ++ recF f p (L.drop p)) (h0 : (nextL (L.drop p)).2.2 = 0) (hf : L.length < f + p) (hp : p ≤ L.length) :
    ∃ f', f = f' + 1 ∧ recs L = (R ++ [(p, (nextL (L.drop p)).1)]) ++ recF f' (p + (nextL (L.drop p)).2.1) (L.drop (p + (nextL (L.drop p)).2.1)) := by
  obtain ⟨f', rfl⟩ : ∃ f', f = f' + 1 := ⟨f - 1, by omega⟩
  refine ⟨f', rfl, ?_⟩
  rw [recF_more h0, List.drop_drop] at h
  rw [h, List.append_assoc]
  rfl
set_option maxRecDepth 8000 in
set_option maxHeartbeats 4000000 in
theorem records_some (b off : Nat) (L : List Nat) (c : Nat) (w : World) (hr : Byts w (some ⟨b, off, none⟩) L) (hl : Oct L) (hn : L.length ≤ 1000000000) (hcap : L.length ≤ c) (hc2 : c ≤ 9223372036854775807) :
    Calls Tryz.prog 53 #[.slice (some ⟨b, off, none⟩) L.length c] w (RecordsC w L) := by
  obtain ⟨i0, hi, hz0, hz1, hz2⟩ := parts_of info_int
  obtain ⟨j0, ji, jz0, jz1, jz2⟩ := parts_of info_bytes
  have HI := Lib.hid hi
  have HZ0 := Lib.hid hz0
  have HZ1 := Lib.hid hz1
  have HZ2 := Lib.hid hz2
  have JI := Lib.hid ji
  have JZ0 := Lib.hid jz0
  have JZ1 := Lib.hid jz1
  have JZ2 := Lib.hid jz2
  have HA := Lib.hid hr
  have HO := Lib.hid hl
  clear hr hl hi hz0 hz1 hz2 ji jz0 jz1 jz2
  go_enter Tryz.func53, Tryz.ntmps53
  go_wp2
  go_loopw [5, 6, 7, 8, 9, 10] (fun v1 v2 i _ _ _ wr => ∃ (p f : Nat) (R : List (Nat × List Nat)), i = .int .i64 p ∧ p ≤ L.length ∧ 6 * R.length ≤ p ∧ Hid (recs L = R ++ recF f p (L.drop p)) ∧ Hid (p = wholeOf R) ∧ Hid (L.length < f + p) ∧ Hid (RecS w.heap.size wr v1 v2 R) ∧ Hid (Below w.heap.size w wr)) (fun _ _ i _ _ _ _ => L.length - (intOf i).toNat)
  case atStart => exact ⟨0, L.length + 1, [], rfl, Nat.zero_le _, Nat.le_refl _, Lib.hid rfl, Lib.hid rfl, Lib.hid (by omega), Lib.hid (RecS.nil _ _), Lib.hid (Below.refl _ _)⟩
  case round =>
    obtain ⟨p, f, R, rfl, hp, h6, HR, HP, HF, HS, HB⟩ := hrel
    have hsz := HB.out.size
    have hby := HA.out.below HB.out
    have hlen : (L.drop p).length = L.length - p := List.length_drop
    have HX : Hid (∀ A' k m, k = L.length - p → m = c - p → (p < c → A' = some ⟨b, off + p, none⟩) → Calls Tryz.prog 70 #[.slice A' k m] wr (NextX wr (nextL (L.drop p)))) := Lib.hid fun A' k m hk hm hA' => by
      subst hk
      subst hm
      have := rnext_any A' (L.drop p) (c - p) wr (by
        by_cases h : p < c
        · rw [hA' h]; exact hby.from p hp
        · intro h1; omega) (HO.out.drop p) (by omega) (by omega)
      rw [hlen] at this
      exact this
    have HFA := Lib.hid (next_fact (L.drop p))
    have HST := Lib.hid (fun h0 => recs_grow HR.out h0 HF.out hp)
    have HEN : Hid (¬ (nextL (L.drop p)).2.2 = 0 → R = recs L) := Lib.hid (fun h0 => by
      rw [HR.out]
      obtain ⟨f', rfl⟩ : ∃ f', f = f' + 1 := ⟨f - 1, by have := HF.out; omega⟩
      rw [recF_end h0, List.append_nil])
    have FIN : Hid (¬ (nextL (L.drop p)).2.2 = 0 → ∀ w', Below wr.heap.size wr w' → RecordsC w L (.returned (.tuple #[u5, u6, .int .i64 (p : Int)])) w') := Lib.hid fun h0 w' hb => by
      have e := HEN.out h0
      exact ⟨_, _, by rw [← e, ← HP.out], by rw [← e]; exact HS.out.below hb, HB.out.trans (hb.mono HB.out.size)⟩
    clear hby hlen HR HEN
    by_cases hpc : p = c
    · subst hpc
      have h0 : ¬ (nextL (L.drop p)).2.2 = 0 := by
        rw [show L.drop p = [] from List.drop_eq_nil_of_le hcap, next_short0 (by simp)]
        simp
      have C := Lib.hid (HX.out (some ⟨b, off, none⟩) 0 0 (by omega) (by omega) (fun h => absurd h (by omega)))
      have FN := Lib.hid (FIN.out h0)
      clear HX HST HFA FIN
      generalize nextL (L.drop p) = X at *
      obtain ⟨bs, m, code⟩ := X
      simp only at h0
      have hd : ((code : Int) != 0) = true := by rw [bne_iff_ne]; omega
      clear h0
      go_wp2_with (go_at_call 70; (with_reducible refine C.out.mono ?_); rintro e w' ⟨v, rfl, HV, HBW⟩)
      go_ret3
      exact FN.out _ HBW
    · have C := Lib.hid (HX.out (some ⟨b, off + p, none⟩) (L.length - p) (c - p) rfl rfl (fun _ => rfl))
      clear HX
      by_cases h0 : (nextL (L.drop p)).2.2 = 0
      · have HS2 := Lib.hid (HST.out h0)
        obtain ⟨f1, f2, f3⟩ := HFA.out h0
        have hlen : (L.drop p).length = L.length - p := List.length_drop
        rw [hlen] at f2
        clear HST FIN HFA hlen
        generalize nextL (L.drop p) = X at *
        obtain ⟨bs, m, code⟩ := X
        simp only at h0 f1 f2 f3 HS2
        subst h0
        have HF1 := Lib.hid f1
        have hm6 : 6 ≤ m := by omega
        clear f1
        go_wp2_with (first
          | (go_at_call 70; (with_reducible refine C.out.mono ?_); rintro e w2 ⟨v2, rfl, hv2, hb2⟩; obtain ⟨A2, c2, rfl, _⟩ := OwnB.form hv2; have HS3 := Lib.hid (HS.out.below hb2); have HB3 := Lib.hid (HB.out.trans (hb2.mono hsz)); have HV3 := Lib.hid hv2)
          | (at_builtin; refine wpList_append_own _ rfl (.tmp 24) (.tmp 26) 96 rfl w.heap.size 3 i0 (.int .i64 0) 1 8 Tryz.underlying96 HI.out HZ0.out HZ1.out HZ2.out rfl (by decide) _ _ _ rfl (HS3.out.p.alloc _) ⟨w2.heap.size, 0, none⟩ 1 1 [.int .i64 (p : Int)] rfl rfl (cell_first _ _ _ _ rfl) (one_int _) ?c3 ?c4 ?c5 ?_))
        case c3 => unfold maxLen; omega
        case c4 => omega
        case c5 => simp; have := HB3.out.size; omega
        intro v3 w3 ho3 hg3 _
        obtain ⟨⟨vs, q1, q2, q3⟩, q4⟩ := RecS.first (x := p) ⟨HS3.out.p.alloc _, by
          obtain ⟨vs, h1, h2, h3⟩ := HS3.out.l
          exact ⟨vs, h1, h2.alloc _, fun i v hv => (h3 i v hv).alloc _⟩⟩ hg3 ho3
        have HB4 := Lib.hid ((HB3.out.alloc HB3.out.size _).grown hg3 (by simp; have := HB3.out.size; omega) (fun g hg => (HS3.out.p.lt g hg).1))
        have hv4 : OwnB w3 w.heap.size (.slice A2 bs.length c2) bs := own_grown (ownB_base (HV3.out.alloc _) hsz) (HS3.out.p.alloc _) (by decide) hg3
        have HV4 := Lib.hid hv4
        have Q1 := Lib.hid q1
        have Q2 := Lib.hid q2
        have Q3 := Lib.hid q3
        have Q4 := Lib.hid q4
        clear q1 q2 q3 q4 hv4 ho3 hg3 HS3 HS hv2 hb2 C
        go_wp2_with (at_builtin; refine wpList_append_own _ rfl (.tmp 28) (.tmp 30) 97 rfl w.heap.size 26 j0 (.slice none 0 0) 1 24 Tryz.underlying97 JI.out JZ0.out JZ1.out JZ2.out rfl (by decide) _ _ _ rfl (Q2.out.alloc _) ⟨w3.heap.size, 0, none⟩ 1 1 [.slice A2 bs.length c2] rfl rfl (cell_first _ _ _ _ rfl) (one_slice _ _ _) ?d3 ?d4 ?d5 ?_)
        case d3 => unfold maxLen; omega
        case d4 => omega
        case d5 => simp; have := HB4.out.size; omega
        intro v4 w4 ho4 hg4 _
        have HS4 := Lib.hid (RecS.second (x := p) (bs := bs) Q1.out (Q2.out.alloc _) (fun i v hv => (Q3.out i v hv).alloc _) (Q4.out.alloc _) (HV4.out.alloc _) hg4 ho4)
        have HB5 := Lib.hid ((HB4.out.alloc HB4.out.size _).grown hg4 (by simp; have := HB4.out.size; omega) (fun g hg => (Q2.out.lt g hg).1))
        clear ho4 hg4 Q1 Q2 Q3 Q4 HV4 HB4
        go_wp2
        go_roundw
        case rel =>
          obtain ⟨f', hf, e⟩ := HS2.out
          exact ⟨p + m, f', R ++ [(p, bs)], by go_num, by omega, by simp; omega, Lib.hid e, Lib.hid (by rw [wholeOf_snoc, HF1.out]; omega), Lib.hid (by have := HF.out; omega), HS4, HB5⟩
        case measure => simp [intOf]; omega
      · have FN := Lib.hid (FIN.out h0)
        clear HST HFA FIN
        generalize nextL (L.drop p) = X at *
        obtain ⟨bs, m, code⟩ := X
        simp only at h0
        have hd : ((code : Int) != 0) = true := by rw [bne_iff_ne]; omega
        clear h0
        go_wp2_with (go_at_call 70; (with_reducible refine C.out.mono ?_); rintro e w' ⟨v, rfl, HV, HBW⟩)
        go_ret3
        exact FN.out _ HBW
theorem records_any (A : Option Addr) (L : List Nat) (c : Nat) (w : World) (hr : Byts w A L) (hl : Oct L) (hn : L.length ≤ 1000000000) (hcap : L.length ≤ c) (hc2 : c ≤ 9223372036854775807) (hA : c = 0 ∨ ∃ b off, A = some ⟨b, off, none⟩) :
    Calls Tryz.prog 53 #[.slice A L.length c] w (RecordsC w L) := by
  rcases hA with rfl | ⟨b, off, rfl⟩
  · have hL : L = [] := List.eq_nil_of_length_eq_zero (by omega)
    subst hL
    exact records_nil A w
  · exact records_some b off L c w hr hl hn hcap hc2
end Go.Proofs.YtmpipjangbedkaaGreat
