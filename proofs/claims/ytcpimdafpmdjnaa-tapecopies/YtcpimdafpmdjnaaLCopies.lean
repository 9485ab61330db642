/-
  Four tapes beside each other; the walk of novationlaw5.TapeCopies.
-/
import Derived.Test.YtcpimdafpmdjnaaLPlays
namespace Go.Proofs.Ytcpimdafpmdjnaa
open Go Go.RowKit
set_option linter.unusedVariables false

/-- Two pairs of tapes, all of the call's own, apart from each other. -/
def Four (w1 : World) (B b b' d d' : Nat) (t s p q : Tp) (W : World) : Prop :=
  ∃ v v' u u', Two B b b' t s W v v' ∧ Two B d d' p q W u u' ∧ (∀ k, (foot b v k ∨ foot b' v' k) → ¬ (foot d u k ∨ foot d' u' k)) ∧ Below B w1 W
section
variable {w1 W : World} {B b b' d d' : Nat} {t s p q : Tp}
theorem Four.below (h : Four w1 B b b' d d' t s p q W) : Below B w1 W := by
  obtain ⟨v, v', u, u', _, _, _, hb⟩ := h
  exact hb
theorem Four.swap (h : Four w1 B b b' d d' t s p q W) : Four w1 B d d' b b' p q t s W := by
  obtain ⟨v, v', u, u', h1, h2, h3, h4⟩ := h
  exact ⟨u, u', v, v', h2, h1, fun k hk hf => h3 k hf hk, h4⟩
theorem Four.keep {W' : World} (h : Four w1 B b b' d d' t s p q W) (hW : Below W.heap.size W W') : Four w1 B b b' d d' t s p q W' := by
  obtain ⟨v, v', u, u', h1, h2, h3, h4⟩ := h
  exact ⟨v, v', u, u', ⟨h1.1.keep hW, h1.2.1.keep hW, h1.2.2⟩, ⟨h2.1.keep hW, h2.2.1.keep hW, h2.2.2⟩, h3, h4.trans (hW.mono (by have := h1.1.low; have := h1.1.box.lt; omega))⟩
theorem Four.deed (h : Four w1 B b b' d d' t s p q W) (hs : Same t s) (a : TAct) (A : Option Addr) (c : Nat) (ok : a.Ok c A) (hy : Byts W A a.b) (hlow : ∀ bb o, A = some ⟨bb, o, none⟩ → 0 < a.b.length → bb < B) :
    Calls Try.prog 13 #[.pointer (some ⟨b, 0, none⟩), .pointer (some ⟨b', 0, none⟩), actV a A c] W fun e w' => e = .returned (.bool true) ∧ Four w1 B b b' d d' (t.act a) (s.ract a) p q w' := by
  obtain ⟨v, v', u, u', h1, h2, h3, hb⟩ := h
  refine (do_any W B b b' t s v v' a A c h1 hs ok hy hlow).mono ?_
  rintro e w' ⟨he, hO⟩
  have hbl := hO.elder h1
  obtain ⟨⟨v1, v1', h5, n1, n2⟩, ht⟩ := hO
  have hlt : ∀ k, (foot d u k ∨ foot d' u' k) → k < W.heap.size := fun k hk => by
    rcases hk with hk | hk
    · exact (h2.1.lt hk).2
    · exact (h2.2.1.lt hk).2
  refine ⟨he, v1, v1', u, u', h5, ⟨h2.1.touch ht (fun k hk hf => h3 k hf (.inl hk)), h2.2.1.touch ht (fun k hk hf => h3 k hf (.inr hk)), h2.2.2⟩, fun k hk hf => ?_, hb.trans hbl⟩
  refine h3 k ?_ hf
  rcases hk with hk | hk
  · exact .inl (foot_near n1 (hlt k hf) hk)
  · exact .inr (foot_near n2 (hlt k hf) hk)
theorem Four.alike (h : Four w1 B b b' d d' t s p q W) (hs : Same t s) : Calls Try.prog 12 #[.pointer (some ⟨b, 0, none⟩), .pointer (some ⟨b', 0, none⟩)] W fun e w' => e = .returned (.bool true) ∧ Four w1 B b b' d d' t s p q w' := by
  have h' := h
  obtain ⟨v, v', u, u', h1, h2, h3, hb⟩ := h
  exact (alike_any W B b b' t s v v' h1.1 h1.2.1 hs).mono (fun e w' ⟨he, hW⟩ => ⟨he, h'.keep hW⟩)
/-- The first pair's tape against the second pair's reference. -/
theorem Four.across (h : Four w1 B b b' d d' t s p q W) (hs : Same t q) : Calls Try.prog 12 #[.pointer (some ⟨b, 0, none⟩), .pointer (some ⟨d', 0, none⟩)] W fun e w' => e = .returned (.bool true) ∧ Below B w1 w' := by
  have h' := h
  obtain ⟨v, v', u, u', h1, h2, h3, hb⟩ := h
  exact (alike_any W B b d' t q v u' h1.1 h2.2.1 hs).mono (fun e w' ⟨he, hW⟩ => ⟨he, (h'.keep hW).below⟩)
/-- The copies. -/
theorem four_copies {W2 W3 : World} {v2 v3 : Value} (h : InTwo w1 B b b' t s W) (h2 : TapeAt false W2 W.heap.size d v2 t) (hb2 : Below W.heap.size W W2) (h3 : TapeAt true W3 W2.heap.size d' v3 s) (hb3 : Below W2.heap.size W2 W3) : Four w1 B b b' d d' t s t s W3 := by
  obtain ⟨v, v', h1, hb⟩ := h
  have hs : B ≤ W.heap.size := by have := h1.1.low; have := h1.1.box.lt; omega
  have hk : Below W.heap.size W W3 := hb2.trans (hb3.mono hb2.size)
  refine ⟨v, v', v2, v3, ⟨h1.1.keep hk, h1.2.1.keep hk, h1.2.2⟩, ⟨(h2.keep hb3).lower hs, h3.lower (Nat.le_trans hs hb2.size), fun k hk hf => ?_⟩, fun k hk hf => ?_, hb.trans (hk.mono hs)⟩
  · have := h2.lt hk; have := h3.lt hf; omega
  · have q1 : k < W.heap.size := by
      rcases hk with hk | hk
      · exact (h1.1.lt hk).2
      · exact (h1.2.1.lt hk).2
    rcases hf with hf | hf
    · have := h2.lt hf; omega
    · have := h3.lt hf; have := hb2.size; omega
theorem InTwo.copy (h : InTwo w1 B b b' t s W) : Calls Try.prog 14 #[.pointer (some ⟨b, 0, none⟩)] W fun e W2 => (∃ d v2, e = .returned (.pointer (some ⟨d, 0, none⟩)) ∧ TapeAt false W2 W.heap.size d v2 t ∧ Below W.heap.size W W2) ∧ Calls Try.prog 15 #[.pointer (some ⟨b', 0, none⟩)] W2 fun e W3 => ∃ d' v3, e = .returned (.pointer (some ⟨d', 0, none⟩)) ∧ TapeAt true W3 W2.heap.size d' v3 s ∧ Below W2.heap.size W2 W3 := by
  obtain ⟨v, v', h1, hb⟩ := h
  refine (copy_any W B b v t h1.1).mono ?_
  rintro e W2 ⟨d, v2, he, hd, hb2⟩
  exact ⟨⟨d, v2, he, hd, hb2⟩, rcopy_any W2 B b' v' s (h1.2.1.keep hb2)⟩
end

set_option maxRecDepth 100000 in
set_option maxHeartbeats 4000000 in
theorem copies_walk (r : Int) (A1 A2 : Option Addr) (l m : List TAct) (c1 c2 : Nat) (w : World) (hr : Acts w A1 l) (hn : l.length ≤ 9223372036854775807) (hr' : Acts w A2 m) (hn' : m.length ≤ 9223372036854775807) :
    Calls Try.prog 4 #[.int .i64 r, .slice A1 l.length c1, .slice A2 m.length c2] w fun e w' => e = .returned (.bool true) ∧ Below w.heap.size w w' := by
  have C := Lib.hid (known_any w)
  have CL : Hid (∀ W, Below w.heap.size w W → Calls Try.prog 9 #[.slice A1 l.length c1] W fun e w' => (e = .returned (.bool false) ∨ e = .returned (.bool true)) ∧ W = w') := Lib.hid (fun W hW => light_any A1 l c1 W (hr.below hW) hn)
  have CM : Hid (∀ W, Below w.heap.size w W → Calls Try.prog 9 #[.slice A2 m.length c2] W fun e w' => (e = .returned (.bool false) ∨ e = .returned (.bool true)) ∧ W = w') := Lib.hid (fun W hW => light_any A2 m c2 W (hr'.below hW) hn')
  have HR := Lib.hid hr
  have HR' := Lib.hid hr'
  obtain ⟨n, hnn⟩ : ∃ n, n = l.length := ⟨_, rfl⟩
  obtain ⟨n', hnn'⟩ : ∃ n', n' = m.length := ⟨_, rfl⟩
  rw [← hnn] at hn CL ⊢
  rw [← hnn'] at hn' CM ⊢
  have HN := Lib.hid hnn
  have HN' := Lib.hid hnn'
  clear hr hnn hr' hnn'
  go_enter Try.func4, Try.ntmps4
  go_wp2_with (first
    | (go_at_call 8; refine C.out.mono ?_; rintro e w1 ⟨rfl, hb1⟩; have HB1 := Lib.hid hb1; have CL1 := Lib.hid (CL.out w1 hb1); have CM1 := Lib.hid (CM.out w1 hb1); clear hb1)
    | (go_at_call 9; (with_reducible refine CL1.out.mono ?_); rintro e _ ⟨hee, rfl⟩; rcases hee with rfl | rfl))
  · go_wp2
    go_ret
    exact ⟨rfl, HB1.out⟩
  go_wp2_with (go_at_call 9; (with_reducible refine CM1.out.mono ?_); rintro e _ ⟨hee, rfl⟩; rcases hee with rfl | rfl)
  · go_wp2
    go_ret
    exact ⟨rfl, HB1.out⟩
  have CN := Lib.hid (new_any r w1)
  clear C CL CL1 CM CM1
  go_wp2_with (first
    | (go_at_call 10; (with_reducible refine CN.out.mono ?_); rintro e w2 ⟨rfl, h2, hb2⟩; have H2 := Lib.hid h2; have HB2 := Lib.hid hb2; have CR := Lib.hid (rnew_any r w2); clear h2 hb2)
    | (go_at_call 11; (with_reducible refine CR.out.mono ?_); rintro e w3 ⟨rfl, h3, hb3⟩; have HI3 := Lib.hid (intwo_new H2.out HB2.out h3 hb3); clear h3 hb3))
  clear CN CR H2
  generalize w2.heap.size = b' at *
  go_loopw [9] (fun i wr => ∃ k : Nat, k ≤ n ∧ i = .int .i64 k ∧ Hid (InTwo w1 w1.heap.size w1.heap.size b' ((l.take k).foldl Tp.act (newTp r)) ((l.take k).foldl Tp.ract (newTp r)) wr)) (fun i _ => n - (intOf i).toNat)
  case atStart => exact ⟨0, Nat.zero_le _, rfl, HI3⟩
  case round =>
    obtain ⟨k, hk, rfl, HI⟩ := hrel
    by_cases hlt : k < n
    · obtain ⟨b, off, A', c', rfl, hcell, hlow, ok⟩ := HR.out.one (i := k) (by rw [← HN.out]; exact hlt)
      have hBW := HB1.out.trans (HI.out.below.mono HB1.out.size)
      obtain ⟨x0, x1, x2, x3, xb⟩ := hcell wr hBW
      have hs0 : Same ((l.take k).foldl Tp.act (newTp r)) ((l.take k).foldl Tp.ract (newTp r)) := (same_new r).acts _
      have CD := Lib.hid (HI.out.deed hs0 (Nat.le_refl _) (l.getD k TAct.zero) A' c' ok xb (fun bb o e h0 => Nat.lt_of_lt_of_le (hlow bb o e h0) HB1.out.size))
      rw [← fold_take Tp.act _ l k (by rw [← HN.out]; exact hlt), ← fold_take Tp.ract _ l k (by rw [← HN.out]; exact hlt)] at CD
      unfold actV at CD
      clear hcell hlow ok hBW xb hs0 HI
      generalize l.getD k TAct.zero = a at *
      go_wp2_with (go_at_call 13; (with_reducible refine CD.out.mono ?_); rintro e w5 ⟨rfl, h5⟩; have HI5 := Lib.hid h5; clear h5)
      go_roundw
      case rel => exact ⟨k + 1, by omega, by go_num, HI5⟩
      case measure => simp [intOf]; omega
    · obtain rfl : k = n := by omega
      have HE : Hid (l.take k = l) := Lib.hid (by rw [HN.out, List.take_length])
      rw [HE.out] at HI
      obtain ⟨T, hT⟩ : ∃ T, T = l.foldl Tp.act (newTp r) := ⟨_, rfl⟩
      obtain ⟨S, hS⟩ : ∃ S, S = l.foldl Tp.ract (newTp r) := ⟨_, rfl⟩
      have HSM : Hid (Same T S) := Lib.hid (by rw [hT, hS]; exact (same_new r).acts _)
      rw [← hT, ← hS] at HI
      clear hT hS
      have CC := Lib.hid HI.out.copy
      go_wp2_with (first
        | (go_at_call 14; (with_reducible refine CC.out.mono ?_); rintro e w5 ⟨⟨d, v5, rfl, h5, hb5⟩, cr⟩; have H5 := Lib.hid h5; have HB5 := Lib.hid hb5; have CR := Lib.hid cr; clear h5 hb5 cr)
        | (go_at_call 15; (with_reducible refine CR.out.mono ?_); rintro e w6 ⟨d', v6, rfl, h6, hb6⟩; have HF := Lib.hid (four_copies HI.out H5.out HB5.out h6 hb6); clear h6 hb6))
      clear CC CR H5 HB5 HI
      go_loopw [12] (fun i wr => ∃ k : Nat, k ≤ n' ∧ i = .int .i64 k ∧ Hid (Four w1 w1.heap.size w1.heap.size b' d d' T S ((m.take k).foldl Tp.act T) ((m.take k).foldl Tp.ract S) wr)) (fun i _ => n' - (intOf i).toNat)
      case atStart => exact ⟨0, Nat.zero_le _, rfl, HF⟩
      case round =>
        obtain ⟨k2, hk2, rfl, HI⟩ := hrel
        by_cases hlt2 : k2 < n'
        · obtain ⟨b, off, A', c', rfl, hcell, hlow, ok⟩ := HR'.out.one (i := k2) (by rw [← HN'.out]; exact hlt2)
          have hBW := HB1.out.trans (HI.out.below.mono HB1.out.size)
          obtain ⟨x0, x1, x2, x3, xb⟩ := hcell wr hBW
          have hs0 : Same ((m.take k2).foldl Tp.act T) ((m.take k2).foldl Tp.ract S) := HSM.out.acts _
          have CD := Lib.hid (HI.out.swap.deed hs0 (m.getD k2 TAct.zero) A' c' ok xb (fun bb o e h0 => Nat.lt_of_lt_of_le (hlow bb o e h0) HB1.out.size))
          rw [← fold_take Tp.act _ m k2 (by rw [← HN'.out]; exact hlt2), ← fold_take Tp.ract _ m k2 (by rw [← HN'.out]; exact hlt2)] at CD
          unfold actV at CD
          clear hcell hlow ok hBW xb hs0 HI
          generalize m.getD k2 TAct.zero = a at *
          go_wp2_with (go_at_call 13; (with_reducible refine CD.out.mono ?_); rintro e w5 ⟨rfl, h5⟩; have HI5 := Lib.hid h5.swap; clear h5)
          go_roundw
          case rel => exact ⟨k2 + 1, by omega, by go_num, HI5⟩
          case measure => simp [intOf]; omega
        · obtain rfl : k2 = n' := by omega
          have HE' : Hid (m.take k2 = m) := Lib.hid (by rw [HN'.out, List.take_length])
          rw [HE'.out] at HI
          have HS2 : Hid (Same (m.foldl Tp.act T) (m.foldl Tp.ract S)) := Lib.hid (HSM.out.acts _)
          have CA := Lib.hid (HI.out.swap.alike HS2.out)
          generalize m.foldl Tp.ract S = S2 at *
          generalize hT2 : m.foldl Tp.act T = T2 at *
          have HT2 := Lib.hid hT2
          clear hT2
          go_wp2_with (first
            | (go_at_call 12; (with_reducible refine CA.out.mono ?_); rintro e w7 ⟨rfl, h7⟩; have CA2 := Lib.hid (h7.swap.alike HSM.out); clear h7)
            | (go_at_call 12; (with_reducible refine CA2.out.mono ?_); rintro e w8 ⟨rfl, h8⟩; have HF8 := Lib.hid h8; clear h8))
          clear CA CA2 HI HF
          go_loopw [13] (fun i wr => ∃ k : Nat, k ≤ k2 ∧ i = .int .i64 k ∧ Hid (Four w1 w1.heap.size w1.heap.size b' d d' ((m.take k).foldl Tp.act T) ((m.take k).foldl Tp.ract S) T2 S2 wr)) (fun i _ => k2 - (intOf i).toNat)
          case atStart => exact ⟨0, Nat.zero_le _, rfl, HF8⟩
          case round =>
            obtain ⟨k3, hk3, rfl, HI⟩ := hrel
            by_cases hlt3 : k3 < k2
            · obtain ⟨b, off, A', c', rfl, hcell, hlow, ok⟩ := HR'.out.one (i := k3) (by rw [← HN'.out]; exact hlt3)
              have hBW := HB1.out.trans (HI.out.below.mono HB1.out.size)
              obtain ⟨x0, x1, x2, x3, xb⟩ := hcell wr hBW
              have hs0 : Same ((m.take k3).foldl Tp.act T) ((m.take k3).foldl Tp.ract S) := HSM.out.acts _
              have CD := Lib.hid (HI.out.deed hs0 (m.getD k3 TAct.zero) A' c' ok xb (fun bb o e h0 => Nat.lt_of_lt_of_le (hlow bb o e h0) HB1.out.size))
              rw [← fold_take Tp.act _ m k3 (by rw [← HN'.out]; exact hlt3), ← fold_take Tp.ract _ m k3 (by rw [← HN'.out]; exact hlt3)] at CD
              unfold actV at CD
              clear hcell hlow ok hBW xb hs0 HI
              generalize m.getD k3 TAct.zero = a at *
              go_wp2_with (go_at_call 13; (with_reducible refine CD.out.mono ?_); rintro e w5 ⟨rfl, h5⟩; have HI5 := Lib.hid h5; clear h5)
              go_roundw
              case rel => exact ⟨k3 + 1, by omega, by go_num, HI5⟩
              case measure => simp [intOf]; omega
            · obtain rfl : k3 = k2 := by omega
              rw [HE'.out, HT2.out] at HI
              have CX := Lib.hid (HI.out.across HS2.out)
              go_wp2_with (go_at_call 12; (with_reducible refine CX.out.mono ?_); rintro e w9 ⟨rfl, h9⟩; have HF9 := Lib.hid h9; clear h9)
              go_ret
              exact ⟨rfl, HB1.out.trans (HF9.out.mono HB1.out.size)⟩
end Go.Proofs.Ytcpimdafpmdjnaa
