/-
  The walk of novationlaw5.TapePlays.
-/
import Derived.Test.YtcpimdafpmdjnaaDo5c
import Derived.Test.YtcpimdafpmdjnaaAlike5
import Derived.Test.YtcpimdafpmdjnaaKnown5
namespace Go.Proofs.Ytcpimdafpmdjnaa
open Go Go.RowKit
set_option linter.unusedVariables false

theorem fold_take (f : Tp → TAct → Tp) (t : Tp) (l : List TAct) (k : Nat) (h : k < l.length) : (l.take (k + 1)).foldl f t = f ((l.take k).foldl f t) (l.getD k TAct.zero) := by
  rw [List.take_succ_eq_append_getElem h, List.foldl_append, List.getD_eq_getElem?_getD, List.getElem?_eq_getElem h]
  rfl
/-- Both of the call's own; nothing elder is turned. -/
def InTwo (w1 : World) (B b b' : Nat) (t s : Tp) (W : World) : Prop := ∃ v v', Two B b b' t s W v v' ∧ Below B w1 W
section
variable {w1 W : World} {B b b' : Nat} {t s : Tp}
theorem InTwo.below (h : InTwo w1 B b b' t s W) : Below B w1 W := h.elim fun _ h => h.elim fun _ h => h.2
theorem InTwo.deed (h : InTwo w1 B b b' t s W) (hs : Same t s) (hB : B ≤ w1.heap.size) (a : TAct) (A : Option Addr) (c : Nat) (ok : a.Ok c A) (hy : Byts W A a.b) (hlow : ∀ bb o, A = some ⟨bb, o, none⟩ → 0 < a.b.length → bb < B) :
    Calls Try.prog 13 #[.pointer (some ⟨b, 0, none⟩), .pointer (some ⟨b', 0, none⟩), actV a A c] W fun e w' => e = .returned (.bool true) ∧ InTwo w1 B b b' (t.act a) (s.ract a) w' := by
  obtain ⟨v, v', h2, hb⟩ := h
  refine (do_any W B b b' t s v v' a A c h2 hs ok hy hlow).mono ?_
  rintro e w' ⟨h1, hO⟩
  have hbl := hO.elder h2
  obtain ⟨⟨v1, v1', h3, _⟩, _⟩ := hO
  exact ⟨h1, v1, v1', h3, hb.trans hbl⟩
theorem InTwo.alike (h : InTwo w1 B b b' t s W) (hs : Same t s) : Calls Try.prog 12 #[.pointer (some ⟨b, 0, none⟩), .pointer (some ⟨b', 0, none⟩)] W fun e w' => e = .returned (.bool true) ∧ InTwo w1 B b b' t s w' := by
  obtain ⟨v, v', h2, hb⟩ := h
  refine (alike_any W B b b' t s v v' h2.1 h2.2.1 hs).mono ?_
  rintro e w' ⟨h1, hW⟩
  exact ⟨h1, v, v', ⟨h2.1.keep hW, h2.2.1.keep hW, h2.2.2⟩, hb.trans (hW.mono (by have := h2.1.low; have := h2.1.box.lt; omega))⟩
end
theorem intwo_new {r : Int} {w1 w2 w3 : World} (h2 : TapeAt false w2 w1.heap.size w1.heap.size (.slice none 0 0) (newTp r)) (hb2 : Below w1.heap.size w1 w2) (h3 : TapeAt true w3 w2.heap.size w2.heap.size (.slice none 0 0) (newTp r)) (hb3 : Below w2.heap.size w2 w3) : InTwo w1 w1.heap.size w1.heap.size w2.heap.size (newTp r) (newTp r) w3 :=
  ⟨_, _, ⟨h2.keep hb3, h3.lower hb2.size, fun k hk hf => by
    rcases hk with rfl | hk
    · rcases hf with e | e
      · have := h2.box.lt; omega
      · simp [Value.ownBlock] at e
    · simp [Value.ownBlock] at hk⟩, hb2.trans (hb3.mono hb2.size)⟩

set_option maxRecDepth 100000 in
set_option maxHeartbeats 4000000 in
theorem plays_walk (r : Int) (A : Option Addr) (l : List TAct) (c : Nat) (w : World) (hr : Acts w A l) (hn : l.length ≤ 9223372036854775807) :
    Calls Try.prog 3 #[.int .i64 r, .slice A l.length c] w fun e w' => e = .returned (.bool true) ∧ Below w.heap.size w w' := by
  have C := Lib.hid (known_any w)
  have CL : Hid (∀ W, Below w.heap.size w W → Calls Try.prog 9 #[.slice A l.length c] W fun e w' => (e = .returned (.bool false) ∨ e = .returned (.bool true)) ∧ W = w') := Lib.hid (fun W hW => light_any A l c W (hr.below hW) hn)
  have HR := Lib.hid hr
  obtain ⟨n, hnn⟩ : ∃ n, n = l.length := ⟨_, rfl⟩
  rw [← hnn] at hn CL ⊢
  have HN := Lib.hid hnn
  clear hr hnn
  go_enter Try.func3, Try.ntmps3
  go_wp2_with (first
    | (go_at_call 8; refine C.out.mono ?_; rintro e w1 ⟨rfl, hb1⟩; have HB1 := Lib.hid hb1; have CL1 := Lib.hid (CL.out w1 hb1); clear hb1)
    | (go_at_call 9; (with_reducible refine CL1.out.mono ?_); rintro e _ ⟨hee, rfl⟩; rcases hee with rfl | rfl))
  · go_wp2
    go_ret
    exact ⟨rfl, HB1.out⟩
  have CN := Lib.hid (new_any r w1)
  clear C CL CL1
  go_wp2_with (first
    | (go_at_call 10; (with_reducible refine CN.out.mono ?_); rintro e w2 ⟨rfl, h2, hb2⟩; have H2 := Lib.hid h2; have HB2 := Lib.hid hb2; have CR := Lib.hid (rnew_any r w2); clear h2 hb2)
    | (go_at_call 11; (with_reducible refine CR.out.mono ?_); rintro e w3 ⟨rfl, h3, hb3⟩; have HI := Lib.hid (intwo_new H2.out HB2.out h3 hb3); have CA := Lib.hid (HI.out.alike (same_new r)); clear h3 hb3)
    | (go_at_call 12; (with_reducible refine CA.out.mono ?_); rintro e w4 ⟨rfl, h4⟩; have HI4 := Lib.hid h4; clear h4))
  clear CN CR CA HI H2
  generalize w2.heap.size = b' at *
  go_loopw [7] (fun i wr => ∃ k : Nat, k ≤ n ∧ i = .int .i64 k ∧ Hid (InTwo w1 w1.heap.size w1.heap.size b' ((l.take k).foldl Tp.act (newTp r)) ((l.take k).foldl Tp.ract (newTp r)) wr)) (fun i _ => n - (intOf i).toNat)
  case atStart => exact ⟨0, Nat.zero_le _, rfl, HI4⟩
  case round =>
    obtain ⟨k, hk, rfl, HI⟩ := hrel
    by_cases hlt : k < n
    · obtain ⟨b, off, A', c', rfl, hcell, hlow, ok⟩ := HR.out.one (i := k) (by rw [← HN.out]; exact hlt)
      have hBW := HB1.out.trans (HI.out.below.mono HB1.out.size)
      obtain ⟨x0, x1, x2, x3, xb⟩ := hcell wr hBW
      have hs0 : Same ((l.take k).foldl Tp.act (newTp r)) ((l.take k).foldl Tp.ract (newTp r)) := (same_new r).acts _
      have CD := Lib.hid (HI.out.deed hs0 (Nat.le_refl _) (l.getD k TAct.zero) A' c' ok xb (fun bb o e h0 => Nat.lt_of_lt_of_le (hlow bb o e h0) HB1.out.size))
      rw [← fold_take Tp.act _ l k (by rw [← HN.out]; exact hlt), ← fold_take Tp.ract _ l k (by rw [← HN.out]; exact hlt)] at CD
      have HS1 : Hid (Same ((l.take (k + 1)).foldl Tp.act (newTp r)) ((l.take (k + 1)).foldl Tp.ract (newTp r))) := Lib.hid ((same_new r).acts _)
      unfold actV at CD
      clear hcell hlow ok hBW xb hs0 HI
      generalize l.getD k TAct.zero = a at *
      go_wp2_with (first
        | (go_at_call 13; (with_reducible refine CD.out.mono ?_); rintro e w5 ⟨rfl, h5⟩; have CA := Lib.hid (h5.alike HS1.out); clear h5)
        | (go_at_call 12; (with_reducible refine CA.out.mono ?_); rintro e w6 ⟨rfl, h6⟩; have HI6 := Lib.hid h6; clear h6))
      go_roundw
      case rel => exact ⟨k + 1, by omega, by go_num, HI6⟩
      case measure => simp [intOf]; omega
    · go_wp2
      go_ret
      exact ⟨rfl, HB1.out.trans (HI.out.below.mono HB1.out.size)⟩
end Go.Proofs.Ytcpimdafpmdjnaa
