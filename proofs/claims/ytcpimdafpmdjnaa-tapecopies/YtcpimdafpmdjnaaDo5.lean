/-
  The walks of novationlaw5's light and do.
-/
import Derived.Test.YtcpimdafpmdjnaaSame5
import Derived.Deep.RegionWith
namespace Go.Proofs.Ytcpimdafpmdjnaa
open Go Go.RowKit
set_option linter.unusedVariables false

set_option maxRecDepth 8000 in
set_option maxHeartbeats 1000000 in
theorem light_any (A : Option Addr) (l : List TAct) (c : Nat) (w : World) (hr : Acts w A l) (hn : l.length ≤ 9223372036854775807) :
    Calls Try.prog 9 #[.slice A l.length c] w fun e w' => (e = .returned (.bool false) ∨ e = .returned (.bool true)) ∧ w = w' := by
  by_cases h60 : 60 < l.length
  · go_enter Try.func9, Try.ntmps9
    go_wp2
    go_ret
    exact ⟨.inl rfl, rfl⟩
  · have HR := Lib.hid hr
    obtain ⟨n, hnn⟩ : ∃ n, n = l.length := ⟨_, rfl⟩
    rw [← hnn] at h60 ⊢
    have HN := Lib.hid hnn
    clear hr hnn hn
    go_enter Try.func9, Try.ntmps9
    go_wp2
    go_loop [3] (fun i => ∃ k : Nat, k ≤ n ∧ i = .int .i64 k) (fun i => n - (intOf i).toNat)
    case atStart => exact ⟨0, Nat.zero_le _, rfl⟩
    case round =>
      obtain ⟨k, hk, rfl⟩ := hrel
      by_cases hlt : k < n
      · obtain ⟨b, off, A', c', rfl, hcell, _, ok⟩ := HR.out.one (i := k) (by rw [← HN.out]; exact hlt)
        obtain ⟨_, hcl, _⟩ := hcell w (Below.refl _ _)
        have h5 := ok.len
        have h6 := ok.cap
        generalize (l.getD k TAct.zero).b.length = m at *
        clear hcell ok
        by_cases h4 : m ≤ 200
        · go_wp2
          go_round
          case rel => exact ⟨k + 1, by omega, by go_num⟩
          case measure => simp [intOf]; omega
        · go_wp2
          go_ret
          exact ⟨.inl rfl, rfl⟩
      · go_wp2
        go_ret
        exact ⟨.inr rfl, rfl⟩
/-- Both, with the values of their slices told. -/
def Two (B b b' : Nat) (t s : Tp) (W : World) (v v' : Value) : Prop := TapeAt false W B b v t ∧ TapeAt true W B b' v' s ∧ ∀ k, foot b v k → ¬ foot b' v' k
section
variable {w0 w : World} {B b b' : Nat} {t s : Tp} {X : Nat → Prop} {v v' v0 v0' : Value}
/-- From the state w0 (its slices v0, v0') on. -/
structure On (w0 : World) (B b b' : Nat) (v0 v0' : Value) (t s : Tp) (W : World) : Prop where
  two : ∃ v v', Two B b b' t s W v v' ∧ Near w0 v0 v ∧ Near w0 v0' v'
  touch : Touch (fun k => foot b v0 k ∨ foot b' v0' k) w0 W
theorem Near.next {w0 w : World} {v0 v v1 : Value} (h : Near w0 v0 v) (hs : w0.heap.size ≤ w.heap.size) (h1 : Near w v v1) : Near w0 v0 v1 := fun k hk => by
  rcases h1 k hk with h2 | h2
  · exact h k h2
  · exact .inr (by omega)
theorem On.start (h : Two B b b' t s w v v') : On w B b b' v v' t s w := ⟨⟨v, v', h, Near.refl _ _, Near.refl _ _⟩, Touch.refl _ _⟩
theorem On.keep {W : World} (h : On w0 B b b' v0 v0' t s w) (hb : Below w.heap.size w W) : On w0 B b b' v0 v0' t s W := by
  obtain ⟨⟨v, v', ⟨h1, h2, h3⟩, n1, n2⟩, ht⟩ := h
  exact ⟨⟨v, v', ⟨h1.keep hb, h2.keep hb, h3⟩, n1, n2⟩, ht.trans (Touch.of_below (fun _ => False) hb) (fun _ _ h => h.elim)⟩
theorem foot_near {w0 : World} {b : Nat} {v0 v : Value} (n : Near w0 v0 v) {i : Nat} (hi : i < w0.heap.size) (h : foot b v i) : foot b v0 i := by
  rcases h with h | h
  · exact .inl h
  · rcases n i h with h2 | h2
    · exact .inr h2
    · omega
theorem On.first {W : World} {t' : Tp} (ht0 : Touch (fun k => foot b v0 k ∨ foot b' v0' k) w0 w) (h : Two B b b' t s w v v') (n1 : Near w0 v0 v) (n2 : Near w0 v0' v') (hg : Went false w B b v t' W) : On w0 B b b' v0 v0' t' s W := by
  obtain ⟨v1, g1, g2, g3, g4, g5⟩ := Duo.first h.1 h.2.1 h.2.2 hg
  exact ⟨⟨v1, v', ⟨g1, g2, g3⟩, n1.next ht0.size g5, n2⟩, ht0.trans g4 (fun i hi hf => .inl (foot_near n1 hi hf))⟩
theorem On.second {W : World} {s' : Tp} (ht0 : Touch (fun k => foot b v0 k ∨ foot b' v0' k) w0 w) (h : Two B b b' t s w v v') (n1 : Near w0 v0 v) (n2 : Near w0 v0' v') (hg : Went true w B b' v' s' W) : On w0 B b b' v0 v0' t s' W := by
  obtain ⟨v1, g1, g2, g3, g4, g5⟩ := Duo.second h.1 h.2.1 h.2.2 hg
  exact ⟨⟨v, v1, ⟨g1, g2, g3⟩, n1, n2.next ht0.size g5⟩, ht0.trans g4 (fun i hi hf => .inr (foot_near n2 hi hf))⟩
theorem On.size (h : On w0 B b b' v0 v0' t s w) : B ≤ w.heap.size := by
  obtain ⟨⟨v, v', ⟨h1, _⟩, _⟩, _⟩ := h
  have := h1.low; have := h1.box.lt; omega
/-- The calls on the program's tape. -/
theorem On.append (h : On w0 B b b' v0 v0' t s w) (A : Option Addr) (n c : Nat) (x : List Nat) (hnx : n = x.length) (hx : Byts w A x) (hxo : Oct x) (hA : A = none → c = 0) (hxc : x.length ≤ c) (hcm : c ≤ 9223372036854775807) (hlow : ∀ bb off, A = some ⟨bb, off, none⟩ → 0 < x.length → bb < B) :
    Calls Try.prog 17 #[.pointer (some ⟨b, 0, none⟩), .slice A n c] w fun e w' => e = .returned (.int .i64 (t.append x).2) ∧ On w0 B b b' v0 v0' (t.append x).1 s w' := by
  obtain ⟨⟨v, v', h2, n1, n2⟩, ht⟩ := h
  exact (append_any w B b v t A n c x hnx hx hxo hA hxc hcm (fun bb off e h0 hf => by have := hlow bb off e h0; have := h2.1.lt hf; omega) h2.1).mono (fun e w' ⟨e1, e2⟩ => ⟨e1, On.first ht h2 n1 n2 e2⟩)
theorem On.rappend (h : On w0 B b b' v0 v0' t s w) (A : Option Addr) (n c : Nat) (x : List Nat) (hnx : n = x.length) (hx : Byts w A x) (hxo : Oct x) (hA : A = none → c = 0) (hxc : x.length ≤ c) (hcm : c ≤ 9223372036854775807) (hlow : ∀ bb off, A = some ⟨bb, off, none⟩ → 0 < x.length → bb < B) :
    Calls Try.prog 24 #[.pointer (some ⟨b', 0, none⟩), .slice A n c] w fun e w' => e = .returned (.int .i64 (s.rappend x).2) ∧ On w0 B b b' v0 v0' t (s.rappend x).1 w' := by
  obtain ⟨⟨v, v', h2, n1, n2⟩, ht⟩ := h
  exact (rappend_any w B b' v' s A n c x hnx hx hxo hA hxc hcm (fun bb off e h0 hf => by have := hlow bb off e h0; have := h2.2.1.lt hf; omega) h2.2.1).mono (fun e w' ⟨e1, e2⟩ => ⟨e1, On.second ht h2 n1 n2 e2⟩)
theorem On.cut (h : On w0 B b b' v0 v0' t s w) (n : Int) : Calls Try.prog 19 #[.pointer (some ⟨b, 0, none⟩), .int .i64 n] w fun e w' => e = .returned (.int .i64 (t.cut n).2) ∧ On w0 B b b' v0 v0' (t.cut n).1 s w' := by
  obtain ⟨⟨v, v', h2, n1, n2⟩, ht⟩ := h
  exact (cut_any w B b v t n h2.1).mono (fun e w' ⟨e1, e2⟩ => ⟨e1, On.first ht h2 n1 n2 e2⟩)
theorem On.rcut (h : On w0 B b b' v0 v0' t s w) (n : Int) : Calls Try.prog 25 #[.pointer (some ⟨b', 0, none⟩), .int .i64 n] w fun e w' => e = .returned (.int .i64 (s.rcut n).2) ∧ On w0 B b b' v0 v0' t (s.rcut n).1 w' := by
  obtain ⟨⟨v, v', h2, n1, n2⟩, ht⟩ := h
  exact (rcut_any w B b' v' s n h2.2.1).mono (fun e w' ⟨e1, e2⟩ => ⟨e1, On.second ht h2 n1 n2 e2⟩)
theorem On.arm (h : On w0 B b b' v0 v0' t s w) (n k : Int) (hn : I64 n) (hk : I64 k) : Calls Try.prog 16 #[.pointer (some ⟨b, 0, none⟩), .int .i64 n, .int .i64 k] w fun e w' => e = .returned (.tuple #[]) ∧ On w0 B b b' v0 v0' (t.arm n k) s w' := by
  obtain ⟨⟨v, v', h2, n1, n2⟩, ht⟩ := h
  exact (arm_any w B b v t n k hn hk h2.1).mono (fun e w' ⟨e1, e2⟩ => ⟨e1, On.first ht h2 n1 n2 e2⟩)
theorem On.rarm (h : On w0 B b b' v0 v0' t s w) (n k : Int) (hn : I64 n) (hk : I64 k) : Calls Try.prog 27 #[.pointer (some ⟨b', 0, none⟩), .int .i64 n, .int .i64 k] w fun e w' => e = .returned (.tuple #[]) ∧ On w0 B b b' v0 v0' t (s.rarm n k) w' := by
  obtain ⟨⟨v, v', h2, n1, n2⟩, ht⟩ := h
  exact (rarm_any w B b' v' s n k hn hk h2.2.1).mono (fun e w' ⟨e1, e2⟩ => ⟨e1, On.second ht h2 n1 n2 e2⟩)
theorem On.wake (h : On w0 B b b' v0 v0' t s w) : Calls Try.prog 20 #[.pointer (some ⟨b, 0, none⟩)] w fun e w' => e = .returned (.tuple #[]) ∧ On w0 B b b' v0 v0' t.wake s w' := by
  obtain ⟨⟨v, v', h2, n1, n2⟩, ht⟩ := h
  exact (wake_any w B b v t h2.1).mono (fun e w' ⟨e1, e2⟩ => ⟨e1, On.first ht h2 n1 n2 e2⟩)
theorem On.rwake (h : On w0 B b b' v0 v0' t s w) : Calls Try.prog 28 #[.pointer (some ⟨b', 0, none⟩)] w fun e w' => e = .returned (.tuple #[]) ∧ On w0 B b b' v0 v0' t s.rwake w' := by
  obtain ⟨⟨v, v', h2, n1, n2⟩, ht⟩ := h
  exact (rwake_any w B b' v' s h2.2.1).mono (fun e w' ⟨e1, e2⟩ => ⟨e1, On.second ht h2 n1 n2 e2⟩)
theorem On.read (h : On w0 B b b' v0 v0' t s w) : Calls Try.prog 21 #[.pointer (some ⟨b, 0, none⟩)] w fun e w' => BytesC w t.readL.1 t.readL.2 e w' ∧ On w0 B b b' v0 v0' t s w' := by
  have h' := h
  obtain ⟨⟨v, v', h2, n1, n2⟩, ht⟩ := h
  exact (read_any w B b v t h2.1).mono (fun e w' h1 => ⟨h1, h'.keep (h1.elim fun _ h => h.2.2)⟩)
theorem On.rread (h : On w0 B b b' v0 v0' t s w) : Calls Try.prog 26 #[.pointer (some ⟨b', 0, none⟩)] w fun e w' => BytesC w s.readL.1 s.readL.2 e w' ∧ On w0 B b b' v0 v0' t s w' := by
  have h' := h
  obtain ⟨⟨v, v', h2, n1, n2⟩, ht⟩ := h
  exact (rread_any w B b' v' s h2.2.1).mono (fun e w' h1 => ⟨h1, h'.keep (h1.elim fun _ h => h.2.2)⟩)
/-- What is elder and apart stays. -/
theorem On.elder {t' s' : Tp} (h : On w0 B b b' v0 v0' t s w) (h0 : Two B b b' t' s' w0 v0 v0') : Below B w0 w := by
  have hs : B ≤ w0.heap.size := by have := h0.1.low; have := h0.1.box.lt; omega
  refine h.touch.below hs (fun k hk => ?_)
  rcases hk with hk | hk
  · exact (h0.1.lt hk).1
  · exact (h0.2.1.lt hk).1
theorem On.duo (h : On w0 B b b' v0 v0' t s w) (hX : ∀ k, X k ↔ (foot b v0 k ∨ foot b' v0' k)) : DuoC w0 B b b' t s X w := by
  obtain ⟨⟨v, v', h2, n1, n2⟩, ht⟩ := h
  exact DuoC.two (w1 := w) hX h2.1 h2.2.1 h2.2.2 (ht.mono (fun k hk => (hX k).2 hk)) n1 n2
end
end Go.Proofs.Ytcpimdafpmdjnaa
