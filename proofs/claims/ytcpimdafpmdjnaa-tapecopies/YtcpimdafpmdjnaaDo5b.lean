/-
  The walk of novationlaw5's do.
-/
import Derived.Test.YtcpimdafpmdjnaaDo5
import Derived.Test.YtcpimdafpmdjnaaStr5
namespace Go.Proofs.Ytcpimdafpmdjnaa
open Go Go.RowKit
set_option linter.unusedVariables false

/-- An act by value. -/
def actV (a : TAct) (A : Option Addr) (c : Nat) : Value := .agg #[.int .u8 (a.kind : Int), .slice A a.b.length c, .int .i64 a.n, .int .i64 a.keep]
/-- The box that do lays it into. -/
def boxW (w : World) (a : TAct) (A : Option Addr) (c : Nat) : World := w.alloc (.cells #[.int .u8 (a.kind : Int), .slice A a.b.length c, .int .i64 a.n, .int .i64 a.keep] 33)
section
variable {w W : World} {B b b' : Nat} {t s t1 s1 : Tp} {X : Nat → Prop} {v v' : Value} {a : TAct} {A : Option Addr} {c : Nat}
theorem box_below (w : World) (a : TAct) (A : Option Addr) (c : Nat) : Below w.heap.size w (boxW w a A c) := (Below.refl _ _).alloc (Nat.le_refl _) _
theorem On.boxed (h : Two B b b' t s w v v') (a : TAct) (A : Option Addr) (c : Nat) : On (boxW w a A c) B b b' v v' t s (boxW w a A c) := On.start ⟨h.1.keep (box_below w a A c), h.2.1.keep (box_below w a A c), h.2.2⟩
theorem On.back (h : On (boxW w a A c) B b b' v v' t s W) : On w B b b' v v' t s W := by
  have hb := box_below w a A c
  obtain ⟨⟨v1, v1', h2, n1, n2⟩, ht⟩ := h
  refine ⟨⟨v1, v1', h2, fun k hk => ?_, fun k hk => ?_⟩, (Touch.of_below _ hb).trans ht (fun _ _ h => h)⟩
  · exact (n1 k hk).imp id (fun h => Nat.le_trans hb.size h)
  · exact (n2 k hk).imp id (fun h => Nat.le_trans hb.size h)
theorem On.box (h0 : Two B b b' t s w v v') (h : On (boxW w a A c) B b b' v v' t1 s1 W) :
    W.cell? ⟨w.heap.size, 0, none⟩ = some (.int .u8 (a.kind : Int)) ∧ W.cell? ⟨w.heap.size, 1, none⟩ = some (.slice A a.b.length c) ∧ W.cell? ⟨w.heap.size, 2, none⟩ = some (.int .i64 a.n) ∧ W.cell? ⟨w.heap.size, 3, none⟩ = some (.int .i64 a.keep) := by
  have hs : w.heap.size < (boxW w a A c).heap.size := by unfold boxW; simp
  have e := h.touch.block w.heap.size hs (fun hf => by
    rcases hf with hf | hf
    · have := h0.1.lt hf; omega
    · have := h0.2.1.lt hf; omega)
  refine ⟨?_, ?_, ?_, ?_⟩ <;> (rw [World.cell?_of_block (a := ⟨w.heap.size, _, none⟩) e]; unfold boxW; rw [World.cell?_alloc_new]; rfl)
theorem On.bytes (h0 : Two B b b' t s w v v') (hB : Byts w A a.b) (hlow : ∀ bb o, A = some ⟨bb, o, none⟩ → 0 < a.b.length → bb < B) (h : On (boxW w a A c) B b b' v v' t1 s1 W) : Byts W A a.b :=
  hB.touch h.back.touch (fun bb o e h1 hf => by
    have := hlow bb o e h1
    rcases hf with hf | hf
    · have := h0.1.lt hf; omega
    · have := h0.2.1.lt hf; omega)
end
/-- What do answers. -/
def DoC (w : World) (B b b' : Nat) (v v' : Value) (t s : Tp) (e : Ending) (w' : World) : Prop := e = .returned (.bool true) ∧ On w B b b' v v' t s w'
set_option maxRecDepth 8000 in
set_option maxHeartbeats 2000000 in
theorem do_wake (w : World) (B b b' : Nat) (t s : Tp) (v v' : Value) (a : TAct) (A : Option Addr) (c : Nat) (h : Two B b b' t s w v v') (ok : a.Ok c A) (hk : a.kind % 5 = 4) :
    Calls Try.prog 13 #[.pointer (some ⟨b, 0, none⟩), .pointer (some ⟨b', 0, none⟩), actV a A c] w (DoC w B b b' v v' t.wake s.rwake) := by
  have H0 := Lib.hid (On.boxed h a A c)
  have hkd := ok.kind
  have hrem : (a.kind : Int) % 5 = 4 := by omega
  have CW := Lib.hid (H0.out.wake)
  unfold boxW at CW
  unfold actV
  clear h ok hk
  go_enter Try.func13, Try.ntmps13
  go_wp2_with (first
    | (go_at_call 20; (with_reducible refine CW.out.mono ?_); rintro e w1 ⟨rfl, h1⟩; have CR := Lib.hid h1.rwake; clear h1)
    | (go_at_call 28; (with_reducible refine CR.out.mono ?_); rintro e w2 ⟨rfl, h2⟩))
  go_ret
  exact ⟨rfl, On.back (a := a) (A := A) (c := c) h2⟩
set_option maxRecDepth 8000 in
set_option maxHeartbeats 2000000 in
theorem do_arm (w : World) (B b b' : Nat) (t s : Tp) (v v' : Value) (a : TAct) (A : Option Addr) (c : Nat) (h : Two B b b' t s w v v') (ok : a.Ok c A) (hk : a.kind % 5 = 3) :
    Calls Try.prog 13 #[.pointer (some ⟨b, 0, none⟩), .pointer (some ⟨b', 0, none⟩), actV a A c] w (DoC w B b b' v v' (t.arm a.n a.keep) (s.rarm a.n a.keep)) := by
  have H0 := Lib.hid (On.boxed h a A c)
  have hkd := ok.kind
  have hrem : (a.kind : Int) % 5 = 3 := by omega
  have CW := Lib.hid (H0.out.arm a.n a.keep ok.n ok.keep)
  have HC : Hid (∀ W, On (boxW w a A c) B b b' v v' (t.arm a.n a.keep) s W → (W.cell? ⟨w.heap.size, 2, none⟩ = some (.int .i64 a.n) ∧ W.cell? ⟨w.heap.size, 3, none⟩ = some (.int .i64 a.keep)) ∧ Calls Try.prog 27 #[.pointer (some ⟨b', 0, none⟩), .int .i64 a.n, .int .i64 a.keep] W fun e w' => e = .returned (.tuple #[]) ∧ On (boxW w a A c) B b b' v v' (t.arm a.n a.keep) (s.rarm a.n a.keep) w') := Lib.hid (fun W hW => ⟨⟨(hW.box h).2.2.1, (hW.box h).2.2.2⟩, hW.rarm a.n a.keep ok.n ok.keep⟩)
  have oN := ok.n
  have oK := ok.keep
  unfold I64 at oN oK
  unfold boxW at CW HC
  unfold actV
  clear h ok hk
  go_enter Try.func13, Try.ntmps13
  go_wp2_with (first
    | (go_at_call 16; (with_reducible refine CW.out.mono ?_); rintro e w1 ⟨rfl, h1⟩; obtain ⟨⟨x2, x3⟩, cr⟩ := HC.out w1 h1; have CR := Lib.hid cr; clear cr h1)
    | (go_at_call 27; (with_reducible refine CR.out.mono ?_); rintro e w2 ⟨rfl, h2⟩))
  go_ret
  exact ⟨rfl, On.back (a := a) (A := A) (c := c) h2⟩
set_option maxRecDepth 8000 in
set_option maxHeartbeats 2000000 in
theorem do_read (w : World) (B b b' : Nat) (t s : Tp) (v v' : Value) (a : TAct) (A : Option Addr) (c : Nat) (h : Two B b b' t s w v v') (hs : Same t s) (ok : a.Ok c A) (hk : a.kind % 5 = 2) :
    Calls Try.prog 13 #[.pointer (some ⟨b, 0, none⟩), .pointer (some ⟨b', 0, none⟩), actV a A c] w (DoC w B b b' v v' t s) := by
  have H0 := Lib.hid (On.boxed h a A c)
  have hkd := ok.kind
  have hrem : (a.kind : Int) % 5 = 2 := by omega
  have CW := Lib.hid (H0.out.read)
  have HRL := Lib.hid hs.readL
  rw [HRL.out] at CW
  obtain ⟨L, hL⟩ : ∃ L, L = s.readL.1 := ⟨_, rfl⟩
  obtain ⟨code, hcode⟩ : ∃ code, code = s.readL.2 := ⟨_, rfl⟩
  rw [← hL, ← hcode] at CW
  have HC : Hid (∀ W, On (boxW w a A c) B b b' v v' t s W → Calls Try.prog 26 #[.pointer (some ⟨b', 0, none⟩)] W fun e w' => BytesC W L code e w' ∧ On (boxW w a A c) B b b' v v' t s w') := Lib.hid (fun W hW => by rw [hL, hcode]; exact hW.rread)
  unfold boxW at CW HC
  unfold actV
  clear h ok hk hL hcode hs HRL
  go_enter Try.func13, Try.ntmps13
  go_wp2_with (first
    | (go_at_call 21; (with_reducible refine CW.out.mono ?_); rintro e w1 ⟨⟨v1, rfl, ho1, hb1⟩, h1⟩; obtain ⟨A1, c1, rfl, hy1, _⟩ := OwnB.form ho1; have HY1 := Lib.hid hy1; have CR := Lib.hid (HC.out w1 h1); clear h1 ho1 hb1 hy1)
    | (go_at_call 26; (with_reducible refine CR.out.mono ?_); rintro e w2 ⟨⟨v2, rfl, ho2, hb2⟩, h2⟩; obtain ⟨A2, c2, rfl, hy2, _⟩ := OwnB.form ho2; have hs1 := run_bstr w2 A1 L L.length c1 rfl (HY1.out.below hb2); have hs2 := run_bstr w2 A2 L L.length c2 rfl hy2; have H2 := Lib.hid h2; clear h2 ho2 hb2 hy2))
  go_ret
  exact ⟨rfl, On.back (a := a) (A := A) (c := c) H2.out⟩
end Go.Proofs.Ytcpimdafpmdjnaa
