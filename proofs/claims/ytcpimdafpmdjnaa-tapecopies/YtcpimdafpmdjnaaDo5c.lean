/-
  The walk of novationlaw5's do, where it writes.
-/
import Derived.Test.YtcpimdafpmdjnaaDo5b
namespace Go.Proofs.Ytcpimdafpmdjnaa
open Go Go.RowKit
set_option linter.unusedVariables false

theorem drew_below (w : World) : Below w.heap.size w w.drew := ⟨rfl, rfl, rfl, Nat.le_refl _, fun _ _ => rfl⟩
set_option maxRecDepth 8000 in
set_option maxHeartbeats 4000000 in
theorem do_append (w : World) (B b b' : Nat) (t s : Tp) (v v' : Value) (a : TAct) (A : Option Addr) (c : Nat) (h : Two B b b' t s w v v') (hs : Same t s) (ok : a.Ok c A) (hB : Byts w A a.b) (hlow : ∀ bb o, A = some ⟨bb, o, none⟩ → 0 < a.b.length → bb < B) (hk : a.kind % 5 = 0) :
    Calls Try.prog 13 #[.pointer (some ⟨b, 0, none⟩), .pointer (some ⟨b', 0, none⟩), actV a A c] w (DoC w B b b' v v' (t.append a.b).1 (s.rappend a.b).1) := by
  have H0 : Hid (On (boxW w a A c) B b b' v v' t s (boxW w a A c).drew) := Lib.hid ((On.boxed h a A c).keep (drew_below _))
  have hkd := ok.kind
  have hrem : (a.kind : Int) % 5 = 0 := by omega
  have hcode := (hs.append a.b).2
  obtain ⟨code, hc0⟩ : ∃ code, code = (s.rappend a.b).2 := ⟨_, rfl⟩
  rw [← hc0] at hcode
  have CP1 : Hid (∀ s1 W, On (boxW w a A c) B b b' v v' t s1 W → Calls Try.prog 17 #[.pointer (some ⟨b, 0, none⟩), .slice A a.b.length c] W fun e w' => e = .returned (.int .i64 code) ∧ On (boxW w a A c) B b b' v v' (t.append a.b).1 s1 w') := Lib.hid (fun s1 W hW => by rw [← hcode]; exact hW.append A _ c a.b rfl (hW.bytes h hB hlow) ok.oct ok.nil ok.len ok.cap hlow)
  have CR1 : Hid (∀ t1 W, On (boxW w a A c) B b b' v v' t1 s W → Calls Try.prog 24 #[.pointer (some ⟨b', 0, none⟩), .slice A a.b.length c] W fun e w' => e = .returned (.int .i64 code) ∧ On (boxW w a A c) B b b' v v' t1 (s.rappend a.b).1 w') := Lib.hid (fun t1 W hW => by rw [hc0]; exact hW.rappend A _ c a.b rfl (hW.bytes h hB hlow) ok.oct ok.nil ok.len ok.cap hlow)
  have HX : Hid (∀ t1 s1 W, On (boxW w a A c) B b b' v v' t1 s1 W → W.cell? ⟨w.heap.size, 1, none⟩ = some (.slice A a.b.length c)) := Lib.hid (fun t1 s1 W hW => (hW.box h).2.1)
  have CP0 := Lib.hid (CP1.out s _ H0.out)
  have CR0 := Lib.hid (CR1.out t _ H0.out)
  unfold boxW at CP0 CR0
  unfold actV
  clear h ok hk hs hcode hc0 hB hlow H0
  go_enter Try.func13, Try.ntmps13
  go_wp2
  go_region_with (first
    | (go_at_call 17; (with_reducible refine CP0.out.mono ?_); rintro e w1 ⟨rfl, h1⟩; have x1 := HX.out _ _ w1 h1; have CR2 := Lib.hid (CR1.out _ w1 h1); clear h1)
    | (go_at_call 24; (with_reducible refine CR2.out.mono ?_); rintro e w2 ⟨rfl, h2⟩; have HF := Lib.hid h2; clear h2)
    | (go_at_call 24; (with_reducible refine CR0.out.mono ?_); rintro e w1 ⟨rfl, h1⟩; have x1 := HX.out _ _ w1 h1; have CP2 := Lib.hid (CP1.out _ w1 h1); clear h1)
    | (go_at_call 17; (with_reducible refine CP2.out.mono ?_); rintro e w2 ⟨rfl, h2⟩; have HF := Lib.hid h2; clear h2))
  all_goals go_wp2
  all_goals go_ret
  all_goals exact ⟨rfl, On.back (a := a) (A := A) (c := c) HF.out⟩
set_option maxRecDepth 8000 in
set_option maxHeartbeats 4000000 in
theorem do_cut (w : World) (B b b' : Nat) (t s : Tp) (v v' : Value) (a : TAct) (A : Option Addr) (c : Nat) (h : Two B b b' t s w v v') (hs : Same t s) (ok : a.Ok c A) (hk : a.kind % 5 = 1) :
    Calls Try.prog 13 #[.pointer (some ⟨b, 0, none⟩), .pointer (some ⟨b', 0, none⟩), actV a A c] w (DoC w B b b' v v' (t.cut a.n).1 (s.rcut a.n).1) := by
  have H0 : Hid (On (boxW w a A c) B b b' v v' t s (boxW w a A c).drew) := Lib.hid ((On.boxed h a A c).keep (drew_below _))
  have hkd := ok.kind
  have hrem : (a.kind : Int) % 5 = 1 := by omega
  have hcode := (hs.cut a.n).2
  obtain ⟨code, hc0⟩ : ∃ code, code = (s.rcut a.n).2 := ⟨_, rfl⟩
  rw [← hc0] at hcode
  have CP1 : Hid (∀ s1 W, On (boxW w a A c) B b b' v v' t s1 W → Calls Try.prog 19 #[.pointer (some ⟨b, 0, none⟩), .int .i64 a.n] W fun e w' => e = .returned (.int .i64 code) ∧ On (boxW w a A c) B b b' v v' (t.cut a.n).1 s1 w') := Lib.hid (fun s1 W hW => by rw [← hcode]; exact hW.cut a.n)
  have CR1 : Hid (∀ t1 W, On (boxW w a A c) B b b' v v' t1 s W → Calls Try.prog 25 #[.pointer (some ⟨b', 0, none⟩), .int .i64 a.n] W fun e w' => e = .returned (.int .i64 code) ∧ On (boxW w a A c) B b b' v v' t1 (s.rcut a.n).1 w') := Lib.hid (fun t1 W hW => by rw [hc0]; exact hW.rcut a.n)
  have HX : Hid (∀ t1 s1 W, On (boxW w a A c) B b b' v v' t1 s1 W → W.cell? ⟨w.heap.size, 2, none⟩ = some (.int .i64 a.n)) := Lib.hid (fun t1 s1 W hW => (hW.box h).2.2.1)
  have CP0 := Lib.hid (CP1.out s _ H0.out)
  have CR0 := Lib.hid (CR1.out t _ H0.out)
  unfold boxW at CP0 CR0
  unfold actV
  clear h ok hk hs hcode hc0 H0
  go_enter Try.func13, Try.ntmps13
  go_wp2
  go_region_with (first
    | (go_at_call 19; (with_reducible refine CP0.out.mono ?_); rintro e w1 ⟨rfl, h1⟩; have x1 := HX.out _ _ w1 h1; have CR2 := Lib.hid (CR1.out _ w1 h1); clear h1)
    | (go_at_call 25; (with_reducible refine CR2.out.mono ?_); rintro e w2 ⟨rfl, h2⟩; have HF := Lib.hid h2; clear h2)
    | (go_at_call 25; (with_reducible refine CR0.out.mono ?_); rintro e w1 ⟨rfl, h1⟩; have x1 := HX.out _ _ w1 h1; have CP2 := Lib.hid (CP1.out _ w1 h1); clear h1)
    | (go_at_call 19; (with_reducible refine CP2.out.mono ?_); rintro e w2 ⟨rfl, h2⟩; have HF := Lib.hid h2; clear h2))
  all_goals go_wp2
  all_goals go_ret
  all_goals exact ⟨rfl, On.back (a := a) (A := A) (c := c) HF.out⟩
theorem do_any (w : World) (B b b' : Nat) (t s : Tp) (v v' : Value) (a : TAct) (A : Option Addr) (c : Nat) (h : Two B b b' t s w v v') (hs : Same t s) (ok : a.Ok c A) (hB : Byts w A a.b) (hlow : ∀ bb o, A = some ⟨bb, o, none⟩ → 0 < a.b.length → bb < B) :
    Calls Try.prog 13 #[.pointer (some ⟨b, 0, none⟩), .pointer (some ⟨b', 0, none⟩), actV a A c] w (DoC w B b b' v v' (t.act a) (s.ract a)) := by
  unfold Tp.act Tp.ract
  by_cases h0 : a.kind % 5 = 0
  · rw [if_pos h0, if_pos h0]; exact do_append w B b b' t s v v' a A c h hs ok hB hlow h0
  rw [if_neg h0, if_neg h0]
  by_cases h1 : a.kind % 5 = 1
  · rw [if_pos h1, if_pos h1]; exact do_cut w B b b' t s v v' a A c h hs ok h1
  rw [if_neg h1, if_neg h1]
  by_cases h2 : a.kind % 5 = 2
  · rw [if_pos h2, if_pos h2]; exact do_read w B b b' t s v v' a A c h hs ok h2
  rw [if_neg h2, if_neg h2]
  by_cases h3 : a.kind % 5 = 3
  · rw [if_pos h3, if_pos h3]; exact do_arm w B b b' t s v v' a A c h ok h3
  rw [if_neg h3, if_neg h3]
  exact do_wake w B b b' t s v v' a A c h ok (by omega)
end Go.Proofs.Ytcpimdafpmdjnaa
