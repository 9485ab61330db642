/-
  The walk of novationlaw5's alike.
-/
import Derived.Test.YtcpimdafpmdjnaaDo5b
namespace Go.Proofs.Ytcpimdafpmdjnaa
open Go Go.RowKit
set_option linter.unusedVariables false

theorem drewN_below (w : World) (n : Nat) : Below w.heap.size w (w.drewN n) := ⟨rfl, rfl, rfl, Nat.le_refl _, fun _ _ => rfl⟩
theorem wake_read (t : Tp) : t.wake.readL = (t.all, 0) := by unfold Tp.readL Tp.wake; rfl
set_option maxRecDepth 8000 in
set_option maxHeartbeats 4000000 in
theorem alike_any (w : World) (B b b' : Nat) (t s : Tp) (v v' : Value) (h1 : TapeAt false w B b v t) (h2 : TapeAt true w B b' v' s) (hs : Same t s) :
    Calls Try.prog 12 #[.pointer (some ⟨b, 0, none⟩), .pointer (some ⟨b', 0, none⟩)] w fun e w' => e = .returned (.bool true) ∧ Below w.heap.size w w' := by
  have C1 := Lib.hid (copy_any w B b v t h1)
  obtain ⟨A', c', rfl, hB', _⟩ := h2.own.form
  have HB' := Lib.hid hB'
  obtain ⟨n, hn⟩ : ∃ n, n = s.all.length := ⟨_, rfl⟩
  obtain ⟨R, hR⟩ : ∃ R, R = s.room := ⟨_, rfl⟩
  obtain ⟨d, hd⟩ : ∃ d, d = s.down := ⟨_, rfl⟩
  have HF : Hid (∀ W, Below w.heap.size w W → W.cell? ⟨b', 0, none⟩ = some (.slice A' n c') ∧ W.cell? ⟨b', 1, none⟩ = some (.int .i64 (R : Int)) ∧ W.cell? ⟨b', 5, none⟩ = some (.bool d)) := Lib.hid (fun W hW => by
    obtain ⟨q0, q1, _, _, _, q5, _⟩ := (h2.keep hW).rreads
    rw [hn, hR, hd]
    exact ⟨q0, q1, q5⟩)
  have hlen : t.all.length = n := by rw [hn, hs.all]
  have hroom : t.room = R := by rw [hR, hs.room]
  have hdown : t.down = d := by rw [hd, hs.down]
  have CL : Hid (∀ W, Below w.heap.size w W → Calls Try.prog 22 #[.pointer (some ⟨b, 0, none⟩)] W fun e w' => e = .returned (.int .i64 (n : Int)) ∧ W = w') := Lib.hid (fun W hW => by rw [← hlen]; exact len_any W B b v t (h1.keep hW))
  have CM : Hid (∀ W, Below w.heap.size w W → Calls Try.prog 23 #[.pointer (some ⟨b, 0, none⟩)] W fun e w' => e = .returned (.int .i64 (R : Int)) ∧ W = w') := Lib.hid (fun W hW => by rw [← hroom]; exact room_any W B b v t (h1.keep hW))
  have CD : Hid (∀ W, Below w.heap.size w W → Calls Try.prog 18 #[.pointer (some ⟨b, 0, none⟩)] W fun e w' => e = .returned (.bool d) ∧ W = w') := Lib.hid (fun W hW => by rw [← hdown]; exact down_any W B b v t (h1.keep hW))
  have HDN := Lib.hid hdown
  have hk := h2.ok.len
  have hk2 := h2.ok.room
  have hkn : n ≤ 1048576 := by omega
  have HAll := Lib.hid hs.all
  have HN := Lib.hid hn
  clear h1 h2 hs hlen hroom hdown hn hR hd hB' hk hk2
  go_enter Try.func12, Try.ntmps12
  go_wp2_with (go_at_call 14; (with_reducible refine C1.out.mono ?_); rintro e w1 ⟨bc, vc, rfl, hc, hb1⟩; have HC := Lib.hid hc; have HB1 := Lib.hid hb1; obtain ⟨f0, f1, f5⟩ := HF.out w1 hb1; clear hc hb1)
  have DR : ∀ j, Below w.heap.size w (w1.drewN j) := fun j => HB1.out.trans ((drewN_below w1 j).mono HB1.out.size)
  have CL1 := Lib.hid (fun j => (CL.out (w1.drewN j) (DR j)).mono (fun e w' (x : _ ∧ _) => (⟨x.1, j, x.2.symm⟩ : _ ∧ ∃ m, w' = w1.drewN m)))
  have CM1 := Lib.hid (fun j => (CM.out (w1.drewN j) (DR j)).mono (fun e w' (x : _ ∧ _) => (⟨x.1, j, x.2.symm⟩ : _ ∧ ∃ m, w' = w1.drewN m)))
  have CD1 := Lib.hid (fun j => (CD.out (w1.drewN j) (DR j)).mono (fun e w' (x : _ ∧ _) => (⟨x.1, j, x.2.symm⟩ : _ ∧ ∃ m, w' = w1.drewN m)))
  have CD2 : Hid (∀ j, Calls Try.prog 18 #[.pointer (some ⟨bc, 0, none⟩)] (w1.drewN j) fun e w' => e = .returned (.bool d) ∧ ∃ m, w' = w1.drewN m) := Lib.hid (fun j => by rw [← HDN.out]; exact (down_any _ _ bc vc t (HC.out.drewN j)).mono (fun e w' x => ⟨x.1, j, x.2.symm⟩))
  clear DR
  go_quiet (first
    | (go_at_call 22; with_reducible exact CL1.out _)
    | (go_at_call 23; with_reducible exact CM1.out _)
    | (go_at_call 18; first | (with_reducible exact CD1.out _) | (with_reducible exact CD2.out _)))
  have CW : Hid (Calls Try.prog 20 #[.pointer (some ⟨bc, 0, none⟩)] (w1.drewN nq) fun e w' => e = .returned (.tuple #[]) ∧ Went false (w1.drewN nq) w.heap.size bc vc t.wake w') := Lib.hid (wake_any _ _ bc vc t (HC.out.drewN nq))
  have HDR := Lib.hid (HB1.out.trans ((drewN_below w1 nq).mono HB1.out.size))
  have HCF := Lib.hid (HC.out.drewN nq)
  clear CL1 CM1 CD1 CD2 CL CM CD C1 f0 f1 f5
  go_wp2_with (first
    | (go_at_call 20; (with_reducible refine CW.out.mono ?_); rintro e w2 ⟨rfl, v2, h2, ht2, hn2⟩; have CR := Lib.hid (read_any w2 _ bc v2 _ h2); rw [wake_read, HAll.out] at CR; have HB2 := Lib.hid (HDR.out.trans (ht2.below (Nat.le_trans HB1.out.size (by exact Nat.le_refl _)) (fun k hk => (HCF.out.lt hk).1))); clear h2 ht2 hn2)
    | (go_at_call 21; (with_reducible refine CR.out.mono ?_); rintro e w3 ⟨v3, rfl, ho3, hb3⟩; obtain ⟨A3, c3, rfl, hy3, _⟩ := OwnB.form ho3; have HB3 := Lib.hid (HB2.out.trans (hb3.mono HB2.out.size)); have HY3 := Lib.hid hy3; clear ho3 hb3 hy3))
  obtain ⟨f0, _, _⟩ := HF.out w3 HB3.out
  have hs1 : ∀ j, (convert 31 9 (.slice A3 s.all.length c3)).run Try.prog (w3.drewN j) = .ok (.string (bstr s.all)) (w3.drewN j) := fun j => run_bstr _ A3 s.all _ c3 rfl (HY3.out.drewN j)
  have hs2 : ∀ j, (convert 31 9 (.slice A' n c')).run Try.prog (w3.drewN j) = .ok (.string (bstr s.all)) (w3.drewN j) := fun j => run_bstr _ A' s.all _ c' HN.out ((HB'.out.below HB3.out).drewN j)
  go_quiet (fail)
  go_wp2
  go_ret
  exact ⟨rfl, HB3.out.trans ((drewN_below w3 _).mono HB3.out.size)⟩
end Go.Proofs.Ytcpimdafpmdjnaa
