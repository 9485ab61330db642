/-
  The walks of novationlaw6.reads and novationlaw6.EventReads.
-/
import Derived.Test.YtincelegepafcaaKnown6
namespace Go.Proofs.Ytincelegepafcaa
open Go Go.RowKit
set_option linter.unusedVariables false

set_option maxRecDepth 8000 in
set_option maxHeartbeats 4000000 in
theorem reads_any (A : Option Addr) (b : List Nat) (c : Nat) (w : World) (hB : Byts w A b) (hO : Oct b) (hl : b.length ≤ 1000000000000) (hcl : b.length ≤ c) :
    Calls Try.prog 19 #[.slice A b.length c] w fun e w' => e = .returned (.bool true) ∧ Below w.heap.size w w' := by
  have C1 := Lib.hid (fun W (h : Below w.heap.size w W) => pread_any A b c W (hB.below h) hO hl hcl)
  have C2 := Lib.hid (fun W (h : Below w.heap.size w W) => readev_any A b c W (hB.below h) hO hl)
  unfold EvC at C1 C2
  obtain ⟨x, hx⟩ : ∃ x, x = (readOut b).1 := ⟨_, rfl⟩
  obtain ⟨k, hk⟩ : ∃ k, k = (readOut b).2 := ⟨_, rfl⟩
  rw [← hx, ← hk] at C1 C2
  have heq : ∀ W : World, (binOp .eql 23 x.v x.v).run Try.prog W = .ok (.bool true) W := fun W => by rw [run_ev_eq x x W]; simp
  unfold Ev.v at heq C1 C2
  generalize b.length = n at *
  clear hB hO hl hcl hx hk
  go_enter Try.func19, Try.ntmps19
  go_wp2_with (first
    | (go_at_call 20; (with_reducible refine (C1.out _ (Below.refl _ _)).mono ?_); rintro r w1 ⟨rfl, hb1⟩; have H1 : Hid (EvAt (w1.alloc (.cells #[.int .i64 x.kind, .int .i64 x.member, .int .i64 x.acc, .int .i64 x.inst, .int .i64 x.side, .int .i64 x.id, .int .i64 x.q, .int .i64 x.p] 23)) w1.heap.size x) := (Lib.hid (Rec.new w1 _ x.cells _ rfl)); have HB1 : Hid (Below w.heap.size w (w1.alloc (.cells #[.int .i64 x.kind, .int .i64 x.member, .int .i64 x.acc, .int .i64 x.inst, .int .i64 x.side, .int .i64 x.id, .int .i64 x.q, .int .i64 x.p] 23))) := (Lib.hid (hb1.alloc hb1.size _)); clear hb1)
    | (go_at_call 36; (with_reducible refine (C2.out _ HB1.out).mono ?_); rintro r w2 ⟨rfl, hb2⟩; have H2 : Hid (EvAt (w2.alloc (.cells #[.int .i64 x.kind, .int .i64 x.member, .int .i64 x.acc, .int .i64 x.inst, .int .i64 x.side, .int .i64 x.id, .int .i64 x.q, .int .i64 x.p] 23)) w1.heap.size x ∧ EvAt (w2.alloc (.cells #[.int .i64 x.kind, .int .i64 x.member, .int .i64 x.acc, .int .i64 x.inst, .int .i64 x.side, .int .i64 x.id, .int .i64 x.q, .int .i64 x.p] 23)) w2.heap.size x) := (Lib.hid ⟨(H1.out.keep hb2).keep ((Below.refl _ _).alloc (Nat.le_refl _) _), Rec.new w2 _ x.cells _ rfl⟩); have HB2 : Hid (Below w.heap.size w (w2.alloc (.cells #[.int .i64 x.kind, .int .i64 x.member, .int .i64 x.acc, .int .i64 x.inst, .int .i64 x.side, .int .i64 x.id, .int .i64 x.q, .int .i64 x.p] 23))) := (Lib.hid (HB1.out.trans ((hb2.alloc hb2.size _).mono HB1.out.size))); clear hb2; obtain ⟨a0, a1, a2, a3, a4, a5, a6, a7⟩ := H2.out.1.reads; obtain ⟨b0, b1, b2, b3, b4, b5, b6, b7⟩ := H2.out.2.reads))
  go_ret
  exact ⟨rfl, HB2.out⟩
set_option maxRecDepth 8000 in
set_option maxHeartbeats 1000000 in
theorem ereads_walk (A : Option Addr) (b : List Nat) (c : Nat) (w : World) (hB : Byts w A b) (hO : Oct b) (hn : b.length ≤ 9223372036854775807) (hcl : b.length ≤ c) :
    Calls Try.prog 5 #[.slice A b.length c] w fun e w' => e = .returned (.bool true) ∧ Below w.heap.size w w' := by
  have C := Lib.hid (known_any w)
  by_cases h : 200 < b.length
  · generalize b.length = n at *
    clear hB hO hcl
    go_enter Try.func5, Try.ntmps5
    go_wp2_with (go_at_call 9; refine C.out.mono ?_; rintro e w1 ⟨rfl, HB⟩)
    go_ret
    exact ⟨rfl, HB⟩
  · have C2 := Lib.hid (fun W (h' : Below w.heap.size w W) => reads_any A b c W (hB.below h') hO (by omega) hcl)
    generalize b.length = n at *
    clear hB hO hcl
    go_enter Try.func5, Try.ntmps5
    go_wp2_with (first
      | (go_at_call 9; refine C.out.mono ?_; rintro e w1 ⟨rfl, hb⟩; have HB := Lib.hid hb; clear hb)
      | (go_at_call 19; (with_reducible refine (C2.out _ HB.out).mono ?_); rintro e w2 ⟨rfl, hb2⟩; have HB2 := Lib.hid (HB.out.trans (hb2.mono HB.out.size)); clear hb2))
    go_ret
    exact ⟨rfl, HB2.out⟩
end Go.Proofs.Ytincelegepafcaa
