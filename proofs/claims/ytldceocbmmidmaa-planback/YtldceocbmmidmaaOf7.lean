/-
  The walk of novationseat's Of; numbers as an argument; drawn configs are right.
-/
import Derived.Test.YtldceocbmmidmaaDk5
import Derived.Test.YtldceocbmmidmaaPq7
namespace Go.Proofs.Ytldceocbmmidmaa
open Go Go.RowKit
set_option linter.unusedVariables false

set_option maxRecDepth 8000 in
set_option maxHeartbeats 1000000 in
theorem deck_of (W0 W : World) (A : Option Addr) (l : List Int) (c n : Nat) (hk : n = l.length) (hn : Nums W0 A l) (hb : Below W0.heap.size W0 W) : Calls Try.prog 18 #[.slice A n c] W fun r W' => r = .returned (.pointer (some ⟨W.heap.size, 0, none⟩)) ∧ Deck W0 A l c W.heap.size 0 W' := by
  have F : Hid (Deck W0 A l c W.heap.size 0 (W.alloc (.cells [.slice A n c, .int .i64 ((0 : Nat) : Int)].toArray 55))) := Lib.hid ⟨hn, hb.size, ⟨0, Nat.le_refl _, by rw [hk]; exact Rec.new W _ _ _ rfl⟩, hb.alloc hb.size _⟩
  clear hn hb hk
  go_enter Try.func18, Try.ntmps18
  go_wp2
  go_ret
  exact ⟨rfl, F.out⟩
theorem wf_u64 {n : Int} (h : (Lit.int .u64 n).wf = true) : 0 ≤ n ∧ n < 18446744073709551616 := by simp [Lit.wf, IntKind.min, IntKind.max, IntKind.bits, IntKind.signed] at h; omega
theorem row_nums {w : World} {a : Option Addr} {len cap : Nat} {zs : List Int}
    (h : (a = none ∧ len = 0 ∧ cap = 0 ∧ zs = []) ∨
      ∃ x, a = some x ∧ len ≤ cap ∧ cap ≤ maxLen ∧ zs.length = cap ∧ (∀ i, i < zs.length → w.cell? (x.add i) = some (.int .u64 (zs.getD i 0))) ∧ ∀ n ∈ zs, (Lit.int .u64 n).wf = true) :
    ∃ l : List Int, l.length = len ∧ Nums w a l := by
  obtain ⟨l, hl, hI, hn, hw⟩ := row_ints h
  refine ⟨l, hl, hI, fun i hi => ?_, by omega⟩
  exact wf_u64 (hw (l.getD i 0) (by rw [List.getD_eq_getElem?_getD, List.getElem?_eq_getElem hi]; simp))
theorem ok_ins {x : Ins} (h : x.Ok) : insOk x = true := by
  obtain ⟨h1, h2, h3, h4⟩ := h
  simp only [insOk, wIn, Bool.and_eq_true, decide_eq_true_eq]
  omega
theorem ok_plan {c : Cfg} (h : c.Ok) : planOk c = true := by
  have h1 := h.cnt; have h2 := h.skin; have h3 := h.times; have h4 := h.port; have h5 := h.bid; have h6 := h.lot; have h7 := h.hedge
  rw [plan_all ⟨h1.1, by omega⟩ (fun i hi => ok_ins (h.each _ (by rw [List.getD_eq_getElem?_getD, List.getElem?_eq_getElem hi]; exact List.getElem_mem hi)))]
  simp only [restOk, wIn, Bool.and_eq_true, decide_eq_true_eq]
  omega
theorem ok_cfgI {c : Cfg} (h : c.Ok) : CfgI c := by
  have h2 := h.skin; have h3 := h.times; have h4 := h.port; have h5 := h.bid; have h6 := h.lot; have h7 := h.hedge
  refine ⟨fun x hx => ?_, ?_, ?_, ?_, ?_, ?_, ?_⟩
  · obtain ⟨k1, k2, k3, k4⟩ := h.each x hx
    unfold I64
    omega
  all_goals (unfold I64; omega)
theorem Nums.below {W W' : World} {A : Option Addr} {l : List Int} (h : Nums W A l) (hb : Below W.heap.size W W') : Nums W' A l := ⟨h.1.below hb, h.2, h.3⟩
theorem deck_of7 {W : World} {A : Option Addr} {l : List Int} {c n : Nat} (hk : n = l.length) (hn : Nums W A l) : Calls Try.prog 18 #[.slice A n c] W fun r W' => r = .returned (.pointer (some ⟨W.heap.size, 0, none⟩)) ∧ Deck W A l c W.heap.size 0 W' := deck_of W W A l c n hk hn (Below.refl _ _)
theorem deck_cfg7 {W W1 : World} {A : Option Addr} {l : List Int} {c b : Nat} (h : Deck W A l c b 0 W1) :
    Calls Try.prog 19 #[.pointer (some ⟨b, 0, none⟩)] W1 fun r w' => ∃ (cf : Cfg) (A' : Option Addr) (m' c' : Nat), r = .returned (cf.v (.slice A' m' c')) ∧ cf.Ok ∧ m' = cf.insts.length ∧ OwnI w' W.heap.size (.slice A' m' c') cf.insts ∧ Below W.heap.size W w' := by
  refine (deck_config W W1 A l c b 0 h (by omega)).mono ?_
  rintro r w' ⟨cf, v, rfl, hok, ho, hd, ht⟩
  obtain ⟨A', c', rfl, _⟩ := OwnL.form ho lay_ins
  exact ⟨cf, A', _, c', rfl, hok, rfl, OwnL.lower ho h.below.size, hd.below⟩
end Go.Proofs.Ytldceocbmmidmaa
