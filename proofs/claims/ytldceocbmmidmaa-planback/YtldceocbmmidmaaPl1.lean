/-
  Configs of any numbers, in memory; the walks of the reference's within, RightPlan.
-/
import Derived.Test.YtldceocbmmidmaaDk2
import Derived.Test.YtldceocbmmidmaaRegD
namespace Go.Proofs.Ytldceocbmmidmaa
open Go Go.RowKit
set_option linter.unusedVariables false

def Ins.zero : Ins := ⟨0, 0, 0, 0⟩
/-- Instruments, one behind the other (nothing is asked of no instruments' address). -/
def InsM (W : World) (A : Option Addr) (l : List Ins) : Prop :=
  0 < l.length → ∃ b off, A = some ⟨b, off, none⟩ ∧ ∀ i, i < l.length → W.cell? ⟨b, off + i * 4, none⟩ = some (.int .i64 (l.getD i Ins.zero).bucket) ∧ W.cell? ⟨b, off + i * 4 + 1, none⟩ = some (.int .i64 (l.getD i Ins.zero).price) ∧ W.cell? ⟨b, off + i * 4 + 2, none⟩ = some (.int .i64 (l.getD i Ins.zero).rate) ∧ W.cell? ⟨b, off + i * 4 + 3, none⟩ = some (.int .i64 (l.getD i Ins.zero).slip)
theorem InsM.below {W W' : World} {A : Option Addr} {l : List Ins} (h : InsM W A l) (hb : Below W.heap.size W W') : InsM W' A l := by
  intro h0
  obtain ⟨b, off, e, hc⟩ := h h0
  refine ⟨b, off, e, fun i hi => ?_⟩
  obtain ⟨c0, c1, c2, c3⟩ := hc i hi
  exact ⟨(hb.cell (p := ⟨b, off + i * 4, none⟩) (block_lt c0)).trans c0, (hb.cell (p := ⟨b, off + i * 4 + 1, none⟩) (block_lt c1)).trans c1, (hb.cell (p := ⟨b, off + i * 4 + 2, none⟩) (block_lt c2)).trans c2, (hb.cell (p := ⟨b, off + i * 4 + 3, none⟩) (block_lt c3)).trans c3⟩
/-- Within bounds. -/
def wIn (n lo hi : Int) : Bool := decide (lo ≤ n) && decide (n ≤ hi)
set_option maxRecDepth 8000 in
set_option maxHeartbeats 1000000 in
theorem within_any (n lo hi : Int) (w : World) : Calls Try.prog 26 #[.int .i64 n, .int .i64 lo, .int .i64 hi] w fun e w' => e = .returned (.bool (wIn n lo hi)) ∧ w = w' := by
  unfold wIn
  by_cases h : lo ≤ n
  · by_cases h2 : n ≤ hi
    · rw [decide_eq_true h, decide_eq_true h2]
      go_enter Try.func26, Try.ntmps26
      go_wp2
      go_ret
      exact ⟨rfl, rfl⟩
    · rw [decide_eq_true h, decide_eq_false h2]
      go_enter Try.func26, Try.ntmps26
      go_wp2
      go_ret
      exact ⟨rfl, rfl⟩
  · rw [decide_eq_false h]
    go_enter Try.func26, Try.ntmps26
    go_wp2
    go_ret
    exact ⟨rfl, rfl⟩
def insOk (x : Ins) : Bool := wIn x.bucket 0 3 && (wIn x.price 1 1000000000000 && (wIn x.rate 0 1000000000 && wIn x.slip 0 1000000000))
def restOk (c : Cfg) : Bool := decide (0 ≤ c.skin) && (wIn c.times 0 4 && (wIn c.port 0 1000000 && (wIn c.bid 0 1000000 && (wIn c.lot 1 4611686018427387904 && decide (0 ≤ c.hedge)))))
/-- Is a config right? -/
def planOk (c : Cfg) : Bool := (decide (1 ≤ c.insts.length) && decide (c.insts.length ≤ 6)) && (c.insts.all insOk && restOk c)
theorem plan_len {c : Cfg} (h : ¬ (1 ≤ c.insts.length ∧ c.insts.length ≤ 6)) : planOk c = false := by
  unfold planOk
  by_cases h1 : 1 ≤ c.insts.length
  · rw [decide_eq_true h1, decide_eq_false (fun h2 => h ⟨h1, h2⟩)]; rfl
  · rw [decide_eq_false h1]; rfl
theorem plan_ins {c : Cfg} {i : Nat} (hi : i < c.insts.length) (h : insOk (c.insts.getD i Ins.zero) = false) : planOk c = false := by
  unfold planOk
  have : c.insts.all insOk = false := by
    rw [List.all_eq_false]
    exact ⟨c.insts[i], List.getElem_mem hi, by rw [List.getD_eq_getElem?_getD, List.getElem?_eq_getElem hi] at h; simp at h; simp [h]⟩
  rw [this]
  simp
theorem plan_all {c : Cfg} (h : 1 ≤ c.insts.length ∧ c.insts.length ≤ 6) (hi : ∀ i, i < c.insts.length → insOk (c.insts.getD i Ins.zero) = true) : planOk c = restOk c := by
  unfold planOk
  have : c.insts.all insOk = true := by
    rw [List.all_eq_true]
    intro x hx
    obtain ⟨i, hi', rfl⟩ := List.getElem_of_mem hx
    have := hi i hi'
    rw [List.getD_eq_getElem?_getD, List.getElem?_eq_getElem hi'] at this
    exact this
  rw [this, decide_eq_true h.1, decide_eq_true h.2]
  rfl
end Go.Proofs.Ytldceocbmmidmaa
