/-
  frame.Walk: what it answers, and what ranging over that brings; the walk of frame.Whole.
-/
import Derived.Test.YtmopipclheohcaaFr6
namespace Go.Proofs.Ytmopipclheohcaa
open Go Go.RowKit Go.Shelf
attribute [local go_sem] Oper.semAt_some

set_option maxRecDepth 100000 in
set_option maxHeartbeats 2000000 in
theorem walk_nil (Bs : Nat) (l : Nat) (J : List Elem → World → Prop) (W : World) (hJ : AbidesFrom W.heap.size J) (hc : W.cell? ⟨Bs, 0, none⟩ = some (.slice none 0 0)) (h0 : J [] W) :
    CallsIn Fence.wide 3 Try.prog 22 #[.func (.yield l) #[] #[], .pointer (some ⟨Bs, 0, none⟩)] W fun e W' => (∃ v, e = .returned v) ∧ J [] W' := by
  have C : Hid (Calls Try.prog 18 #[.slice none 0 0] W fun e w' => ∃ v, e = .returned (.tuple #[v, .int .i64 0, .int .i64 12]) ∧ Hid (J [] w')) := Lib.hid ((next_tiny none [] 0 W (by simp)).mono (by
    rintro e w' ⟨v, rfl, hv, hb⟩
    exact ⟨v, rfl, Lib.hid (hJ _ _ _ _ h0 (grown_of_below hb) (fun r e => by cases e))⟩))
  clear hJ h0
  refine callsIn_of_wp Try.func22 rfl trivial ?_ rfl
  simp only [Try.ntmps22, List.size_toArray, List.length_cons, List.length_nil, Nat.reduceAdd, Nat.reduceSub, Array.replicate_succ, Array.replicate_zero, List.push_toArray, List.append_toArray, List.nil_append, List.cons_append]
  gi_wp2
  gi_loopw [3] (fun i wr => i = .int .i64 0 ∧ wr = W) (fun _ _ => 0)
  case atStart => exact ⟨rfl, rfl⟩
  case round =>
    obtain ⟨rfl, rfl⟩ := hrel
    gi_wp2_with (refine ⟨trivial, ?_⟩; gi_at_call 18; (with_reducible refine (callsIn_wide.2 C.out).mono ?_); rintro e w' ⟨v, rfl, HJW⟩)
    refine ⟨fun _ h => (by cases h), ?_⟩
    gi_wp2
    refine bodyPost_ret (results_none rfl _ _ _) rfl ?_
    exact ⟨⟨_, rfl⟩, HJW.out⟩

/-- What Walk answers: a function that bears a box with a copy of the bytes. -/
def WalkC (w : World) (L : List Nat) (e : Ending) (w' : World) : Prop :=
  ∃ Bs v, e = .returned (.func (.func 22) #[] #[.pointer (some ⟨Bs, 0, none⟩)]) ∧ w.heap.size ≤ Bs ∧ Boxed w' Bs 22 v ∧ OwnB w' w.heap.size v L ∧ Below w.heap.size w w'
set_option maxRecDepth 8000 in
set_option maxHeartbeats 1000000 in
theorem walk_any (A : Option Addr) (L : List Nat) (c : Nat) (w : World) (hr : Byts w A L) (hn : L.length ≤ 1000000000) :
    Calls Try.prog 17 #[.slice A L.length c] w (WalkC w L) := by
  have C := Lib.hid (clone_any A L c w hr (by omega))
  clear hr
  go_enter Try.func17, Try.ntmps17
  go_wp2_with (go_at_call 21; refine C.out.mono ?_; rintro e w' ⟨v, rfl, HV, HB⟩; obtain ⟨A1, c1, rfl, _⟩ := OwnB.form HV)
  go_ret
  exact ⟨w'.heap.size, _, rfl, HB.size, Boxed.new _ _ _, OwnB.alloc HV _, HB.alloc HB.size _⟩
/-- What ranging over it brings. -/
theorem walk_seq (Bs lo : Nat) (v : Value) (L : List Nat) (w : World) (hBl : lo ≤ Bs) (hBx : Boxed w Bs 22 v) (hv : OwnB w lo v L) (hl : Oct L) (hn : L.length ≤ 1000000000) :
    SeqX Fence.wide 3 Try.prog 22 #[.pointer (some ⟨Bs, 0, none⟩)] encE (NextE w.heap.size (recs L)) (Kept lo w.heap.size) (fun xs => xs.map elemOf = recs L) (fun pre => pre.map elemOf <+: recs L) w := by
  intro l J Jx W hW hJ hJx hY h0
  have hc : W.cell? ⟨Bs, 0, none⟩ = some v := (hW.cell (p := ⟨Bs, 0, none⟩) hBx.lt).trans hBx.cell
  obtain ⟨A, c, rfl, hB, h1, h2, h3, h4⟩ := hv.form
  cases hA : A with
  | none =>
    subst hA
    have hL : L = [] := by
      cases L with
      | nil => rfl
      | cons x l => obtain ⟨b, off, e, _⟩ := hB (by simp); cases e
    subst hL
    rw [h3 rfl] at hc
    exact (walk_nil Bs l J W hJ hc h0).mono fun e W' ⟨he, hj⟩ => ⟨he, .inl ⟨[], rfl, hj⟩⟩
  | some a =>
    subst hA
    obtain ⟨g, rfl, hg, hgl⟩ : ∃ g, a = ⟨g, 0, none⟩ ∧ lo ≤ g ∧ g < w.heap.size := by
      rcases hv.2 with ⟨e, _⟩ | ⟨g, cap, cur, e, e2, e3, _⟩
      · injection e with e; cases e
      · injection e with e; injection e with e; exact ⟨g, e, e2, (Array.getElem?_eq_some_iff.1 e3).1⟩
    exact walk_round Bs lo w.heap.size g 0 c L l J Jx W hBl hBx.lt hg hgl (hB.below hW) hl hn h1 h2 hW.size hJ hc hY h0
end Go.Proofs.Ytmopipclheohcaa
