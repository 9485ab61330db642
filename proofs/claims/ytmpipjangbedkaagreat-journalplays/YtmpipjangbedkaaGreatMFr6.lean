import Derived.Test.YtmpipjangbedkaaGreatMFr4
import Derived.Test.YtmpipjangbedkaaGreatMDkO
/-
  The records that stand one behind the other, as a list; the walk of frame.Walk and of the function that it answers.
-/
namespace Go.Proofs.YtmpipjangbedkaaGreat
set_option maxRecDepth 8000
open Go Go.RowKit Go.Shelf
attribute [local go_sem] Oper.semAt_some

/-- The records from place p on: their places and their bytes. -/
def recF : Nat → Nat → List Nat → List (Nat × List Nat)
  | 0, _, _ => []
  | f + 1, p, l => if (nextL l).2.2 = 0 then (p, (nextL l).1) :: recF f (p + (nextL l).2.1) (l.drop (nextL l).2.1) else []
def recs (l : List Nat) : List (Nat × List Nat) := recF (l.length + 1) 0 l
/-- What Next tells of a record: its length is that of its bytes, and it fits. -/
theorem next_fact (l : List Nat) (h : (nextL l).2.2 = 0) : (nextL l).2.1 = (nextL l).1.length + 6 ∧ (nextL l).2.1 ≤ l.length ∧ (nextL l).1.length ≤ 400 := by
  unfold nextL at h ⊢
  split at h
  · simp at h
  · rename_i h1
    rw [if_neg h1]
    split at h
    · simp at h
    · rename_i h2
      rw [if_neg h2]
      split at h
      · simp at h
      · rename_i h3
        rw [if_neg h3]
        split at h
        · rename_i h4
          rw [if_pos h4]
          simp only [List.length_take, List.length_drop]
          omega
        · simp at h
theorem next_code (l : List Nat) : (nextL l).2.2 = 0 ∨ ((nextL l).2.2 = 12 ∨ (nextL l).2.2 = 13) := by
  unfold nextL
  repeat' split
  all_goals simp

/-- An element that is handed on: its place, its slice value, its bytes. -/
abbrev Elem := Nat × Value × List Nat
def elemOf (x : Elem) : Nat × List Nat := (x.1, x.2.2)
def encE (x : Elem) : Array Value := #[.int .i64 (x.1 : Int), x.2.1]
/-- It is the next one, and its bytes are new memory. -/
def NextE (n₀ : Nat) (R : List (Nat × List Nat)) (pre : List Elem) (x : Elem) (W : World) : Prop := (pre ++ [x]).map elemOf <+: R ∧ OwnB W n₀ x.2.1 x.2.2
theorem nextE_put {n₀ : Nat} {R : List (Nat × List Nat)} (pre : List Elem) (x : Elem) (W : World) (l : Nat) (o o' : Obj) (h : NextE n₀ R pre x W) (hl : W.heap[l]? = some o) (ho : o.isCells = false) : NextE n₀ R pre x (W.putObj l o') :=
  ⟨h.1, ownsRow_putObj h.2 o' hl ho⟩

theorem grown_of_below {w w' : World} (h : Below w.heap.size w w') : w.grownBy w' none := ⟨h.os, h.tape, h.output, h.size, fun k hk _ => h.block k hk⟩
/-- What comes of a place in a slice. -/
theorem next_at (A : Option Addr) (l : List Nat) (m c : Nat) (hm : m = l.length) (w : World) (hr : Byts w A l) (hl : Oct l) (hn2 : l.length ≤ 1000000000000) (hcap : l.length ≤ c) :
    Calls Tryz.prog 82 #[.slice A m c] w (NextC w l) := by subst hm; exact next_any A l c w hr hl hn2 hcap
theorem Byts.from {w : World} {b off : Nat} {l : List Nat} (h : Byts w (some ⟨b, off, none⟩) l) (k : Nat) (hk : k ≤ l.length) : Byts w (some ⟨b, off + k, none⟩) (l.drop k) := by
  have := h.part k (l.length - k) (by omega)
  rwa [List.take_of_length_le (by simp)] at this
theorem recF_more {f p : Nat} {l : List Nat} (h : (nextL l).2.2 = 0) : recF (f + 1) p l = (p, (nextL l).1) :: recF f (p + (nextL l).2.1) (l.drop (nextL l).2.1) := by
  show (if _ then _ else _) = _
  rw [if_pos h]
theorem recF_end {f p : Nat} {l : List Nat} (h : ¬ (nextL l).2.2 = 0) : recF (f + 1) p l = [] := by
  show (if _ then _ else _) = _
  rw [if_neg h]
theorem recs_step {L : List Nat} {pre : List Elem} {f p : Nat} (v : Value) (h : recs L = pre.map elemOf ++ recF f p (L.drop p)) (h0 : (nextL (L.drop p)).2.2 = 0) (hf : L.length < f + p) (hp : p ≤ L.length) :
    ∃ f', f = f' + 1 ∧ recs L = (pre ++ [(p, v, (nextL (L.drop p)).1)]).map elemOf ++ recF f' (p + (nextL (L.drop p)).2.1) (L.drop (p + (nextL (L.drop p)).2.1)) := by
  obtain ⟨f', rfl⟩ : ∃ f', f = f' + 1 := ⟨f - 1, by omega⟩
  refine ⟨f', rfl, ?_⟩
  rw [recF_more h0, List.drop_drop] at h
  rw [h, List.map_append, List.append_assoc]
  rfl

/-- The blocks from lo up to hi are as they were. -/
structure Kept (lo hi : Nat) (W W' : World) : Prop where
  size : W.heap.size ≤ W'.heap.size
  block : ∀ k, lo ≤ k → k < hi → W'.heap[k]? = W.heap[k]?
theorem Kept.refl (lo hi : Nat) (W : World) : Kept lo hi W W := ⟨Nat.le_refl _, fun _ _ _ => rfl⟩
theorem Kept.trans {lo hi : Nat} {A B C : World} (h : Kept lo hi A B) (k : Kept lo hi B C) : Kept lo hi A C := ⟨Nat.le_trans h.size k.size, fun i h1 h2 => (k.block i h1 h2).trans (h.block i h1 h2)⟩
theorem Kept.of_below {lo hi : Nat} {W W' : World} (h : Below hi W W') : Kept lo hi W W' := ⟨h.size, fun k _ h2 => h.block k h2⟩
theorem Kept.cell {lo hi : Nat} {W W' : World} (h : Kept lo hi W W') {p : Addr} (h1 : lo ≤ p.block) (h2 : p.block < hi) : W'.cell? p = W.cell? p := World.cell?_of_block (h.block _ h1 h2)
theorem Kept.setCell {lo hi : Nat} {W : World} {b : Nat} (h : b < lo ∨ hi ≤ b) (o : Nat) (v : Value) : Kept lo hi W (W.setCell ⟨b, o, none⟩ v) :=
  ⟨by simp, fun k h1 h2 => Below.heap_setCell _ _ _ k (by simp only; omega)⟩
theorem Kept.putObj {lo hi : Nat} {W : World} {l : Nat} (o : Obj) (h : hi ≤ l) : Kept lo hi W (W.putObj l o) := ⟨by simp, fun k h1 h2 => World.putObj_heap_other (by omega)⟩
/-- What is known behind a call of Next in the iterator. -/
def AtNext (lo n₀ : Nat) (W : World) (J : List Elem → World → Prop) (pre : List Elem) (X : List Nat × Nat × Nat) (e : Ending) (w' : World) : Prop :=
  ∃ v, e = .returned (.tuple #[v, .int .i64 ((X.2.1 : Nat) : Int), .int .i64 ((X.2.2 : Nat) : Int)]) ∧ Hid (OwnB w' n₀ v X.1) ∧ Hid (Kept lo n₀ W w') ∧ Hid (J pre w')
set_option maxRecDepth 100000 in
set_option maxHeartbeats 2000000 in
theorem walk_round (Bs lo n₀ b off : Nat) (c : Nat) (L : List Nat) (l : Nat) (J Jx : List Elem → World → Prop) (W : World) (hBl : lo ≤ Bs) (hBs : Bs < n₀) (hbl : lo ≤ b) (hb : b < n₀) (hA : Byts W (some ⟨b, off, none⟩) L) (hl : Oct L) (hn : L.length ≤ 1000000000) (hcap : L.length ≤ c) (hc2 : c ≤ 9223372036854775807) (hn₀ : n₀ ≤ W.heap.size)
    (hJ : AbidesFrom W.heap.size J)
    (hc : W.cell? ⟨Bs, 0, none⟩ = some (.slice (some ⟨b, off, none⟩) L.length c))
    (hY : ∀ pre x W1, J pre W1 → NextE n₀ (recs L) pre x W1 → YieldAt Fence.wide 2 Tryz.prog l (encE x) W1 fun e W' =>
      (e = .returned (.bool true) ∧ J (pre ++ [x]) W' ∧ Kept lo n₀ W1 W') ∨ (e = .returned (.bool false) ∧ Jx (pre ++ [x]) W'))
    (h0 : J [] W) :
    CallsIn Fence.wide 3 Tryz.prog 81 #[.func (.yield l) #[] #[], .pointer (some ⟨Bs, 0, none⟩)] W fun e W' => (∃ v, e = .returned v) ∧
      ((∃ xs, xs.map elemOf = recs L ∧ J xs W') ∨ (∃ pre, pre.map elemOf <+: recs L ∧ Jx pre W')) := by
  have HC := Lib.hid hc
  have HA := Lib.hid hA
  have HO := Lib.hid hl
  have HY := Lib.hid hY
  have HJA := Lib.hid hJ
  have H0 := Lib.hid h0
  clear hc hA hl hY hJ h0
  refine callsIn_of_wp Tryz.func81 rfl trivial ?_ rfl
  simp only [Tryz.ntmps81, List.size_toArray, List.length_cons, List.length_nil, Nat.reduceAdd, Nat.reduceSub, Array.replicate_succ, Array.replicate_zero, List.push_toArray, List.append_toArray, List.nil_append, List.cons_append]
  gi_wp2
  gi_loopw [3] (fun i wr => ∃ (p f : Nat) (pre : List Elem), i = .int .i64 p ∧ p ≤ L.length ∧ Hid (recs L = pre.map elemOf ++ recF f p (L.drop p)) ∧ Hid (J pre wr) ∧ Hid (Kept lo n₀ W wr) ∧ Hid (L.length < f + p)) (fun i _ => L.length - (intOf i).toNat)
  case atStart => exact ⟨0, L.length + 1, [], rfl, Nat.zero_le _, Lib.hid rfl, H0, Lib.hid (Kept.refl _ _ _), Lib.hid (by omega)⟩
  case round =>
    obtain ⟨p, f, pre, rfl, hp, HR, HJ, HB, HF⟩ := hrel
    have hcell := (HB.out.cell (p := ⟨Bs, 0, none⟩) hBl hBs).trans HC.out
    have hby : Byts wr (some ⟨b, off, none⟩) L := by
      intro h1
      obtain ⟨b', off', e, hcc⟩ := HA.out h1
      injection e with e; injection e with e1 e2; subst e1; subst e2
      exact ⟨b, off, rfl, fun i hi => (HB.out.cell (p := ⟨b, off + i, none⟩) hbl hb).trans (hcc i hi)⟩
    have hsz := HB.out.size
    have hlen : (L.drop p).length = L.length - p := List.length_drop
    have HX : Hid (∀ A', (p < c → A' = some ⟨b, off + p, none⟩) → Calls Tryz.prog 82 #[.slice A' (L.length - p) (c - p)] wr (NextC wr (L.drop p))) := Lib.hid fun A' hA' => by
      refine next_at A' (L.drop p) _ _ hlen.symm wr ?_ (HO.out.drop p) (by omega) (by omega)
      by_cases h : p < c
      · rw [hA' h]; exact hby.from p hp
      · intro h1; omega
    have HFA := Lib.hid (next_fact (L.drop p))
    have HST := Lib.hid (fun v h0 => recs_step v HR.out h0 HF.out hp)
    have HEN := Lib.hid (fun (h0 : ¬ (nextL (L.drop p)).2.2 = 0) => show pre.map elemOf = recs L by
      rw [HR.out]
      obtain ⟨f', rfl⟩ : ∃ f', f = f' + 1 := ⟨f - 1, by have := HF.out; omega⟩
      rw [recF_end h0, List.append_nil])
    clear hby hlen
    have HC2 : Hid (∀ A' k m, k = L.length - p → m = c - p → (p < c → A' = some ⟨b, off + p, none⟩) → Calls Tryz.prog 82 #[.slice A' k m] wr (AtNext lo n₀ W J pre (nextL (L.drop p)))) := Lib.hid fun A' k m hk hm hA' => by
      subst hk
      subst hm
      refine (HX.out A' hA').mono ?_
      rintro e w' ⟨v, rfl, hv, hbw⟩
      exact ⟨v, rfl, Lib.hid (ownB_base hv (by omega)), Lib.hid (HB.out.trans (Kept.of_below (hbw.mono (by omega)))), Lib.hid (HJA.out pre wr w' none HJ.out (grown_of_below hbw) (fun r e => by cases e))⟩
    clear HX HB HJ HJA HR
    by_cases hpc : p = c
    · subst hpc
      have h0 : ¬ (nextL (L.drop p)).2.2 = 0 := by
        rw [show L.drop p = [] from List.drop_eq_nil_of_le hcap, next_short0 (by simp)]
        simp
      have C := Lib.hid (HC2.out (some ⟨b, off, none⟩) 0 0 (by omega) (by omega) (fun h => absurd h (by omega)))
      clear HC2
      have HE2 := Lib.hid (HEN.out h0)
      clear HST HEN HFA
      have h1 : 0 < (nextL (L.drop p)).2.2 := by omega
      generalize nextL (L.drop p) = X at *
      obtain ⟨bs, m, code⟩ := X
      simp only at h0 h1
      have hd : ((code : Int) != 0) = true := by rw [bne_iff_ne]; omega
      clear h0
      gi_wp2_with (refine ⟨trivial, ?_⟩; gi_at_call 82; (with_reducible refine (callsIn_wide.2 C.out).mono ?_); rintro e w' ⟨v, rfl, HV, HBW, HJW⟩)
      refine ⟨fun _ h => (by cases h), ?_⟩
      gi_wp2
      refine bodyPost_ret (results_none rfl _ _ _) rfl ?_
      exact ⟨⟨_, rfl⟩, .inl ⟨pre, HE2.out, HJW.out⟩⟩

    · have C := Lib.hid (HC2.out (some ⟨b, off + p, none⟩) (L.length - p) (c - p) rfl rfl (fun _ => rfl))
      clear HC2
      by_cases h0 : (nextL (L.drop p)).2.2 = 0
      · have HS2 := Lib.hid (fun v => HST.out v h0)
        obtain ⟨f1, f2, f3⟩ := HFA.out h0
        have hlen : (L.drop p).length = L.length - p := List.length_drop
        rw [hlen] at f2
        clear HST HEN HFA hlen
        generalize nextL (L.drop p) = X at *
        obtain ⟨bs, m, code⟩ := X
        simp only at h0 f1 f2 f3 HS2
        subst h0
        have HF1 := Lib.hid f1
        have hm6 : 6 ≤ m := by omega
        clear f1
        have HYN : Hid (∀ v w', OwnB w' n₀ v bs → J pre w' → YieldAt Fence.wide 2 Tryz.prog l #[.int .i64 (p : Int), v] w' fun e W' =>
            (e = .returned (.bool true) ∧ J (pre ++ [(p, v, bs)]) W' ∧ Kept lo n₀ w' W') ∨ (e = .returned (.bool false) ∧ Jx (pre ++ [(p, v, bs)]) W')) := Lib.hid fun v w' hv hj =>
          HY.out pre (p, v, bs) w' hj ⟨by obtain ⟨f', _, e⟩ := HS2.out v; rw [e]; exact ⟨_, rfl⟩, hv⟩
        gi_wp2_with (refine ⟨trivial, ?_⟩; gi_at_call 82; (with_reducible refine (callsIn_wide.2 C.out).mono ?_); rintro e w' ⟨v, rfl, HV, HBW, HJW⟩; obtain ⟨fn, tmps, assign, body, hy, hR⟩ := HYN.out v w' HV.out HJW.out)
        refine hR.mono ?_
        rintro e W3 (⟨rfl, hJ3, hk3⟩ | ⟨rfl, hJx3⟩)
        · gi_wp2
          go_roundw
          case rel =>
            obtain ⟨f', hf, e⟩ := HS2.out v
            exact ⟨p + m, f', pre ++ [(p, v, bs)], by go_num, by omega, Lib.hid e, Lib.hid hJ3, Lib.hid (HBW.out.trans hk3), Lib.hid (by have := HF.out; omega)⟩
          case measure => simp [intOf]; omega
        · gi_wp2
          refine bodyPost_ret (results_none rfl _ _ _) rfl ?_
          exact ⟨⟨_, rfl⟩, .inr ⟨_, by obtain ⟨f', _, e⟩ := HS2.out v; rw [e]; exact ⟨_, rfl⟩, hJx3⟩⟩
      · have HE2 := Lib.hid (HEN.out h0)
        clear HST HEN HFA
        have h1 : 0 < (nextL (L.drop p)).2.2 := by omega
        generalize nextL (L.drop p) = X at *
        obtain ⟨bs, m, code⟩ := X
        simp only at h0 h1
        have hd : ((code : Int) != 0) = true := by rw [bne_iff_ne]; omega
        clear h0
        gi_wp2_with (refine ⟨trivial, ?_⟩; gi_at_call 82; (with_reducible refine (callsIn_wide.2 C.out).mono ?_); rintro e w' ⟨v, rfl, HV, HBW, HJW⟩)
        refine ⟨fun _ h => (by cases h), ?_⟩
        gi_wp2
        refine bodyPost_ret (results_none rfl _ _ _) rfl ?_
        exact ⟨⟨_, rfl⟩, .inl ⟨pre, HE2.out, HJW.out⟩⟩

end Go.Proofs.YtmpipjangbedkaaGreat

/-
  frame.Walk: what it answers, and what ranging over that brings; the walk of frame.Whole.
-/
namespace Go.Proofs.YtmpipjangbedkaaGreat
set_option maxRecDepth 8000
open Go Go.RowKit Go.Shelf
attribute [local go_sem] Oper.semAt_some

set_option maxRecDepth 100000 in
set_option maxHeartbeats 2000000 in
theorem walk_nil (Bs : Nat) (l : Nat) (J : List Elem → World → Prop) (W : World) (hJ : AbidesFrom W.heap.size J) (hc : W.cell? ⟨Bs, 0, none⟩ = some (.slice none 0 0)) (h0 : J [] W) :
    CallsIn Fence.wide 3 Tryz.prog 81 #[.func (.yield l) #[] #[], .pointer (some ⟨Bs, 0, none⟩)] W fun e W' => (∃ v, e = .returned v) ∧ J [] W' := by
  have C : Hid (Calls Tryz.prog 82 #[.slice none 0 0] W fun e w' => ∃ v, e = .returned (.tuple #[v, .int .i64 0, .int .i64 12]) ∧ Hid (J [] w')) := Lib.hid ((next_tiny none [] 0 W (by simp)).mono (by
    rintro e w' ⟨v, rfl, hv, hb⟩
    exact ⟨v, rfl, Lib.hid (hJ _ _ _ _ h0 (grown_of_below hb) (fun r e => by cases e))⟩))
  clear hJ h0
  refine callsIn_of_wp Tryz.func81 rfl trivial ?_ rfl
  simp only [Tryz.ntmps81, List.size_toArray, List.length_cons, List.length_nil, Nat.reduceAdd, Nat.reduceSub, Array.replicate_succ, Array.replicate_zero, List.push_toArray, List.append_toArray, List.nil_append, List.cons_append]
  gi_wp2
  gi_loopw [3] (fun i wr => i = .int .i64 0 ∧ wr = W) (fun _ _ => 0)
  case atStart => exact ⟨rfl, rfl⟩
  case round =>
    obtain ⟨rfl, rfl⟩ := hrel
    gi_wp2_with (refine ⟨trivial, ?_⟩; gi_at_call 82; (with_reducible refine (callsIn_wide.2 C.out).mono ?_); rintro e w' ⟨v, rfl, HJW⟩)
    refine ⟨fun _ h => (by cases h), ?_⟩
    gi_wp2
    refine bodyPost_ret (results_none rfl _ _ _) rfl ?_
    exact ⟨⟨_, rfl⟩, HJW.out⟩

/-- What Walk answers: a function that bears a box with a copy of the bytes. -/
def WalkC (w : World) (L : List Nat) (e : Ending) (w' : World) : Prop :=
  ∃ Bs v, e = .returned (.func (.func 81) #[] #[.pointer (some ⟨Bs, 0, none⟩)]) ∧ w.heap.size ≤ Bs ∧ Boxed w' Bs 26 v ∧ OwnB w' w.heap.size v L ∧ Below w.heap.size w w'
set_option maxRecDepth 8000 in
set_option maxHeartbeats 1000000 in
theorem walk_any (A : Option Addr) (L : List Nat) (c : Nat) (w : World) (hr : Byts w A L) (hn : L.length ≤ 1000000000) :
    Calls Tryz.prog 61 #[.slice A L.length c] w (WalkC w L) := by
  have C := Lib.hid (clone_anyF A L c w hr (by omega))
  clear hr
  go_enter Tryz.func61, Tryz.ntmps61
  go_wp2_with (go_at_call 60; refine C.out.mono ?_; rintro e w' ⟨v, rfl, HV, HB⟩; obtain ⟨A1, c1, rfl, _⟩ := OwnB.form HV)
  go_ret
  exact ⟨w'.heap.size, _, rfl, HB.size, Boxed.new _ _ _, OwnB.alloc HV _, HB.alloc HB.size _⟩
/-- What ranging over it brings. -/
theorem walk_seq (Bs lo : Nat) (v : Value) (L : List Nat) (w : World) (hBl : lo ≤ Bs) (hBx : Boxed w Bs 26 v) (hv : OwnB w lo v L) (hl : Oct L) (hn : L.length ≤ 1000000000) :
    SeqX Fence.wide 3 Tryz.prog 81 #[.pointer (some ⟨Bs, 0, none⟩)] encE (NextE w.heap.size (recs L)) (Kept lo w.heap.size) (fun xs => xs.map elemOf = recs L) (fun pre => pre.map elemOf <+: recs L) w := by
  intro l J Jx W hW hJ hJx hY h0
  have hc : W.cell? ⟨Bs, 0, none⟩ = some v := (hW.cell (p := ⟨Bs, 0, none⟩) hBx.lt).trans hBx.cell
  obtain ⟨A, c, rfl, hB, h1, h2, h3, h4⟩ := hv.form
  cases hA : A with
  | none =>
    subst hA
    have hL : L = [] := by
      cases L with
      | nil => rfl
      | cons x l => obtain ⟨b, off, e, _⟩ := hB (by simp); cases e
    subst hL
    rw [h3 rfl] at hc
    exact (walk_nil Bs l J W hJ hc h0).mono fun e W' ⟨he, hj⟩ => ⟨he, .inl ⟨[], rfl, hj⟩⟩
  | some a =>
    subst hA
    obtain ⟨g, rfl, hg, hgl⟩ : ∃ g, a = ⟨g, 0, none⟩ ∧ lo ≤ g ∧ g < w.heap.size := by
      rcases hv.2 with ⟨e, _⟩ | ⟨g, cap, cur, e, e2, e3, _⟩
      · injection e with e; cases e
      · injection e with e; injection e with e; exact ⟨g, e, e2, (Array.getElem?_eq_some_iff.1 e3).1⟩
    exact walk_round Bs lo w.heap.size g 0 c L l J Jx W hBl hBx.lt hg hgl (hB.below hW) hl hn h1 h2 hW.size hJ hc hY h0
end Go.Proofs.YtmpipjangbedkaaGreat

/-
  The walk of frame.Whole.
-/
namespace Go.Proofs.YtmpipjangbedkaaGreat
set_option maxRecDepth 8000
open Go Go.RowKit Go.Shelf
attribute [local go_sem] Oper.semAt_some

/-- How many bytes the records have together. -/
def wholeOf (R : List (Nat × List Nat)) : Nat := match R.getLast? with
  | none => 0
  | some (p, b) => p + 2 + b.length + 4
theorem wholeOf_snoc (R : List (Nat × List Nat)) (p : Nat) (b : List Nat) : wholeOf (R ++ [(p, b)]) = p + 2 + b.length + 4 := by
  unfold wholeOf
  rw [List.getLast?_concat]
theorem recF_bound (f : Nat) : ∀ (p : Nat) (l : List Nat), ∀ e ∈ recF f p l, e.1 + e.2.length + 6 ≤ p + l.length := by
  induction f with
  | zero => intro p l e he; simp [recF] at he
  | succ f ih =>
    intro p l e he
    by_cases h : (nextL l).2.2 = 0
    · rw [recF_more h] at he
      obtain ⟨h1, h2, h3⟩ := next_fact l h
      rcases List.mem_cons.1 he with rfl | he
      · simp only; omega
      · have := ih _ _ e he
        rw [List.length_drop] at this
        omega
    · rw [recF_end h] at he; cases he
theorem recs_bound (L : List Nat) : ∀ e ∈ recs L, e.1 + e.2.length + 6 ≤ L.length := fun e he => by have := recF_bound _ _ _ e he; omega
theorem next_in {R : List (Nat × List Nat)} {pre : List Elem} {x : Elem} (h : (pre ++ [x]).map elemOf <+: R) : elemOf x ∈ R := by
  refine h.subset ?_
  rw [List.map_append]
  exact List.mem_append_right _ (by simp)

set_option maxRecDepth 100000 in
set_option maxHeartbeats 2000000 in
theorem whole_any (A : Option Addr) (L : List Nat) (c : Nat) (w : World) (hr : Byts w A L) (hl : Oct L) (hn : L.length ≤ 1000000000) :
    Calls Tryz.prog 49 #[.slice A L.length c] w fun e W' => e = .returned (.int .i64 ((wholeOf (recs L) : Nat) : Int)) ∧ Below w.heap.size w W' := by
  have C := Lib.hid (walk_any A L c (w.alloc (.cells #[.int .i64 0] 3)) (hr.below ((Below.refl _ _).alloc (Nat.le_refl _) _)) hn)
  have HO := Lib.hid hl
  clear hr hl
  refine (callsIn_wide (n := 4)).1 ?_
  refine callsIn_of_wp_marks Tryz.func49 rfl trivial ?_ rfl
  simp only [Tryz.ntmps49, List.size_toArray, List.length_cons, List.length_nil, Nat.reduceAdd, Nat.reduceSub, Array.replicate_succ, Array.replicate_zero, List.push_toArray, List.append_toArray, List.nil_append, List.cons_append]
  gi_wp2_with (refine ⟨trivial, ?_⟩; gi_at_call 61; refine (callsIn_wide.2 C.out).mono ?_; rintro e w1 ⟨Bs, v, rfl, hBs, hBx, hv, hb⟩)
  have bS := Boxed.new w 3 (.int .i64 0)
  simp only [World.size_alloc] at hBs hv hb
  have bS1 : Boxed w1 w.heap.size 3 (.int .i64 0) := (hb.block w.heap.size (by omega)).trans bS
  have hB1 : Below w.heap.size w w1 := below_one (hb.mono (by omega))
  have hsz := hBx.lt
  have HW := Lib.hid (walk_seq Bs (w.heap.size + 1) v L w1 hBs hBx hv HO.out hn)
  clear C HO
  refine wpIn_rangeX rfl (by omega) (gf := 81) (lb := #[.pointer (some ⟨Bs, 0, none⟩)]) rfl trivial (enters_of Tryz.func81 (by kernel_rfl) rfl) HW.out nextE_put (fun h k => Kept.trans h k) (fun W l o o' h _ _ _ => Kept.putObj o' h) (Below.refl _ _) (fun _ => rfl)
    (fun pre W => (W.cell? ⟨w.heap.size, 0, none⟩ = some (.int .i64 ((wholeOf (pre.map elemOf) : Nat) : Int)) ∧ W.frozen? ⟨w.heap.size, 0, none⟩ = false) ∧ Below w.heap.size w W)
    (fun _ _ _ => False)
    (OwnFrom.and (Own.from (fun s A B row hs hg hr => ⟨cell_kept hs.1 hg hr, (frozen_kept hs.1 hg hr).trans hs.2⟩) _) (ownFrom_below (Nat.le_refl _) (by omega)))
    (fun _ _ _ _ _ hs _ _ => hs)
    ⟨⟨bS1.cell, bS1.frozen⟩, hB1⟩
    (fun x => { tmps := #[.slice A L.length c, undef, .int .i64 0, .pointer (some ⟨w.heap.size, 0, none⟩), .int .i64 (x.1 : Int), x.2.1, .slice A L.length c, .func (.func 81) #[] #[.pointer (some ⟨Bs, 0, none⟩)], .int .i64 (x.1 : Int), x.2.1, undef, undef, undef, undef, undef, undef, undef], defers := [] }) ?assign ?body ?done ?stop
  case assign =>
    intro l x W K hK
    simp only [encE]
    gi_wp2
    exact hK
  case body =>
    rintro l pre ⟨p, u, bs⟩ W ⟨⟨hc, hf⟩, hB⟩ ⟨hpre, hu⟩
    change OwnB W _ u bs at hu
    obtain ⟨A1, c1, rfl, _⟩ := OwnB.form hu
    have hbd := recs_bound L _ (next_in hpre)
    simp only [elemOf] at hbd
    have HS := Lib.hid (wholeOf_snoc (pre.map elemOf) p bs)
    clear hpre hu HW
    gi_wp2
    refine ⟨(KeepsOthers.setCell _ _ _).from _, Kept.setCell (.inl (by omega)) _ _, ⟨?_, by rw [World.frozen?_setCell]; exact hf⟩, hB.setCell (p := ⟨w.heap.size, 0, none⟩) (Nat.le_refl _) _⟩
    rw [List.map_append]
    rw [show List.map elemOf [(p, Value.slice A1 bs.length c1, bs)] = [(p, bs)] from rfl, HS.out]
    exact World.cell?_setCell_same' _ _ _ (by rw [hc]; rfl)
  case done =>
    rintro D ys W hD hS ⟨⟨hc, _⟩, hB⟩ hK
    gi_wp2
    refine ⟨by simp, .inl ⟨_, _, rfl, run_takeDeferred hK, ?_⟩⟩
    rw [← hS]
    exact ⟨_, results_tmp rfl _ _ _, rfl, hB.trans (belowK_b (w := w) (Nat.le_refl _) W D _ _ (by omega) hK rfl rfl)⟩
  case stop =>
    rintro D c pre W _ _ h _
    exact h.elim
end Go.Proofs.YtmpipjangbedkaaGreat

/-
  The walks of frame.Put and of the reference's Frame.
-/
namespace Go.Proofs.YtmpipjangbedkaaGreat
set_option maxRecDepth 8000
open Go.RowKit

/-- New bytes, and a code. -/
def BytesCF (w : World) (l : List Nat) (code : Int) (e : Ending) (w' : World) : Prop :=
  ∃ v, e = .returned (.tuple #[v, .int .i64 code]) ∧ OwnB w' w.heap.size v l ∧ Below w.heap.size w w'
theorem bytesC_nilF (w w' : World) (code : Int) (hb : Below w.heap.size w w') : BytesCF w [] code (.returned (.tuple #[.slice none 0 0, .int .i64 code])) w' := ⟨_, rfl, ownB_nil w' _, hb⟩

theorem u8w (n : Int) : IntKind.u8.wrap n = n % 256 := by simp [IntKind.wrap, IntKind.bits, IntKind.signed]
theorem made_u8 (n : Nat) (hn : n ≤ 1000000000000) (w : World) : (Instr.makeSlice 26 (.int .i64 0) (.int .i64 (n : Int))).run Tryz.prog w = .ok (.slice (some ⟨w.heap.size, 0, none⟩) 0 n) (w.alloc (.cells (madeCells #[.int .u8 0] n) 5)) := by
  obtain ⟨i0, hi, hz0, hz1, hz2⟩ := parts_of info_u8
  have h := run_make (P := Tryz.prog) w 26 5 i0 (.int .u8 0) Tryz.underlying26 hi hz0 .i64 .i64 0 (n : Int) (by omega) (by omega) (by rw [hz2]; omega) (by omega)
  rw [hz1, Int.toNat_natCast, Nat.mul_one] at h
  exact h

set_option maxRecDepth 8000 in
set_option maxHeartbeats 1000000 in
theorem put_long (A : Option Addr) (l : List Nat) (c : Nat) (w : World) (hn : l.length ≤ 9223372036854775807) (h : 400 < l.length) :
    Calls Tryz.prog 76 #[.slice A l.length c] w (BytesCF w [] 1) := by
  have F := Lib.hid (bytesC_nilF w w 1 (Below.refl _ _))
  go_enter Tryz.func76, Tryz.ntmps76
  go_wp2
  go_ret2
  exact F.out
set_option maxRecDepth 8000 in
set_option maxHeartbeats 1000000 in
theorem rframe_long (A : Option Addr) (l : List Nat) (c : Nat) (w : World) (hn : l.length ≤ 9223372036854775807) (h : 400 < l.length) :
    Calls Tryz.prog 14 #[.slice A l.length c] w (BytesCF w [] 1) := by
  have F := Lib.hid (bytesC_nilF w w 1 (Below.refl _ _))
  go_enter Tryz.func14, Tryz.ntmps14
  go_wp2
  go_ret2
  exact F.out
theorem le4_of (S b0 b1 b2 b3 : Nat) (h0 : b0 = S % 256) (h1 : b1 = S / 256 % 256) (h2 : b2 = S / 65536 % 256) (h3 : b3 = S / 16777216 % 256) : le4 S = [b0, b1, b2, b3] := by unfold le4; rw [h0, h1, h2, h3]
theorem head_of (l : List Nat) (x1 x0 : Nat) (h1 : x1 = l.length / 256) (h0 : x0 = l.length % 256) : x1 :: x0 :: l = headL l := by unfold headL; rw [h0, h1]; rfl
set_option maxRecDepth 8000 in
set_option maxHeartbeats 2000000 in
theorem put_any (A : Option Addr) (l : List Nat) (c : Nat) (w : World) (hr : Byts w A l) (hl : Oct l) (hA : A = none → c = 0) (h : l.length ≤ 400) :
    Calls Tryz.prog 76 #[.slice A l.length c] w (BytesCF w (recL l) 0) := by
  obtain ⟨n, hn⟩ : ∃ n, n = l.length := ⟨_, rfl⟩
  obtain ⟨x1, hx1⟩ : ∃ x, x = n / 256 := ⟨_, rfl⟩
  obtain ⟨x0, hx0⟩ : ∃ x, x = n % 256 := ⟨_, rfl⟩
  have e1 : IntKind.u8.wrap ((n : Int) / 256) = (x1 : Int) := by rw [u8w]; omega
  have e0 : IntKind.u8.wrap (n : Int) = (x0 : Int) := by rw [u8w]; omega
  have HH := Lib.hid (head_of l x1 x0 (by rw [← hn]; exact hx1) (by rw [← hn]; exact hx0))
  have HR := Lib.hid (show recL l = headL l ++ le4 (crc (headL l)) from rfl)
  have HL := Lib.hid (headL_length l)
  have HO := Lib.hid (oct_head hl h)
  have hS := crc_lt (headL l)
  have hmk := fun w => by have := made_u8 (n + 6) (by omega) w; rw [show ((n + 6 : Nat) : Int) = 2 + (n : Int) + 4 from by omega] at this; exact this
  rw [← hn] at h ⊢
  have HN := Lib.hid hn
  have HA := Lib.hid hA
  have HB := Lib.hid hr
  clear hn hx1 hx0 hA hl hr
  go_enter Tryz.func76, Tryz.ntmps76
  go_wp2_with (at_builtin; refine wpList_appF rfl (.tmp 15) (.tmp 21) rfl w.heap.size _ [] rfl (ownB_made _ _ _ (n + 6) (Nat.le_refl _) ?c1 ?c2 _ rfl |>.alloc _) _ _ _ [x1, x0] rfl ?c3 ?c4 ?c5 ?c6 ?c7 ?_)
  case c1 => omega
  case c2 => simp [madeCells]
  case c3 => rfl
  case c4 => exact byts_new _ _ _ [x1, x0] rfl _ (by simp)
  case c5 => intro e; cases e
  case c6 => simp
  case c7 => simp; omega
  intro v1 w1 ho1 hb1 _
  obtain ⟨A1, c1, rfl, _⟩ := ho1.form
  change OwnB w1 w.heap.size (.slice A1 2 c1) [x1, x0] at ho1
  have HB1 := Lib.hid (below_two hb1)
  have HO1 := Lib.hid ho1
  clear ho1 hb1 hmk e1 e0
  simp only [List.length_cons, List.length_nil, Nat.reduceAdd]
  go_wp2_with (at_builtin; refine wpList_appF rfl (.tmp 23) (.tmp 24) rfl w.heap.size _ [x1, x0] rfl HO1.out _ _ _ l rfl HN.out (HB.out.below HB1.out) HA.out ?d1 ?d2 ?_)
  case d1 => have := HN.out; simp; omega
  case d2 => exact HB1.out.size
  intro v2 w2 ho2 hb2 _
  rw [HH.out] at ho2
  obtain ⟨A2, c2, rfl, hB2, _⟩ := ho2.form
  have C := Lib.hid (sum_any A2 (headL l) c2 w2 hB2 HO.out (by rw [HL.out, ← HN.out]; omega))
  have HB2 := Lib.hid (HB1.out.trans hb2)
  have HO2 := Lib.hid ho2
  have HL2 := Lib.hid (show (headL l).length ≤ 402 by rw [HL.out, ← HN.out]; omega)
  generalize crc (headL l) = S at *
  obtain ⟨b0, hb0⟩ : ∃ x, x = S % 256 := ⟨_, rfl⟩
  obtain ⟨b1, hb1⟩ : ∃ x, x = S / 256 % 256 := ⟨_, rfl⟩
  obtain ⟨b2, hb2'⟩ : ∃ x, x = S / 65536 % 256 := ⟨_, rfl⟩
  obtain ⟨b3, hb3⟩ : ∃ x, x = S / 16777216 % 256 := ⟨_, rfl⟩
  have f0 : IntKind.u8.wrap (S : Int) = (b0 : Int) := by rw [u8w]; omega
  have f1 : IntKind.u8.wrap ((S : Int) / 256) = (b1 : Int) := by rw [u8w]; omega
  have f2 : IntKind.u8.wrap ((S : Int) / 65536) = (b2 : Int) := by rw [u8w]; omega
  have f3 : IntKind.u8.wrap ((S : Int) / 16777216) = (b3 : Int) := by rw [u8w]; omega
  have HE := Lib.hid (le4_of S b0 b1 b2 b3 hb0 hb1 hb2' hb3)
  clear hb0 hb1 hb2 hb2' hb3 ho2 hB2 hS
  go_wp2_with (first
    | (go_at_call 91; refine C.out.mono ?_; rintro e w' ⟨rfl, rfl⟩)
    | (at_builtin; refine wpList_appF rfl (.tmp 28) (.tmp 40) rfl w.heap.size _ (headL l) rfl (HO2.out.alloc _) _ _ _ [b0, b1, b2, b3] rfl ?g3 ?g4 ?g5 ?g6 ?g7 ?_))
  case g3 => rfl
  case g4 => exact byts_new _ _ _ [b0, b1, b2, b3] rfl _ rfl
  case g5 => intro e; cases e
  case g6 => have := HL2.out; simp; omega
  case g7 => have := HB2.out.size; simp; omega
  intro v3 w3 ho3 hb3 _
  go_wp2
  go_ret2
  exact ⟨v3, rfl, by rw [HR.out, HE.out]; exact ho3, (HB2.out.alloc HB2.out.size _).trans hb3⟩
theorem and255 (s : Nat) (h : s < 4294967296) : bits .and .u32 (s : Int) 255 = ((s % 256 : Nat) : Int) := by
  rw [show (255 : Int) = ((255 : Nat) : Int) from rfl, u32_and_nat s 255 h (by omega), show s &&& 255 = s % 256 from Nat.and_two_pow_sub_one_eq_mod s 8]
set_option maxRecDepth 8000 in
set_option maxHeartbeats 2000000 in
theorem rframe_any (A : Option Addr) (l : List Nat) (c : Nat) (w : World) (hr : Byts w A l) (hl : Oct l) (hA : A = none → c = 0) (h : l.length ≤ 400) :
    Calls Tryz.prog 14 #[.slice A l.length c] w (BytesCF w (recL l) 0) := by
  obtain ⟨n, hn⟩ : ∃ n, n = l.length := ⟨_, rfl⟩
  obtain ⟨x1, hx1⟩ : ∃ x, x = n / 256 := ⟨_, rfl⟩
  obtain ⟨x0, hx0⟩ : ∃ x, x = n % 256 := ⟨_, rfl⟩
  have e1 : IntKind.u8.wrap ((n : Int) / 256) = (x1 : Int) := by rw [u8w]; omega
  have e0 : IntKind.u8.wrap ((n : Int) % 256) = (x0 : Int) := by rw [u8w]; omega
  have HH := Lib.hid (head_of l x1 x0 (by rw [← hn]; exact hx1) (by rw [← hn]; exact hx0))
  have HR := Lib.hid (show recL l = headL l ++ le4 (crc (headL l)) from rfl)
  have HL := Lib.hid (headL_length l)
  have HO := Lib.hid (oct_head hl h)
  have hS := crc_lt (headL l)
  rw [← hn] at h ⊢
  have HN := Lib.hid hn
  have HA := Lib.hid hA
  have HB := Lib.hid hr
  clear hn hx1 hx0 hA hl hr
  go_enter Tryz.func14, Tryz.ntmps14
  go_wp2_with (at_builtin; refine wpList_appF rfl (.tmp 17) (.tmp 18) rfl w.heap.size _ [x1, x0] rfl (ownB_lit w _ _ [x1, x0] (Nat.le_refl _) ?c1 rfl _ rfl _ rfl) _ _ _ l rfl HN.out (HB.out.below ?c3) HA.out ?c6 ?c7 ?_)
  case c1 => simp
  case c3 => exact (Below.refl _ _).alloc (Nat.le_refl _) _
  case c6 => have := HN.out; simp; omega
  case c7 => simp
  intro v2 w2 ho2 hb2 _
  rw [HH.out] at ho2
  obtain ⟨A2, c2, rfl, hB2, _⟩ := ho2.form
  have C := Lib.hid (rcrc_any A2 (headL l) c2 w2 hB2 HO.out (by rw [HL.out, ← HN.out]; omega))
  have HB2 := Lib.hid (below_one hb2)
  have HO2 := Lib.hid ho2
  have HL2 := Lib.hid (show (headL l).length ≤ 402 by rw [HL.out, ← HN.out]; omega)
  generalize crc (headL l) = S at *
  obtain ⟨b0, hb0⟩ : ∃ x, x = S % 256 := ⟨_, rfl⟩
  obtain ⟨b1, hb1⟩ : ∃ x, x = S / 256 % 256 := ⟨_, rfl⟩
  obtain ⟨b2, hb2'⟩ : ∃ x, x = S / 65536 % 256 := ⟨_, rfl⟩
  obtain ⟨b3, hb3⟩ : ∃ x, x = S / 16777216 % 256 := ⟨_, rfl⟩
  have a0 : bits .and .u32 (S : Int) 255 = (b0 : Int) := by rw [and255 S hS, hb0]
  have a1 : bits .and .u32 ((S : Int) / 256) 255 = (b1 : Int) := by rw [show (S : Int) / 256 = ((S / 256 : Nat) : Int) from by omega, and255 _ (by omega), hb1]
  have a2 : bits .and .u32 ((S : Int) / 65536) 255 = (b2 : Int) := by rw [show (S : Int) / 65536 = ((S / 65536 : Nat) : Int) from by omega, and255 _ (by omega), hb2']
  have f0 : IntKind.u8.wrap (b0 : Int) = (b0 : Int) := by rw [u8w]; omega
  have f1 : IntKind.u8.wrap (b1 : Int) = (b1 : Int) := by rw [u8w]; omega
  have f2 : IntKind.u8.wrap (b2 : Int) = (b2 : Int) := by rw [u8w]; omega
  have f3 : IntKind.u8.wrap ((S : Int) / 16777216) = (b3 : Int) := by rw [u8w]; omega
  have HE := Lib.hid (le4_of S b0 b1 b2 b3 hb0 hb1 hb2' hb3)
  clear hb0 hb1 hb2 hb2' hb3 ho2 hB2 hS e1 e0
  go_wp2_with (first
    | (go_at_call 40; refine C.out.mono ?_; rintro e w' ⟨rfl, rfl⟩)
    | (at_builtin; refine wpList_appF rfl (.tmp 22) (.tmp 37) rfl w.heap.size _ (headL l) rfl (HO2.out.alloc _) _ _ _ [b0, b1, b2, b3] rfl ?g3 ?g4 ?g5 ?g6 ?g7 ?_))
  case g3 => rfl
  case g4 => exact byts_new _ _ _ [b0, b1, b2, b3] rfl _ rfl
  case g5 => intro e; cases e
  case g6 => have := HL2.out; simp; omega
  case g7 => have := HB2.out.size; simp; omega
  intro v3 w3 ho3 hb3 _
  go_wp2
  go_ret2
  exact ⟨v3, rfl, by rw [HR.out, HE.out]; exact ho3, (HB2.out.alloc HB2.out.size _).trans hb3⟩
end Go.Proofs.YtmpipjangbedkaaGreat
