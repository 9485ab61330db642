/-
  Bytes appended to a slice of the call's own, from whatever slice; the record of bytes, as a list.
-/
import Derived.Test.YtmopipclheohcaaFr1
import Derived.WalkKit
import Derived.OwnWalk
import Derived.OwnWalkIn
namespace Go.Proofs.Ytmopipclheohcaa
open Go.RowKit

theorem info_u8 : (Try.prog.info? 5).map (fun i => (i.zero, i.size, i.bytes)) = some (some (.int .u8 0), 1, 1) := by kernel_rfl
theorem parts_of {P : Program} {t : TypeId} {z : Value} {s b : Nat} (h : (P.info? t).map (fun i => (i.zero, i.size, i.bytes)) = some (some z, s, b)) : ∃ i0, P.info? t = some i0 ∧ i0.zero = some z ∧ i0.size = s ∧ i0.bytes = b := by
  cases hi : P.info? t with
  | none => rw [hi] at h; cases h
  | some i => rw [hi] at h; simp at h; exact ⟨i, rfl, h.1, h.2.1, h.2.2⟩

/-- A slice value that is the call's own (blocks from base on), and its bytes. -/
def OwnB (w : World) (base : Nat) (v : Value) (l : List Nat) : Prop := w.ownsRow base 5 1 v l.length (l.map byteV)
theorem OwnB.form {w : World} {base : Nat} {v : Value} {l : List Nat} (h : OwnB w base v l) :
    ∃ A c, v = .slice A l.length c ∧ Byts w A l ∧ l.length ≤ c ∧ c ≤ 9223372036854775807 ∧ (A = none → c = 0) ∧ (∀ b o s, A = some ⟨b, o, s⟩ → base ≤ b) := by
  obtain ⟨_, A, c, e, h1, h2, h3, h4⟩ := byts_own h
  refine ⟨A, c, e, h1, h2, h3, fun hA => ?_, h4⟩
  rcases h.2 with ⟨e2, _⟩ | ⟨g, cap, cur, e2, _⟩
  · rw [e] at e2; injection e2 with _ _ e3
  · rw [e] at e2; injection e2 with e3; rw [hA] at e3; cases e3
theorem OwnB.alloc {w : World} {base : Nat} {v : Value} {l : List Nat} (h : OwnB w base v l) (o : Obj) : OwnB (w.alloc o) base v l := World.ownsRow.alloc h o
theorem OwnB.drew {w : World} {base : Nat} {v : Value} {l : List Nat} (h : OwnB w base v l) : OwnB w.drew base v l := World.ownsRow.kept (row := none) h ⟨rfl, rfl, rfl, Nat.le_refl _, fun _ _ _ => rfl⟩ (by cases hv : v.ownBlock <;> simp)
theorem ownB_nil (w : World) (base : Nat) : OwnB w base (.slice none 0 0) [] := World.ownsRow_nil w base _ 1
/-- A new slice of so many places, none of them taken. -/
theorem ownB_made (w : World) (base : Nat) (cur : Array Value) (cap : Nat) (hb : base ≤ w.heap.size) (hm : cap ≤ 9223372036854775807) (hs : cur.size = cap) (n : Nat) (hn : n = w.heap.size) : OwnB (w.alloc (.cells cur 5)) base (.slice (some ⟨n, 0, none⟩) 0 cap) [] := by
  subst hn
  exact World.ownsRow_made w cur cap hb hm (by rw [hs, Nat.mul_one])
/-- A slice that is written out. -/
theorem ownB_lit (w : World) (base : Nat) (cs : Array Value) (l : List Nat) (hb : base ≤ w.heap.size) (hm : l.length ≤ 9223372036854775807) (hs : cs.toList = l.map byteV) (n : Nat) (hn : n = w.heap.size) (k : Nat) (hk : k = l.length) : OwnB (w.alloc (.cells cs 5)) base (.slice (some ⟨n, 0, none⟩) k k) l := by
  subst hn; subst hk
  unfold OwnB
  rw [← hs]
  exact World.ownsRow_lit w cs l.length hb hm (by rw [← Array.length_toList, hs, List.length_map, Nat.mul_one])
theorem byts_new (w : World) (t : TypeId) (cs : Array Value) (l : List Nat) (h : cs.toList = l.map byteV) (n : Nat) (hn : n = w.heap.size) : Byts (w.alloc (.cells cs t)) (some ⟨n, 0, none⟩) l := by
  subst hn
  intro _
  refine ⟨_, _, rfl, fun i hi => ?_⟩
  rw [Nat.zero_add, World.cell?_alloc_new, ← Array.getElem?_toList, h, List.getElem?_map, List.getD_eq_getElem?_getD, List.getElem?_eq_getElem hi]
  rfl
theorem byts_news {w : World} {b off : Nat} {l : List Nat} (h : Byts w (some ⟨b, off, none⟩) l) : ∀ j u, (l.map byteV)[j]? = some u → w.cell? ((⟨b, off, none⟩ : Addr).add j) = some u := by
  intro j u hu
  rw [List.getElem?_map] at hu
  rcases Nat.lt_or_ge j l.length with hj | hj
  · rw [List.getElem?_eq_getElem hj] at hu
    injection hu with hu
    obtain ⟨b', off', e, hc⟩ := h (by omega)
    injection e with e; injection e with e1 e2; subst e1; subst e2
    rw [Go.WideShapes.add_plain, hc j hj, ← hu, List.getD_eq_getElem?_getD, List.getElem?_eq_getElem hj]
    rfl
  · rw [List.getElem?_eq_none hj] at hu; cases hu
theorem one_byte (l : List Nat) : ∀ u ∈ l.map byteV, u.oneCell' = true := by
  intro u hu
  obtain ⟨_, _, rfl⟩ := List.mem_map.1 hu
  rfl
/-- The run of an append, from whatever slice of bytes. -/
theorem run_app (w : World) (ty : TypeId) (base : Nat) (v : Value) (xs : List Nat) (hown : OwnB w base v xs) (A : Option Addr) (c : Nat) (l : List Nat) (hB : Byts w A l) (hA : A = none → c = 0) (hb : xs.length + l.length ≤ 140737488355328) (hbase : base ≤ w.heap.size) :
    ∃ v' w', (Builtin.append_ #[22, 22] ty #[v, .slice A l.length c]).run Try.prog w = .ok v' w' ∧ OwnB w' base v' (xs ++ l) ∧ w.grownBy w' v.ownBlock := by
  obtain ⟨i0, hi, hz0, hz1, hz2⟩ := parts_of info_u8
  by_cases h0 : l = []
  · subst h0
    rw [List.append_nil]
    cases A with
    | none =>
      rw [hA rfl]
      exact ⟨v, w, run_append_owned_none w base 22 ty _ i0 1 Try.underlying22 hi v _ _ hown, hown, ⟨rfl, rfl, rfl, Nat.le_refl _, fun _ _ _ => rfl⟩⟩
    | some ad =>
      obtain ⟨v', w', h1, h2, h3, _⟩ := run_append_own (P := Try.prog) w base 22 ty _ i0 (.int .u8 0) 1 1 Try.underlying22 hi hz0 hz1 hz2 rfl (by decide) v _ _ hown ad 0 c [] rfl (fun j u hu => by simp at hu) (fun u hu => by simp at hu) (by unfold maxLen; simp at hb; omega) (by simp at hb; omega) hbase
      rw [List.append_nil] at h2
      exact ⟨v', w', h1, h2, h3⟩
  · obtain ⟨b, off, rfl, hc⟩ := hB (List.length_pos_iff.2 h0)
    obtain ⟨v', w', h1, h2, h3, _⟩ := run_append_own (P := Try.prog) w base 22 ty _ i0 (.int .u8 0) 1 1 Try.underlying22 hi hz0 hz1 hz2 rfl (by decide) v _ _ hown ⟨b, off, none⟩ l.length c (l.map byteV) (by rw [List.length_map, Nat.mul_one]) (byts_news hB) (one_byte l) (by unfold maxLen; omega) (by omega) hbase
    refine ⟨v', w', h1, ?_, h3⟩
    unfold OwnB
    rw [List.length_append, List.map_append]
    exact h2
theorem OwnB.lt {w : World} {base : Nat} {v : Value} {l : List Nat} (h : OwnB w base v l) : ∀ k, v.ownBlock = some k → base ≤ k ∧ k < w.heap.size := World.ownsRow.lt h
theorem grown_below {w w' : World} {base : Nat} {v : Value} {l : List Nat} (h : OwnB w base v l) (hg : w.grownBy w' v.ownBlock) (hbase : base ≤ w.heap.size) : Below base w w' := (Below.refl base w).grown hg hbase (fun g e => (h.lt g e).1)

/-- The step of an append. -/
theorem wpList_app {w : World} {ops : Array Oper} {rest : List Oper} {o : Oper} {a : Act} {Q : Exit → Act → World → Prop} (hgd : o.guard = none) (s x : Operand)
    (ho : o.op = .call { callee := .builtin .append, args := #[s, x], argTypes := #[22, 22] }) (base : Nat) (v : Value) (xs : List Nat) (hs : a.eval s = v) (hown : OwnB w base v xs)
    (A : Option Addr) (n c : Nat) (l : List Nat) (hx : a.eval x = .slice A n c) (hn : n = l.length) (hB : Byts w A l) (hA : A = none → c = 0) (hb : xs.length + l.length ≤ 140737488355328) (hbase : base ≤ w.heap.size)
    (h : ∀ v' w', OwnB w' base v' (xs ++ l) → Below base w w' → w.grownBy w' v.ownBlock → wpList Try.prog ops Q rest (a.put o.dst v') w') : wpList Try.prog ops Q (o :: rest) a w := by
  subst hn
  refine wpList_plain hgd fun _ hK => ?_
  obtain ⟨v', w', hr, h2, h3⟩ := run_app w o.type base v xs hown A c l hB hA hb hbase
  unfold Oper.wp execOp
  simp only [ho, resolve, invoke, builtin, Sem.run_bind, Sem.run_pure, Result.andThen_ok, List.map_toArray, List.map_cons, List.map_nil, hs, hx, hr]
  exact hK _ _ (h v' w' h2 (grown_below hown h3 hbase) h3)
theorem wpListIn_app {F : Fence} {n' : Nat} {w : World} {ops : Array Oper} {rest : List Oper} {o : Oper} {a : Act} {Q : Exit → Act → World → Prop} (hgd : o.guard = none) (s x : Operand)
    (ho : o.op = .call { callee := .builtin .append, args := #[s, x], argTypes := #[22, 22] }) (base : Nat) (v : Value) (xs : List Nat) (hs : a.eval s = v) (hown : OwnB w base v xs)
    (A : Option Addr) (n c : Nat) (l : List Nat) (hx : a.eval x = .slice A n c) (hn : n = l.length) (hB : Byts w A l) (hA : A = none → c = 0) (hb : xs.length + l.length ≤ 140737488355328) (hbase : base ≤ w.heap.size)
    (h : ∀ v' w', OwnB w' base v' (xs ++ l) → Below base w w' → w.grownBy w' v.ownBlock → wpListIn F n' Try.prog ops Q rest (a.put o.dst v') w') : wpListIn F n' Try.prog ops Q (o :: rest) a w := by
  subst hn
  refine wpListIn_plain hgd fun _ hK => ?_
  obtain ⟨v', w', hr, h2, h3⟩ := run_app w o.type base v xs hown A c l hB hA hb hbase
  unfold Oper.wpIn
  refine ⟨?_, ?_⟩
  · simp [Oper.about, ho, resolve, Target.leads, Sem.run_pure]
  · rw [Oper.semAt_plain F _ _ (by rw [ho]; intro c hc'; cases hc')]
    simp [execOp, ho, resolve, invoke, builtin, hs, hx, hr, Result.andThen]
    exact hK _ _ (h v' w' h2 (grown_below hown h3 hbase) h3)

/-- Where an append has come to. -/
theorem below_two {w w1 : World} {o1 o2 : Obj} (h : Below w.heap.size ((w.alloc o1).alloc o2) w1) : Below w.heap.size w w1 := (((Below.refl _ w).alloc (Nat.le_refl _) _).alloc (by simp) _).trans h
theorem below_one {w w1 : World} {o1 : Obj} (h : Below w.heap.size (w.alloc o1) w1) : Below w.heap.size w w1 := ((Below.refl _ w).alloc (Nat.le_refl _) _).trans h

/-- A number's four bytes, the lowest first. -/
def le4 (s : Nat) : List Nat := [s % 256, s / 256 % 256, s / 65536 % 256, s / 16777216 % 256]
/-- How many, as two bytes, and they. -/
def headL (l : List Nat) : List Nat := [l.length / 256, l.length % 256] ++ l
/-- The record. -/
def recL (l : List Nat) : List Nat := headL l ++ le4 (crc (headL l))
theorem recL_length (l : List Nat) : (recL l).length = l.length + 6 := by simp [recL, headL, le4]
theorem headL_length (l : List Nat) : (headL l).length = l.length + 2 := by simp [headL]
theorem oct_head {l : List Nat} (h : Oct l) (hn : l.length ≤ 400) : Oct (headL l) := by
  unfold headL
  refine Oct.append (fun x hx => ?_) h
  simp at hx
  rcases hx with rfl | rfl <;> omega
theorem oct_le4 (s : Nat) : Oct (le4 s) := by
  intro x hx
  simp [le4] at hx
  rcases hx with rfl | rfl | rfl | rfl <;> omega
theorem oct_rec {l : List Nat} (h : Oct l) (hn : l.length ≤ 400) : Oct (recL l) := Oct.append (oct_head h hn) (oct_le4 _)
end Go.Proofs.Ytmopipclheohcaa
