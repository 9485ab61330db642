/-
  Bytes appended to a slice of the call's own, from whatever slice, and where they lie behind it; what a call may have turned, by blocks; structs in blocks of their own.
-/
import Derived.Test.YtjlhmiajklddiaaRowB
import Derived.Test.YtjlhmiajklddiaaNum
import Derived.Test.YtjlhmiajklddiaaProg
import Derived.Deep.Draws
import Derived.Maps.AppendAt
import Derived.Deep.AppendLies
import Derived.Deep.RegionLaw
import Derived.WalkKit
import Derived.OwnWalk
import Derived.OwnWalkIn
namespace Go.Proofs.Ytjlhmiajklddiaa
set_option maxRecDepth 8000
open Go.RowKit

theorem info_u8 : (Try.prog.info? 5).map (fun i => (i.zero, i.size, i.bytes)) = some (some (.int .u8 0), 1, 1) := by kernel_rfl
theorem parts_of {P : Program} {t : TypeId} {z : Value} {s b : Nat} (h : (P.info? t).map (fun i => (i.zero, i.size, i.bytes)) = some (some z, s, b)) : ∃ i0, P.info? t = some i0 ∧ i0.zero = some z ∧ i0.size = s ∧ i0.bytes = b := by
  cases hi : P.info? t with
  | none => rw [hi] at h; cases h
  | some i => rw [hi] at h; simp at h; exact ⟨i, rfl, h.1, h.2.1, h.2.2⟩

/-- A slice value that is the call's own (blocks from base on), and its bytes. -/
def OwnB (w : World) (base : Nat) (v : Value) (l : List Nat) : Prop := w.ownsRow base 5 1 v l.length (l.map byteV)
theorem OwnB.form {w : World} {base : Nat} {v : Value} {l : List Nat} (h : OwnB w base v l) :
    ∃ A c, v = .slice A l.length c ∧ Byts w A l ∧ l.length ≤ c ∧ c ≤ 9223372036854775807 ∧ (A = none → c = 0) ∧ (∀ b o s, A = some ⟨b, o, s⟩ → base ≤ b) := by
  obtain ⟨_, A, c, e, h1, h2, h3, h4⟩ := byts_own h
  refine ⟨A, c, e, h1, h2, h3, fun hA => ?_, h4⟩
  rcases h.2 with ⟨e2, _⟩ | ⟨g, cap, cur, e2, _⟩
  · rw [e] at e2; injection e2 with _ _ e3
  · rw [e] at e2; injection e2 with e3; rw [hA] at e3; cases e3
theorem OwnB.alloc {w : World} {base : Nat} {v : Value} {l : List Nat} (h : OwnB w base v l) (o : Obj) : OwnB (w.alloc o) base v l := World.ownsRow.alloc h o
theorem OwnB.drew {w : World} {base : Nat} {v : Value} {l : List Nat} (h : OwnB w base v l) : OwnB w.drew base v l := World.ownsRow.kept (row := none) h ⟨rfl, rfl, rfl, Nat.le_refl _, fun _ _ _ => rfl⟩ (by cases hv : v.ownBlock <;> simp)
theorem ownB_nil (w : World) (base : Nat) : OwnB w base (.slice none 0 0) [] := World.ownsRow_nil w base _ 1
/-- A new slice of so many places, none of them taken. -/
theorem ownB_made (w : World) (base : Nat) (cur : Array Value) (cap : Nat) (hb : base ≤ w.heap.size) (hm : cap ≤ 9223372036854775807) (hs : cur.size = cap) (n : Nat) (hn : n = w.heap.size) : OwnB (w.alloc (.cells cur 5)) base (.slice (some ⟨n, 0, none⟩) 0 cap) [] := by
  subst hn
  exact World.ownsRow_made w cur cap hb hm (by rw [hs, Nat.mul_one])
/-- A slice that is written out. -/
theorem ownB_lit (w : World) (base : Nat) (cs : Array Value) (l : List Nat) (hb : base ≤ w.heap.size) (hm : l.length ≤ 9223372036854775807) (hs : cs.toList = l.map byteV) (n : Nat) (hn : n = w.heap.size) (k : Nat) (hk : k = l.length) : OwnB (w.alloc (.cells cs 5)) base (.slice (some ⟨n, 0, none⟩) k k) l := by
  subst hn; subst hk
  unfold OwnB
  rw [← hs]
  exact World.ownsRow_lit w cs l.length hb hm (by rw [← Array.length_toList, hs, List.length_map, Nat.mul_one])
theorem byts_new (w : World) (t : TypeId) (cs : Array Value) (l : List Nat) (h : cs.toList = l.map byteV) (n : Nat) (hn : n = w.heap.size) : Byts (w.alloc (.cells cs t)) (some ⟨n, 0, none⟩) l := by
  subst hn
  intro _
  refine ⟨_, _, rfl, fun i hi => ?_⟩
  rw [Nat.zero_add, World.cell?_alloc_new, ← Array.getElem?_toList, h, List.getElem?_map, List.getD_eq_getElem?_getD, List.getElem?_eq_getElem hi]
  rfl
theorem byts_news {w : World} {b off : Nat} {l : List Nat} (h : Byts w (some ⟨b, off, none⟩) l) : ∀ j u, (l.map byteV)[j]? = some u → w.cell? ((⟨b, off, none⟩ : Addr).add j) = some u := by
  intro j u hu
  rw [List.getElem?_map] at hu
  rcases Nat.lt_or_ge j l.length with hj | hj
  · rw [List.getElem?_eq_getElem hj] at hu
    injection hu with hu
    obtain ⟨b', off', e, hc⟩ := h (by omega)
    injection e with e; injection e with e1 e2; subst e1; subst e2
    rw [Go.WideShapes.add_plain, hc j hj, ← hu, List.getD_eq_getElem?_getD, List.getElem?_eq_getElem hj]
    rfl
  · rw [List.getElem?_eq_none hj] at hu; cases hu
theorem one_byte (l : List Nat) : ∀ u ∈ l.map byteV, u.oneCell' = true := by
  intro u hu
  obtain ⟨_, _, rfl⟩ := List.mem_map.1 hu
  rfl
/-- The new value lies where the elder one did, or in a new block. -/
def Moved (w : World) (v v' : Value) : Prop := v'.ownBlock = v.ownBlock ∨ v'.ownBlock = some w.heap.size
theorem OwnB.lt {w : World} {base : Nat} {v : Value} {l : List Nat} (h : OwnB w base v l) : ∀ k, v.ownBlock = some k → base ≤ k ∧ k < w.heap.size := World.ownsRow.lt h
theorem grown_below {w w' : World} {base : Nat} {v : Value} {l : List Nat} (h : OwnB w base v l) (hg : w.grownBy w' v.ownBlock) (hbase : base ≤ w.heap.size) : Below base w w' := (Below.refl base w).grown hg hbase (fun g e => (h.lt g e).1)

/-- Where an append has come to. -/
theorem below_two {w w1 : World} {o1 o2 : Obj} (h : Below w.heap.size ((w.alloc o1).alloc o2) w1) : Below w.heap.size w w1 := (((Below.refl _ w).alloc (Nat.le_refl _) _).alloc (by simp) _).trans h
theorem below_one {w w1 : World} {o1 : Obj} (h : Below w.heap.size (w.alloc o1) w1) : Below w.heap.size w w1 := ((Below.refl _ w).alloc (Nat.le_refl _) _).trans h


/-- What a call may have turned: of the elder blocks those of X alone. -/
structure Touch (X : Nat → Prop) (w w' : World) : Prop where
  os : w'.os = w.os
  tape : w'.tape = w.tape
  output : w'.output = w.output
  size : w.heap.size ≤ w'.heap.size
  block : ∀ k, k < w.heap.size → ¬ X k → w'.heap[k]? = w.heap[k]?
theorem Touch.refl (X : Nat → Prop) (w : World) : Touch X w w := ⟨rfl, rfl, rfl, Nat.le_refl _, fun _ _ _ => rfl⟩
theorem Touch.trans {X Y : Nat → Prop} {a b c : World} (h : Touch X a b) (k : Touch Y b c) (hY : ∀ i, i < a.heap.size → Y i → X i) : Touch X a c :=
  ⟨k.os.trans h.os, k.tape.trans h.tape, k.output.trans h.output, Nat.le_trans h.size k.size, fun i hi hx => (k.block i (Nat.lt_of_lt_of_le hi h.size) (fun hy => hx (hY i hi hy))).trans (h.block i hi hx)⟩
theorem Touch.mono {X Y : Nat → Prop} {a b : World} (h : Touch X a b) (hX : ∀ i, X i → Y i) : Touch Y a b := ⟨h.os, h.tape, h.output, h.size, fun i hi hy => h.block i hi (fun hx => hy (hX i hx))⟩
theorem Touch.of_below {w w' : World} (X : Nat → Prop) (h : Below w.heap.size w w') : Touch X w w' := ⟨h.os, h.tape, h.output, h.size, fun k hk _ => h.block k hk⟩
theorem Touch.below {X : Nat → Prop} {w w' : World} {B : Nat} (h : Touch X w w') (hB : B ≤ w.heap.size) (hX : ∀ k, X k → B ≤ k) : Below B w w' :=
  ⟨h.os, h.tape, h.output, h.size, fun k hk => h.block k (by omega) (fun hx => by have := hX k hx; omega)⟩
theorem Touch.grown {w w' : World} {row : Option Nat} (h : w.grownBy w' row) : Touch (fun k => row = some k) w w' := ⟨h.os, h.tape, h.output, h.size, fun k hk hx => h.block k hk (fun e => hx e.symm)⟩
theorem Touch.setCell (w : World) (p : Addr) (u : Value) : Touch (fun k => k = p.block) w (w.setCell p u) := ⟨rfl, rfl, rfl, by simp [World.setCell], fun k _ hx => Below.heap_setCell _ _ _ _ hx⟩
theorem Touch.drew {X : Nat → Prop} {a w : World} (h : Touch X a w) : Touch X a w.drew := ⟨h.os, h.tape, h.output, h.size, h.block⟩
theorem OwnB.touch {X : Nat → Prop} {w w' : World} {base : Nat} {v : Value} {l : List Nat} (h : OwnB w base v l) (ht : Touch X w w') (hx : ∀ k, v.ownBlock = some k → ¬ X k) : OwnB w' base v l := by
  refine ⟨h.1, ?_⟩
  rcases h.2 with hn | ⟨g, cap, cur, rfl, hg, hgg, rest⟩
  · exact .inl hn
  · exact .inr ⟨g, cap, cur, rfl, hg, by rw [ht.block g (Array.getElem?_eq_some_iff.1 hgg).1 (hx g rfl)]; exact hgg, rest⟩
theorem OwnB.keep {w w' : World} {base : Nat} {v : Value} {l : List Nat} (h : OwnB w base v l) (hb : Below w.heap.size w w') : OwnB w' base v l := h.touch (Touch.of_below (fun _ => False) hb) (fun _ _ h => h)
theorem OwnB.base {w : World} {base base' : Nat} {v : Value} {l : List Nat} (h : OwnB w base v l) (hb : base' ≤ base) : OwnB w base' v l := by
  refine ⟨h.1, ?_⟩
  rcases h.2 with hn | ⟨g, cap, cur, rfl, hg, rest⟩
  · exact .inl hn
  · exact .inr ⟨g, cap, cur, rfl, by omega, rest⟩
/-- A front of a slice of the call's own. -/
theorem OwnB.front {w : World} {base : Nat} {A : Option Addr} {n c : Nat} {l : List Nat} (h : OwnB w base (.slice A n c) l) (m : Nat) (hm : m ≤ l.length) : OwnB w base (.slice A m c) (l.take m) := by
  have hl : (l.take m).length = m := by rw [List.length_take]; omega
  refine ⟨by simp, ?_⟩
  rcases h.2 with ⟨e, h0⟩ | ⟨g, cap, cur, e, hg, hgg, h1, h2, h3, h4⟩
  · injection e with e1 e2 e3
    subst e1; subst e3
    have : m = 0 := by omega
    subst this
    exact .inl ⟨rfl, rfl⟩
  · injection e with e1 e2 e3
    subst e1; subst e3
    refine .inr ⟨g, c, cur, by rw [hl], hg, hgg, by rw [hl]; omega, h2, h3, ?_⟩
    rw [hl, Nat.mul_one, List.map_take]
    rw [Nat.mul_one] at h4
    rw [← h4, List.take_take]
    congr 1
    omega

/-- A struct in a block of its own. -/
def Rec (w : World) (b : Nat) (t : TypeId) (cs : List Value) : Prop := w.heap[b]? = some (.cells cs.toArray t (0, 0))
theorem Rec.lt {w : World} {b : Nat} {t : TypeId} {cs : List Value} (h : Rec w b t cs) : b < w.heap.size := (Array.getElem?_eq_some_iff.1 h).1
theorem Rec.cell {w : World} {b : Nat} {t : TypeId} {cs : List Value} (h : Rec w b t cs) (i : Nat) {u : Value} (hu : cs[i]? = some u) : w.cell? ⟨b, i, none⟩ = some u := by simp [World.cell?, show w.heap[b]? = _ from h, hu]
theorem Rec.frozen {w : World} {b : Nat} {t : TypeId} {cs : List Value} (h : Rec w b t cs) (i : Nat) : w.frozen? ⟨b, i, none⟩ = false := by simp [World.frozen?, show w.heap[b]? = _ from h]
theorem Rec.new (w : World) (t : TypeId) (cs : List Value) (b : Nat) (hb : b = w.heap.size) : Rec (w.alloc (.cells cs.toArray t)) b t cs := by subst hb; exact heap_alloc_new w _
theorem Rec.set {w : World} {b : Nat} {t : TypeId} {cs : List Value} (h : Rec w b t cs) (i : Nat) (u : Value) : Rec (w.setCell ⟨b, i, none⟩ u) b t (cs.set i u) := by
  obtain ⟨hlt, hk⟩ := Array.getElem?_eq_some_iff.1 h
  show (w.heap.modify b _)[b]? = _
  rw [Array.getElem?_eq_getElem (by rw [Array.size_modify]; exact hlt), Array.getElem_modify_self, hk]
  simp
theorem Rec.touch {X : Nat → Prop} {w w' : World} {b : Nat} {t : TypeId} {cs : List Value} (h : Rec w b t cs) (ht : Touch X w w') (hx : ¬ X b) : Rec w' b t cs := (ht.block b h.lt hx).trans h
theorem Rec.keep {w w' : World} {b : Nat} {t : TypeId} {cs : List Value} (h : Rec w b t cs) (hb : Below w.heap.size w w') : Rec w' b t cs := (hb.block b h.lt).trans h
theorem Rec.drew {w : World} {b : Nat} {t : TypeId} {cs : List Value} (h : Rec w b t cs) : Rec w.drew b t cs := h
/-- A row of bytes is no struct. -/
theorem Rec.not_row {w : World} {b : Nat} {t : TypeId} {cs : List Value} (h : Rec w b t cs) (ht : t ≠ 5) {base : Nat} {v : Value} {l : List Nat} (ho : OwnB w base v l) : v.ownBlock ≠ some b := by
  rcases ho.2 with ⟨rfl, _⟩ | ⟨g, cap, cur, rfl, _, hgb, _⟩
  · simp [Value.ownBlock]
  · intro e
    obtain rfl : g = b := by simpa [Value.ownBlock] using e
    have := (show w.heap[g]? = _ from h).symm.trans hgb
    simp at this
    exact ht this.2
/-- Structs of different types lie apart. -/
theorem Rec.ne {w : World} {b b' : Nat} {t t' : TypeId} {cs cs' : List Value} (h : Rec w b t cs) (h' : Rec w b' t' cs') (ht : t ≠ t') : b ≠ b' := by
  rintro rfl
  have := (show w.heap[b]? = _ from h).symm.trans h'
  simp at this
  exact ht this.2
theorem Byts.touch {X : Nat → Prop} {w w' : World} {A : Option Addr} {l : List Nat} (h : Byts w A l) (ht : Touch X w w') (hx : ∀ b off, A = some ⟨b, off, none⟩ → 0 < l.length → ¬ X b) : Byts w' A l := by
  intro h0
  obtain ⟨b, off, e, hc⟩ := h h0
  refine ⟨b, off, e, fun i hi => ?_⟩
  have hlt := block_lt (hc i hi)
  rw [World.cell?_of_block (a := ⟨b, off + i, none⟩) (ht.block b hlt (hx b off e h0))]
  exact hc i hi
theorem Touch.drewN {X : Nat → Prop} {a w : World} (h : Touch X a w) (n : Nat) : Touch X a (w.drewN n) := ⟨h.os, h.tape, h.output, h.size, h.block⟩
theorem Byts.drewN {w : World} {A : Option Addr} {l : List Nat} (h : Byts w A l) (n : Nat) : Byts (w.drewN n) A l := h.touch ((Touch.refl (fun _ => False) w).drewN n) (fun _ _ _ _ h => h)
end Go.Proofs.Ytjlhmiajklddiaa
