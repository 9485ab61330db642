import Derived.Test.YtmpipjangbedkaaGreatMJo1
import Derived.Deep.Matrix
import Derived.Deep.Slices
import Derived.OpenShut
import Derived.Lib.SmallJoins
import Derived.Test.YtmpipjangbedkaaGreatMPq1
/-
  A slice of acts in memory, and as an argument.
-/
namespace Go.Proofs.YtmpipjangbedkaaGreat
set_option maxRecDepth 8000
open Go.RowKit
set_option linter.unusedVariables false

/-- An act. -/
structure JAct where
  kind : Nat
  seed : Nat
  b : List Nat
  n : Int
  keep : Int
def JAct.zero : JAct := ⟨0, 0, [], 0, 0⟩
instance : Inhabited JAct := ⟨JAct.zero⟩
/-- What holds of each. -/
structure JAct.Ok (a : JAct) (c : Nat) (A : Option Addr) : Prop where
  kind : a.kind < 256
  seed : a.seed < 18446744073709551616
  oct : Oct a.b
  nil : A = none → c = 0
  len : a.b.length ≤ c
  cap : c ≤ 9223372036854775807
  n : I64 a.n
  keep : I64 a.keep
/-- An act's cells. -/
def JActAt (w : World) (b o : Nat) (a : JAct) (A : Option Addr) (c : Nat) : Prop :=
  w.cell? ⟨b, o, none⟩ = some (.int .u8 (a.kind : Int)) ∧ w.cell? ⟨b, o + 1, none⟩ = some (.int .u64 (a.seed : Int)) ∧ w.cell? ⟨b, o + 2, none⟩ = some (.slice A a.b.length c) ∧ w.cell? ⟨b, o + 3, none⟩ = some (.int .i64 a.n) ∧ w.cell? ⟨b, o + 4, none⟩ = some (.int .i64 a.keep) ∧ Byts w A a.b
theorem JActAt.below {w w' : World} {b o : Nat} {a : JAct} {A : Option Addr} {c : Nat} (h : JActAt w b o a A c) (hb : Below w.heap.size w w') : JActAt w' b o a A c :=
  ⟨(hb.cell (p := ⟨b, o, none⟩) (block_lt h.1)).trans h.1, (hb.cell (p := ⟨b, o + 1, none⟩) (block_lt h.2.1)).trans h.2.1, (hb.cell (p := ⟨b, o + 2, none⟩) (block_lt h.2.2.1)).trans h.2.2.1, (hb.cell (p := ⟨b, o + 3, none⟩) (block_lt h.2.2.2.1)).trans h.2.2.2.1, (hb.cell (p := ⟨b, o + 4, none⟩) (block_lt h.2.2.2.2.1)).trans h.2.2.2.2.1, h.2.2.2.2.2.below hb⟩
/-- A slice value's places read as these acts. -/
def JActs (w : World) (A : Option Addr) (l : List JAct) : Prop :=
  0 < l.length → ∃ b off, A = some ⟨b, off, none⟩ ∧ ∀ i, i < l.length → ∃ A' c', JActAt w b (off + i * 5) (l.getD i JAct.zero) A' c' ∧ (l.getD i JAct.zero).Ok c' A'
theorem JActs.below {w w' : World} {A : Option Addr} {l : List JAct} (h : JActs w A l) (hb : Below w.heap.size w w') : JActs w' A l := by
  intro h0
  obtain ⟨b, off, e, hc⟩ := h h0
  refine ⟨b, off, e, fun i hi => ?_⟩
  obtain ⟨A', c', h1, h2⟩ := hc i hi
  exact ⟨A', c', h1.below hb, h2⟩
theorem JActs.one {w : World} {A : Option Addr} {l : List JAct} (h : JActs w A l) {i : Nat} (hi : i < l.length) : ∃ b off A' c', A = some ⟨b, off, none⟩ ∧ (∀ V, Below w.heap.size w V → JActAt V b (off + i * 5) (l.getD i JAct.zero) A' c') ∧ (∀ bb o, A' = some ⟨bb, o, none⟩ → 0 < (l.getD i JAct.zero).b.length → bb < w.heap.size) ∧ (l.getD i JAct.zero).Ok c' A' := by
  obtain ⟨b, off, e, hc⟩ := h (by omega)
  obtain ⟨A', c', h1, h2⟩ := hc i hi
  exact ⟨b, off, A', c', e, fun V hV => h1.below hV, (fun bb o e h0 => byts_lt h1.2.2.2.2.2 e h0), h2⟩
section
open Go.ChangeShapes Go.WideShapes Go.Deep
variable {H : Type} {enc : TypeId × Value → H} {w : World} {base : Nat} {hld : Bool}
theorem trod_struct5 {P : Program} {spare : Nat → Bool} {t : TypeId} {f0 f1 f2 f3 f4 : Field} {fuel : Nat} {cs : List Value} {x : DataW H × List MemPlace} (ht : P.underlying t = some (.struct #[f0, f1, f2, f3, f4])) (h : DataW.trod enc P w base spare hld fuel t cs = some x) :
    ∃ y0 y1 y2 y3 y4 n, DataW.trod enc P w base spare hld n f0.type ((cs.drop f0.offset).take (P.cellsOf f0.type)) = some y0 ∧
      DataW.trod enc P w base spare hld n f1.type ((cs.drop f1.offset).take (P.cellsOf f1.type)) = some y1 ∧ DataW.trod enc P w base spare hld n f2.type ((cs.drop f2.offset).take (P.cellsOf f2.type)) = some y2 ∧
      DataW.trod enc P w base spare hld n f3.type ((cs.drop f3.offset).take (P.cellsOf f3.type)) = some y3 ∧ DataW.trod enc P w base spare hld n f4.type ((cs.drop f4.offset).take (P.cellsOf f4.type)) = some y4 := by
  obtain ⟨xs, n, _, rfl, hl, hlen, hf⟩ := DataW.trod_struct ht h
  match xs, hlen with
  | [y0, y1, y2, y3, y4], _ => exact ⟨y0, y1, y2, y3, y4, n, by simpa using hf 0 f0 rfl, by simpa using hf 1 f1 rfl, by simpa using hf 2 f2 rfl, by simpa using hf 3 f3 rfl, by simpa using hf 4 f4 rfl⟩
theorem open_jacts {a : Option Addr} {len cap fuel : Nat} {x : DataW H × List MemPlace} (h : DataW.trod enc Tryz.prog w base (fun _ => true) hld fuel 23 [.slice a len cap] = some x) :
    ∃ l : List JAct, l.length = len ∧ JActs w a l ∧ len ≤ 9223372036854775807 := by
  rcases open_slice Tryz.underlying23 h with ⟨hcs, _⟩ | ⟨ad, len', cap', m, n, D, Pl, hcs, _, hl, hm, hmm, _, hx⟩
  · simp at hcs
    obtain ⟨rfl, rfl, rfl⟩ := hcs
    exact ⟨[], rfl, fun h => absurd h (by simp), by omega⟩
  · simp at hcs
    obtain ⟨rfl, rfl, rfl⟩ := hcs
    simp at hmm
    subst hmm
    unfold maxLen at hm
    have ce : Tryz.prog.cellsOf 28 = 5 := by kernel_rfl
    rw [ce] at hx
    have c0 : Tryz.prog.cellsOf 5 = 1 := by kernel_rfl
    have c1 : Tryz.prog.cellsOf 26 = 1 := by kernel_rfl
    have c2 : Tryz.prog.cellsOf 3 = 1 := by kernel_rfl
    have c3 : Tryz.prog.cellsOf 25 = 1 := by kernel_rfl
    have hsp : 0 < len → ad.spot = none := by
      intro h0
      obtain ⟨cs', h1, _⟩ := hx 0 (by omega)
      obtain ⟨_, hlen, hcell⟩ := World.cells?_some h1
      have e0 := hcell 0 (by omega)
      rw [add_add] at e0
      match cs', hlen with
      | [v0, vS, v1, v2, v3], _ =>
        obtain ⟨b1, off1, s1⟩ := ad
        simpa [Addr.add] using World.cell?_spot e0
    have each : ∀ i, i < len → ∃ q : JAct × Option Addr × Nat, JActAt w ad.block (ad.off + i * 5) q.1 q.2.1 q.2.2 ∧ q.1.Ok q.2.2 q.2.1 := by
      intro i hi
      have hs := hsp (by omega)
      obtain ⟨cs', h1, h2⟩ := hx i (by omega)
      obtain ⟨_, hlen, hcell⟩ := World.cells?_some h1
      obtain ⟨y0, yS, y1, y2, y3, k, g0, gS, g1, g2, g3⟩ := trod_struct5 Tryz.underlying28 h2
      obtain ⟨b1, off1, s1⟩ := ad
      simp only at hs
      subst hs
      match cs', hlen with
      | [v0, vS, v1, v2, v3], _ =>
        have e0 := hcell 0 (by omega)
        have eS := hcell 1 (by omega)
        have e1 := hcell 2 (by omega)
        have e2 := hcell 3 (by omega)
        have e3 := hcell 4 (by omega)
        rw [add_add, add_plain] at e0 eS e1 e2 e3
        simp [c0, c1, c2, c3] at g0 gS g1 g2 g3
        obtain ⟨sd, fS, _, wS⟩ := DataW.trod_int Tryz.underlying25 gS
        obtain ⟨kd, f0, _, w0⟩ := DataW.trod_int Tryz.underlying5 g0
        obtain ⟨N, f2, _, w2⟩ := DataW.trod_int Tryz.underlying3 g2
        obtain ⟨K, f3, _, w3⟩ := DataW.trod_int Tryz.underlying3 g3
        simp only [List.cons.injEq, and_true] at f0 fS f2 f3
        subst fS; subst f0; subst f2; subst f3
        have hk := wf_u8 w0
        obtain ⟨kn, rfl⟩ := Int.eq_ofNat_of_zero_le hk.1
        have hsd : 0 ≤ sd ∧ sd < 18446744073709551616 := by simp [Lit.wf, IntKind.min, IntKind.max, IntKind.bits, IntKind.signed] at wS; omega
        obtain ⟨sn, rfl⟩ := Int.eq_ofNat_of_zero_le hsd.1
        have hN : I64 N := by simp [Lit.wf, IntKind.min, IntKind.max, IntKind.bits, IntKind.signed] at w2; unfold I64; omega
        have hK : I64 K := by simp [Lit.wf, IntKind.min, IntKind.max, IntKind.bits, IntKind.signed] at w3; unfold I64; omega
        obtain ⟨A', ln, c', l, rfl, hl1, k2, k3, k4, k6, k7⟩ : ∃ A' ln c', ∃ l : List Nat, v1 = .slice A' ln c' ∧ l.length = ln ∧ Byts w A' l ∧ Oct l ∧ (A' = none → c' = 0) ∧ ln ≤ c' ∧ c' ≤ 9223372036854775807 := by
          rcases open_ints Tryz.underlying26 Tryz.underlying5 c0 g1 with ⟨hcs, _⟩ | ⟨x, l, c, zs, hcs, _, hl, hm, hz, _, hcl, hwz⟩
          · simp at hcs
            subst hcs
            obtain ⟨l, r1, r2, r3, r4, _, r5, r6, _⟩ := row_byts2 (w := w) (a := none) (len := 0) (cap := 0) (zs := []) (.inl ⟨rfl, rfl, rfl, rfl⟩)
            exact ⟨none, 0, 0, l, rfl, r1, r2, r3, r4, r5, r6⟩
          · simp at hcs
            subst hcs
            obtain ⟨l', r1, r2, r3, r4, _, r5, r6, r7⟩ := row_byts2 (zs := zs) (.inr ⟨_, rfl, hl, hm, by simpa using hz, hcl, hwz⟩)
            exact ⟨_, _, _, l', rfl, r1, r2, r3, (fun h => by cases h), r5, r6⟩
        subst hl1
        exact ⟨(⟨kn, sn, l, N, K⟩, A', c'), ⟨by simpa using e0, by simpa [Nat.add_assoc] using eS, by simpa [Nat.add_assoc] using e1, by simpa [Nat.add_assoc] using e2, by simpa [Nat.add_assoc] using e3, k2⟩, ⟨by simp only; omega, by simp only; omega, k3, k4, k6, k7, hN, hK⟩⟩
    obtain ⟨q, hq⟩ := choose_lt each
    refine ⟨(List.range len).map fun i => (q i).1, by simp, fun h0 => ?_, by omega⟩
    simp only [List.length_map, List.length_range] at h0
    have hs := hsp h0
    obtain ⟨b1, off1, s1⟩ := ad
    simp only at hs
    subst hs
    refine ⟨b1, off1, rfl, fun i hi => ?_⟩
    simp only [List.length_map, List.length_range] at hi
    have hg : ((List.range len).map fun i => (q i).1).getD i JAct.zero = (q i).1 := by
      rw [List.getD_eq_getElem?_getD, List.getElem?_map, List.getElem?_range hi]
      rfl
    rw [hg]
    exact ⟨_, _, (hq i hi).1, (hq i hi).2⟩
end
end Go.Proofs.YtmpipjangbedkaaGreat

/-
  The law of Dag2 for a region with ONE call (place e0) that turns what some values speak of: what is told of a value may hang on whether that call is behind. No program is named here.
-/
namespace Go.Proofs.YtmpipjangbedkaaGreat
set_option maxRecDepth 8000
open Go

section
variable {P : Program} {Q : Exit → Act → World → Prop}
theorem beq_ne_false {i j : Nat} (h : i ≠ j) : Nat.beq i j = false := by
  cases hb : Nat.beq i j with
  | false => rfl
  | true => exact absurd (Nat.eq_of_beq_eq_true hb) h
/-- What an operation must do. -/
def StepOne (P : Program) (ops : Array Oper) (Q : Exit → Act → World → Prop) (D : List Nat) (a0 : Act) (e0 : Nat) (Gr GrE : World → World → Prop) (Wp : World → Prop) (Pv : Bool → Nat → Value → World → Prop) (i : Nat) (o : Oper) : Prop :=
  ∀ (a : Act) (W : World) (K : Act → World → Prop) (β : Bool), (i = e0 → β = false) → Off D a0 a → Wp W → (∀ e ∈ o.after, Region.binds .any e = true → ∀ o', ops[e.on]? = some o' → Pv β e.on (valOf a o') W) →
    (∀ v W', (bif Nat.beq i e0 then GrE W W' else Gr W W') → Wp W' → Pv (β || Nat.beq i e0) i (match o.dst with | some _ => v | none => undef) W' → K (a.put o.dst v) W') →
    if Region.wanted o (yielded ops a.tmps) = true then Oper.wp P o a W K Q else K (a.put o.dst undef) W
def StepsOne (P : Program) (ops : Array Oper) (Q : Exit → Act → World → Prop) (D : List Nat) (a0 : Act) (e0 : Nat) (Gr GrE : World → World → Prop) (Wp : World → Prop) (Pv : Bool → Nat → Value → World → Prop) : Nat → List Oper → Prop
  | _, [] => True
  | i, o :: r => StepOne P ops Q D a0 e0 Gr GrE Wp Pv i o ∧ StepsOne P ops Q D a0 e0 Gr GrE Wp Pv (i + 1) r
theorem StepsOne.get {ops : Array Oper} {D : List Nat} {a0 : Act} {e0 : Nat} {Gr GrE : World → World → Prop} {Wp : World → Prop} {Pv : Bool → Nat → Value → World → Prop} : ∀ {l : List Oper} {k : Nat}, StepsOne P ops Q D a0 e0 Gr GrE Wp Pv k l → ∀ (j : Nat) (o : Oper), l[j]? = some o → StepOne P ops Q D a0 e0 Gr GrE Wp Pv (k + j) o
  | [], _, _, j, o, hj => by simp at hj
  | x :: r, k, h, 0, o, hj => by
    have : x = o := by simpa using hj
    subst this
    exact h.1
  | x :: r, k, h, j + 1, o, hj => by
    have := StepsOne.get h.2 j o (by simpa using hj)
    rw [show k + (j + 1) = k + 1 + j from by omega]
    exact this
/-- THE LAW. The last operation has no slot. -/
theorem wp_region_oneS {id : Nat} {a0 : Act} {w : World} {l : List Oper} {z : Oper} (D : List Nat) (e0 : Nat) (Gr GrE : World → World → Prop) (Wp : World → Prop) (Pv : Bool → Nat → Value → World → Prop) (Fin : Act → World → Prop) (hm : P.follows .mixedOrders = true) (hac : acycB .any 0 (l ++ [z]) = true) (hdis : disB l = true) (hin : inB D a0.tmps.size l = true)
    (hz : waitsB l.length z = true) (hzd : z.dst = none) (hzg : z.guard = none)
    (stable : ∀ β i v W W', Gr W W' → Pv β i v W → Pv β i v W') (stableE : ∀ i v W W', GrE W W' → Pv false i v W → Pv true i v W')
    (h0 : Wp { w with drawn := w.drawn + 1 })
    (he0 : e0 < l.length) (hst : StepsOne P (l ++ [z]).toArray (NoPanic Q) D a0 e0 Gr GrE Wp Pv 0 l)
    (hlast : ∀ (a : Act) (W : World) (K : Act → World → Prop), Off D a0 a → Wp W → (∀ (i : Nat) (o : Oper), l[i]? = some o → Pv true i (valOf a o) W) → (∀ W', Fin a W' → K a W') → Oper.wp P z a W K (NoPanic Q))
    (hend : ∀ (a : Act) (W : World), Off D a0 a → Fin a W → Q .normal a W) : (Code.region id (l ++ [z]).toArray true).wp P Q a0 w := by
  have hget : ∀ (i : Nat) (o : Oper), l[i]? = some o → (l ++ [z])[i]? = some o := fun i o h => by rw [List.getElem?_append_left (List.getElem?_eq_some_iff.1 h).1]; exact h
  refine wp_region_inv (fun listed a W => Off D a0 a ∧ ((listed.getD l.length false = false ∧ Wp W ∧ ∀ (i : Nat) (o : Oper), l[i]? = some o → listed.getD i false = true → Pv (listed.getD e0 false) i (valOf a o) W) ∨ ((∀ i, i < l.length → listed.getD i false = true) ∧ listed.getD l.length false = true ∧ Fin a W))) hm hac ⟨Off.refl _ _, .inl ⟨?_, h0, fun i o _ h => ?_⟩⟩ ?_ ?_
  · rw [Array.getD_eq_getD_getElem?, Array.getElem?_replicate]
    split <;> rfl
  · rw [Array.getD_eq_getD_getElem?, Array.getElem?_replicate] at h
    split at h <;> simp at h
  · have key : ∀ (j : Nat) (o : Oper), (l ++ [z])[j]? = some o → StepI P .any (l ++ [z]).toArray (NoPanic Q) (fun listed a W => Off D a0 a ∧ ((listed.getD l.length false = false ∧ Wp W ∧ ∀ (i : Nat) (o : Oper), l[i]? = some o → listed.getD i false = true → Pv (listed.getD e0 false) i (valOf a o) W) ∨ ((∀ i, i < l.length → listed.getD i false = true) ∧ listed.getD l.length false = true ∧ Fin a W))) j o := by
      intro i o ho listed a W hJ hl hafter K' hK'
      have hl' : listed.getD i false = false := by
        have h4 := lt_of_unl hl
        rw [Array.getD_eq_getD_getElem?, Array.getElem?_eq_getElem h4] at hl ⊢
        exact hl
      rcases Nat.lt_or_ge i l.length with hi | hi
      · -- one of the others
        have ho2 : l[i]? = some o := by rw [List.getElem?_append_left hi] at ho; exact ho
        rcases hJ.2 with ⟨hnl, hw0, hp0⟩ | ⟨hall, _, _⟩
        · have hs := hst.get i o ho2
          rw [Nat.zero_add] at hs
          have hine := List.all_eq_true.1 hin o (List.mem_of_getElem? ho2)
          refine hs a W K' (listed.getD e0 false) (fun e => by rw [← e]; exact hl') hJ.1 hw0 (fun e he hb o' ho' => ?_) ?_
          · have hlt : e.on < i := by have := acyc_get hac i o ho e he hb; omega
            have ho3 : l[e.on]? = some o' := by
              have h9 : (l ++ [z])[e.on]? = some o' := by simpa using ho'
              rw [List.getElem?_append_left (by omega)] at h9
              exact h9
            exact hp0 e.on o' ho3 (hafter e he hb)
          intro v W' hg hw hp
          have hβ : (listed.setIfInBounds i true).getD e0 false = (listed.getD e0 false || Nat.beq i e0) := by
            by_cases hie : i = e0
            · subst hie
              have h4 := lt_of_unl hl
              rw [show Nat.beq i i = true from Nat.beq_refl i, Bool.or_true]
              simp [Array.getD, h4]
            · rw [show Nat.beq i e0 = false from beq_ne_false hie, Bool.or_false, Array.getD_eq_getD_getElem?, Array.getElem?_setIfInBounds_ne hie, ← Array.getD_eq_getD_getElem?]
          refine hK' _ _ ⟨?_, .inl ⟨?_, hw, fun j o' ho' hj => ?_⟩⟩
          · cases hd : o.dst with
            | none => exact hJ.1
            | some d =>
              rw [hd] at hine
              simp only [Bool.and_eq_true, List.contains_iff_mem] at hine
              exact hJ.1.put hine.1 v
          · rw [Array.getD_eq_getD_getElem?, Array.getElem?_setIfInBounds_ne (by omega), ← Array.getD_eq_getD_getElem?]
            exact hnl
          · rw [hβ]
            rcases getD_set_at hj with rfl | hj
            · rw [ho2] at ho'
              injection ho' with e
              subst e
              unfold valOf
              cases hd : o.dst with
              | none => rw [hd] at hp; exact hp
              | some d =>
                rw [hd] at hp hine
                simp only [Bool.and_eq_true, decide_eq_true_eq] at hine
                simp only [Act.put]
                rw [vget_at _ _ (by rw [hJ.1.size]; exact hine.2)]
                exact hp
            · have h1 : Pv (listed.getD e0 false || Nat.beq i e0) j (valOf a o') W' := by
                have h5 := hp0 j o' ho' hj
                by_cases hie : i = e0
                · subst hie
                  rw [show Nat.beq i i = true from Nat.beq_refl i] at hg ⊢
                  rw [hl'] at h5
                  rw [Bool.or_true]
                  exact stableE _ _ _ _ hg h5
                · rw [show Nat.beq i e0 = false from beq_ne_false hie] at hg ⊢
                  rw [Bool.or_false]
                  exact stable _ _ _ _ _ hg h5
              have e : valOf (a.put o.dst v) o' = valOf a o' := by
                unfold valOf
                cases hd' : o'.dst with
                | none => rfl
                | some d' =>
                  cases hd : o.dst with
                  | none => rfl
                  | some d =>
                    simp only [Act.put]
                    refine vget_ne _ _ fun e => ?_
                    subst e
                    have e2 := disB_get hdis i j o o' _ ho2 ho' hd hd'
                    subst e2
                    rw [hl'] at hj
                    cases hj
              rw [e]
              exact h1
        · rw [hall i hi] at hl'
          cases hl'
      · -- the last
        have e : i = l.length := by
          have := (List.getElem?_eq_some_iff.1 ho).1
          simp at this
          omega
        subst e
        have hoz : o = z := by
          rw [List.getElem?_append_right (Nat.le_refl _), Nat.sub_self] at ho
          simpa using ho.symm
        subst hoz
        rw [if_pos (by unfold Region.wanted; rw [hzg])]
        rcases hJ.2 with ⟨_, hw0, hp0⟩ | ⟨_, h9, _⟩
        · have hall : ∀ j, j < l.length → listed.getD j false = true := fun j hj => by
            obtain ⟨e, he, h1, h2⟩ := waitsB_get hz j hj
            have := hafter e he h2
            rw [h1] at this
            exact this
          refine hlast a W K' hJ.1 hw0 (fun j o' ho' => by have h5 := hp0 j o' ho' (hall j (List.getElem?_eq_some_iff.1 ho').1); rw [hall e0 he0] at h5; exact h5) fun W' hf => hK' _ _ ⟨hJ.1, .inr ⟨fun j hj => ?_, ?_, hf⟩⟩
          · rw [Array.getD_eq_getD_getElem?, Array.getElem?_setIfInBounds_ne (by omega), ← Array.getD_eq_getD_getElem?]
            exact hall j hj
          · have h4 := lt_of_unl hl
            simp [Array.getD, h4]
        · rw [h9] at hl'
          cases hl'
    have gen : ∀ (r : List Oper) (k : Nat), (∀ (j : Nat) (o : Oper), r[j]? = some o → StepI P .any (l ++ [z]).toArray (NoPanic Q) (fun listed a W => Off D a0 a ∧ ((listed.getD l.length false = false ∧ Wp W ∧ ∀ (i : Nat) (o : Oper), l[i]? = some o → listed.getD i false = true → Pv (listed.getD e0 false) i (valOf a o) W) ∨ ((∀ i, i < l.length → listed.getD i false = true) ∧ listed.getD l.length false = true ∧ Fin a W))) (k + j) o) → StepsI P .any (l ++ [z]).toArray (NoPanic Q) (fun listed a W => Off D a0 a ∧ ((listed.getD l.length false = false ∧ Wp W ∧ ∀ (i : Nat) (o : Oper), l[i]? = some o → listed.getD i false = true → Pv (listed.getD e0 false) i (valOf a o) W) ∨ ((∀ i, i < l.length → listed.getD i false = true) ∧ listed.getD l.length false = true ∧ Fin a W))) k r := by
      intro r
      induction r with
      | nil => intro k _; trivial
      | cons x r ih =>
        intro k h
        refine ⟨by have := h 0 x (by simp); simpa using this, ih (k + 1) fun j o hj => ?_⟩
        have := h (j + 1) o (by simpa using hj)
        rw [show k + 1 + j = k + (j + 1) from by omega]
        exact this
    exact gen (l ++ [z]) 0 fun j o hj => by rw [Nat.zero_add]; exact key j o hj
  · intro listed a W hJ hall
    rcases hJ.2 with ⟨hnl, _, _⟩ | ⟨_, _, hf⟩
    · have := hall l.length (by simp)
      rw [hnl] at this
      cases this
    · exact hend a W hJ.1 hf
/-- The same of a region that is written out. -/
theorem wp_region_one {id : Nat} {a0 : Act} {w : World} {L : List Oper} {z : Oper} (D : List Nat) (e0 : Nat) (Gr GrE : World → World → Prop) (Wp : World → Prop) (Pv : Bool → Nat → Value → World → Prop) (Fin : Act → World → Prop) (hzl : L.getLast? = some z) (hm : P.follows .mixedOrders = true) (hac : acycB .any 0 L = true) (hdis : disB L.dropLast = true) (hin : inB D a0.tmps.size L.dropLast = true)
    (hz : waitsB L.dropLast.length z = true) (hzd : z.dst = none) (hzg : z.guard = none)
    (stable : ∀ β i v W W', Gr W W' → Pv β i v W → Pv β i v W') (stableE : ∀ i v W W', GrE W W' → Pv false i v W → Pv true i v W')
    (h0 : Wp { w with drawn := w.drawn + 1 })
    (he0 : e0 < L.dropLast.length) (hst : StepsOne P L.toArray (NoPanic Q) D a0 e0 Gr GrE Wp Pv 0 L.dropLast)
    (hlast : ∀ (a : Act) (W : World) (K : Act → World → Prop), Off D a0 a → Wp W → (∀ (i : Nat) (o : Oper), L.dropLast[i]? = some o → Pv true i (valOf a o) W) → (∀ W', Fin a W' → K a W') → Oper.wp P z a W K (NoPanic Q))
    (hend : ∀ (a : Act) (W : World), Off D a0 a → Fin a W → Q .normal a W) : (Code.region id L.toArray true).wp P Q a0 w := by
  have e : L.dropLast ++ [z] = L := by
    rcases List.eq_nil_or_concat L with rfl | ⟨r, x, rfl⟩
    · cases hzl
    · rw [List.concat_eq_append] at hzl ⊢
      rw [List.getLast?_concat] at hzl
      injection hzl with hzl
      subst hzl
      rw [List.dropLast_concat]
  have h := wp_region_oneS (id := id) (l := L.dropLast) (z := z) D e0 Gr GrE Wp Pv Fin hm (by rw [e]; exact hac) hdis hin hz hzd hzg stable stableE h0 he0 (by rw [e]; exact hst) hlast hend
  rw [e] at h
  exact h
end
end Go.Proofs.YtmpipjangbedkaaGreat
