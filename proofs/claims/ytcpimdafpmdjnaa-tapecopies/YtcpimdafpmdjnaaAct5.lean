/-
  A slice of acts in memory, and as an argument.
-/
import Derived.Test.YtcpimdafpmdjnaaRws5
import Derived.Deep.Slices
import Derived.Lib.SmallJoins
namespace Go.Proofs.Ytcpimdafpmdjnaa
open Go.RowKit
set_option linter.unusedVariables false

/-- An act. -/
structure TAct where
  kind : Nat
  b : List Nat
  n : Int
  keep : Int
def TAct.zero : TAct := ⟨0, [], 0, 0⟩
instance : Inhabited TAct := ⟨TAct.zero⟩
/-- What holds of each. -/
structure TAct.Ok (a : TAct) (c : Nat) (A : Option Addr) : Prop where
  kind : a.kind < 256
  oct : Oct a.b
  nil : A = none → c = 0
  len : a.b.length ≤ c
  cap : c ≤ 9223372036854775807
  n : I64 a.n
  keep : I64 a.keep
/-- An act's cells. -/
def ActAt (w : World) (b o : Nat) (a : TAct) (A : Option Addr) (c : Nat) : Prop :=
  w.cell? ⟨b, o, none⟩ = some (.int .u8 (a.kind : Int)) ∧ w.cell? ⟨b, o + 1, none⟩ = some (.slice A a.b.length c) ∧ w.cell? ⟨b, o + 2, none⟩ = some (.int .i64 a.n) ∧ w.cell? ⟨b, o + 3, none⟩ = some (.int .i64 a.keep) ∧ Byts w A a.b
theorem ActAt.below {w w' : World} {b o : Nat} {a : TAct} {A : Option Addr} {c : Nat} (h : ActAt w b o a A c) (hb : Below w.heap.size w w') : ActAt w' b o a A c :=
  ⟨(hb.cell (p := ⟨b, o, none⟩) (block_lt h.1)).trans h.1, (hb.cell (p := ⟨b, o + 1, none⟩) (block_lt h.2.1)).trans h.2.1, (hb.cell (p := ⟨b, o + 2, none⟩) (block_lt h.2.2.1)).trans h.2.2.1, (hb.cell (p := ⟨b, o + 3, none⟩) (block_lt h.2.2.2.1)).trans h.2.2.2.1, h.2.2.2.2.below hb⟩
/-- A slice value's places read as these acts. -/
def Acts (w : World) (A : Option Addr) (l : List TAct) : Prop :=
  0 < l.length → ∃ b off, A = some ⟨b, off, none⟩ ∧ ∀ i, i < l.length → ∃ A' c', ActAt w b (off + i * 4) (l.getD i TAct.zero) A' c' ∧ (l.getD i TAct.zero).Ok c' A'
theorem Acts.below {w w' : World} {A : Option Addr} {l : List TAct} (h : Acts w A l) (hb : Below w.heap.size w w') : Acts w' A l := by
  intro h0
  obtain ⟨b, off, e, hc⟩ := h h0
  refine ⟨b, off, e, fun i hi => ?_⟩
  obtain ⟨A', c', h1, h2⟩ := hc i hi
  exact ⟨A', c', h1.below hb, h2⟩
theorem Acts.one {w : World} {A : Option Addr} {l : List TAct} (h : Acts w A l) {i : Nat} (hi : i < l.length) : ∃ b off A' c', A = some ⟨b, off, none⟩ ∧ (∀ V, Below w.heap.size w V → ActAt V b (off + i * 4) (l.getD i TAct.zero) A' c') ∧ (∀ bb o, A' = some ⟨bb, o, none⟩ → 0 < (l.getD i TAct.zero).b.length → bb < w.heap.size) ∧ (l.getD i TAct.zero).Ok c' A' := by
  obtain ⟨b, off, e, hc⟩ := h (by omega)
  obtain ⟨A', c', h1, h2⟩ := hc i hi
  exact ⟨b, off, A', c', e, fun V hV => h1.below hV, low_at h1.2.2.2.2, h2⟩
section
open Go.ChangeShapes Go.WideShapes Go.Deep
variable {H : Type} {enc : TypeId × Value → H} {w : World} {base : Nat} {hld : Bool}
theorem open_acts {a : Option Addr} {len cap fuel : Nat} {x : DataW H × List MemPlace} (h : DataW.trod enc Try.prog w base (fun _ => true) hld fuel 22 [.slice a len cap] = some x) :
    ∃ l : List TAct, l.length = len ∧ Acts w a l ∧ len ≤ 9223372036854775807 := by
  rcases open_slice Try.underlying22 h with ⟨hcs, _⟩ | ⟨ad, len', cap', m, n, D, Pl, hcs, _, hl, hm, hmm, _, hx⟩
  · simp at hcs
    obtain ⟨rfl, rfl, rfl⟩ := hcs
    exact ⟨[], rfl, fun h => absurd h (by simp), by omega⟩
  · simp at hcs
    obtain ⟨rfl, rfl, rfl⟩ := hcs
    simp at hmm
    subst hmm
    unfold maxLen at hm
    have ce : Try.prog.cellsOf 33 = 4 := by kernel_rfl
    rw [ce] at hx
    have c0 : Try.prog.cellsOf 5 = 1 := by kernel_rfl
    have c1 : Try.prog.cellsOf 31 = 1 := by kernel_rfl
    have c2 : Try.prog.cellsOf 3 = 1 := by kernel_rfl
    have hsp : 0 < len → ad.spot = none := by
      intro h0
      obtain ⟨cs', h1, _⟩ := hx 0 (by omega)
      obtain ⟨_, hlen, hcell⟩ := World.cells?_some h1
      have e0 := hcell 0 (by omega)
      rw [add_add] at e0
      match cs', hlen with
      | [v0, v1, v2, v3], _ =>
        obtain ⟨b1, off1, s1⟩ := ad
        simpa [Addr.add] using World.cell?_spot e0
    have each : ∀ i, i < len → ∃ q : TAct × Option Addr × Nat, ActAt w ad.block (ad.off + i * 4) q.1 q.2.1 q.2.2 ∧ q.1.Ok q.2.2 q.2.1 := by
      intro i hi
      have hs := hsp (by omega)
      obtain ⟨cs', h1, h2⟩ := hx i (by omega)
      obtain ⟨_, hlen, hcell⟩ := World.cells?_some h1
      obtain ⟨y0, y1, y2, y3, k, _, _, g0, g1, g2, g3⟩ := Go.Joins.trod_struct4 Try.underlying33 h2
      obtain ⟨b1, off1, s1⟩ := ad
      simp only at hs
      subst hs
      match cs', hlen with
      | [v0, v1, v2, v3], _ =>
        have e0 := hcell 0 (by omega)
        have e1 := hcell 1 (by omega)
        have e2 := hcell 2 (by omega)
        have e3 := hcell 3 (by omega)
        rw [add_add, add_plain] at e0 e1 e2 e3
        simp [c0, c1, c2] at g0 g1 g2 g3
        obtain ⟨kd, f0, _, w0⟩ := DataW.trod_int Try.underlying5 g0
        obtain ⟨N, f2, _, w2⟩ := DataW.trod_int Try.underlying3 g2
        obtain ⟨K, f3, _, w3⟩ := DataW.trod_int Try.underlying3 g3
        simp only [List.cons.injEq, and_true] at f0 f2 f3
        subst f0; subst f2; subst f3
        have hk := wf_u8 w0
        obtain ⟨kn, rfl⟩ := Int.eq_ofNat_of_zero_le hk.1
        have hN : I64 N := by simp [Lit.wf, IntKind.min, IntKind.max, IntKind.bits, IntKind.signed] at w2; unfold I64; omega
        have hK : I64 K := by simp [Lit.wf, IntKind.min, IntKind.max, IntKind.bits, IntKind.signed] at w3; unfold I64; omega
        obtain ⟨A', ln, c', l, rfl, hl1, k2, k3, k4, k6, k7⟩ : ∃ A' ln c', ∃ l : List Nat, v1 = .slice A' ln c' ∧ l.length = ln ∧ Byts w A' l ∧ Oct l ∧ (A' = none → c' = 0) ∧ ln ≤ c' ∧ c' ≤ 9223372036854775807 := by
          rcases open_ints Try.underlying31 Try.underlying5 c0 g1 with ⟨hcs, _⟩ | ⟨x, l, c, zs, hcs, _, hl, hm, hz, _, hcl, hwz⟩
          · simp at hcs
            subst hcs
            obtain ⟨l, r1, r2, r3, r4, _, r5, r6, _⟩ := row_byts2 (w := w) (a := none) (len := 0) (cap := 0) (zs := []) (.inl ⟨rfl, rfl, rfl, rfl⟩)
            exact ⟨none, 0, 0, l, rfl, r1, r2, r3, r4, r5, r6⟩
          · simp at hcs
            subst hcs
            obtain ⟨l', r1, r2, r3, r4, _, r5, r6, r7⟩ := row_byts2 (zs := zs) (.inr ⟨_, rfl, hl, hm, by simpa using hz, hcl, hwz⟩)
            exact ⟨_, _, _, l', rfl, r1, r2, r3, (fun h => by cases h), r5, r6⟩
        subst hl1
        exact ⟨(⟨kn, l, N, K⟩, A', c'), ⟨by simpa using e0, by simpa [Nat.add_assoc] using e1, by simpa [Nat.add_assoc] using e2, by simpa [Nat.add_assoc] using e3, k2⟩, ⟨by simp only; omega, k3, k4, k6, k7, hN, hK⟩⟩
    obtain ⟨q, hq⟩ := choose_lt each
    refine ⟨(List.range len).map fun i => (q i).1, by simp, fun h0 => ?_, by omega⟩
    simp only [List.length_map, List.length_range] at h0
    have hs := hsp h0
    obtain ⟨b1, off1, s1⟩ := ad
    simp only at hs
    subst hs
    refine ⟨b1, off1, rfl, fun i hi => ?_⟩
    simp only [List.length_map, List.length_range] at hi
    have hg : ((List.range len).map fun i => (q i).1).getD i TAct.zero = (q i).1 := by
      rw [List.getD_eq_getElem?_getD, List.getElem?_map, List.getElem?_range hi]
      rfl
    rw [hg]
    exact ⟨_, _, (hq i hi).1, (hq i hi).2⟩
end
end Go.Proofs.Ytcpimdafpmdjnaa
