/-
  A config by value, as an argument.
-/
import Derived.Test.YtldceocbmmidmaaPl6
import Derived.Deep.Slices
import Derived.Lib.SmallJoins
import Derived.Deep.Fields
namespace Go.Proofs.Ytldceocbmmidmaa
open Go.RowKit Go.ChangeShapes Go.WideShapes Go.Deep
set_option linter.unusedVariables false

theorem array7 {α : Type} {cs : Array α} (h : cs.size = 7) : ∃ c0 c1 c2 c3 c4 c5 c6, cs = #[c0, c1, c2, c3, c4, c5, c6] := by
  obtain ⟨l⟩ := cs
  match l, h with
  | [c0, c1, c2, c3, c4, c5, c6], _ => exact ⟨c0, c1, c2, c3, c4, c5, c6, rfl⟩
section
variable {H : Type} {enc : TypeId × Value → H} {w : World} {base : Nat} {spare : Nat → Bool} {held : Bool}
theorem field_any {fs : Array Field} {cs : List Value} {n i : Nat} {f : Field} {c : Value} {xs : List (DataW H × List MemPlace)} (hf : ∀ (i : Nat) (f : Field), fs[i]? = some f → DataW.trod enc Try.prog w base spare held n f.type ((cs.drop f.offset).take (Try.prog.cellsOf f.type)) = xs[i]?) (hlen : xs.length = fs.size)
    (hone : oneCellFields Try.prog fs = true) (hi : fs[i]? = some f) (hc : cs[i]? = some c) : ∃ x, DataW.trod enc Try.prog w base spare held n f.type [c] = some x := by
  obtain ⟨ho, hk⟩ := hone_of hone i f hi
  have h := hf i f hi
  have hlt : i < xs.length := by rw [hlen]; exact (Array.getElem?_eq_some_iff.1 hi).1
  have hd : (cs.drop i).take 1 = [c] := by
    obtain ⟨h1, h2⟩ := List.getElem?_eq_some_iff.1 hc
    rw [List.drop_eq_getElem_cons h1, h2]
    rfl
  rw [ho, hk, hd, List.getElem?_eq_getElem hlt] at h
  exact ⟨_, h⟩
theorem field_int {fs : Array Field} {cs : List Value} {n i : Nat} {f : Field} {c : Value} {xs : List (DataW H × List MemPlace)} (hf : ∀ (i : Nat) (f : Field), fs[i]? = some f → DataW.trod enc Try.prog w base spare held n f.type ((cs.drop f.offset).take (Try.prog.cellsOf f.type)) = xs[i]?) (hlen : xs.length = fs.size)
    (hone : oneCellFields Try.prog fs = true) (hi : fs[i]? = some f) (ht : Try.prog.underlying f.type = some (.int .i64)) (hc : cs[i]? = some c) : ∃ x, c = .int .i64 x ∧ I64 x := by
  obtain ⟨y, h⟩ := field_any hf hlen hone hi hc
  obtain ⟨x, e, _, hw⟩ := DataW.trod_int ht h
  injection e with e
  exact ⟨x, e, wf_i64 hw⟩
theorem open_insts {fuel : Nat} {c : Value} {x : DataW H × List MemPlace} (h : DataW.trod enc Try.prog w base (fun _ => true) held fuel 22 [c] = some x) :
    ∃ (A : Option Addr) (cap : Nat) (l : List Ins), c = .slice A l.length cap ∧ InsM w A l ∧ (∀ y ∈ l, I64 y.bucket ∧ I64 y.price ∧ I64 y.rate ∧ I64 y.slip) ∧ l.length ≤ 9223372036854775807 := by
  rcases open_slice Try.underlying22 h with ⟨hcs, _⟩ | ⟨ad, len, cap, m, n, D, Pl, hcs, _, hl, hm, hmm, _, hx⟩
  · simp at hcs
    subst hcs
    exact ⟨none, 0, [], rfl, fun h => absurd h (by simp), fun y hy => (List.not_mem_nil hy).elim, by simp⟩
  · simp at hcs
    subst hcs
    simp at hmm
    subst hmm
    unfold maxLen at hm
    have ce : Try.prog.cellsOf 41 = 4 := by kernel_rfl
    rw [ce] at hx
    have hsp : 0 < len → ad.spot = none := by
      intro h0
      obtain ⟨cs', h1, _⟩ := hx 0 (by omega)
      obtain ⟨_, hlen, hcell⟩ := World.cells?_some h1
      have e0 := hcell 0 (by omega)
      rw [add_add] at e0
      match cs', hlen with
      | [v0, v1, v2, v3], _ =>
        obtain ⟨b1, off1, s1⟩ := ad
        simpa [Addr.add] using World.cell?_spot e0
    have each : ∀ i, i < len → ∃ q : Ins, (w.cell? ⟨ad.block, ad.off + i * 4, none⟩ = some (.int .i64 q.bucket) ∧ w.cell? ⟨ad.block, ad.off + i * 4 + 1, none⟩ = some (.int .i64 q.price) ∧ w.cell? ⟨ad.block, ad.off + i * 4 + 2, none⟩ = some (.int .i64 q.rate) ∧ w.cell? ⟨ad.block, ad.off + i * 4 + 3, none⟩ = some (.int .i64 q.slip)) ∧ I64 q.bucket ∧ I64 q.price ∧ I64 q.rate ∧ I64 q.slip := by
      intro i hi
      have hs := hsp (by omega)
      obtain ⟨cs', h1, h2⟩ := hx i (by omega)
      obtain ⟨_, hlen, hcell⟩ := World.cells?_some h1
      obtain ⟨xs, k, _, _, _, hl2, hx2⟩ := DataW.trod_struct Try.underlying41 h2
      have hone : oneCellFields Try.prog _ = true := (by kernel_rfl : oneCellFields Try.prog (match Try.prog.underlying 41 with | some (.struct fs) => fs | _ => #[]) = true)
      obtain ⟨b1, off1, s1⟩ := ad
      simp only at hs
      subst hs
      match cs', hlen with
      | [v0, v1, v2, v3], _ =>
        have e0 := hcell 0 (by omega)
        have e1 := hcell 1 (by omega)
        have e2 := hcell 2 (by omega)
        have e3 := hcell 3 (by omega)
        rw [add_add, add_plain] at e0 e1 e2 e3
        obtain ⟨x0, rfl, k0⟩ := field_int (i := 0) hx2 hl2 hone rfl (by kernel_rfl) rfl
        obtain ⟨x1, rfl, k1⟩ := field_int (i := 1) hx2 hl2 hone rfl (by kernel_rfl) rfl
        obtain ⟨x2, rfl, k2⟩ := field_int (i := 2) hx2 hl2 hone rfl (by kernel_rfl) rfl
        obtain ⟨x3, rfl, k3⟩ := field_int (i := 3) hx2 hl2 hone rfl (by kernel_rfl) rfl
        exact ⟨⟨x0, x1, x2, x3⟩, ⟨by simpa using e0, by simpa [Nat.add_assoc] using e1, by simpa [Nat.add_assoc] using e2, by simpa [Nat.add_assoc] using e3⟩, k0, k1, k2, k3⟩
    have each' : ∀ i, ∃ q : Ins, i < len → (w.cell? ⟨ad.block, ad.off + i * 4, none⟩ = some (.int .i64 q.bucket) ∧ w.cell? ⟨ad.block, ad.off + i * 4 + 1, none⟩ = some (.int .i64 q.price) ∧ w.cell? ⟨ad.block, ad.off + i * 4 + 2, none⟩ = some (.int .i64 q.rate) ∧ w.cell? ⟨ad.block, ad.off + i * 4 + 3, none⟩ = some (.int .i64 q.slip)) ∧ I64 q.bucket ∧ I64 q.price ∧ I64 q.rate ∧ I64 q.slip := fun i => by
      by_cases h : i < len
      · obtain ⟨q, hq⟩ := each i h
        exact ⟨q, fun _ => hq⟩
      · exact ⟨Ins.zero, fun h' => absurd h' h⟩
    obtain ⟨q, hq⟩ := Classical.axiomOfChoice each'
    have hlr : ((List.range len).map q).length = len := by simp
    refine ⟨some ad, m, (List.range len).map q, by rw [hlr], fun h0 => ?_, fun y hy => ?_, by rw [hlr]; omega⟩
    · rw [hlr] at h0
      have hs := hsp h0
      obtain ⟨b1, off1, s1⟩ := ad
      simp only at hs
      subst hs
      refine ⟨b1, off1, rfl, fun i hi => ?_⟩
      rw [hlr] at hi
      have hg : ((List.range len).map q).getD i Ins.zero = q i := by
        rw [List.getD_eq_getElem?_getD, List.getElem?_map, List.getElem?_range hi]
        rfl
      rw [hg]
      exact (hq i hi).1
    · obtain ⟨i, hi, rfl⟩ := List.mem_map.1 hy
      exact (hq i (List.mem_range.1 hi)).2
theorem open_cfg {r : Reach} {b0 : Nat} {v : Value} {d : DataW H} {p : List MemPlace} (hv : Value.okWide Try.prog w r b0 24 v) (h : DataW.Trod enc Try.prog w base (fun _ => true) held 24 v d p) : ∃ (g : Cfg) (A : Option Addr) (c : Nat), v = g.v (.slice A g.insts.length c) ∧ InsM w A g.insts ∧ CfgI g ∧ g.insts.length ≤ 9223372036854775807 := by
  obtain ⟨cs, rfl, hsz⟩ := okWide_struct Try.underlying24 hv
  obtain ⟨c0, c1, c2, c3, c4, c5, c6, rfl⟩ := array7 (hsz.trans (by kernel_rfl))
  obtain ⟨fuel, hf⟩ := h
  obtain ⟨xs, n, _, _, _, hlen, hx⟩ := DataW.trod_struct Try.underlying24 hf
  have hone : oneCellFields Try.prog _ = true := (by kernel_rfl : oneCellFields Try.prog (match Try.prog.underlying 24 with | some (.struct fs) => fs | _ => #[]) = true)
  obtain ⟨y, hy⟩ := field_any (i := 0) hx hlen hone rfl rfl
  obtain ⟨A, cap, l, rfl, hI, hk, hl⟩ := open_insts hy
  obtain ⟨x1, rfl, k1⟩ := field_int (i := 1) hx hlen hone rfl (by kernel_rfl) rfl
  obtain ⟨x2, rfl, k2⟩ := field_int (i := 2) hx hlen hone rfl (by kernel_rfl) rfl
  obtain ⟨x3, rfl, k3⟩ := field_int (i := 3) hx hlen hone rfl (by kernel_rfl) rfl
  obtain ⟨x4, rfl, k4⟩ := field_int (i := 4) hx hlen hone rfl (by kernel_rfl) rfl
  obtain ⟨x5, rfl, k5⟩ := field_int (i := 5) hx hlen hone rfl (by kernel_rfl) rfl
  obtain ⟨x6, rfl, k6⟩ := field_int (i := 6) hx hlen hone rfl (by kernel_rfl) rfl
  exact ⟨⟨l, x1, x2, x3, x4, x5, x6⟩, A, cap, rfl, hI, ⟨hk, k1, k2, k3, k4, k5, k6⟩, hl⟩
end
end Go.Proofs.Ytldceocbmmidmaa
