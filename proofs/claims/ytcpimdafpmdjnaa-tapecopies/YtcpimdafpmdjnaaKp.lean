/-
  A tape beside a row of bytes of the call's own; strings one behind the other; a write that goes.
-/
import Derived.Test.YtcpimdafpmdjnaaKnown5
namespace Go.Proofs.Ytcpimdafpmdjnaa
open Go Go.RowKit
set_option linter.unusedVariables false

theorem bstr_data (l : List Nat) : ∀ r : ByteArray, ((l.map Int.ofNat).foldl (fun r n => r.push (UInt8.ofNat n.toNat)) r).data.toList = r.data.toList ++ l.map UInt8.ofNat := by
  induction l with
  | nil => intro r; simp
  | cons x l ih =>
    intro r
    rw [List.map_cons, List.foldl_cons, ih]
    simp [ByteArray.push]
theorem bstr_cat (a b : List Nat) : bstr a ++ bstr b = bstr (a ++ b) := by
  have h : (bstr a ++ bstr b).data.toList = (bstr (a ++ b)).data.toList := by
    rw [Go.Joins.data_append]
    unfold bstr
    rw [bstr_data, bstr_data, bstr_data]
    simp
  exact ByteArray.ext (Array.toList_inj.1 h)
theorem bstr_size (a : List Nat) : (bstr a).size = a.length := by
  show (bstr a).data.size = _
  rw [← Array.length_toList]
  unfold bstr
  rw [bstr_data]
  simp
/-- A write that goes: nothing is armed. -/
theorem append_plain (l x : List Nat) (room : Nat) (h : l.length + x.length ≤ room) : Tp.append ⟨l, room, false, false, 0, 0⟩ x = (⟨l ++ x, room, false, false, 0, 0⟩, 0) := by
  unfold Tp.append
  rw [if_neg (by simp), if_neg (by simp only; omega)]
  rfl

/-- A row of bytes that may be stored to. -/
def Row8 (W : World) (B : Nat) (A : Option Addr) (n : Nat) : Prop := ∀ i, i < n → ∃ g y, A = some ⟨g, 0, none⟩ ∧ B ≤ g ∧ y < 256 ∧ W.cell? ⟨g, i, none⟩ = some (.int .u8 ((y : Nat) : Int)) ∧ W.frozen? ⟨g, i, none⟩ = false
theorem OwnB.row8 {w : World} {base : Nat} {A : Option Addr} {n c : Nat} {l : List Nat} (h : OwnB w base (.slice A n c) l) (hO : Oct l) : Row8 w base A n := by
  intro i hi
  obtain ⟨A', c', e, hB, _⟩ := h.form
  injection e with e1 e2 e3
  subst e1; subst e3
  rcases h.2 with ⟨e, h0⟩ | ⟨g, cap, cur, e, hg, hgg, h1, h2, h3, h4⟩
  · rw [h0] at e2; omega
  · injection e with e4 e5 e6
    subst e4
    obtain ⟨b, off, e7, hc⟩ := hB (by omega)
    injection e7 with e7; injection e7 with e8 e9; subst e8; subst e9
    have := hc i (by omega)
    rw [Nat.zero_add] at this
    refine ⟨g, l.getD i 0, rfl, hg, ?_, this, by simp [World.frozen?, hgg]⟩
    have : l.getD i 0 ∈ l := by rw [List.getD_eq_getElem?_getD, List.getElem?_eq_getElem (by omega)]; exact List.getElem_mem _
    have := hO _ this
    omega
theorem Row8.touch {X : Nat → Prop} {W W' : World} {B : Nat} {A : Option Addr} {n : Nat} (h : Row8 W B A n) (ht : Touch X W W') (hx : ∀ g o s, A = some ⟨g, o, s⟩ → ¬ X g) : Row8 W' B A n := by
  intro i hi
  obtain ⟨g, y, e, hg, hy, hc, hf⟩ := h i hi
  have hb := ht.block g (block_lt hc) (hx g _ _ e)
  refine ⟨g, y, e, hg, hy, ?_, ?_⟩
  · rw [World.cell?_of_block (a := ⟨g, i, none⟩) hb]; exact hc
  · unfold World.frozen? at hf ⊢; rw [hb]; exact hf
theorem Row8.set {W : World} {B g : Nat} {n : Nat} (h : Row8 W B (some ⟨g, 0, none⟩) n) (j d : Nat) (hd : d < 256) : Row8 (W.setCell ⟨g, j, none⟩ (.int .u8 (d : Int))) B (some ⟨g, 0, none⟩) n := by
  intro i hi
  obtain ⟨g', y, e, hg, hy, hc, hf⟩ := h i hi
  injection e with e; injection e with e; subst e
  by_cases hj : j = i
  · subst hj
    exact ⟨g, d, rfl, hg, hd, World.cell?_setCell_same _ _ _ hc, by rw [World.frozen?_setCell]; exact hf⟩
  · exact ⟨g, y, rfl, hg, hy, by rw [World.cell?_setCell_other _ _ _ _ (by intro e2; injection e2 with _ e2; exact hj e2)]; exact hc, by rw [World.frozen?_setCell]; exact hf⟩

/-- A tape beside that row. -/
def InX (w0 : World) (B b : Nat) (t : Tp) (A : Option Addr) (n : Nat) (W : World) : Prop :=
  ∃ v, TapeAt false W B b v t ∧ Below B w0 W ∧ Row8 W B A n ∧ ∀ g o s, A = some ⟨g, o, s⟩ → ¬ foot b v g ∧ g < W.heap.size
section
variable {w0 w w1 : World} {B b : Nat} {t : Tp} {A : Option Addr} {n : Nat}
theorem InX.below (h : InX w0 B b t A n w) : Below B w0 w := h.elim fun _ h => h.2.1
theorem InX.row (h : InX w0 B b t A n w) : Row8 w B A n := h.elim fun _ h => h.2.2.1
theorem InX.within (h : InX w0 B b t A n w) : In w0 B b t w := h.elim fun v h => ⟨v, h.1, h.2.1⟩
theorem InX.append (h : InX w0 B b t A n w) (A' : Option Addr) (m c : Nat) (x : List Nat) (hnx : m = x.length) (hx : Byts w A' x) (hxo : Oct x) (hA : A' = none → c = 0) (hxc : x.length ≤ c) (hcm : c ≤ 9223372036854775807) (hap : A' = A ∨ ∀ bb off, A' = some ⟨bb, off, none⟩ → 0 < x.length → bb < B) :
    Calls Try.prog 17 #[.pointer (some ⟨b, 0, none⟩), .slice A' m c] w fun e w' => e = .returned (.int .i64 (t.append x).2) ∧ InX w0 B b (t.append x).1 A n w' ∧ Touch (fun k => B ≤ k ∧ ∀ g o s, A = some ⟨g, o, s⟩ → k ≠ g) w w' := by
  obtain ⟨v, ha, hb, hr, hf⟩ := h
  refine (append_any w B b v t A' m c x hnx hx hxo hA hxc hcm (fun bb off e h0 hfo => ?_) ha).mono ?_
  · rcases hap with rfl | h2
    · exact (hf bb off none e).1 hfo
    · have := h2 bb off e h0; have := ha.lt hfo; omega
  · rintro e w' ⟨h1, v', ha', ht, hn⟩
    refine ⟨h1, ⟨v', ha', hb.trans (ht.below (by have := ha.low; have := ha.box.lt; omega) (fun k hk => (ha.lt hk).1)), hr.touch ht (fun g o s e => (hf g o s e).1), fun g o s e => ⟨fun hfo => ?_, Nat.lt_of_lt_of_le (hf g o s e).2 ht.size⟩⟩, ht.mono (fun k hk => ⟨(ha.lt hk).1, fun g o s e hkg => (hf g o s e).1 (hkg ▸ hk)⟩)⟩
    rcases hfo with h2 | h2
    · exact (hf g o s e).1 (.inl h2)
    · rcases hn g h2 with h3 | h3
      · exact (hf g o s e).1 (.inr h3)
      · have := (hf g o s e).2; omega
theorem InX.set {g : Nat} (h : InX w0 B b t (some ⟨g, 0, none⟩) n w) (hg : B ≤ g) (j d : Nat) (hd : d < 256) : InX w0 B b t (some ⟨g, 0, none⟩) n (w.setCell ⟨g, j, none⟩ (.int .u8 (d : Int))) := by
  obtain ⟨v, ha, hb, hr, hf⟩ := h
  have ht := Touch.setCell w ⟨g, j, none⟩ (.int .u8 (d : Int))
  refine ⟨v, ha.touch ht (fun k hk e => ?_), hb.setCell (p := ⟨g, j, none⟩) hg _, hr.set j d hd, fun g' o s e => ⟨(hf g' o s e).1, Nat.lt_of_lt_of_le (hf g' o s e).2 ht.size⟩⟩
  simp only at e
  subst e
  exact (hf k _ _ rfl).1 hk
/-- What is read lies apart. -/
theorem In.read_apart (h : In w0 B b t w) (hd : t.down = false) : Calls Try.prog 21 #[.pointer (some ⟨b, 0, none⟩)] w fun e w' => ∃ A c, e = .returned (.tuple #[.slice A t.all.length c, .int .i64 0]) ∧ Byts w' A t.all ∧ InX w0 B b t A t.all.length w' := by
  obtain ⟨v, ha, hb⟩ := h
  refine (read_any w B b v t ha).mono ?_
  rintro e w' ⟨u, h1, h2, h3⟩
  rw [show t.readL = (t.all, 0) from by unfold Tp.readL; rw [hd]; rfl] at h1 h2
  have hs : B ≤ w.heap.size := by have := ha.low; have := ha.box.lt; omega
  obtain ⟨A, c, rfl, hB, _, _, _, hl⟩ := h2.form
  refine ⟨A, c, h1, hB, v, ha.keep h3, hb.trans (h3.mono hs), (h2.base hs).row8 ha.ok.oct, fun g o s e => ⟨fun hfo => ?_, ?_⟩⟩
  · have := hl g o s e; have := ha.lt hfo; omega
  · subst e; exact (h2.lt g rfl).2
end
end Go.Proofs.Ytcpimdafpmdjnaa
