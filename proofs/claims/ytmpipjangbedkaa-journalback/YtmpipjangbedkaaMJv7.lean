import Derived.Test.YtmpipjangbedkaaMJw2
/-
  The walk of the reference's OpenJournal on a tape whose bytes are whole records.
-/
namespace Go.Proofs.Ytmpipjangbedkaa
set_option maxRecDepth 8000
open Go Go.RowKit
set_option linter.unusedVariables false

theorem ownB_addr {w : World} {base : Nat} {A : Option Addr} {n c : Nat} {l : List Nat} (h : OwnB w base (.slice A n c) l) : c = 0 ∨ ∃ b off, A = some ⟨b, off, none⟩ := by
  rcases h.2 with ⟨e, _⟩ | ⟨g, cap, cur, e, _⟩
  · injection e with _ _ e3; exact .inl e3
  · injection e with e1; exact .inr ⟨g, 0, e1⟩
end Go.Proofs.Ytmpipjangbedkaa

/-
  The walk of the reference's OpenJournal on a tape whose bytes are whole records: by what they are.
-/
namespace Go.Proofs.Ytmpipjangbedkaa
set_option maxRecDepth 8000
open Go Go.RowKit
set_option linter.unusedVariables false

theorem jourC_bad {w w' : World} {e : Ending} (h : JourC w none e w') : ∃ V k X, e = .returned (.tuple #[.agg #[.slice V 0 k, .int .i64 0, .int .i64 0, .int .i64 0, .int .i64 0, .int .i64 0, .int .i64 0], X, .int .i64 0, .bool false]) ∧ Below w.heap.size w w' := by
  obtain ⟨v, X, e1, h1, _, h2⟩ := h
  obtain ⟨V, k, rfl, _⟩ := OwnL.form h1 lay_ins
  exact ⟨V, k, X, e1, h2⟩
theorem jourC_good {w w' : World} {e : Ending} {cf : Cfg} {es : List Ev} {M : Nat} (h : JourC w (some (cf, es, M)) e w') : ∃ V k X, e = .returned (.tuple #[.agg #[.slice V cf.insts.length k, .int .i64 cf.skin, .int .i64 cf.times, .int .i64 cf.port, .int .i64 cf.bid, .int .i64 cf.lot, .int .i64 cf.hedge], X, .int .i64 (M : Int), .bool true]) ∧ OwnI w' w.heap.size (.slice V cf.insts.length k) cf.insts ∧ OwnE w' w.heap.size X es ∧ Below w.heap.size w w' := by
  obtain ⟨v, X, e1, h1, h3, h2⟩ := h
  obtain ⟨V, k, rfl, _⟩ := OwnL.form h1 lay_ins
  exact ⟨V, k, X, e1, h1, h3, h2⟩
theorem ownL_fin {α : Type} {enc : α → List Value} {e sz : Nat} {l : List α} {w wr : World} {X : Value} (h : OwnL enc e sz wr (w.heap.size + 1) X l) (V : Value) (cf : Cfg) (ob : Obj) : OwnL enc e sz ((putC wr w.heap.size V cf).alloc ob) w.heap.size X l :=
  (OwnL.lower (OwnL.touch h (putC_touch wr w.heap.size V cf) (fun j hj e => by have h1 := (OwnL.lt h j hj).1; have e' : j = w.heap.size := e; omega)) (by omega)).alloc ob
end Go.Proofs.Ytmpipjangbedkaa

/-
  The walk of the reference's OpenJournal on a tape with bytes behind its whole records.
-/
namespace Go.Proofs.Ytmpipjangbedkaa
set_option maxRecDepth 8000
open Go Go.RowKit
set_option linter.unusedVariables false

theorem went_keep {r : Bool} {w w' w'' : World} {base b : Nat} {v : Value} {t : Tp} (h : Went r w base b v t w') (hb : Below w'.heap.size w' w'') : Went r w base b v t w'' := by
  obtain ⟨v', ha, ht, hn⟩ := h
  exact ⟨v', ha.keep hb, ht.trans (Touch.of_below (foot b v) hb) (fun _ _ h => h), hn⟩
theorem went_fin {r : Bool} {w w2 W : World} {base b : Nat} {v : Value} {t0 t : Tp} (h : TapeAt r w base b v t0) (hb : Below w.heap.size w w2) (hs : w.heap.size < w2.heap.size) (hW : Went r w2 base b v t W) (V : Value) (cf : Cfg) : Went r w base b v t (putC W w.heap.size V cf) := by
  obtain ⟨v', ha, ht, hn⟩ := hW
  refine ⟨v', ha.touch (putC_touch W w.heap.size V cf) (fun k hk e => ?_), ((Touch.of_below (foot b v) hb).trans ht (fun _ _ h => h)).trans (putC_touch W w.heap.size V cf) (fun i hi e => ?_), fun k hk => (hn k hk).imp id (fun h => by omega)⟩
  · have e' : k = w.heap.size := e
    rcases hk with rfl | hk
    · have := (h.lt (.inl rfl : foot k v k)).2; omega
    · rcases hn k hk with h1 | h1
      · have := (h.lt (.inr h1 : foot b v k)).2; omega
      · omega
  · have e' : i = w.heap.size := e
    omega
theorem went_touch {r : Bool} {w w' : World} {base b : Nat} {v : Value} {t : Tp} (h : Went r w base b v t w') : Touch (foot b v) w w' := by
  obtain ⟨v', ha, ht, hn⟩ := h
  exact ht
end Go.Proofs.Ytmpipjangbedkaa
