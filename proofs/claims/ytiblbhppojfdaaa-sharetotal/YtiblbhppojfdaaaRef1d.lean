/-
  The walks of the reference's sums and differences of numbers.
-/
import Derived.Test.YtiblbhppojfdaaaRef1c
import Derived.Deep.RegionHeld3
namespace Go.Proofs.Ytiblbhppojfdaaa
open Go.RowKit

/-- What stands in memory while two Bigs are reckoned with: both, boxed, and the result's struct. -/
def Two (w : World) (na : Bool) (A : Option Addr) (la c1 : Nat) (nb : Bool) (B : Option Addr) (lb c2 : Nat) (w' : World) : Prop :=
  w'.cell? ⟨w.heap.size, 0, none⟩ = some (.bool na) ∧ w'.cell? ⟨w.heap.size, 1, none⟩ = some (.slice A la c1) ∧ w'.cell? ⟨w.heap.size + 1, 0, none⟩ = some (.bool nb) ∧ w'.cell? ⟨w.heap.size + 1, 1, none⟩ = some (.slice B lb c2) ∧
    w'.cell? ⟨w.heap.size + 1 + 1, 0, none⟩ = some (.bool false) ∧ w'.cell? ⟨w.heap.size + 1 + 1, 1, none⟩ = some (.slice none 0 0) ∧ w'.frozen? ⟨w.heap.size + 1 + 1, 0, none⟩ = false ∧ w'.frozen? ⟨w.heap.size + 1 + 1, 1, none⟩ = false ∧ Below w.heap.size w w'

theorem Two.below {w w1 w2 : World} {na nb : Bool} {A B : Option Addr} {la c1 lb c2 : Nat} (h : Two w na A la c1 nb B lb c2 w1) (hb : Below w1.heap.size w1 w2) : Two w na A la c1 nb B lb c2 w2 := by
  obtain ⟨h1, h2, h3, h4, h5, h6, h7, h8, h9⟩ := h
  obtain ⟨k1, k2⟩ := old_cells hb
  have b1 := block_lt h1
  have b2 := block_lt h3
  have b3 := block_lt h5
  exact ⟨by rw [k1 _ _ b1, h1], by rw [k1 _ _ b1, h2], by rw [k1 _ _ b2, h3], by rw [k1 _ _ b2, h4], by rw [k1 _ _ b3, h5], by rw [k1 _ _ b3, h6], by rw [k2 _ _ b3, h7], by rw [k2 _ _ b3, h8], h9.trans (hb.mono h9.size)⟩
theorem Two.box {w w1 : World} {na nb : Bool} {A B : Option Addr} {la c1 lb c2 : Nat} (h : Two w na A la c1 nb B lb c2 w1) : Box2 w1 (w.heap.size + 1 + 1) (.bool false) (.slice none 0 0) := ⟨h.2.2.2.2.1, h.2.2.2.2.2.1, h.2.2.2.2.2.2.1, h.2.2.2.2.2.2.2.1⟩
theorem Two.old {w w1 : World} {na nb : Bool} {A B : Option Addr} {la c1 lb c2 : Nat} (h : Two w na A la c1 nb B lb c2 w1) : Below w.heap.size w w1 := h.2.2.2.2.2.2.2.2

theorem Two.drew {w w1 : World} {na nb : Bool} {A B : Option Addr} {la c1 lb c2 : Nat} (h : Two w na A la c1 nb B lb c2 w1) : Two w na A la c1 nb B lb c2 w1.drew := h.below (Below.refl _ _).drew

theorem Two.four {w w1 : World} {na nb : Bool} {A B : Option Addr} {la c1 lb c2 : Nat} (h : Two w na A la c1 nb B lb c2 w1) :
    w1.cell? ⟨w.heap.size, 0, none⟩ = some (.bool na) ∧ w1.cell? ⟨w.heap.size, 1, none⟩ = some (.slice A la c1) ∧ w1.cell? ⟨w.heap.size + 1, 0, none⟩ = some (.bool nb) ∧ w1.cell? ⟨w.heap.size + 1, 1, none⟩ = some (.slice B lb c2) := ⟨h.1, h.2.1, h.2.2.1, h.2.2.2.1⟩
theorem Two.stored {w w1 : World} {na nb : Bool} {A B : Option Addr} {la c1 lb c2 : Nat} (h : Two w na A la c1 nb B lb c2 w1) (u v : Value) :
    ((w1.setCell ⟨w.heap.size + 1 + 1, 0, none⟩ u).setCell ⟨w.heap.size + 1 + 1, 1, none⟩ v).cell? ⟨w.heap.size, 0, none⟩ = some (.bool na) ∧ ((w1.setCell ⟨w.heap.size + 1 + 1, 0, none⟩ u).setCell ⟨w.heap.size + 1 + 1, 1, none⟩ v).cell? ⟨w.heap.size, 1, none⟩ = some (.slice A la c1) ∧
      ((w1.setCell ⟨w.heap.size + 1 + 1, 0, none⟩ u).setCell ⟨w.heap.size + 1 + 1, 1, none⟩ v).cell? ⟨w.heap.size + 1, 0, none⟩ = some (.bool nb) ∧ ((w1.setCell ⟨w.heap.size + 1 + 1, 0, none⟩ u).setCell ⟨w.heap.size + 1 + 1, 1, none⟩ v).cell? ⟨w.heap.size + 1, 1, none⟩ = some (.slice B lb c2) := by
  obtain ⟨h1, h2, h3, h4⟩ := h.four
  refine ⟨?_, ?_, ?_, ?_⟩ <;> (rw [World.cell?_setCell_other _ _ _ _ (by simp; try omega), World.cell?_setCell_other _ _ _ _ (by simp; try omega)]; assumption)

theorem Two.new (w : World) (na : Bool) (A : Option Addr) (la c1 : Nat) (nb : Bool) (B : Option Addr) (lb c2 : Nat) (t : TypeId) :
    Two w na A la c1 nb B lb c2 (((w.alloc (.cells #[.bool na, .slice A la c1] t)).alloc (.cells #[.bool nb, .slice B lb c2] t)).alloc (.cells #[.bool false, .slice none 0 0] t)) := by
  have h1 := ((Box2.new w (.bool na) (.slice A la c1) t _ rfl).alloc (.cells #[.bool nb, .slice B lb c2] t)).alloc (.cells #[.bool false, .slice none 0 0] t)
  have h2 := (Box2.new (w.alloc (.cells #[.bool na, .slice A la c1] t)) (.bool nb) (.slice B lb c2) t (w.heap.size + 1) (by simp)).alloc (.cells #[.bool false, .slice none 0 0] t)
  have h3 := Box2.new ((w.alloc (.cells #[.bool na, .slice A la c1] t)).alloc (.cells #[.bool nb, .slice B lb c2] t)) (.bool false) (.slice none 0 0) t (w.heap.size + 1 + 1) (by simp)
  exact ⟨h1.1, h1.2.1, h2.1, h2.2.1, h3.1, h3.2.1, h3.2.2.1, h3.2.2.2, (((Below.refl _ _).alloc (Nat.le_refl _) _).alloc (by simp) _).alloc (by simp; omega) _⟩

set_option maxRecDepth 8000 in
set_option maxHeartbeats 1000000 in
/-- Plus of two numbers of one sign. -/
theorem plus_same (s : Bool) (A B : Option Addr) (a b : List Int) (c1 c2 n : Nat) (w : World) (ha : Ints w .u64 A a) (hb : Ints w .u64 B b) (da : Digs a) (db : Digs b) (la : a.length ≤ n) (lb : b.length ≤ n) (hn : n ≤ 100000000000) :
    Calls Try.prog 15 #[.agg #[.bool s, .slice A a.length c1], .agg #[.bool s, .slice B b.length c2]] w (BigR w (if s then -(dval a + dval b) else dval a + dval b) (n + 1)) := by
  have CA : Hid (∀ W, Two w s A a.length c1 s B b.length c2 W → Calls Try.prog 44 #[.slice A a.length c1, .slice B b.length c2] W fun e w1 => ∃ (out : List Int) (A' : Option Addr) (c' : Nat), e = .returned (.slice A' out.length c') ∧ out.length ≤ c' ∧ c' ≤ 9223372036854775807 ∧ Ints w1 .u64 A' out ∧ Digs out ∧ dval out = dval a + dval b ∧ out.length ≤ n + 1 ∧ Two w s A a.length c1 s B b.length c2 w1) := Lib.hid fun W hW => by
    refine (addSizes_any A B a b c1 c2 n W (ha.below hW.old) (hb.below hW.old) da db la lb (by omega)).mono ?_
    rintro e w1 ⟨out, ⟨A', c', rfl, h1, h2, h3, h4⟩, h5, h6, h7⟩
    exact ⟨out, A', c', rfl, h1, h2, h3, h5, h6, h7, hW.below h4⟩
  have CB : Hid (∀ W (out : List Int) (A' : Option Addr) (c' : Nat), Ints W .u64 A' out → Digs out → out.length ≤ c' → c' ≤ 9223372036854775807 → Two w s A a.length c1 s B b.length c2 W → Calls Try.prog 33 #[.bool s, .slice A' out.length c'] W fun e w1 => ∃ (neg : Bool) (A2 : Option Addr) (n2 c3 : Nat), e = .returned (.agg #[.bool neg, .slice A2 n2 c3]) ∧ BigV w1 (.agg #[.bool neg, .slice A2 n2 c3]) (if s then -dval out else dval out) out.length ∧ Two w s A a.length c1 s B b.length c2 w1) := Lib.hid fun W out A' c' h1 h2 h3 h4 hW => by
    refine (made_any s A' out c' W h1 h2 h3 h4).mono ?_
    rintro e w1 ⟨v, rfl, hV, hb⟩
    obtain ⟨neg, A2, n2, c3, rfl⟩ := hV.form
    exact ⟨neg, A2, n2, c3, rfl, hV, hW.below hb⟩
  have HT := Lib.hid (Two.new w s A a.length c1 s B b.length c2 28).drew
  clear ha hb da db
  cases s
  · go_enter Try.func15, Try.ntmps15
    go_wp2
    go_region_held3 (fun w' => w'.cell? ⟨w.heap.size, 0, none⟩ = some (.bool false) ∧ w'.cell? ⟨w.heap.size, 1, none⟩ = some (.slice A a.length c1) ∧ w'.cell? ⟨w.heap.size + 1, 0, none⟩ = some (.bool false) ∧ w'.cell? ⟨w.heap.size + 1, 1, none⟩ = some (.slice B b.length c2))
      (first | exact HT.out.four | exact HS1.out.four | exact HS2.out.four | exact HS2.out.stored _ _)
      (first
        | (go_at_call 44; refine (CA.out _ HT.out).mono ?_; rintro e w1 ⟨out, A', c', rfl, h1, h2, h3, h4, h5, h6, hS1⟩; have HS1 := Lib.hid hS1; have H5 := Lib.hid h5; clear hS1 h5)
        | (go_at_call 33; refine (CB.out _ _ _ _ h3 h4 h1 h2 HS1.out).mono ?_; rintro e w2 ⟨neg, A2, n2, c3, rfl, hV, hS2⟩; have HS2 := Lib.hid hS2; have HV := Lib.hid hV; obtain ⟨g0, g1, f0, f1⟩ := hS2.box; clear hS2 hV))
    go_wp2_with fail
    obtain ⟨p0, p1⟩ := HS2.out.box.put (.bool neg) (.slice A2 n2 c3)
    refine bodyPost_ret (v := .agg #[.bool neg, .slice A2 n2 c3]) (by simp [results, Try.results15, go_sem, p0, p1]) rfl ?_
    refine (big_out HS2.out.old (by omega) HS2.out.box HV.out).as ?_ h6
    simp [H5.out]
  · go_enter Try.func15, Try.ntmps15
    go_wp2
    go_region_held3 (fun w' => w'.cell? ⟨w.heap.size, 0, none⟩ = some (.bool true) ∧ w'.cell? ⟨w.heap.size, 1, none⟩ = some (.slice A a.length c1) ∧ w'.cell? ⟨w.heap.size + 1, 0, none⟩ = some (.bool true) ∧ w'.cell? ⟨w.heap.size + 1, 1, none⟩ = some (.slice B b.length c2))
      (first | exact HT.out.four | exact HS1.out.four | exact HS2.out.four | exact HS2.out.stored _ _)
      (first
        | (go_at_call 44; refine (CA.out _ HT.out).mono ?_; rintro e w1 ⟨out, A', c', rfl, h1, h2, h3, h4, h5, h6, hS1⟩; have HS1 := Lib.hid hS1; have H5 := Lib.hid h5; clear hS1 h5)
        | (go_at_call 33; refine (CB.out _ _ _ _ h3 h4 h1 h2 HS1.out).mono ?_; rintro e w2 ⟨neg, A2, n2, c3, rfl, hV, hS2⟩; have HS2 := Lib.hid hS2; have HV := Lib.hid hV; obtain ⟨g0, g1, f0, f1⟩ := hS2.box; clear hS2 hV))
    go_wp2_with fail
    obtain ⟨p0, p1⟩ := HS2.out.box.put (.bool neg) (.slice A2 n2 c3)
    refine bodyPost_ret (v := .agg #[.bool neg, .slice A2 n2 c3]) (by simp [results, Try.results15, go_sem, p0, p1]) rfl ?_
    refine (big_out HS2.out.old (by omega) HS2.out.box HV.out).as ?_ h6
    simp [H5.out]

/-- While two Bigs are reckoned with: a difference of their digits. -/
theorem two_sub {w W : World} {A B : Option Addr} {a b : List Int} {c1 c2 : Nat} (ha : Ints w .u64 A a) (hb : Ints w .u64 B b) (da : Digs a) (db : Digs b) (la : a.length ≤ 1000000000000) (lb : b.length ≤ 1000000000000) (hab : dval b ≤ dval a) (hB : Below w.heap.size w W) {S : World → Prop} (hSb : ∀ w1, Below W.heap.size W w1 → S w1) :
    Calls Try.prog 46 #[.slice A a.length c1, .slice B b.length c2] W fun e w1 => ∃ (out : List Int) (A' : Option Addr) (c' : Nat), e = .returned (.slice A' out.length c') ∧ out.length ≤ c' ∧ c' ≤ 9223372036854775807 ∧ Ints w1 .u64 A' out ∧ Digs out ∧ dval out = dval a - dval b ∧ out.length ≤ a.length ∧ S w1 := by
  refine (subSizes_any A B a b c1 c2 W (ha.below hB) (hb.below hB) da db la lb hab).mono ?_
  rintro e w1 ⟨out, ⟨A', c', rfl, h1, h2, h3, h4⟩, h5, h6, h7⟩
  exact ⟨out, A', c', rfl, h1, h2, h3, h5, h6, by omega, hSb w1 h4⟩
theorem two_made {W : World} (s : Bool) {S : World → Prop} (out : List Int) (A' : Option Addr) (c' : Nat) (h1 : Ints W .u64 A' out) (h2 : Digs out) (h3 : out.length ≤ c') (h4 : c' ≤ 9223372036854775807) (hSb : ∀ w1, Below W.heap.size W w1 → S w1) :
    Calls Try.prog 33 #[.bool s, .slice A' out.length c'] W fun e w1 => ∃ (neg : Bool) (A2 : Option Addr) (n2 c3 : Nat), e = .returned (.agg #[.bool neg, .slice A2 n2 c3]) ∧ BigV w1 (.agg #[.bool neg, .slice A2 n2 c3]) (if s then -dval out else dval out) out.length ∧ S w1 := by
  refine (made_any s A' out c' W h1 h2 h3 h4).mono ?_
  rintro e w1 ⟨v, rfl, hV, hb⟩
  obtain ⟨neg, A2, n2, c3, rfl⟩ := hV.form
  exact ⟨neg, A2, n2, c3, rfl, hV, hSb w1 hb⟩

set_option maxRecDepth 8000 in
set_option maxHeartbeats 1000000 in
/-- Plus of two numbers of different signs. -/
theorem plus_diff (s : Bool) (A B : Option Addr) (a b : List Int) (c1 c2 n : Nat) (w : World) (ha : Ints w .u64 A a) (hb : Ints w .u64 B b) (da : Digs a) (db : Digs b) (na : Norm a) (nb : Norm b) (la : a.length ≤ n) (lb : b.length ≤ n) (hn : n ≤ 100000000000) :
    Calls Try.prog 15 #[.agg #[.bool s, .slice A a.length c1], .agg #[.bool (!s), .slice B b.length c2]] w (BigR w (if s then dval b - dval a else dval a - dval b) (n + 1)) := by
  have CC : Hid (∀ W, Two w s A a.length c1 (!s) B b.length c2 W → Calls Try.prog 45 #[.slice A a.length c1, .slice B b.length c2] W fun e w1 => e = .returned (.int .i64 (ord3 (dval a) (dval b))) ∧ Two w s A a.length c1 (!s) B b.length c2 w1) := Lib.hid fun W hW => by
    refine (cmpSizes_any A B a b c1 c2 W (ha.below hW.old) (hb.below hW.old) da db na nb (by omega) (by omega)).mono ?_
    rintro e w1 ⟨rfl, h⟩
    exact ⟨rfl, hW.below h⟩
  have HT := Lib.hid (Two.new w s A a.length c1 (!s) B b.length c2 28)
  have CB : Hid (∀ (t : Bool) W (out : List Int) (A' : Option Addr) (c' : Nat), Ints W .u64 A' out → Digs out → out.length ≤ c' → c' ≤ 9223372036854775807 → Two w s A a.length c1 (!s) B b.length c2 W → Calls Try.prog 33 #[.bool t, .slice A' out.length c'] W fun e w1 => ∃ (neg : Bool) (A2 : Option Addr) (n2 c3 : Nat), e = .returned (.agg #[.bool neg, .slice A2 n2 c3]) ∧ BigV w1 (.agg #[.bool neg, .slice A2 n2 c3]) (if t then -dval out else dval out) out.length ∧ Two w s A a.length c1 (!s) B b.length c2 w1) :=
    Lib.hid fun t W out A' c' h1 h2 h3 h4 hW => two_made t out A' c' h1 h2 h3 h4 (fun _ h => hW.below h)
  by_cases hab : dval b ≤ dval a
  · have hge : decide ((0 : Int) ≤ ord3 (dval a) (dval b)) = true := by
      unfold ord3; rw [if_neg (by omega)]; split <;> decide
    have CS : Hid (∀ W, Two w s A a.length c1 (!s) B b.length c2 W → Calls Try.prog 46 #[.slice A a.length c1, .slice B b.length c2] W fun e w1 => ∃ (out : List Int) (A' : Option Addr) (c' : Nat), e = .returned (.slice A' out.length c') ∧ out.length ≤ c' ∧ c' ≤ 9223372036854775807 ∧ Ints w1 .u64 A' out ∧ Digs out ∧ dval out = dval a - dval b ∧ out.length ≤ a.length ∧ Two w s A a.length c1 (!s) B b.length c2 w1) :=
      Lib.hid fun W hW => two_sub ha hb da db (by omega) (by omega) hab hW.old (fun _ h => hW.below h)
    clear ha hb da db na nb hab
    generalize ord3 (dval a) (dval b) = o at *
    cases s
    · have hl : a.length ≤ n + 1 := by omega
      go_enter Try.func15, Try.ntmps15
      go_wp2_with (go_at_call 45; refine (CC.out _ HT.out).mono ?_; rintro e w0 ⟨rfl, hS0⟩; have HS0 := Lib.hid hS0.drew; clear hS0)
      go_region_held3 (fun w' => w'.cell? ⟨w.heap.size, 0, none⟩ = some (.bool false) ∧ w'.cell? ⟨w.heap.size, 1, none⟩ = some (.slice A a.length c1) ∧ w'.cell? ⟨w.heap.size + 1, 0, none⟩ = some (.bool !false) ∧ w'.cell? ⟨w.heap.size + 1, 1, none⟩ = some (.slice B b.length c2))
        (first | exact HS0.out.four | exact HS1.out.four | exact HS2.out.four | exact HS2.out.stored _ _)
        (first
          | (go_at_call 46; refine (CS.out _ HS0.out).mono ?_; rintro e w1 ⟨out, A', c', rfl, h1, h2, h3, h4, h5, h6, hS1⟩; have HS1 := Lib.hid hS1; have H5 := Lib.hid h5; clear hS1 h5)
          | (go_at_call 33; refine (CB.out _ _ _ _ _ h3 h4 h1 h2 HS1.out).mono ?_; rintro e w2 ⟨neg, A2, n2, c3, rfl, hV, hS2⟩; have HS2 := Lib.hid hS2; have HV := Lib.hid hV; obtain ⟨g0, g1, f0, f1⟩ := hS2.box; clear hS2 hV))
      go_wp2_with fail
      obtain ⟨p0, p1⟩ := HS2.out.box.put (.bool neg) (.slice A2 n2 c3)
      refine bodyPost_ret (v := .agg #[.bool neg, .slice A2 n2 c3]) (by simp [results, Try.results15, go_sem, p0, p1]) rfl ?_
      refine (big_out HS2.out.old (by omega) HS2.out.box HV.out).as ?_ (Nat.le_trans h6 hl)
      have := H5.out
      simp
      omega
    · have hl : a.length ≤ n + 1 := by omega
      go_enter Try.func15, Try.ntmps15
      go_wp2_with (go_at_call 45; refine (CC.out _ HT.out).mono ?_; rintro e w0 ⟨rfl, hS0⟩; have HS0 := Lib.hid hS0.drew; clear hS0)
      go_region_held3 (fun w' => w'.cell? ⟨w.heap.size, 0, none⟩ = some (.bool true) ∧ w'.cell? ⟨w.heap.size, 1, none⟩ = some (.slice A a.length c1) ∧ w'.cell? ⟨w.heap.size + 1, 0, none⟩ = some (.bool !true) ∧ w'.cell? ⟨w.heap.size + 1, 1, none⟩ = some (.slice B b.length c2))
        (first | exact HS0.out.four | exact HS1.out.four | exact HS2.out.four | exact HS2.out.stored _ _)
        (first
          | (go_at_call 46; refine (CS.out _ HS0.out).mono ?_; rintro e w1 ⟨out, A', c', rfl, h1, h2, h3, h4, h5, h6, hS1⟩; have HS1 := Lib.hid hS1; have H5 := Lib.hid h5; clear hS1 h5)
          | (go_at_call 33; refine (CB.out _ _ _ _ _ h3 h4 h1 h2 HS1.out).mono ?_; rintro e w2 ⟨neg, A2, n2, c3, rfl, hV, hS2⟩; have HS2 := Lib.hid hS2; have HV := Lib.hid hV; obtain ⟨g0, g1, f0, f1⟩ := hS2.box; clear hS2 hV))
      go_wp2_with fail
      obtain ⟨p0, p1⟩ := HS2.out.box.put (.bool neg) (.slice A2 n2 c3)
      refine bodyPost_ret (v := .agg #[.bool neg, .slice A2 n2 c3]) (by simp [results, Try.results15, go_sem, p0, p1]) rfl ?_
      refine (big_out HS2.out.old (by omega) HS2.out.box HV.out).as ?_ (Nat.le_trans h6 hl)
      have := H5.out
      simp
      omega
  · have hge : decide ((0 : Int) ≤ ord3 (dval a) (dval b)) = false := by
      unfold ord3; rw [if_pos (by omega)]; decide
    have CS : Hid (∀ W, Two w s A a.length c1 (!s) B b.length c2 W → Calls Try.prog 46 #[.slice B b.length c2, .slice A a.length c1] W fun e w1 => ∃ (out : List Int) (A' : Option Addr) (c' : Nat), e = .returned (.slice A' out.length c') ∧ out.length ≤ c' ∧ c' ≤ 9223372036854775807 ∧ Ints w1 .u64 A' out ∧ Digs out ∧ dval out = dval b - dval a ∧ out.length ≤ b.length ∧ Two w s A a.length c1 (!s) B b.length c2 w1) :=
      Lib.hid fun W hW => two_sub hb ha db da (by omega) (by omega) (by omega) hW.old (fun _ h => hW.below h)
    clear ha hb da db na nb hab
    generalize ord3 (dval a) (dval b) = o at *
    cases s
    · have hl : b.length ≤ n + 1 := by omega
      go_enter Try.func15, Try.ntmps15
      go_wp2_with (go_at_call 45; refine (CC.out _ HT.out).mono ?_; rintro e w0 ⟨rfl, hS0⟩; have HS0 := Lib.hid hS0.drew; clear hS0)
      go_region_held3 (fun w' => w'.cell? ⟨w.heap.size, 0, none⟩ = some (.bool false) ∧ w'.cell? ⟨w.heap.size, 1, none⟩ = some (.slice A a.length c1) ∧ w'.cell? ⟨w.heap.size + 1, 0, none⟩ = some (.bool !false) ∧ w'.cell? ⟨w.heap.size + 1, 1, none⟩ = some (.slice B b.length c2))
        (first | exact HS0.out.four | exact HS1.out.four | exact HS2.out.four | exact HS2.out.stored _ _)
        (first
          | (go_at_call 46; refine (CS.out _ HS0.out).mono ?_; rintro e w1 ⟨out, A', c', rfl, h1, h2, h3, h4, h5, h6, hS1⟩; have HS1 := Lib.hid hS1; have H5 := Lib.hid h5; clear hS1 h5)
          | (go_at_call 33; refine (CB.out _ _ _ _ _ h3 h4 h1 h2 HS1.out).mono ?_; rintro e w2 ⟨neg, A2, n2, c3, rfl, hV, hS2⟩; have HS2 := Lib.hid hS2; have HV := Lib.hid hV; obtain ⟨g0, g1, f0, f1⟩ := hS2.box; clear hS2 hV))
      go_wp2_with fail
      obtain ⟨p0, p1⟩ := HS2.out.box.put (.bool neg) (.slice A2 n2 c3)
      refine bodyPost_ret (v := .agg #[.bool neg, .slice A2 n2 c3]) (by simp [results, Try.results15, go_sem, p0, p1]) rfl ?_
      refine (big_out HS2.out.old (by omega) HS2.out.box HV.out).as ?_ (Nat.le_trans h6 hl)
      have := H5.out
      simp
      omega
    · have hl : b.length ≤ n + 1 := by omega
      go_enter Try.func15, Try.ntmps15
      go_wp2_with (go_at_call 45; refine (CC.out _ HT.out).mono ?_; rintro e w0 ⟨rfl, hS0⟩; have HS0 := Lib.hid hS0.drew; clear hS0)
      go_region_held3 (fun w' => w'.cell? ⟨w.heap.size, 0, none⟩ = some (.bool true) ∧ w'.cell? ⟨w.heap.size, 1, none⟩ = some (.slice A a.length c1) ∧ w'.cell? ⟨w.heap.size + 1, 0, none⟩ = some (.bool !true) ∧ w'.cell? ⟨w.heap.size + 1, 1, none⟩ = some (.slice B b.length c2))
        (first | exact HS0.out.four | exact HS1.out.four | exact HS2.out.four | exact HS2.out.stored _ _)
        (first
          | (go_at_call 46; refine (CS.out _ HS0.out).mono ?_; rintro e w1 ⟨out, A', c', rfl, h1, h2, h3, h4, h5, h6, hS1⟩; have HS1 := Lib.hid hS1; have H5 := Lib.hid h5; clear hS1 h5)
          | (go_at_call 33; refine (CB.out _ _ _ _ _ h3 h4 h1 h2 HS1.out).mono ?_; rintro e w2 ⟨neg, A2, n2, c3, rfl, hV, hS2⟩; have HS2 := Lib.hid hS2; have HV := Lib.hid hV; obtain ⟨g0, g1, f0, f1⟩ := hS2.box; clear hS2 hV))
      go_wp2_with fail
      obtain ⟨p0, p1⟩ := HS2.out.box.put (.bool neg) (.slice A2 n2 c3)
      refine bodyPost_ret (v := .agg #[.bool neg, .slice A2 n2 c3]) (by simp [results, Try.results15, go_sem, p0, p1]) rfl ?_
      refine (big_out HS2.out.old (by omega) HS2.out.box HV.out).as ?_ (Nat.le_trans h6 hl)
      have := H5.out
      simp
      omega

/-- Plus: the sum. -/
theorem plus_any (va vb : Value) (x y : Int) (n : Nat) (w : World) (hx : BigV w va x n) (hy : BigV w vb y n) (hn : n ≤ 100000000000) :
    Calls Try.prog 15 #[va, vb] w (BigR w (x + y) (n + 1)) := by
  obtain ⟨na, A, a, c1, rfl, a1, a2, a3, a4, a5, a6, a7, rfl⟩ := hx
  obtain ⟨nb, B, b, c2, rfl, b1, b2, b3, b4, b5, b6, b7, rfl⟩ := hy
  by_cases e : na = nb
  · subst e
    refine (plus_same na A B a b c1 c2 n w a3 b3 a4 b4 a6 b6 hn).mono fun e w' h => h.as ?_ (Nat.le_refl _)
    cases na <;> simp <;> omega
  · obtain rfl : nb = !na := by cases na <;> cases nb <;> simp_all
    refine (plus_diff na A B a b c1 c2 n w a3 b3 a4 b4 a5 b5 a6 b6 hn).mono fun e w' h => h.as ?_ (Nat.le_refl _)
    cases na <;> simp <;> omega
end Go.Proofs.Ytiblbhppojfdaaa
