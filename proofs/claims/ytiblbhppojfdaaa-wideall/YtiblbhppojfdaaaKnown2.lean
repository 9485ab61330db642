/-
  The walk of the second layer's known numbers.
-/
import Derived.Test.YtiblbhppojfdaaaWd7
import Derived.Test.YtiblbhppojfdaaaWd8
import Derived.Test.YtiblbhppojfdaaaWd10
namespace Go.Proofs.Ytiblbhppojfdaaa
open Go.RowKit

/-- Structs of two fields, each in its own block, and all that was there ahead. -/
def Kn (w : World) : List (Nat × Value × Value) → World → Prop
  | [], W => Below w.heap.size w W
  | x :: r, W => Box2 W x.1 x.2.1 x.2.2 ∧ Kn w r W
theorem Kn.below {w W W' : World} : ∀ {l : List (Nat × Value × Value)}, Kn w l W → Below W.heap.size W W' → Kn w l W'
  | [], h, hb => Below.trans h (hb.mono (Below.size h))
  | _ :: _, h, hb => ⟨h.1.below hb, Kn.below h.2 hb⟩
theorem Kn.alloc {w W : World} {l : List (Nat × Value × Value)} (h : Kn w l W) (o : Obj) : Kn w l (W.alloc o) := h.below ((Below.refl _ _).alloc (Nat.le_refl _) _)
theorem Kn.push {w W : World} {l : List (Nat × Value × Value)} (h : Kn w l W) (u0 u1 : Value) (t : TypeId) : Kn w ((W.heap.size, u0, u1) :: l) (W.alloc (.cells #[u0, u1] t)) :=
  ⟨Box2.new W u0 u1 t _ rfl, h.alloc _⟩
theorem Kn.drew {w W : World} {l : List (Nat × Value × Value)} (h : Kn w l W) : Kn w l W.drew := h.below (Below.refl _ _).drew
theorem Kn.old {w W : World} : ∀ {l : List (Nat × Value × Value)}, Kn w l W → Below w.heap.size w W
  | [], h => h
  | _ :: _, h => Kn.old h.2

theorem Kn.eight {w W : World} {b1 b2 b3 b4 b5 b6 b7 b8 : Nat} {u1 v1 u2 v2 u3 v3 u4 v4 u5 v5 u6 v6 u7 v7 u8 v8 : Value} (h : Kn w [(b1, u1, v1), (b2, u2, v2), (b3, u3, v3), (b4, u4, v4), (b5, u5, v5), (b6, u6, v6), (b7, u7, v7), (b8, u8, v8)] W) :
    W.cell? ⟨b1, 0, none⟩ = some u1 ∧ W.cell? ⟨b1, 1, none⟩ = some v1 ∧ W.cell? ⟨b2, 0, none⟩ = some u2 ∧ W.cell? ⟨b2, 1, none⟩ = some v2 ∧ W.cell? ⟨b3, 0, none⟩ = some u3 ∧ W.cell? ⟨b3, 1, none⟩ = some v3 ∧ W.cell? ⟨b4, 0, none⟩ = some u4 ∧ W.cell? ⟨b4, 1, none⟩ = some v4 ∧ W.cell? ⟨b5, 0, none⟩ = some u5 ∧ W.cell? ⟨b5, 1, none⟩ = some v5 ∧ W.cell? ⟨b6, 0, none⟩ = some u6 ∧ W.cell? ⟨b6, 1, none⟩ = some v6 ∧ W.cell? ⟨b7, 0, none⟩ = some u7 ∧ W.cell? ⟨b7, 1, none⟩ = some v7 ∧ W.cell? ⟨b8, 0, none⟩ = some u8 ∧ W.cell? ⟨b8, 1, none⟩ = some v8 := by
  obtain ⟨⟨a1, c1, _, _⟩, ⟨a2, c2, _, _⟩, ⟨a3, c3, _, _⟩, ⟨a4, c4, _, _⟩, ⟨a5, c5, _, _⟩, ⟨a6, c6, _, _⟩, ⟨a7, c7, _, _⟩, ⟨a8, c8, _, _⟩, _⟩ := h
  exact ⟨a1, c1, a2, c2, a3, c3, a4, c4, a5, c5, a6, c6, a7, c7, a8, c8⟩

theorem wides_12 (W : World) (t : TypeId) (n : Nat) (hn : n = W.heap.size) : Wides (W.alloc (.cells #[.int .i64 0, .int .u64 1, .int .i64 0, .int .u64 2] t)) (some ⟨n, 0, none⟩) [1, 2] := by
  subst hn
  intro _
  refine ⟨_, _, rfl, fun i hi => ?_⟩
  match i, hi with
  | 0, _ => exact ⟨by rw [World.cell?_alloc_new]; rfl, by rw [World.cell?_alloc_new]; rfl⟩
  | 1, _ => exact ⟨by rw [World.cell?_alloc_new]; rfl, by rw [World.cell?_alloc_new]; rfl⟩
theorem sum_12 (A : Option Addr) (c : Nat) (w : World) (hr : Wides w A [1, 2]) :
    Calls Try.prog 32 #[.slice A 2 c] w fun e w' => e = .returned (.tuple #[.agg #[.int .i64 0, .int .u64 3], .bool true]) ∧ Below w.heap.size w w' := by
  have h := wsum_any A [1, 2] c w hr (by intro x hx; simp at hx; unfold W128; omega) (by simp)
  exact h

set_option maxRecDepth 100000 in
set_option maxHeartbeats 4000000 in
theorem known_any (w : World) : Calls Try.prog 5 #[] w fun e w' => e = .returned (.bool true) ∧ Below w.heap.size w w' := by
  have o5 := of_any 5 (by unfold I64; omega)
  rw [show up64 5 = 0 from by decide, show lo64 5 = 5 from by decide] at o5
  have om7 := of_any (-7) (by unfold I64; omega)
  rw [show up64 (-7) = (-1) from by decide, show lo64 (-7) = 18446744073709551609 from by decide] at om7
  have o7 := of_any 7 (by unfold I64; omega)
  rw [show up64 7 = 0 from by decide, show lo64 7 = 7 from by decide] at o7
  have o3 := of_any 3 (by unfold I64; omega)
  rw [show up64 3 = 0 from by decide, show lo64 3 = 3 from by decide] at o3
  have om3 := of_any (-3) (by unfold I64; omega)
  rw [show up64 (-3) = (-1) from by decide, show lo64 (-3) = 18446744073709551613 from by decide] at om3
  have o6 := of_any 6 (by unfold I64; omega)
  rw [show up64 6 = 0 from by decide, show lo64 6 = 6 from by decide] at o6
  have o1 := of_any 1 (by unfold I64; omega)
  rw [show up64 1 = 0 from by decide, show lo64 1 = 1 from by decide] at o1
  have o2 := of_any 2 (by unfold I64; omega)
  rw [show up64 2 = 0 from by decide, show lo64 2 = 2 from by decide] at o2
  have o42 := of_any 42 (by unfold I64; omega)
  rw [show up64 42 = 0 from by decide, show lo64 42 = 42 from by decide] at o42
  have om1 := of_any (-1) (by unfold I64; omega)
  rw [show up64 (-1) = (-1) from by decide, show lo64 (-1) = 18446744073709551615 from by decide] at om1
  have cadd := wadd_any 5 (-7) (by unfold W128; omega) (by unfold W128; omega)
  rw [show wheld (5 + -7) = (-2) from by decide, show wfits (5 + -7) = true from by decide, show up64 5 = 0 from by decide, show lo64 5 = 5 from by decide, show up64 (-7) = (-1) from by decide, show lo64 (-7) = 18446744073709551609 from by decide, show up64 (-2) = (-1) from by decide, show lo64 (-2) = 18446744073709551614 from by decide] at cadd
  have csub := wsub_any 5 7 (by unfold W128; omega) (by unfold W128; omega)
  rw [show wheld (5 - 7) = (-2) from by decide, show wfits (5 - 7) = true from by decide, show up64 5 = 0 from by decide, show lo64 5 = 5 from by decide, show up64 7 = 0 from by decide, show lo64 7 = 7 from by decide, show up64 (-2) = (-1) from by decide, show lo64 (-2) = 18446744073709551614 from by decide] at csub
  have cneg := wneg_any 3 (by unfold W128; omega)
  rw [show wheld (-3) = (-3) from by decide, show wfits (-3) = true from by decide, show up64 3 = 0 from by decide, show lo64 3 = 3 from by decide, show up64 (-3) = (-1) from by decide, show lo64 (-3) = 18446744073709551613 from by decide] at cneg
  have cabs := wabs_any (-3) (by unfold W128; omega)
  rw [show wheld ((-3 : Int).natAbs : Int) = 3 from by decide, show wfits ((-3 : Int).natAbs : Int) = true from by decide, show up64 (-3) = (-1) from by decide, show lo64 (-3) = 18446744073709551613 from by decide, show up64 3 = 0 from by decide, show lo64 3 = 3 from by decide] at cabs
  have ctim := wtimes_any 6 7 (by unfold W128; omega) (by unfold I64; omega)
  rw [show wheld (6 * 7) = 42 from by decide, show wfits (6 * 7) = true from by decide, show up64 6 = 0 from by decide, show lo64 6 = 6 from by decide, show up64 42 = 0 from by decide, show lo64 42 = 42 from by decide] at ctim
  have cmul := wmul_any (-9223372036854775808) (-9223372036854775808) (by unfold I64; omega) (by unfold I64; omega)
  rw [show (-9223372036854775808 : Int) * -9223372036854775808 = 85070591730234615865843651857942052864 from by decide, show up64 85070591730234615865843651857942052864 = 4611686018427387904 from by decide, show lo64 85070591730234615865843651857942052864 = 0 from by decide] at cmul
  have cdiv := wdiv_any (-1) 2 (by unfold W128; omega) (by omega) (by unfold I64; omega)
  rw [show (-1 : Int) / 2 = -1 from by decide, show (-1 : Int) % 2 = 1 from by decide, show up64 (-1) = (-1) from by decide, show lo64 (-1) = 18446744073709551615 from by decide] at cdiv
  have cint := wint_any 3 (by unfold W128; omega)
  rw [show held 3 = 3 from by decide, show fits 3 = true from by decide, show up64 3 = 0 from by decide, show lo64 3 = 3 from by decide] at cint
  have csign := wsign_any (-2)
  rw [show cmp3 (-2) 0 = -1 from by decide, show up64 (-2) = (-1) from by decide, show lo64 (-2) = 18446744073709551614 from by decide] at csign
  have ccmp := cmp_any (-2) 3
  rw [show cmp3 (-2) 3 = -1 from by decide, show up64 (-2) = (-1) from by decide, show lo64 (-2) = 18446744073709551614 from by decide, show up64 3 = 0 from by decide, show lo64 3 = 3 from by decide] at ccmp
  have O5 := Lib.hid o5
  have OM7 := Lib.hid om7
  have O7 := Lib.hid o7
  have O3 := Lib.hid o3
  have OM3 := Lib.hid om3
  have O6 := Lib.hid o6
  have O1 := Lib.hid o1
  have O2 := Lib.hid o2
  have O42 := Lib.hid o42
  have OM1 := Lib.hid om1
  have CADD := Lib.hid cadd
  have CSUB := Lib.hid csub
  have CNEG := Lib.hid cneg
  have CABS := Lib.hid cabs
  have CTIM := Lib.hid ctim
  have CMUL := Lib.hid cmul
  have CDIV := Lib.hid cdiv
  have CINT := Lib.hid cint
  have CSIGN := Lib.hid csign
  have CCMP := Lib.hid ccmp
  clear o5 om7 o7 o3 om3 o6 o1 o2 o42 om1 cadd csub cneg cabs ctim cmul cdiv cint csign ccmp
  have K : Hid (Kn w [] w) := Lib.hid (Below.refl _ _)
  go_enter Try.func5, Try.ntmps5
  go_wp2_with (first
    | (go_at_call 22; first | ((with_reducible refine (O5.out _).mono ?_); rintro e w1 ⟨rfl, hb⟩; first | replace K := Lib.hid (K.out.below hb) | replace K := Lib.hid ((K.out.push _ _ _).below hb); clear hb) | ((with_reducible refine (OM7.out _).mono ?_); rintro e w1 ⟨rfl, hb⟩; first | replace K := Lib.hid (K.out.below hb) | replace K := Lib.hid ((K.out.push _ _ _).below hb); clear hb) | ((with_reducible refine (O7.out _).mono ?_); rintro e w1 ⟨rfl, hb⟩; first | replace K := Lib.hid (K.out.below hb) | replace K := Lib.hid ((K.out.push _ _ _).below hb); clear hb) | ((with_reducible refine (O3.out _).mono ?_); rintro e w1 ⟨rfl, hb⟩; first | replace K := Lib.hid (K.out.below hb) | replace K := Lib.hid ((K.out.push _ _ _).below hb); clear hb) | ((with_reducible refine (OM3.out _).mono ?_); rintro e w1 ⟨rfl, hb⟩; first | replace K := Lib.hid (K.out.below hb) | replace K := Lib.hid ((K.out.push _ _ _).below hb); clear hb) | ((with_reducible refine (O6.out _).mono ?_); rintro e w1 ⟨rfl, hb⟩; first | replace K := Lib.hid (K.out.below hb) | replace K := Lib.hid ((K.out.push _ _ _).below hb); clear hb) | ((with_reducible refine (O1.out _).mono ?_); rintro e w1 ⟨rfl, hb⟩; first | replace K := Lib.hid (K.out.below hb) | replace K := Lib.hid ((K.out.push _ _ _).below hb); clear hb) | ((with_reducible refine (O2.out _).mono ?_); rintro e w1 ⟨rfl, hb⟩; first | replace K := Lib.hid (K.out.below hb) | replace K := Lib.hid ((K.out.push _ _ _).below hb); clear hb) | ((with_reducible refine (O42.out _).mono ?_); rintro e w1 ⟨rfl, hb⟩; first | replace K := Lib.hid (K.out.below hb) | replace K := Lib.hid ((K.out.push _ _ _).below hb); clear hb) | ((with_reducible refine (OM1.out _).mono ?_); rintro e w1 ⟨rfl, hb⟩; first | replace K := Lib.hid (K.out.below hb) | replace K := Lib.hid ((K.out.push _ _ _).below hb); clear hb))
    | (go_at_call 21; refine (CMUL.out _).mono ?_; rintro e wmul ⟨rfl, hb⟩; first | replace K := Lib.hid (K.out.below hb) | replace K := Lib.hid ((K.out.push _ _ _).below hb); clear hb)
    | (go_at_call 31; refine (CDIV.out _).mono ?_; rintro e wdiv ⟨rfl, hb⟩; first | replace K := Lib.hid (K.out.below hb) | replace K := Lib.hid ((K.out.push _ _ _).below hb); clear hb)
    | (go_at_call 7; refine (CADD.out _).mono ?_; rintro e wadd ⟨rfl, hb⟩; first | replace K := Lib.hid (K.out.below hb) | replace K := Lib.hid ((K.out.push _ _ _).below hb); clear hb)
    | (go_at_call 8; refine (CSUB.out _).mono ?_; rintro e wsub ⟨rfl, hb⟩; first | replace K := Lib.hid (K.out.below hb) | replace K := Lib.hid ((K.out.push _ _ _).below hb); clear hb)
    | (go_at_call 9; refine (CNEG.out _).mono ?_; rintro e wneg ⟨rfl, hb⟩; first | replace K := Lib.hid (K.out.below hb) | replace K := Lib.hid ((K.out.push _ _ _).below hb); clear hb)
    | (go_at_call 10; refine (CABS.out _).mono ?_; rintro e wabs ⟨rfl, hb⟩; first | replace K := Lib.hid (K.out.below hb) | replace K := Lib.hid ((K.out.push _ _ _).below hb); clear hb)
    | (go_at_call 11; refine (CTIM.out _).mono ?_; rintro e wtim ⟨rfl, hb⟩; first | replace K := Lib.hid (K.out.below hb) | replace K := Lib.hid ((K.out.push _ _ _).below hb); clear hb)
    | (go_at_call 32; refine (sum_12 _ _ _ (by exact wides_12 _ _ _ rfl)).mono ?_; rintro e wsum ⟨rfl, hb⟩; first | replace K := Lib.hid ((K.out.alloc _).below hb) | replace K := Lib.hid (((K.out.push _ _ _).alloc _).below hb); clear hb)
    | (go_at_call 12; refine (CINT.out _).mono ?_; rintro e w1 ⟨rfl, hb⟩; have K0 := Lib.hid ((K.out.push _ _ _).below hb).drew; clear hb))
  simp only [List.append_eq, List.cons_append, List.nil_append]
  go_region_held3 (fun w' => w'.cell? ⟨wsum.heap.size, 0, none⟩ = some (.int .i64 0) ∧ w'.cell? ⟨wsum.heap.size, 1, none⟩ = some (.int .u64 3) ∧ w'.cell? ⟨wtim.heap.size, 0, none⟩ = some (.int .i64 0) ∧ w'.cell? ⟨wtim.heap.size, 1, none⟩ = some (.int .u64 42) ∧ w'.cell? ⟨wabs.heap.size, 0, none⟩ = some (.int .i64 0) ∧ w'.cell? ⟨wabs.heap.size, 1, none⟩ = some (.int .u64 3) ∧ w'.cell? ⟨wneg.heap.size, 0, none⟩ = some (.int .i64 (-1)) ∧ w'.cell? ⟨wneg.heap.size, 1, none⟩ = some (.int .u64 18446744073709551613) ∧ w'.cell? ⟨wsub.heap.size, 0, none⟩ = some (.int .i64 (-1)) ∧ w'.cell? ⟨wsub.heap.size, 1, none⟩ = some (.int .u64 18446744073709551614) ∧ w'.cell? ⟨wadd.heap.size, 0, none⟩ = some (.int .i64 (-1)) ∧ w'.cell? ⟨wadd.heap.size, 1, none⟩ = some (.int .u64 18446744073709551614) ∧ w'.cell? ⟨wdiv.heap.size, 0, none⟩ = some (.int .i64 (-1)) ∧ w'.cell? ⟨wdiv.heap.size, 1, none⟩ = some (.int .u64 18446744073709551615) ∧ w'.cell? ⟨wmul.heap.size, 0, none⟩ = some (.int .i64 4611686018427387904) ∧ w'.cell? ⟨wmul.heap.size, 1, none⟩ = some (.int .u64 0))
    (first | exact K0.out.eight | exact K1.out.eight | exact K2.out.eight | exact K3.out.eight | exact K4.out.eight)
    (first
      | (go_at_call 23; refine (CSIGN.out _).mono ?_; rintro e wa ⟨rfl, hb⟩; have K1 := Lib.hid (K0.out.below hb); clear hb)
      | (go_at_call 22; first | ((with_reducible refine (O3.out _).mono ?_); rintro e wb ⟨rfl, hb⟩; have K2 := Lib.hid (K1.out.below hb); clear hb) | ((with_reducible refine (O42.out _).mono ?_); rintro e wc ⟨rfl, hb⟩; have K3 := Lib.hid (K2.out.below hb); clear hb))
      | (go_at_call 25; refine (CCMP.out _).mono ?_; rintro e wd ⟨rfl, hb⟩; have K4 := Lib.hid (K3.out.below hb); clear hb))
  go_wp2
  go_ret
  exact ⟨rfl, K4.out.old⟩
end Go.Proofs.Ytiblbhppojfdaaa
