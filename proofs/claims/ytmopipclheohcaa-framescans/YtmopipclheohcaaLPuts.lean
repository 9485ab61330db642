/-
  The walk of novationlaw4.FramePuts.
-/
import Derived.Test.YtmopipclheohcaaKnown4
import Derived.Test.YtmopipclheohcaaAppZ
namespace Go.Proofs.Ytmopipclheohcaa
open Go Go.RowKit Go.Shelf

/-- What Put answers. -/
def putL (l : List Nat) : List Nat × Int := if l.length ≤ 400 then (recL l, 0) else ([], 1)
theorem put_all (A : Option Addr) (l : List Nat) (n c : Nat) (hk : n = l.length) (w : World) (hr : Byts w A l) (hl : Oct l) (hA : A = none → c = 0) (hn : l.length ≤ 9223372036854775807) :
    Calls Try.prog 9 #[.slice A n c] w (BytesC w (putL l).1 (putL l).2) := by
  subst hk
  unfold putL
  by_cases h : l.length ≤ 400
  · rw [if_pos h]; exact put_any A l c w hr hl hA h
  · rw [if_neg h]; exact put_long A l c w hn (by omega)
theorem rframe_all (A : Option Addr) (l : List Nat) (n c : Nat) (hk : n = l.length) (w : World) (hr : Byts w A l) (hl : Oct l) (hA : A = none → c = 0) (hn : l.length ≤ 9223372036854775807) :
    Calls Try.prog 10 #[.slice A n c] w (BytesC w (putL l).1 (putL l).2) := by
  subst hk
  unfold putL
  by_cases h : l.length ≤ 400
  · rw [if_pos h]; exact rframe_any A l c w hr hl hA h
  · rw [if_neg h]; exact rframe_long A l c w hn (by omega)
/-- The step of an append of noughts. -/
theorem wpList_zeros {w : World} {ops : Array Oper} {rest : List Oper} {o : Oper} {a : Act} {Q : Exit → Act → World → Prop} (hgd : o.guard = none) (s x : Operand)
    (ho : o.op = .call { callee := .builtin .append, args := #[s, x], argTypes := #[22, 3] }) (base : Nat) (v : Value) (xs : List Nat) (hs : a.eval s = v) (hown : OwnB w base v xs)
    (i : Int) (m : Nat) (hx : a.eval x = .int .i64 i) (hi : i = (m : Int)) (hb : xs.length + m ≤ 1000000000) (hp : 0 < m) (hbase : base ≤ w.heap.size)
    (h : ∀ v' w', OwnB w' base v' (xs ++ List.replicate m 0) → Below base w w' → w.grownBy w' v.ownBlock → wpList Try.prog ops Q rest (a.put o.dst v') w') : wpList Try.prog ops Q (o :: rest) a w := by
  subst hi
  refine wpList_plain hgd fun _ hK => ?_
  obtain ⟨v', w', hr, h2, h3⟩ := run_app_zeros w o.type base v xs hown m hb hp hbase
  unfold Oper.wp execOp
  simp only [ho, resolve, invoke, builtin, Sem.run_bind, Sem.run_pure, Result.andThen_ok, List.map_toArray, List.map_cons, List.map_nil, hs, hx, hr]
  exact hK _ _ (h v' w' h2 (grown_below hown h3 hbase) h3)
theorem str_run {w w' : World} {base : Nat} {v : Value} {l : List Nat} (h : OwnB w base v l) (hb : Below w.heap.size w w') : (convert 22 9 v).run Try.prog w' = .ok (.string (bstr l)) w' := by
  obtain ⟨A, c, rfl, hB, _⟩ := h.form
  exact run_bstr w' A l _ c rfl (hB.below hb)
theorem oct_zeros (m : Nat) : Oct (List.replicate m 0) := fun x hx => by rw [List.eq_of_mem_replicate hx]; omega

set_option maxRecDepth 8000 in
set_option maxHeartbeats 2000000 in
theorem puts_long (A : Option Addr) (l : List Nat) (c : Nat) (m : Int) (w : World) (hn : l.length ≤ 9223372036854775807) (h : 300 < l.length) :
    Calls Try.prog 3 #[.slice A l.length c, .int .u8 m] w fun e w' => e = .returned (.bool true) ∧ Below w.heap.size w w' := by
  have C := Lib.hid (known_any w)
  go_enter Try.func3, Try.ntmps3
  go_wp2_with (go_at_call 8; refine C.out.mono ?_; rintro e w1 ⟨rfl, HB⟩)
  go_ret
  exact ⟨rfl, HB⟩
set_option maxRecDepth 8000 in
set_option maxHeartbeats 4000000 in
theorem puts_walk (A : Option Addr) (l : List Nat) (c : Nat) (m : Int) (w : World) (hr : Byts w A l) (hl : Oct l) (hA : A = none → c = 0) (hn : l.length ≤ 9223372036854775807) (hm : 0 ≤ m ∧ m ≤ 255) :
    Calls Try.prog 3 #[.slice A l.length c, .int .u8 m] w fun e w' => e = .returned (.bool true) ∧ Below w.heap.size w w' := by
  by_cases h : 300 < l.length
  · exact puts_long A l c m w hn h
  obtain ⟨n, hk⟩ : ∃ n, n = l.length := ⟨_, rfl⟩
  obtain ⟨K, hK⟩ : ∃ K : Nat, (K : Int) = 398 - n + m % 5 := ⟨(398 - (n : Int) + m % 5).toNat, by omega⟩
  have C := Lib.hid (known_any w)
  have HB := Lib.hid hr
  have HO := Lib.hid hl
  have HA := Lib.hid hA
  have HN := Lib.hid hk
  have HC1 := Lib.hid (fun (W : World) (hb : Below w.heap.size w W) => put_all A l n c hk W (hr.below hb) hl hA hn)
  have HC2 := Lib.hid (fun (W : World) (hb : Below w.heap.size w W) => rframe_all A l n c hk W (hr.below hb) hl hA hn)
  have HC5 := Lib.hid (fun (W : World) (hb : Below w.heap.size w W) => by have := sum_any A l c W (hr.below hb) hl hn; rw [← hk] at this; exact this)
  have HC6 := Lib.hid (fun (W : World) (hb : Below w.heap.size w W) => by have := rcrc_any A l c W (hr.below hb) hl hn; rw [← hk] at this; exact this)
  rw [← hk] at h ⊢
  clear hr hl hA hk hn
  have hr5 : IntKind.u8.wrap (m.tmod 5) = m % 5 := by rw [u8w, Int.tmod_eq_emod_of_nonneg hm.1]; omega
  go_enter Try.func3, Try.ntmps3
  go_wp2_with (first
    | (go_at_call 8; refine C.out.mono ?_; rintro e w1 ⟨rfl, HB1⟩)
    | (at_builtin; refine wpList_app rfl (.tmp 19) (.tmp 20) rfl w1.heap.size _ [] rfl (ownB_lit w1 _ _ [] (Nat.le_refl _) ?c1 rfl _ rfl _ rfl) _ _ _ l rfl HN.out (HB.out.below ?c3) HA.out ?c6 ?c7 ?_))
  case c1 => simp
  case c3 => exact HB1.alloc HB1.size _
  case c6 => have := HN.out; simp; omega
  case c7 => simp
  intro v2 w2 ho2 hb2 _
  obtain ⟨A2, c2, rfl, _⟩ := OwnB.form ho2
  have HB2 := Lib.hid (below_one hb2)
  rw [← HN.out] at ho2
  have HO2 := Lib.hid ho2
  have HB1' := Lib.hid HB1
  clear ho2 hb2 HB1
  rw [← HN.out]
  go_wp2_with (at_builtin; refine wpList_zeros rfl (.tmp 21) (.tmp 28) rfl w1.heap.size _ l rfl HO2.out _ K rfl ?d1 ?d2 ?d3 HB2.out.size ?_)
  case d1 => omega
  case d2 => have := HN.out; omega
  case d3 => omega
  intro v3 w3 ho3 hb3 _
  obtain ⟨A3, c3, rfl, hB3, hc3, _, hA3, _⟩ := OwnB.form ho3
  have HB3 := Lib.hid (HB2.out.trans hb3)
  have hlen3 : (l ++ List.replicate K 0).length = n + K := by rw [List.length_append, List.length_replicate, HN.out]
  have HC3 := Lib.hid (fun (W : World) (hb : Below w3.heap.size w3 W) => put_all A3 (l ++ List.replicate K 0) _ c3 hlen3.symm W (hB3.below hb) (HO.out.append (oct_zeros K)) hA3 (by omega))
  have HC4 := Lib.hid (fun (W : World) (hb : Below w3.heap.size w3 W) => rframe_all A3 (l ++ List.replicate K 0) _ c3 hlen3.symm W (hB3.below hb) (HO.out.append (oct_zeros K)) hA3 (by omega))
  have HBA := Lib.hid (HB1'.out.trans (HB3.out.mono HB1'.out.size))
  rw [hlen3]
  clear ho3 hb3 hB3 hc3 hA3 hlen3 HB1' HB2 HO2 HB3 C hK hm hr5
  have hs3 := HBA.out.size
  generalize putL (l ++ List.replicate K 0) = Y at *
  generalize putL l = X at *
  obtain ⟨xs, xc⟩ := X
  obtain ⟨ys, yc⟩ := Y
  simp only at HC1 HC2 HC3 HC4
  go_wp2_with (first
    | (go_at_call 9; (with_reducible refine (HC1.out _ HBA.out).mono ?_); rintro e w4 ⟨v4, rfl, hv4, hb4⟩; have HB4 := Lib.hid (HBA.out.trans (hb4.mono hs3)))
    | (go_at_call 10; (with_reducible refine (HC2.out _ HB4.out).mono ?_); rintro e w5 ⟨v5, rfl, hv5, hb5⟩; have hb45 := hb4.trans (hb5.mono hb4.size))
    | (go_at_call 9; (with_reducible refine (HC3.out _ hb45).mono ?_); rintro e w6 ⟨v6, rfl, hv6, hb6⟩; have hb46 := hb45.trans (hb6.mono hb45.size))
    | (go_at_call 10; (with_reducible refine (HC4.out _ hb46).mono ?_); rintro e w7 ⟨v7, rfl, hv7, hb7⟩; have hb47 := hb46.trans (hb7.mono hb46.size); have hb67 := hb6.trans (hb7.mono hb6.size); have hb57 := hb5.trans (hb67.mono hb5.size); have s4 := str_run hv4 hb57; have s5 := str_run hv5 hb67; have s6 := str_run hv6 hb7; have s7 := str_run hv7 (Below.refl _ _); have HB7 := Lib.hid (HBA.out.trans (hb47.mono hs3)); clear hv4 hv5 hv6 hv7 hb4 hb5 hb6 hb7 hb45 hb46 hb47 hb67 hb57 HC1 HC2 HC3 HC4)
    | (go_at_call 11; refine (HC5.out _ HB7.out).mono ?_; rintro e w8 ⟨rfl, rfl⟩)
    | (go_at_call 12; refine (HC6.out _ HB7.out).mono ?_; rintro e w8 ⟨rfl, rfl⟩))
  go_ret
  exact ⟨rfl, HB7.out⟩
end Go.Proofs.Ytmopipclheohcaa
