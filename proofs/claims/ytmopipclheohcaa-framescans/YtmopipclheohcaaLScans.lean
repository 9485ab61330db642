/-
  The walk of novationlaw4.FrameScans.
-/
import Derived.Test.YtmopipclheohcaaScans
import Derived.BigFrame
namespace Go.Proofs.Ytmopipclheohcaa
open Go Go.RowKit Go.Shelf

/-- The step of an append whose guard says yes. -/
theorem wpList_appg {w : World} {ops : Array Oper} {rest : List Oper} {o : Oper} {a : Act} {Q : Exit → Act → World → Prop} (hw : Region.wanted o (yielded ops a.tmps) = true) (s x : Operand)
    (ho : o.op = .call { callee := .builtin .append, args := #[s, x], argTypes := #[22, 22] }) (base : Nat) (v : Value) (xs : List Nat) (hs : a.eval s = v) (hown : OwnB w base v xs)
    (A : Option Addr) (n c : Nat) (l : List Nat) (hx : a.eval x = .slice A n c) (hn : n = l.length) (hB : Byts w A l) (hA : A = none → c = 0) (hb : xs.length + l.length ≤ 140737488355328) (hbase : base ≤ w.heap.size)
    (h : ∀ v' w', OwnB w' base v' (xs ++ l) → Below base w w' → w.grownBy w' v.ownBlock → wpList Try.prog ops Q rest (a.put o.dst v') w') : wpList Try.prog ops Q (o :: rest) a w := by
  subst hn
  refine Go.BigFrame.wpList_want hw fun _ hK => ?_
  obtain ⟨v', w', hr, h2, h3⟩ := run_app w o.type base v xs hown A c l hB hA hb hbase
  unfold Oper.wp execOp
  simp only [ho, resolve, invoke, builtin, Sem.run_bind, Sem.run_pure, Result.andThen_ok, List.map_toArray, List.map_cons, List.map_nil, hs, hx, hr]
  exact hK _ _ (h v' w' h2 (grown_below hown h3 hbase) h3)
set_option maxRecDepth 8000 in
set_option maxHeartbeats 2000000 in
theorem lscans_out (A : Option Addr) (l : List Nat) (c : Nat) (D : Option Addr) (ls : List (List Nat)) (d : Nat) (w : World) (hn : l.length ≤ 9223372036854775807) (hr : Rws w D ls) (hn2 : ls.length ≤ 9223372036854775807) (h : 1000 < l.length ∨ ¬ Fits ls) :
    Calls Try.prog 4 #[.slice A l.length c, .slice D ls.length d] w fun e w' => e = .returned (.bool true) ∧ Below w.heap.size w w' := by
  have C := Lib.hid (known_any w)
  by_cases h1 : 1000 < l.length
  · clear h hr
    have hd : decide (1000 < (l.length : Int)) = true := decide_eq_true (by omega)
    go_enter Try.func4, Try.ntmps4
    go_wp2_with (go_at_call 8; refine C.out.mono ?_; rintro e w1 ⟨rfl, HB⟩)
    go_ret
    exact ⟨rfl, HB⟩
  · have hf : ¬ Fits ls := h.resolve_left h1
    have hd : decide (1000 < (l.length : Int)) = false := decide_eq_false (by omega)
    have C2 := Lib.hid (fun W (hb : Below w.heap.size w W) => fit_no D ls d W (hr.below hb) hn2 hf)
    clear h hr hf
    go_enter Try.func4, Try.ntmps4
    go_wp2_with (first
      | (go_at_call 8; refine C.out.mono ?_; rintro e w1 ⟨rfl, HB⟩)
      | (go_at_call 13; refine (C2.out _ HB).mono ?_; rintro e w2 ⟨rfl, rfl⟩))
    go_ret
    exact ⟨rfl, HB⟩
theorem own_addr {w : World} {base : Nat} {A : Option Addr} {n c : Nat} {l : List Nat} (h : OwnB w base (.slice A n c) l) : c = 0 ∨ ∃ b off, A = some ⟨b, off, none⟩ := by
  rcases h.2 with ⟨e, _⟩ | ⟨g, cap, cur, e, _⟩
  · injection e with _ _ e; exact .inl e
  · injection e with e; exact .inr ⟨g, 0, e⟩
set_option maxRecDepth 8000 in
set_option maxHeartbeats 400000 in
theorem lscans_walk (A : Option Addr) (l : List Nat) (c : Nat) (D : Option Addr) (ls : List (List Nat)) (d : Nat) (w : World) (hB : Byts w A l) (hO : Oct l) (hA : A = none → c = 0) (hAd : c = 0 ∨ ∃ b off, A = some ⟨b, off, none⟩) (hn : l.length ≤ 9223372036854775807) (hcap : l.length ≤ c) (hc2 : c ≤ 9223372036854775807)
    (hr : Rws w D ls) (hn2 : ls.length ≤ 9223372036854775807) :
    Calls Try.prog 4 #[.slice A l.length c, .slice D ls.length d] w fun e w' => e = .returned (.bool true) ∧ Below w.heap.size w w' := by
  by_cases h : 1000 < l.length ∨ ¬ Fits ls
  · exact lscans_out A l c D ls d w hn hr hn2 h
  have h1 : ¬ 1000 < l.length := fun e => h (.inl e)
  have hf : Fits ls := Classical.not_not.1 fun e => h (.inr e)
  have hd : decide (1000 < (l.length : Int)) = false := decide_eq_false (by omega)
  have hT : (catL ls).length ≤ 8120 := by have h9 := catL_bound ls hf ls.length (Nat.le_refl _); have := hf.1; rw [List.take_length] at h9; omega
  have HOT : Hid (Oct (catL ls)) := Lib.hid (by
    have := oct_cat ls hf (fun i hi => by obtain ⟨b, off, _, hc⟩ := hr (by omega); obtain ⟨_, _, _, _, h, _⟩ := hc i hi; exact h) ls.length (Nat.le_refl _)
    rwa [List.take_length] at this)
  have C := Lib.hid (known_any w)
  have C2 := Lib.hid (fun W (hb : Below w.heap.size w W) => fit_yes D ls d W (hr.below hb) hf)
  have C3 := Lib.hid (fun W (hb : Below w.heap.size w W) => all_any D ls d W (hr.below hb) hf)
  have C4 := Lib.hid (fun W (hb : Below w.heap.size w W) => scans_any A l c W (hB.below hb) hO (by omega) hcap hc2 hAd)
  have HY := Lib.hid hB
  have HO := Lib.hid hO
  have HA := Lib.hid hA
  clear h hr hf hB hO hA hAd
  generalize catL ls = T at *
  go_enter Try.func4, Try.ntmps4
  go_wp2_with (first
    | (go_at_call 8; refine C.out.mono ?_; rintro e w1 ⟨rfl, hb1⟩)
    | (go_at_call 13; refine (C2.out _ hb1).mono ?_; rintro e w2 ⟨rfl, rfl⟩)
    | (go_at_call 14; refine (C3.out _ hb1).mono ?_; rintro e w3 ⟨v3, rfl, hv3, hb3⟩; obtain ⟨A3, c3, rfl, hB3, hc3, hc4, hA3, _⟩ := OwnB.form hv3; have HB3 := Lib.hid (hb1.trans (hb3.mono hb1.size)))
    | (go_at_call 15; refine (C4.out _ HB3.out).mono ?_; rintro e w4 ⟨rfl, hb4⟩; have HB4 := Lib.hid (HB3.out.trans (hb4.mono HB3.out.size)); have hY4 := hB3.below hb4)
    | (at_builtin; refine wpList_appg (by rfl) (.tmp 28) (.tmp 29) rfl w4.heap.size _ [] rfl (ownB_lit w4 _ _ [] (Nat.le_refl _) ?c1 rfl _ rfl _ rfl) _ _ _ T rfl rfl (hY4.below ?c3) hA3 ?c6 ?c7 ?_))
  case c1 => simp
  case c3 => exact (Below.refl _ _).alloc (Nat.le_refl _) _
  case c6 => simp; omega
  case c7 => simp
  intro v5 w5 ho5 hb5 _
  obtain ⟨A5, c5, rfl, _⟩ := OwnB.form ho5
  have HB5 := Lib.hid (below_one hb5)
  have HO5 := Lib.hid ho5
  change Hid (OwnB w5 w4.heap.size (.slice A5 T.length c5) T) at HO5
  clear ho5 hb5 hv3 hb3 hB3 hY4 C C2 C3 C4
  go_wp2_with (at_builtin; refine wpList_appg (by rfl) (.tmp 30) (.tmp 31) rfl w4.heap.size _ T rfl HO5.out _ _ _ l rfl rfl (HY.out.below (HB4.out.trans (HB5.out.mono HB4.out.size))) HA.out ?d6 HB5.out.size ?_)
  case d6 => omega
  intro v6 w6 ho6 hb6 _
  obtain ⟨A6, c6, rfl, hB6, hc6, hc7, hA6, _⟩ := OwnB.form ho6
  have hlen : (T ++ l).length = T.length + l.length := List.length_append
  have C6 : Hid (Calls Try.prog 15 #[.slice A6 (T.length + l.length) c6] w6 fun e w' => e = .returned (.bool true) ∧ Below w6.heap.size w6 w') := Lib.hid (by have h9 := scans_any A6 (T ++ l) c6 w6 hB6 (HOT.out.append HO.out) (by omega) hc6 hc7 (own_addr ho6); rwa [hlen] at h9)
  have HB6 := Lib.hid (HB4.out.trans ((HB5.out.trans hb6).mono HB4.out.size))
  rw [hlen]
  clear ho6 hb6 hB6 HO5
  go_wp2_with (go_at_call 15; (with_reducible refine C6.out.mono ?_); rintro e w7 ⟨rfl, hb7⟩)
  go_ret
  exact ⟨rfl, HB6.out.trans (hb7.mono HB6.out.size)⟩
end Go.Proofs.Ytmopipclheohcaa
