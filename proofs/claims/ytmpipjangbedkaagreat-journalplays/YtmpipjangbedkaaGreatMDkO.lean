import Derived.Test.YtmpipjangbedkaaGreatMDk1
import Derived.Test.YtmpipjangbedkaaGreatMDk9
import Derived.Test.YtmpipjangbedkaaGreatMEv8
import Derived.Test.YtmpipjangbedkaaGreatMByt
import Derived.Test.YtmpipjangbedkaaGreatProg
import Derived.WalkKit
import Derived.OwnWalk
import Derived.OwnWalkIn
import Derived.Deep.QuietTactic
import Derived.BigQuiet
/-
  The walk of novationseat's Of; numbers as an argument.
-/
namespace Go.Proofs.YtmpipjangbedkaaGreat
set_option maxRecDepth 8000
open Go Go.RowKit
set_option linter.unusedVariables false

set_option maxRecDepth 8000 in
set_option maxHeartbeats 1000000 in
theorem deck_of (W0 W : World) (A : Option Addr) (l : List Int) (c n : Nat) (hk : n = l.length) (hn : Nums W0 A l) (hb : Below W0.heap.size W0 W) : Calls Tryz.prog 6 #[.slice A n c] W fun r W' => r = .returned (.pointer (some ⟨W.heap.size, 0, none⟩)) ∧ Deck W0 A l c W.heap.size 0 W' := by
  have F : Hid (Deck W0 A l c W.heap.size 0 (W.alloc (.cells [.slice A n c, .int .i64 ((0 : Nat) : Int)].toArray 68))) := Lib.hid ⟨hn, hb.size, ⟨0, Nat.le_refl _, by rw [hk]; exact Rec.new W _ _ _ rfl⟩, hb.alloc hb.size _⟩
  clear hn hb hk
  go_enter Tryz.func6, Tryz.ntmps6
  go_wp2
  go_ret
  exact ⟨rfl, F.out⟩
theorem wf_u64 {n : Int} (h : (Lit.int .u64 n).wf = true) : 0 ≤ n ∧ n < 18446744073709551616 := by simp [Lit.wf, IntKind.min, IntKind.max, IntKind.bits, IntKind.signed] at h; omega
theorem row_nums {w : World} {a : Option Addr} {len cap : Nat} {zs : List Int}
    (h : (a = none ∧ len = 0 ∧ cap = 0 ∧ zs = []) ∨
      ∃ x, a = some x ∧ len ≤ cap ∧ cap ≤ maxLen ∧ zs.length = cap ∧ (∀ i, i < zs.length → w.cell? (x.add i) = some (.int .u64 (zs.getD i 0))) ∧ ∀ n ∈ zs, (Lit.int .u64 n).wf = true) :
    ∃ l : List Int, l.length = len ∧ Nums w a l := by
  obtain ⟨l, hl, hI, hn, hw⟩ := row_ints h
  refine ⟨l, hl, hI, fun i hi => ?_, by omega⟩
  exact wf_u64 (hw (l.getD i 0) (by rw [List.getD_eq_getElem?_getD, List.getElem?_eq_getElem hi]; simp))
end Go.Proofs.YtmpipjangbedkaaGreat

/-
  The walk of novationseat's Of; numbers as an argument.
-/
namespace Go.Proofs.YtmpipjangbedkaaGreat
set_option maxRecDepth 8000
open Go Go.RowKit
set_option linter.unusedVariables false

end Go.Proofs.YtmpipjangbedkaaGreat

/-
  Facts of drawn events and their bytes. (No program is named here.)
-/
namespace Go.Proofs.YtmpipjangbedkaaGreat
set_option maxRecDepth 8000
open Go Go.RowKit
set_option linter.unusedVariables false

theorem put_right {e : Ev} (h : rightE e = true) : putE? e = (putB e (fieldsOf e.kind), 0) := by unfold putE?; rw [h]; rfl
theorem drawn_facts {e : Ev} (hok : e.Ok) (hrt : rightE e = true) : ∃ (L : List Nat) (K n5 : Nat), putE? e = (L, 0) ∧ readOut L = (e, 0) ∧ Oct L ∧ n5 = L.length ∧ 0 < n5 ∧ n5 ≤ 100 ∧ L.getD 0 0 = K ∧ (K : Int) = e.kind ∧ K ≤ 22 := by
  have hkr := right_is hrt
  have hlb := putB_len hok (fieldsOf e.kind)
  have hfl := fields_len e.kind
  refine ⟨putB e (fieldsOf e.kind), e.kind.toNat, _, put_right hrt, readOut_some (readE_put hok hrt), putB_oct hkr _, rfl, by unfold putB; simp, by omega, rfl, by omega, by omega⟩
theorem putB_zero (e : Ev) (l : List Nat) : (putB e l).getD 0 0 = e.kind.toNat := rfl
theorem putB_pos (e : Ev) (l : List Nat) : 0 < (putB e l).length := by unfold putB; simp
end Go.Proofs.YtmpipjangbedkaaGreat

/-
  The walks of frame.Sum and of the reference's Crc.
-/
namespace Go.Proofs.YtmpipjangbedkaaGreat
set_option maxRecDepth 8000
open Go.RowKit

theorem u32w (a : Nat) (h : a < 4294967296) : IntKind.u32.wrap (a : Int) = (a : Int) := by rw [IntKind.wrap_u32']; omega
theorem and1 (s : Nat) (h : s < 4294967296) : bits .and .u32 (s : Int) 1 = ((s % 2 : Nat) : Int) := by
  rw [show (1 : Int) = ((1 : Nat) : Int) from rfl, u32_and_nat s 1 h (by omega), Nat.and_one_is_mod]
theorem xorP (s : Nat) (h : s < 4294967296) : bits .xor .u32 (s : Int) 3988292384 = ((s ^^^ 3988292384 : Nat) : Int) := by
  rw [show (3988292384 : Int) = ((3988292384 : Nat) : Int) from rfl, u32_xor_nat s _ h (by omega)]
theorem notS (s : Nat) (h : s < 4294967296) : bits .xor .u32 4294967295 (s : Int) = ((4294967295 - s : Nat) : Int) := by
  rw [show (4294967295 : Int) = ((4294967295 : Nat) : Int) from rfl, u32_xor_nat _ s (by omega) h, ones_xor h]

theorem xorH (s : Nat) (h : s / 2 < 4294967296) : bits .xor .u32 ((s : Int) / 2) 3988292384 = ((s / 2 ^^^ 3988292384 : Nat) : Int) := by
  rw [show (s : Int) / 2 = ((s / 2 : Nat) : Int) from by omega]; exact xorP _ h
theorem divN2 (a : Nat) : (a : Int) / 2 = ((a / 2 : Nat) : Int) := by omega
theorem cstep_odd {s : Nat} (h : s % 2 = 1) : cstep s = s / 2 ^^^ 3988292384 := by unfold cstep; rw [if_pos h]
theorem cstep_even {s : Nat} (h : s % 2 = 0) : cstep s = s / 2 := by unfold cstep; rw [if_neg (by omega)]
theorem take_all {l : List Nat} {k : Nat} (h : ¬ k < l.length) : l.take k = l := List.take_of_length_le (by omega)

set_option maxRecDepth 8000 in
set_option maxHeartbeats 1000000 in
theorem sum_any (A : Option Addr) (l : List Nat) (c : Nat) (w : World) (hr : Byts w A l) (hl : Oct l) (hn : l.length ≤ 9223372036854775807) :
    Calls Tryz.prog 91 #[.slice A l.length c] w fun e w' => e = .returned (.int .u32 ((crc l : Nat) : Int)) ∧ w = w' := by
  go_enter Tryz.func91, Tryz.ntmps91
  go_wp2
  go_loop [3, 9] (fun s i => ∃ k : Nat, k ≤ l.length ∧ i = .int .i64 k ∧ s = .int .u32 ((cfold 4294967295 (l.take k) : Nat) : Int)) (fun _ i => l.length - (intOf i).toNat)
  case atStart => exact ⟨0, Nat.zero_le _, rfl, rfl⟩
  case round =>
    obtain ⟨k, hk, rfl, rfl⟩ := hrel
    have hS := cfold_lt (l.take k) (hl.take k) (s := 4294967295) (by omega)
    by_cases hlt : k < l.length
    · obtain ⟨b, off, rfl, hc⟩ := hr (by omega)
      have hcell := hc k hlt
      have hx := getD_oct hl k
      have HT := Lib.hid (cfold_take 4294967295 l k hlt)
      generalize cfold 4294967295 (l.take k) = S at *
      generalize l.getD k 0 = x at *
      have w1 := u32w x (by omega)
      have x1 := u32_xor_nat S x hS (by omega)
      have hS2 := xor_lt hS (show x < 4294967296 by omega)
      generalize S ^^^ x = T at *
      clear hc hr hl
      go_wp2
      clear w1 x1 hcell
      go_loop [3, 17] (fun s i => ∃ j : Nat, j ≤ 8 ∧ i = .int .i64 j ∧ s = .int .u32 ((csteps j T : Nat) : Int)) (fun _ i => 8 - (intOf i).toNat)
      case atStart => exact ⟨0, by omega, rfl, rfl⟩
      case round =>
        obtain ⟨j, hj, rfl, rfl⟩ := hrel
        have hR := csteps_lt j hS2
        by_cases hj8 : j < 8
        · have HR := Lib.hid (show csteps (j + 1) T = cstep (csteps j T) from rfl)
          generalize csteps j T = R at *
          have hR2 : R / 2 < 4294967296 := by omega
          have ha := and1 R hR
          rcases Nat.mod_two_eq_zero_or_one R with h0 | h1
          · rw [h0] at ha
            have HE := Lib.hid (cstep_even h0)
            clear h0
            go_wp2
            go_round
            case rel => exact ⟨j + 1, by omega, by go_num, by rw [HR.out, HE.out]; exact congrArg _ (divN2 R)⟩
            case measure => simp [intOf]; omega
          · rw [h1] at ha
            have HE := Lib.hid (cstep_odd h1)
            have hp := xorH R hR2
            clear h1
            go_wp2
            go_round
            case rel => exact ⟨j + 1, by omega, by go_num, by rw [HR.out, HE.out]⟩
            case measure => simp [intOf]; omega
        · obtain rfl : j = 8 := by omega
          go_wp2
          go_round
          case rel => exact ⟨k + 1, by omega, by go_num, by rw [HT.out]⟩
          case measure => simp [intOf]; omega
    · have hkl := take_all hlt
      obtain rfl : k = l.length := by omega
      rw [hkl] at hS ⊢
      have HC := Lib.hid (show crc l = 4294967295 - cfold 4294967295 l from rfl)
      generalize cfold 4294967295 l = S at *
      clear hkl hr hl
      go_wp2
      go_ret
      exact ⟨ret_int (by rw [HC.out]; exact notS S hS), rfl⟩
set_option maxRecDepth 8000 in
set_option maxHeartbeats 1000000 in
theorem rcrc_any (A : Option Addr) (l : List Nat) (c : Nat) (w : World) (hr : Byts w A l) (hl : Oct l) (hn : l.length ≤ 9223372036854775807) :
    Calls Tryz.prog 40 #[.slice A l.length c] w fun e w' => e = .returned (.int .u32 ((crc l : Nat) : Int)) ∧ w = w' := by
  go_enter Tryz.func40, Tryz.ntmps40
  go_wp2
  go_loop [3, 4] (fun s i => ∃ k : Nat, k ≤ l.length ∧ i = .int .i64 k ∧ s = .int .u32 ((cfold 4294967295 (l.take k) : Nat) : Int)) (fun _ i => l.length - (intOf i).toNat)
  case atStart => exact ⟨0, Nat.zero_le _, rfl, rfl⟩
  case round =>
    obtain ⟨k, hk, rfl, rfl⟩ := hrel
    have hS := cfold_lt (l.take k) (hl.take k) (s := 4294967295) (by omega)
    by_cases hlt : k < l.length
    · obtain ⟨b, off, rfl, hc⟩ := hr (by omega)
      have hcell := hc k hlt
      have hx := getD_oct hl k
      have HT := Lib.hid (cfold_take 4294967295 l k hlt)
      generalize cfold 4294967295 (l.take k) = S at *
      generalize l.getD k 0 = x at *
      have w1 := u32w x (by omega)
      have x1 := u32_xor_nat S x hS (by omega)
      have hS2 := xor_lt hS (show x < 4294967296 by omega)
      generalize S ^^^ x = T at *
      clear hc hr hl
      go_wp2
      clear w1 x1 hcell
      go_loop [3, 5] (fun s i => ∃ j : Nat, j ≤ 8 ∧ i = .int .i64 j ∧ s = .int .u32 ((csteps j T : Nat) : Int)) (fun _ i => 8 - (intOf i).toNat)
      case atStart => exact ⟨0, by omega, rfl, rfl⟩
      case round =>
        obtain ⟨j, hj, rfl, rfl⟩ := hrel
        have hR := csteps_lt j hS2
        by_cases hj8 : j < 8
        · have HR := Lib.hid (show csteps (j + 1) T = cstep (csteps j T) from rfl)
          generalize csteps j T = R at *
          have hR2 : R / 2 < 4294967296 := by omega
          have ha := and1 R hR
          rcases Nat.mod_two_eq_zero_or_one R with h0 | h1
          · rw [h0] at ha
            have HE := Lib.hid (cstep_even h0)
            clear h0
            go_wp2
            go_round
            case rel => exact ⟨j + 1, by omega, by go_num, by rw [HR.out, HE.out]; exact congrArg _ (divN2 R)⟩
            case measure => simp [intOf]; omega
          · rw [h1] at ha
            have HE := Lib.hid (cstep_odd h1)
            have hp := xorH R hR2
            clear h1
            go_wp2
            go_round
            case rel => exact ⟨j + 1, by omega, by go_num, by rw [HR.out, HE.out]⟩
            case measure => simp [intOf]; omega
        · obtain rfl : j = 8 := by omega
          go_wp2
          go_round
          case rel => exact ⟨k + 1, by omega, by go_num, by rw [HT.out]⟩
          case measure => simp [intOf]; omega
    · have hkl := take_all hlt
      obtain rfl : k = l.length := by omega
      rw [hkl] at hS ⊢
      have HC := Lib.hid (show crc l = 4294967295 - cfold 4294967295 l from rfl)
      generalize cfold 4294967295 l = S at *
      clear hkl hr hl
      go_wp2
      go_ret
      exact ⟨ret_int (by rw [HC.out]; exact notS S hS), rfl⟩
end Go.Proofs.YtmpipjangbedkaaGreat

/-
  Bytes appended to a slice of the call's own, from whatever slice; the record of bytes, as a list.
-/
namespace Go.Proofs.YtmpipjangbedkaaGreat
set_option maxRecDepth 8000
open Go.RowKit

/-- The run of an append, from whatever slice of bytes. -/
theorem run_appF (w : World) (ty : TypeId) (base : Nat) (v : Value) (xs : List Nat) (hown : OwnB w base v xs) (A : Option Addr) (c : Nat) (l : List Nat) (hB : Byts w A l) (hA : A = none → c = 0) (hb : xs.length + l.length ≤ 140737488355328) (hbase : base ≤ w.heap.size) :
    ∃ v' w', (Builtin.append_ #[26, 26] ty #[v, .slice A l.length c]).run Tryz.prog w = .ok v' w' ∧ OwnB w' base v' (xs ++ l) ∧ w.grownBy w' v.ownBlock := by
  obtain ⟨i0, hi, hz0, hz1, hz2⟩ := parts_of info_u8
  by_cases h0 : l = []
  · subst h0
    rw [List.append_nil]
    cases A with
    | none =>
      rw [hA rfl]
      exact ⟨v, w, run_append_owned_none w base 26 ty _ i0 1 Tryz.underlying26 hi v _ _ hown, hown, ⟨rfl, rfl, rfl, Nat.le_refl _, fun _ _ _ => rfl⟩⟩
    | some ad =>
      obtain ⟨v', w', h1, h2, h3, _⟩ := run_append_own (P := Tryz.prog) w base 26 ty _ i0 (.int .u8 0) 1 1 Tryz.underlying26 hi hz0 hz1 hz2 rfl (by decide) v _ _ hown ad 0 c [] rfl (fun j u hu => by simp at hu) (fun u hu => by simp at hu) (by unfold maxLen; simp at hb; omega) (by simp at hb; omega) hbase
      rw [List.append_nil] at h2
      exact ⟨v', w', h1, h2, h3⟩
  · obtain ⟨b, off, rfl, hc⟩ := hB (List.length_pos_iff.2 h0)
    obtain ⟨v', w', h1, h2, h3, _⟩ := run_append_own (P := Tryz.prog) w base 26 ty _ i0 (.int .u8 0) 1 1 Tryz.underlying26 hi hz0 hz1 hz2 rfl (by decide) v _ _ hown ⟨b, off, none⟩ l.length c (l.map byteV) (by rw [List.length_map, Nat.mul_one]) (byts_news hB) (one_byte l) (by unfold maxLen; omega) (by omega) hbase
    refine ⟨v', w', h1, ?_, h3⟩
    unfold OwnB
    rw [List.length_append, List.map_append]
    exact h2
/-- The step of an append. -/
theorem wpList_appF {w : World} {ops : Array Oper} {rest : List Oper} {o : Oper} {a : Act} {Q : Exit → Act → World → Prop} (hgd : o.guard = none) (s x : Operand)
    (ho : o.op = .call { callee := .builtin .append, args := #[s, x], argTypes := #[26, 26] }) (base : Nat) (v : Value) (xs : List Nat) (hs : a.eval s = v) (hown : OwnB w base v xs)
    (A : Option Addr) (n c : Nat) (l : List Nat) (hx : a.eval x = .slice A n c) (hn : n = l.length) (hB : Byts w A l) (hA : A = none → c = 0) (hb : xs.length + l.length ≤ 140737488355328) (hbase : base ≤ w.heap.size)
    (h : ∀ v' w', OwnB w' base v' (xs ++ l) → Below base w w' → w.grownBy w' v.ownBlock → wpList Tryz.prog ops Q rest (a.put o.dst v') w') : wpList Tryz.prog ops Q (o :: rest) a w := by
  subst hn
  refine wpList_plain hgd fun _ hK => ?_
  obtain ⟨v', w', hr, h2, h3⟩ := run_appF w o.type base v xs hown A c l hB hA hb hbase
  unfold Oper.wp execOp
  simp only [ho, resolve, invoke, builtin, Sem.run_bind, Sem.run_pure, Result.andThen_ok, List.map_toArray, List.map_cons, List.map_nil, hs, hx, hr]
  exact hK _ _ (h v' w' h2 (grown_below hown h3 hbase) h3)
theorem wpListIn_app {F : Fence} {n' : Nat} {w : World} {ops : Array Oper} {rest : List Oper} {o : Oper} {a : Act} {Q : Exit → Act → World → Prop} (hgd : o.guard = none) (s x : Operand)
    (ho : o.op = .call { callee := .builtin .append, args := #[s, x], argTypes := #[26, 26] }) (base : Nat) (v : Value) (xs : List Nat) (hs : a.eval s = v) (hown : OwnB w base v xs)
    (A : Option Addr) (n c : Nat) (l : List Nat) (hx : a.eval x = .slice A n c) (hn : n = l.length) (hB : Byts w A l) (hA : A = none → c = 0) (hb : xs.length + l.length ≤ 140737488355328) (hbase : base ≤ w.heap.size)
    (h : ∀ v' w', OwnB w' base v' (xs ++ l) → Below base w w' → w.grownBy w' v.ownBlock → wpListIn F n' Tryz.prog ops Q rest (a.put o.dst v') w') : wpListIn F n' Tryz.prog ops Q (o :: rest) a w := by
  subst hn
  refine wpListIn_plain hgd fun _ hK => ?_
  obtain ⟨v', w', hr, h2, h3⟩ := run_appF w o.type base v xs hown A c l hB hA hb hbase
  unfold Oper.wpIn
  refine ⟨?_, ?_⟩
  · simp [Oper.about, ho, resolve, Target.leads, Sem.run_pure]
  · rw [Oper.semAt_plain F _ _ (by rw [ho]; intro c hc'; cases hc')]
    simp [execOp, ho, resolve, invoke, builtin, hs, hx, hr, Result.andThen]
    exact hK _ _ (h v' w' h2 (grown_below hown h3 hbase) h3)

/-- A number's four bytes, the lowest first. -/
def le4 (s : Nat) : List Nat := [s % 256, s / 256 % 256, s / 65536 % 256, s / 16777216 % 256]
/-- How many, as two bytes, and they. -/
def headL (l : List Nat) : List Nat := [l.length / 256, l.length % 256] ++ l
/-- The record. -/
def recL (l : List Nat) : List Nat := headL l ++ le4 (crc (headL l))
theorem recL_length (l : List Nat) : (recL l).length = l.length + 6 := by simp [recL, headL, le4]
theorem headL_length (l : List Nat) : (headL l).length = l.length + 2 := by simp [headL]
theorem oct_head {l : List Nat} (h : Oct l) (hn : l.length ≤ 400) : Oct (headL l) := by
  unfold headL
  refine Oct.append (fun x hx => ?_) h
  simp at hx
  rcases hx with rfl | rfl <;> omega
theorem oct_le4 (s : Nat) : Oct (le4 s) := by
  intro x hx
  simp [le4] at hx
  rcases hx with rfl | rfl | rfl | rfl <;> omega
theorem oct_rec {l : List Nat} (h : Oct l) (hn : l.length ≤ 400) : Oct (recL l) := Oct.append (oct_head h hn) (oct_le4 _)
end Go.Proofs.YtmpipjangbedkaaGreat

/-
  The walks of frame.storedSum, bytes.Clone, frame.Next and of the reference's Next.
-/
namespace Go.Proofs.YtmpipjangbedkaaGreat
set_option maxRecDepth 8000
open Go.RowKit

/-- New bytes. -/
def BytesVF (w : World) (l : List Nat) (e : Ending) (w' : World) : Prop := ∃ v, e = .returned v ∧ OwnB w' w.heap.size v l ∧ Below w.heap.size w w'

set_option maxRecDepth 8000 in
set_option maxHeartbeats 1000000 in
theorem clone_anyF (A : Option Addr) (l : List Nat) (c : Nat) (w : World) (hr : Byts w A l) (hn : l.length ≤ 1000000000000) :
    Calls Tryz.prog 60 #[.slice A l.length c] w (BytesVF w l) := by
  cases A with
  | none =>
    have h0 : l = [] := by
      cases l with
      | nil => rfl
      | cons x l => obtain ⟨b, off, e, _⟩ := hr (by simp); cases e
    subst h0
    have F : Hid (BytesVF w [] (.returned (.slice none 0 0)) w) := Lib.hid ⟨_, rfl, ownB_nil w _, Below.refl _ _⟩
    clear hr
    have he : ∀ w : World, (binOp .eql 26 (.slice none 0 c) (.slice none 0 0)).run Tryz.prog w = .ok (.bool true) w := fun _ => rfl
    go_enter Tryz.func60, Tryz.ntmps60
    go_wp2
    go_ret
    exact F.out
  | some a =>
    obtain ⟨n, hn'⟩ : ∃ n, n = l.length := ⟨_, rfl⟩
    rw [← hn']
    have HN := Lib.hid hn'
    have HB := Lib.hid hr
    rw [← hn'] at hn
    clear hn' hr
    have he : ∀ w : World, (binOp .eql 26 (.slice (some a) n c) (.slice none 0 0)).run Tryz.prog w = .ok (.bool false) w := fun _ => rfl
    go_enter Tryz.func60, Tryz.ntmps60
    go_wp2_with (at_builtin; refine wpList_appF rfl (.tmp 5) (.tmp 6) rfl w.heap.size _ [] rfl (ownB_lit w _ _ [] (Nat.le_refl _) ?c1 rfl _ rfl _ rfl) _ _ _ l rfl HN.out (HB.out.below ?c3) ?c5 ?c6 ?c7 ?_)
    case c1 => simp
    case c3 => exact (Below.refl _ _).alloc (Nat.le_refl _) _
    case c5 => intro e; cases e
    case c6 => have := HN.out; simp; omega
    case c7 => simp
    intro v2 w2 ho2 hb2 _
    go_wp2
    go_ret
    exact ⟨v2, rfl, ho2, (below_one hb2)⟩

/-- The sum that stands at the beginning. -/
def stored (r : List Nat) : Nat := r.getD 0 0 + 256 * r.getD 1 0 + 65536 * r.getD 2 0 + 16777216 * r.getD 3 0
theorem or_low (x y i : Nat) (hx : x < 2 ^ i) (h : x < 4294967296) (hy : y * 2 ^ i < 4294967296) : bits .or .u32 (x : Int) ((y * 2 ^ i : Nat) : Int) = ((x + 2 ^ i * y : Nat) : Int) := by
  rw [u32_or_nat x _ h hy, Nat.or_comm, Nat.mul_comm y, ← Nat.two_pow_add_eq_or_of_lt hx y, Nat.add_comm]
theorem u32x (x : Int) (h0 : 0 ≤ x) (h : x < 4294967296) : IntKind.u32.wrap x = x := by rw [IntKind.wrap_u32']; omega
set_option maxRecDepth 8000 in
set_option maxHeartbeats 1000000 in
theorem stored_any (b off : Nat) (r : List Nat) (c : Nat) (w : World) (hr : Byts w (some ⟨b, off, none⟩) r) (hl : Oct r) (hn : 4 ≤ r.length) (hn2 : r.length ≤ 9223372036854775807) :
    Calls Tryz.prog 95 #[.slice (some ⟨b, off, none⟩) r.length c] w fun e w' => e = .returned (.int .u32 ((stored r : Nat) : Int)) ∧ ∃ m, w' = w.drewN m := by
  obtain ⟨b', off', e, hc⟩ := hr (by omega)
  injection e with e; injection e with e1 e2; subst e1; subst e2
  have c0 := hc 0 (by omega)
  have c1 := hc 1 (by omega)
  have c2 := hc 2 (by omega)
  have c3 := hc 3 (by omega)
  have g0 := getD_oct hl 0
  have g1 := getD_oct hl 1
  have g2 := getD_oct hl 2
  have g3 := getD_oct hl 3
  have HS := Lib.hid (show stored r = r.getD 0 0 + 256 * r.getD 1 0 + 65536 * r.getD 2 0 + 16777216 * r.getD 3 0 from rfl)
  generalize r.getD 0 0 = x0 at *
  generalize r.getD 1 0 = x1 at *
  generalize r.getD 2 0 = x2 at *
  generalize r.getD 3 0 = x3 at *
  generalize stored r = S at *
  generalize r.length = n at *
  obtain ⟨y1, hy1⟩ : ∃ y, y = x1 * 2 ^ 8 := ⟨_, rfl⟩
  obtain ⟨y2, hy2⟩ : ∃ y, y = x2 * 2 ^ 16 := ⟨_, rfl⟩
  obtain ⟨y3, hy3⟩ : ∃ y, y = x3 * 2 ^ 24 := ⟨_, rfl⟩
  obtain ⟨z1, hz1⟩ : ∃ y, y = x0 + 2 ^ 8 * x1 := ⟨_, rfl⟩
  obtain ⟨z2, hz2⟩ : ∃ y, y = z1 + 2 ^ 16 * x2 := ⟨_, rfl⟩
  obtain ⟨z3, hz3⟩ : ∃ y, y = z2 + 2 ^ 24 * x3 := ⟨_, rfl⟩
  have w0 := u32x (x0 : Int) (by omega) (by omega)
  have w1 := u32x (x1 : Int) (by omega) (by omega)
  have w2 := u32x (x2 : Int) (by omega) (by omega)
  have w3 := u32x (x3 : Int) (by omega) (by omega)
  have s1 : IntKind.u32.wrap ((x1 : Int) * 256) = (y1 : Int) := by rw [u32x _ (by omega) (by omega)]; omega
  have s2 : IntKind.u32.wrap ((x2 : Int) * 65536) = (y2 : Int) := by rw [u32x _ (by omega) (by omega)]; omega
  have s3 : IntKind.u32.wrap ((x3 : Int) * 16777216) = (y3 : Int) := by rw [u32x _ (by omega) (by omega)]; omega
  have o1 : bits .or .u32 (x0 : Int) (y1 : Int) = (z1 : Int) := by rw [hy1, hz1]; exact or_low x0 x1 8 (by omega) (by omega) (by omega)
  have o2 : bits .or .u32 (z1 : Int) (y2 : Int) = (z2 : Int) := by rw [hy2, hz2]; exact or_low z1 x2 16 (by omega) (by omega) (by omega)
  have o3 : bits .or .u32 (z2 : Int) (y3 : Int) = (z3 : Int) := by rw [hy3, hz3]; exact or_low z2 x3 24 (by omega) (by omega) (by omega)
  have HZ := Lib.hid (show z3 = S by have := HS.out; omega)
  clear hy1 hy2 hy3 hz1 hz2 hz3 hc hr hl g0 g1 g2 g3 HS
  rw [Nat.add_zero] at c0
  go_enter Tryz.func95, Tryz.ntmps95
  go_wp2
  go_quiet (fail)
  go_wp2
  go_ret
  exact ⟨ret_int (by rw [HZ.out]), ⟨_, rfl⟩⟩
end Go.Proofs.YtmpipjangbedkaaGreat
