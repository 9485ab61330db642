/-
  The walks of the reference's sums, differences and order of digits.
-/
import Derived.Test.YtiblbhppojfdaaaRef1a
import Derived.Deep.QuietTactic
import Derived.BigQuiet
namespace Go.Proofs.Ytiblbhppojfdaaa
open Go.RowKit

theorem digit_nat (A : Option Addr) (l : List Int) (c k : Nat) (w : World) (hr : Ints w .u64 A l) (hn : l.length ≤ 9223372036854775807) :
    Calls Try.prog 42 #[.slice A l.length c, .int .i64 (k : Int)] w fun e w' => e = .returned (.int .u64 (l.getD k 0)) ∧ w = w' := by
  have h := digit_any A l c (k : Int) (by omega) w hr hn
  rwa [Int.toNat_natCast] at h

theorem one_u64 (z : Int) : ∀ u : Value, u ∈ [Value.int .u64 z] → u.oneCell' = true := by
  intro u hu; rw [List.mem_singleton] at hu; subst hu; rfl
theorem own_snoc {w : World} {base n : Nat} {e : TypeId} {v : Value} {l : List Int} {z : Int} (h : w.ownsRow base e 1 v n (l.map (Value.int .u64) ++ [.int .u64 z])) : w.ownsRow base e 1 v n ((l ++ [z]).map (Value.int .u64)) := by
  rw [List.map_append]; exact h
theorem getD_past (l : List Int) (k : Nat) (h : l.length ≤ k) : l.getD k 0 = 0 := by
  rw [List.getD_eq_getElem?_getD, List.getElem?_eq_none h]; rfl

theorem info_u64 : (Try.prog.info? 22).map (fun i => (i.zero, i.size, i.bytes)) = some (some (.int .u64 0), 1, 8) := by kernel_rfl

/-- The sum's digits come back. -/
def AddR (w : World) (a b : List Int) (n : Nat) (e : Ending) (w' : World) : Prop :=
  ∃ out, SliceOf w out e w' ∧ Digs out ∧ dval out = dval a + dval b ∧ out.length ≤ n + 1

theorem add_step {out a b : List Int} {cc : Int} (h : Digs out ∧ dapp out (cc + dval (a.drop out.length) + dval (b.drop out.length)) = dval a + dval b)
    (x y : Int) (hx : x = a.getD out.length 0) (hy : y = b.getD out.length 0) :
    Digs (out ++ [(cc + (x + y)) % 4294967296]) ∧ dapp (out ++ [(cc + (x + y)) % 4294967296]) ((cc + (x + y)) / 4294967296 + dval (a.drop (out ++ [(cc + (x + y)) % 4294967296]).length) + dval (b.drop (out ++ [(cc + (x + y)) % 4294967296]).length)) = dval a + dval b := by
  refine ⟨digs_snoc h.1 (by omega), ?_⟩
  rw [dapp_snoc, ← h.2, List.length_append, List.length_singleton, dval_drop a out.length, dval_drop b out.length, ← hx, ← hy]
  congr 1
  omega
theorem add_last {out a b : List Int} (h : Digs out ∧ dapp out (0 + dval (a.drop out.length) + dval (b.drop out.length)) = dval a + dval b) (ha : a.length ≤ out.length) (hb : b.length ≤ out.length) : dval out = dval a + dval b := by
  rw [← h.2, List.drop_eq_nil_of_le ha, List.drop_eq_nil_of_le hb]
  rfl

set_option maxRecDepth 4000 in
set_option maxHeartbeats 1000000 in
theorem addSizes_any (A B : Option Addr) (a b : List Int) (c1 c2 n : Nat) (w : World) (ha : Ints w .u64 A a) (hb : Ints w .u64 B b) (da : Digs a) (db : Digs b) (la : a.length ≤ n) (lb : b.length ≤ n) (hn : n ≤ 1000000000000) :
    Calls Try.prog 44 #[.slice A a.length c1, .slice B b.length c2] w (AddR w a b n) := by
  obtain ⟨i0, hi, hz0, hz1, hz2⟩ := info_parts info_u64
  have HI := Lib.hid hi
  have HZ0 := Lib.hid hz0
  have HZ1 := Lib.hid hz1
  have HZ2 := Lib.hid hz2
  have HA := Lib.hid ha
  have HB := Lib.hid hb
  clear hi hz0 hz1 hz2 ha hb
  go_enter Try.func44, Try.ntmps44
  go_wp2
  go_loopw [5, 6, 7] (fun v c i wr => ∃ (cc : Int) (out : List Int), i = .int .i64 (out.length : Int) ∧ c = .int .u64 cc ∧ 0 ≤ cc ∧ cc ≤ 1 ∧ (out.length ≤ n ∨ (out.length = n + 1 ∧ cc = 0)) ∧ wr.ownsRow w.heap.size 22 1 v out.length (out.map (Value.int .u64)) ∧ Below w.heap.size w wr ∧
      Hid (Digs out ∧ dapp out (cc + dval (a.drop out.length) + dval (b.drop out.length)) = dval a + dval b)) (fun _ _ i _ => n + 2 - (intOf i).toNat)
  case atStart => exact ⟨0, [], rfl, rfl, by omega, by omega, .inl (by simp), World.ownsRow_nil _ _ _ _, Below.refl _ _, Lib.hid ⟨digs_nil, by simp [dapp]⟩⟩
  case round =>
    obtain ⟨cc, out, rfl, rfl, hc0, hc1, hk, hown, hbel, HV⟩ := hrel
    have hx := digs_getD da out.length
    have hy := digs_getD db out.length
    have hx0 : a.length ≤ out.length → a.getD out.length 0 = 0 := getD_past a out.length
    have hy0 : b.length ≤ out.length → b.getD out.length 0 = 0 := getD_past b out.length
    have D1 := Lib.hid (digit_nat A a c1 out.length wr (HA.out.below hbel) (by omega))
    have D2 := Lib.hid (digit_nat B b c2 out.length wr (HB.out.below hbel) (by omega))
    have HS := Lib.hid (add_step HV.out _ _ rfl rfl)
    generalize a.getD out.length 0 = x at *
    generalize b.getD out.length 0 = y at *
    have hm := mask32i (cc + (x + y)) (by omega) (by omega)
    have hsz := hbel.size
    by_cases hgo : out.length < a.length ∨ out.length < b.length ∨ 0 < cc
    · have hk' : out.length ≤ n := by omega
      have hk2 : out.length + 1 ≤ n ∨ (out.length + 1 = n + 1 ∧ (cc + (x + y)) / 4294967296 = 0) := by
        by_cases e : out.length < n
        · exact .inl e
        · have := hx0 (by omega)
          have := hy0 (by omega)
          right; omega
      have HK2 := Lib.hid hk2
      clear hx0 hy0 hk hk2
      have hcase : (out.length < a.length) ∨ (a.length ≤ out.length ∧ out.length < b.length) ∨ (a.length ≤ out.length ∧ b.length ≤ out.length ∧ 0 < cc) := by omega
      clear hgo
      rcases hcase with h1 | ⟨h1, h2⟩ | ⟨h1, h2, h3⟩
      all_goals
        go_wp2_with (first
          | (go_at_call 42; first | ((with_reducible refine D1.out.mono ?_); rintro e w' ⟨rfl, rfl⟩) | ((with_reducible refine D2.out.mono ?_); rintro e w' ⟨rfl, rfl⟩))
          | (at_builtin; refine wpList_append_own _ rfl _ _ 26 rfl w.heap.size 22 i0 (.int .u64 0) 1 8 Try.underlying26 HI.out HZ0.out HZ1.out HZ2.out rfl (by decide) _ _ _ rfl (hown.alloc _) ⟨wr.heap.size, 0, none⟩ 1 1 [.int .u64 ((cc + (x + y)) % 4294967296)] rfl rfl (cell_one_new _ _ _) (one_u64 _) (by unfold maxLen; omega) (by omega) (by simp; omega) ?_))
        intro v' w2 hown' hgrow _
        have hb2 : Below w.heap.size w w2 := (hbel.alloc hsz _).grown hgrow (by simp; omega) (fun g hg => (hown.lt g hg).1)
        have hown2 := own_snoc hown'
        clear hown' hgrow hown
        go_wp2
        go_roundw
        case rel => exact ⟨_, out ++ [(cc + (x + y)) % 4294967296], by simp, rfl, by omega, by omega, by simpa using HK2.out, by simpa using hown2, hb2, HS⟩
        case measure => simp [intOf]; omega
    · have h1 : a.length ≤ out.length := by omega
      have h2 : b.length ≤ out.length := by omega
      obtain rfl : cc = 0 := by omega
      have hlast := Lib.hid (add_last HV.out h1 h2)
      have HD := Lib.hid HV.out.1
      obtain ⟨hlen, A', c', rfl, hI, hc', hc2'⟩ := own_form2 hown
      have F := Lib.hid (show AddR w a b n (.returned (.slice A' out.length c')) wr from ⟨out, ⟨A', c', rfl, hc', hc2', hI, hbel⟩, HD.out, hlast.out, by omega⟩)
      clear hgo hk hown hI hx0 hy0 hm hbel
      go_wp2
      go_ret
      exact F.out
end Go.Proofs.Ytiblbhppojfdaaa
