/-
  The walk of the law AmountOrder.
-/
import Derived.Test.YteikbegppafdfaaBack
namespace Go.Proofs.Yteikbegppafdfaa
open Go.RowKit

theorem info_i64 : (Try.prog.info? 2).map (fun i => (i.zero, i.size, i.bytes)) = some (some (.int .i64 0), 1, 8) := by kernel_rfl

/-- What has been gathered when k are left. -/
def revDrop (l : List Int) (k : Nat) : List Value := (l.drop k).reverse.map (Value.int .i64)
theorem drop_rev (l : List Int) (m : Nat) (h : m < l.length) : revDrop l m = revDrop l (m + 1) ++ [.int .i64 (l.getD m 0)] := by
  unfold revDrop
  rw [List.drop_eq_getElem_cons h, List.reverse_cons, List.map_append, List.getD_eq_getElem?_getD, List.getElem?_eq_getElem h]
  rfl

set_option maxHeartbeats 1000000 in
theorem order_walk (a b : Int) (A : Option Addr) (l : List Int) (cap : Nat) (w : World) (ha : I64 a) (hb : I64 b) (hr : Ints w .i64 A l) (hl : ∀ x ∈ l, I64 x) (hn : l.length ≤ 9223372036854775807) :
    Calls Try.prog 6 #[.int .i64 a, .int .i64 b, .slice A l.length cap] w fun e w' => e = .returned (.bool true) ∧ Below w.heap.size w w' := by
  have c0 := Lib.hid known_any
  by_cases h60 : 60 < l.length
  · have hd : decide ((60 : Int) < (l.length : Int)) = true := by simp; omega
    clear hl
    go_enter Try.func6, Try.ntmps6
    go_wp2_with (first
      | (go_at_call 7; refine (c0.out _).mono ?_; rintro e w1 ⟨rfl, hw1⟩))
    go_ret
    exact ⟨rfl, hw1⟩
  · have hd : decide ((60 : Int) < (l.length : Int)) = false := by simp; omega
    have c1 := Lib.hid (add_any a b ha hb)
    have c2 := Lib.hid (add_any b a hb ha)
    have c3 := Lib.hid (mul_any a b ha hb)
    have c4 := Lib.hid (mul_any b a hb ha)
    rw [Int.add_comm b a] at c2
    rw [Int.mul_comm b a] at c4
    have HR := Lib.hid hr
    have HL := Lib.hid hl
    clear hr hl ha hb
    obtain ⟨i0, hi, hz0, hz1, hz2⟩ := info_parts info_i64
    have HI := Lib.hid hi
    have HZ0 := Lib.hid hz0
    have HZ1 := Lib.hid hz1
    have HZ2 := Lib.hid hz2
    clear hi hz0 hz1 hz2
    go_enter Try.func6, Try.ntmps6
    go_wp2_with (first
      | (go_at_call 7; refine (c0.out _).mono ?_; rintro e w1 ⟨rfl, hw1⟩))
    go_loopw [7, 8] (fun v i wr => ∃ k : Nat, k ≤ l.length ∧ i = .int .i64 ((k : Int) - 1) ∧ wr.ownsRow w.heap.size 2 1 v (l.length - k) (revDrop l k) ∧ Below w.heap.size w wr) (fun _ i _ => (intOf i + 1).toNat)
    case atStart => exact ⟨l.length, Nat.le_refl _, rfl, by rw [Nat.sub_self, revDrop, List.drop_length]; exact World.ownsRow_nil _ _ _ _, hw1⟩
    case round =>
      obtain ⟨k, hk, rfl, hown, hbel⟩ := hrel
      by_cases hk0 : 0 < k
      · obtain ⟨m, rfl⟩ : ∃ m, k = m + 1 := ⟨k - 1, by omega⟩
        rw [show ((m + 1 : Nat) : Int) - 1 = (m : Int) from by omega]
        have hdr := drop_rev l m (by omega)
        obtain ⟨bb, off, rfl, hc⟩ := HR.out.below hbel (by omega)
        have hcell := hc m (by omega)
        generalize l.getD m 0 = x at *
        have HD := Lib.hid hdr
        have hsz := hbel.size
        clear hc hdr
        go_wp2_with (first
          | (at_builtin; refine wpList_append_own _ rfl _ _ 36 rfl w.heap.size 2 i0 (.int .i64 0) 1 8 Try.underlying36 HI.out HZ0.out HZ1.out HZ2.out rfl (by decide) _ _ _ rfl (hown.alloc _) ⟨wr.heap.size, 0, none⟩ 1 1 [.int .i64 x] rfl rfl (cell_one_new _ _ _) ?c2 ?c3 ?c4 ?c5 ?_))
        case c2 => intro u hu; simp at hu; subst hu; rfl
        case c3 => unfold maxLen; omega
        case c4 => omega
        case c5 => simp; omega
        intro v' w2 hown' hgrow _
        have hb2 : Below w.heap.size w w2 := (hbel.alloc hsz _).grown hgrow (by simp; omega) (fun g hg => (hown.lt g hg).1)
        have hown2 : w2.ownsRow w.heap.size 2 1 v' (l.length - m) (revDrop l m) := by
          rw [HD.out, show l.length - m = l.length - (m + 1) + 1 from by omega]; exact hown'
        clear hown' hgrow hown hcell
        go_wp2
        go_roundw
        case rel => exact ⟨m, by omega, rfl, hown2, hb2⟩
        case measure => simp [intOf]
      · obtain rfl : k = 0 := by omega
        rw [revDrop, List.drop_zero, Nat.sub_zero] at hown
        obtain ⟨hlen, A', c', rfl, hI⟩ := own_form hown
        have hd0 : decide ((0 : Int) ≤ ((0 : Nat) : Int) - 1) = false := by decide
        have c5 := Lib.hid (sum_any A l cap wr (HR.out.below hbel) HL.out hn)
        have c6 := Lib.hid (sum_any A' l.reverse c' wr hI (fun x hx => HL.out x (List.mem_reverse.1 hx)) (by omega))
        rw [hlen, List.sum_reverse] at c6
        have HB := Lib.hid hbel
        clear hlen hI hown hbel hw1
        go_wp2_with (first
          | (go_at_call 9; first | ((with_reducible refine (c1.out _).mono ?_); rintro e w' ⟨rfl, rfl⟩) | ((with_reducible refine (c2.out _).mono ?_); rintro e w' ⟨rfl, rfl⟩))
          | (go_at_call 11; first | ((with_reducible refine (c3.out _).mono ?_); rintro e w' ⟨rfl, rfl⟩) | ((with_reducible refine (c4.out _).mono ?_); rintro e w' ⟨rfl, rfl⟩))
          | (go_at_call 19; first | ((with_reducible refine c5.out.mono ?_); rintro e w' ⟨rfl, rfl⟩) | ((with_reducible refine c6.out.mono ?_); rintro e w' ⟨rfl, rfl⟩)))
        go_ret
        exact ⟨rfl, HB.out⟩

theorem order_law (a b : Int) (A : Option Addr) (len cap : Nat) (zs : List Int) (w : World) (w0 : (Lit.int .i64 a).wf = true) (w1 : (Lit.int .i64 b).wf = true)
    (h : (A = none ∧ len = 0 ∧ cap = 0 ∧ zs = []) ∨
      ∃ x, A = some x ∧ len ≤ cap ∧ cap ≤ maxLen ∧ zs.length = cap ∧ (∀ i, i < zs.length → w.cell? (x.add i) = some (.int .i64 (zs.getD i 0))) ∧ ∀ n ∈ zs, (Lit.int .i64 n).wf = true) :
    Calls Try.prog 6 #[.int .i64 a, .int .i64 b, .slice A len cap] w fun e w' => e = .returned (.bool true) ∧ Below w.heap.size w w' := by
  obtain ⟨l, rfl, hr, hn, hl⟩ := row_ints h
  exact order_walk a b A l cap w (wf_i64 w0) (wf_i64 w1) hr (fun x hx => wf_i64 (hl x hx)) hn
end Go.Proofs.Yteikbegppafdfaa
