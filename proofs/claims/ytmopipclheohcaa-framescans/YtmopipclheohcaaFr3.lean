/-
  The walks of frame.storedSum, bytes.Clone, frame.Next and of the reference's Next.
-/
import Derived.Test.YtmopipclheohcaaAppB
import Derived.Deep.QuietTactic
import Derived.BigQuiet
namespace Go.Proofs.Ytmopipclheohcaa
open Go.RowKit

/-- New bytes. -/
def BytesV (w : World) (l : List Nat) (e : Ending) (w' : World) : Prop := ∃ v, e = .returned v ∧ OwnB w' w.heap.size v l ∧ Below w.heap.size w w'

set_option maxRecDepth 8000 in
set_option maxHeartbeats 1000000 in
theorem clone_any (A : Option Addr) (l : List Nat) (c : Nat) (w : World) (hr : Byts w A l) (hn : l.length ≤ 1000000000000) :
    Calls Try.prog 21 #[.slice A l.length c] w (BytesV w l) := by
  cases A with
  | none =>
    have h0 : l = [] := by
      cases l with
      | nil => rfl
      | cons x l => obtain ⟨b, off, e, _⟩ := hr (by simp); cases e
    subst h0
    have F : Hid (BytesV w [] (.returned (.slice none 0 0)) w) := Lib.hid ⟨_, rfl, ownB_nil w _, Below.refl _ _⟩
    clear hr
    have he : ∀ w : World, (binOp .eql 22 (.slice none 0 c) (.slice none 0 0)).run Try.prog w = .ok (.bool true) w := fun _ => rfl
    go_enter Try.func21, Try.ntmps21
    go_wp2
    go_ret
    exact F.out
  | some a =>
    obtain ⟨n, hn'⟩ : ∃ n, n = l.length := ⟨_, rfl⟩
    rw [← hn']
    have HN := Lib.hid hn'
    have HB := Lib.hid hr
    rw [← hn'] at hn
    clear hn' hr
    have he : ∀ w : World, (binOp .eql 22 (.slice (some a) n c) (.slice none 0 0)).run Try.prog w = .ok (.bool false) w := fun _ => rfl
    go_enter Try.func21, Try.ntmps21
    go_wp2_with (at_builtin; refine wpList_app rfl (.tmp 5) (.tmp 6) rfl w.heap.size _ [] rfl (ownB_lit w _ _ [] (Nat.le_refl _) ?c1 rfl _ rfl _ rfl) _ _ _ l rfl HN.out (HB.out.below ?c3) ?c5 ?c6 ?c7 ?_)
    case c1 => simp
    case c3 => exact (Below.refl _ _).alloc (Nat.le_refl _) _
    case c5 => intro e; cases e
    case c6 => have := HN.out; simp; omega
    case c7 => simp
    intro v2 w2 ho2 hb2 _
    go_wp2
    go_ret
    exact ⟨v2, rfl, ho2, (below_one hb2)⟩

/-- The sum that stands at the beginning. -/
def stored (r : List Nat) : Nat := r.getD 0 0 + 256 * r.getD 1 0 + 65536 * r.getD 2 0 + 16777216 * r.getD 3 0
theorem or_low (x y i : Nat) (hx : x < 2 ^ i) (h : x < 4294967296) (hy : y * 2 ^ i < 4294967296) : bits .or .u32 (x : Int) ((y * 2 ^ i : Nat) : Int) = ((x + 2 ^ i * y : Nat) : Int) := by
  rw [u32_or_nat x _ h hy, Nat.or_comm, Nat.mul_comm y, ← Nat.two_pow_add_eq_or_of_lt hx y, Nat.add_comm]
theorem u32x (x : Int) (h0 : 0 ≤ x) (h : x < 4294967296) : IntKind.u32.wrap x = x := by rw [IntKind.wrap_u32']; omega
set_option maxRecDepth 8000 in
set_option maxHeartbeats 1000000 in
theorem stored_any (b off : Nat) (r : List Nat) (c : Nat) (w : World) (hr : Byts w (some ⟨b, off, none⟩) r) (hl : Oct r) (hn : 4 ≤ r.length) (hn2 : r.length ≤ 9223372036854775807) :
    Calls Try.prog 23 #[.slice (some ⟨b, off, none⟩) r.length c] w fun e w' => e = .returned (.int .u32 ((stored r : Nat) : Int)) ∧ ∃ m, w' = w.drewN m := by
  obtain ⟨b', off', e, hc⟩ := hr (by omega)
  injection e with e; injection e with e1 e2; subst e1; subst e2
  have c0 := hc 0 (by omega)
  have c1 := hc 1 (by omega)
  have c2 := hc 2 (by omega)
  have c3 := hc 3 (by omega)
  have g0 := getD_oct hl 0
  have g1 := getD_oct hl 1
  have g2 := getD_oct hl 2
  have g3 := getD_oct hl 3
  have HS := Lib.hid (show stored r = r.getD 0 0 + 256 * r.getD 1 0 + 65536 * r.getD 2 0 + 16777216 * r.getD 3 0 from rfl)
  generalize r.getD 0 0 = x0 at *
  generalize r.getD 1 0 = x1 at *
  generalize r.getD 2 0 = x2 at *
  generalize r.getD 3 0 = x3 at *
  generalize stored r = S at *
  generalize r.length = n at *
  obtain ⟨y1, hy1⟩ : ∃ y, y = x1 * 2 ^ 8 := ⟨_, rfl⟩
  obtain ⟨y2, hy2⟩ : ∃ y, y = x2 * 2 ^ 16 := ⟨_, rfl⟩
  obtain ⟨y3, hy3⟩ : ∃ y, y = x3 * 2 ^ 24 := ⟨_, rfl⟩
  obtain ⟨z1, hz1⟩ : ∃ y, y = x0 + 2 ^ 8 * x1 := ⟨_, rfl⟩
  obtain ⟨z2, hz2⟩ : ∃ y, y = z1 + 2 ^ 16 * x2 := ⟨_, rfl⟩
  obtain ⟨z3, hz3⟩ : ∃ y, y = z2 + 2 ^ 24 * x3 := ⟨_, rfl⟩
  have w0 := u32x (x0 : Int) (by omega) (by omega)
  have w1 := u32x (x1 : Int) (by omega) (by omega)
  have w2 := u32x (x2 : Int) (by omega) (by omega)
  have w3 := u32x (x3 : Int) (by omega) (by omega)
  have s1 : IntKind.u32.wrap ((x1 : Int) * 256) = (y1 : Int) := by rw [u32x _ (by omega) (by omega)]; omega
  have s2 : IntKind.u32.wrap ((x2 : Int) * 65536) = (y2 : Int) := by rw [u32x _ (by omega) (by omega)]; omega
  have s3 : IntKind.u32.wrap ((x3 : Int) * 16777216) = (y3 : Int) := by rw [u32x _ (by omega) (by omega)]; omega
  have o1 : bits .or .u32 (x0 : Int) (y1 : Int) = (z1 : Int) := by rw [hy1, hz1]; exact or_low x0 x1 8 (by omega) (by omega) (by omega)
  have o2 : bits .or .u32 (z1 : Int) (y2 : Int) = (z2 : Int) := by rw [hy2, hz2]; exact or_low z1 x2 16 (by omega) (by omega) (by omega)
  have o3 : bits .or .u32 (z2 : Int) (y3 : Int) = (z3 : Int) := by rw [hy3, hz3]; exact or_low z2 x3 24 (by omega) (by omega) (by omega)
  have HZ := Lib.hid (show z3 = S by have := HS.out; omega)
  clear hy1 hy2 hy3 hz1 hz2 hz3 hc hr hl g0 g1 g2 g3 HS
  rw [Nat.add_zero] at c0
  go_enter Try.func23, Try.ntmps23
  go_wp2
  go_quiet (fail)
  go_wp2
  go_ret
  exact ⟨ret_int (by rw [HZ.out]), ⟨_, rfl⟩⟩
end Go.Proofs.Ytmopipclheohcaa
