/-
  The walks of frame.Put and of the reference's Frame.
-/
import Derived.Test.YtmopipclheohcaaAppB
namespace Go.Proofs.Ytmopipclheohcaa
open Go.RowKit

/-- New bytes, and a code. -/
def BytesC (w : World) (l : List Nat) (code : Int) (e : Ending) (w' : World) : Prop :=
  ∃ v, e = .returned (.tuple #[v, .int .i64 code]) ∧ OwnB w' w.heap.size v l ∧ Below w.heap.size w w'
theorem bytesC_nil (w w' : World) (code : Int) (hb : Below w.heap.size w w') : BytesC w [] code (.returned (.tuple #[.slice none 0 0, .int .i64 code])) w' := ⟨_, rfl, ownB_nil w' _, hb⟩

theorem u8w (n : Int) : IntKind.u8.wrap n = n % 256 := by simp [IntKind.wrap, IntKind.bits, IntKind.signed]
theorem made_u8 (n : Nat) (hn : n ≤ 1000000000000) (w : World) : (Instr.makeSlice 22 (.int .i64 0) (.int .i64 (n : Int))).run Try.prog w = .ok (.slice (some ⟨w.heap.size, 0, none⟩) 0 n) (w.alloc (.cells (madeCells #[.int .u8 0] n) 5)) := by
  obtain ⟨i0, hi, hz0, hz1, hz2⟩ := parts_of info_u8
  have h := run_make (P := Try.prog) w 22 5 i0 (.int .u8 0) Try.underlying22 hi hz0 .i64 .i64 0 (n : Int) (by omega) (by omega) (by rw [hz2]; omega) (by omega)
  rw [hz1, Int.toNat_natCast, Nat.mul_one] at h
  exact h

set_option maxRecDepth 8000 in
set_option maxHeartbeats 1000000 in
theorem put_long (A : Option Addr) (l : List Nat) (c : Nat) (w : World) (hn : l.length ≤ 9223372036854775807) (h : 400 < l.length) :
    Calls Try.prog 9 #[.slice A l.length c] w (BytesC w [] 1) := by
  have F := Lib.hid (bytesC_nil w w 1 (Below.refl _ _))
  go_enter Try.func9, Try.ntmps9
  go_wp2
  go_ret2
  exact F.out
set_option maxRecDepth 8000 in
set_option maxHeartbeats 1000000 in
theorem rframe_long (A : Option Addr) (l : List Nat) (c : Nat) (w : World) (hn : l.length ≤ 9223372036854775807) (h : 400 < l.length) :
    Calls Try.prog 10 #[.slice A l.length c] w (BytesC w [] 1) := by
  have F := Lib.hid (bytesC_nil w w 1 (Below.refl _ _))
  go_enter Try.func10, Try.ntmps10
  go_wp2
  go_ret2
  exact F.out
theorem le4_of (S b0 b1 b2 b3 : Nat) (h0 : b0 = S % 256) (h1 : b1 = S / 256 % 256) (h2 : b2 = S / 65536 % 256) (h3 : b3 = S / 16777216 % 256) : le4 S = [b0, b1, b2, b3] := by unfold le4; rw [h0, h1, h2, h3]
theorem head_of (l : List Nat) (x1 x0 : Nat) (h1 : x1 = l.length / 256) (h0 : x0 = l.length % 256) : x1 :: x0 :: l = headL l := by unfold headL; rw [h0, h1]; rfl
set_option maxRecDepth 8000 in
set_option maxHeartbeats 2000000 in
theorem put_any (A : Option Addr) (l : List Nat) (c : Nat) (w : World) (hr : Byts w A l) (hl : Oct l) (hA : A = none → c = 0) (h : l.length ≤ 400) :
    Calls Try.prog 9 #[.slice A l.length c] w (BytesC w (recL l) 0) := by
  obtain ⟨n, hn⟩ : ∃ n, n = l.length := ⟨_, rfl⟩
  obtain ⟨x1, hx1⟩ : ∃ x, x = n / 256 := ⟨_, rfl⟩
  obtain ⟨x0, hx0⟩ : ∃ x, x = n % 256 := ⟨_, rfl⟩
  have e1 : IntKind.u8.wrap ((n : Int) / 256) = (x1 : Int) := by rw [u8w]; omega
  have e0 : IntKind.u8.wrap (n : Int) = (x0 : Int) := by rw [u8w]; omega
  have HH := Lib.hid (head_of l x1 x0 (by rw [← hn]; exact hx1) (by rw [← hn]; exact hx0))
  have HR := Lib.hid (show recL l = headL l ++ le4 (crc (headL l)) from rfl)
  have HL := Lib.hid (headL_length l)
  have HO := Lib.hid (oct_head hl h)
  have hS := crc_lt (headL l)
  have hmk := fun w => by have := made_u8 (n + 6) (by omega) w; rw [show ((n + 6 : Nat) : Int) = 2 + (n : Int) + 4 from by omega] at this; exact this
  rw [← hn] at h ⊢
  have HN := Lib.hid hn
  have HA := Lib.hid hA
  have HB := Lib.hid hr
  clear hn hx1 hx0 hA hl hr
  go_enter Try.func9, Try.ntmps9
  go_wp2_with (at_builtin; refine wpList_app rfl (.tmp 15) (.tmp 21) rfl w.heap.size _ [] rfl (ownB_made _ _ _ (n + 6) (Nat.le_refl _) ?c1 ?c2 _ rfl |>.alloc _) _ _ _ [x1, x0] rfl ?c3 ?c4 ?c5 ?c6 ?c7 ?_)
  case c1 => omega
  case c2 => simp [madeCells]
  case c3 => rfl
  case c4 => exact byts_new _ _ _ [x1, x0] rfl _ (by simp)
  case c5 => intro e; cases e
  case c6 => simp
  case c7 => simp; omega
  intro v1 w1 ho1 hb1 _
  obtain ⟨A1, c1, rfl, _⟩ := ho1.form
  change OwnB w1 w.heap.size (.slice A1 2 c1) [x1, x0] at ho1
  have HB1 := Lib.hid (below_two hb1)
  have HO1 := Lib.hid ho1
  clear ho1 hb1 hmk e1 e0
  simp only [List.length_cons, List.length_nil, Nat.reduceAdd]
  go_wp2_with (at_builtin; refine wpList_app rfl (.tmp 23) (.tmp 24) rfl w.heap.size _ [x1, x0] rfl HO1.out _ _ _ l rfl HN.out (HB.out.below HB1.out) HA.out ?d1 ?d2 ?_)
  case d1 => have := HN.out; simp; omega
  case d2 => exact HB1.out.size
  intro v2 w2 ho2 hb2 _
  rw [HH.out] at ho2
  obtain ⟨A2, c2, rfl, hB2, _⟩ := ho2.form
  have C := Lib.hid (sum_any A2 (headL l) c2 w2 hB2 HO.out (by rw [HL.out, ← HN.out]; omega))
  have HB2 := Lib.hid (HB1.out.trans hb2)
  have HO2 := Lib.hid ho2
  have HL2 := Lib.hid (show (headL l).length ≤ 402 by rw [HL.out, ← HN.out]; omega)
  generalize crc (headL l) = S at *
  obtain ⟨b0, hb0⟩ : ∃ x, x = S % 256 := ⟨_, rfl⟩
  obtain ⟨b1, hb1⟩ : ∃ x, x = S / 256 % 256 := ⟨_, rfl⟩
  obtain ⟨b2, hb2'⟩ : ∃ x, x = S / 65536 % 256 := ⟨_, rfl⟩
  obtain ⟨b3, hb3⟩ : ∃ x, x = S / 16777216 % 256 := ⟨_, rfl⟩
  have f0 : IntKind.u8.wrap (S : Int) = (b0 : Int) := by rw [u8w]; omega
  have f1 : IntKind.u8.wrap ((S : Int) / 256) = (b1 : Int) := by rw [u8w]; omega
  have f2 : IntKind.u8.wrap ((S : Int) / 65536) = (b2 : Int) := by rw [u8w]; omega
  have f3 : IntKind.u8.wrap ((S : Int) / 16777216) = (b3 : Int) := by rw [u8w]; omega
  have HE := Lib.hid (le4_of S b0 b1 b2 b3 hb0 hb1 hb2' hb3)
  clear hb0 hb1 hb2 hb2' hb3 ho2 hB2 hS
  go_wp2_with (first
    | (go_at_call 11; refine C.out.mono ?_; rintro e w' ⟨rfl, rfl⟩)
    | (at_builtin; refine wpList_app rfl (.tmp 28) (.tmp 40) rfl w.heap.size _ (headL l) rfl (HO2.out.alloc _) _ _ _ [b0, b1, b2, b3] rfl ?g3 ?g4 ?g5 ?g6 ?g7 ?_))
  case g3 => rfl
  case g4 => exact byts_new _ _ _ [b0, b1, b2, b3] rfl _ rfl
  case g5 => intro e; cases e
  case g6 => have := HL2.out; simp; omega
  case g7 => have := HB2.out.size; simp; omega
  intro v3 w3 ho3 hb3 _
  go_wp2
  go_ret2
  exact ⟨v3, rfl, by rw [HR.out, HE.out]; exact ho3, (HB2.out.alloc HB2.out.size _).trans hb3⟩
theorem and255 (s : Nat) (h : s < 4294967296) : bits .and .u32 (s : Int) 255 = ((s % 256 : Nat) : Int) := by
  rw [show (255 : Int) = ((255 : Nat) : Int) from rfl, u32_and_nat s 255 h (by omega), show s &&& 255 = s % 256 from Nat.and_two_pow_sub_one_eq_mod s 8]
set_option maxRecDepth 8000 in
set_option maxHeartbeats 2000000 in
theorem rframe_any (A : Option Addr) (l : List Nat) (c : Nat) (w : World) (hr : Byts w A l) (hl : Oct l) (hA : A = none → c = 0) (h : l.length ≤ 400) :
    Calls Try.prog 10 #[.slice A l.length c] w (BytesC w (recL l) 0) := by
  obtain ⟨n, hn⟩ : ∃ n, n = l.length := ⟨_, rfl⟩
  obtain ⟨x1, hx1⟩ : ∃ x, x = n / 256 := ⟨_, rfl⟩
  obtain ⟨x0, hx0⟩ : ∃ x, x = n % 256 := ⟨_, rfl⟩
  have e1 : IntKind.u8.wrap ((n : Int) / 256) = (x1 : Int) := by rw [u8w]; omega
  have e0 : IntKind.u8.wrap ((n : Int) % 256) = (x0 : Int) := by rw [u8w]; omega
  have HH := Lib.hid (head_of l x1 x0 (by rw [← hn]; exact hx1) (by rw [← hn]; exact hx0))
  have HR := Lib.hid (show recL l = headL l ++ le4 (crc (headL l)) from rfl)
  have HL := Lib.hid (headL_length l)
  have HO := Lib.hid (oct_head hl h)
  have hS := crc_lt (headL l)
  rw [← hn] at h ⊢
  have HN := Lib.hid hn
  have HA := Lib.hid hA
  have HB := Lib.hid hr
  clear hn hx1 hx0 hA hl hr
  go_enter Try.func10, Try.ntmps10
  go_wp2_with (at_builtin; refine wpList_app rfl (.tmp 17) (.tmp 18) rfl w.heap.size _ [x1, x0] rfl (ownB_lit w _ _ [x1, x0] (Nat.le_refl _) ?c1 rfl _ rfl _ rfl) _ _ _ l rfl HN.out (HB.out.below ?c3) HA.out ?c6 ?c7 ?_)
  case c1 => simp
  case c3 => exact (Below.refl _ _).alloc (Nat.le_refl _) _
  case c6 => have := HN.out; simp; omega
  case c7 => simp
  intro v2 w2 ho2 hb2 _
  rw [HH.out] at ho2
  obtain ⟨A2, c2, rfl, hB2, _⟩ := ho2.form
  have C := Lib.hid (rcrc_any A2 (headL l) c2 w2 hB2 HO.out (by rw [HL.out, ← HN.out]; omega))
  have HB2 := Lib.hid (below_one hb2)
  have HO2 := Lib.hid ho2
  have HL2 := Lib.hid (show (headL l).length ≤ 402 by rw [HL.out, ← HN.out]; omega)
  generalize crc (headL l) = S at *
  obtain ⟨b0, hb0⟩ : ∃ x, x = S % 256 := ⟨_, rfl⟩
  obtain ⟨b1, hb1⟩ : ∃ x, x = S / 256 % 256 := ⟨_, rfl⟩
  obtain ⟨b2, hb2'⟩ : ∃ x, x = S / 65536 % 256 := ⟨_, rfl⟩
  obtain ⟨b3, hb3⟩ : ∃ x, x = S / 16777216 % 256 := ⟨_, rfl⟩
  have a0 : bits .and .u32 (S : Int) 255 = (b0 : Int) := by rw [and255 S hS, hb0]
  have a1 : bits .and .u32 ((S : Int) / 256) 255 = (b1 : Int) := by rw [show (S : Int) / 256 = ((S / 256 : Nat) : Int) from by omega, and255 _ (by omega), hb1]
  have a2 : bits .and .u32 ((S : Int) / 65536) 255 = (b2 : Int) := by rw [show (S : Int) / 65536 = ((S / 65536 : Nat) : Int) from by omega, and255 _ (by omega), hb2']
  have f0 : IntKind.u8.wrap (b0 : Int) = (b0 : Int) := by rw [u8w]; omega
  have f1 : IntKind.u8.wrap (b1 : Int) = (b1 : Int) := by rw [u8w]; omega
  have f2 : IntKind.u8.wrap (b2 : Int) = (b2 : Int) := by rw [u8w]; omega
  have f3 : IntKind.u8.wrap ((S : Int) / 16777216) = (b3 : Int) := by rw [u8w]; omega
  have HE := Lib.hid (le4_of S b0 b1 b2 b3 hb0 hb1 hb2' hb3)
  clear hb0 hb1 hb2 hb2' hb3 ho2 hB2 hS e1 e0
  go_wp2_with (first
    | (go_at_call 12; refine C.out.mono ?_; rintro e w' ⟨rfl, rfl⟩)
    | (at_builtin; refine wpList_app rfl (.tmp 22) (.tmp 37) rfl w.heap.size _ (headL l) rfl (HO2.out.alloc _) _ _ _ [b0, b1, b2, b3] rfl ?g3 ?g4 ?g5 ?g6 ?g7 ?_))
  case g3 => rfl
  case g4 => exact byts_new _ _ _ [b0, b1, b2, b3] rfl _ rfl
  case g5 => intro e; cases e
  case g6 => have := HL2.out; simp; omega
  case g7 => have := HB2.out.size; simp; omega
  intro v3 w3 ho3 hb3 _
  go_wp2
  go_ret2
  exact ⟨v3, rfl, by rw [HR.out, HE.out]; exact ho3, (HB2.out.alloc HB2.out.size _).trans hb3⟩
end Go.Proofs.Ytmopipclheohcaa
