import Derived.Test.YtmpipjangbedkaaMDkO
import Derived.Test.YtmpipjangbedkaaMFr4
import Derived.Deep.DeepCutAuto
import Derived.Test.YtmpipjangbedkaaMFr6
/-
  The walks of frame.Put and of the reference's Frame.
-/
namespace Go.Proofs.Ytmpipjangbedkaa
set_option maxRecDepth 8000
open Go.RowKit

/-- New bytes, and a code. -/
def BytesCF (w : World) (l : List Nat) (code : Int) (e : Ending) (w' : World) : Prop :=
  ∃ v, e = .returned (.tuple #[v, .int .i64 code]) ∧ OwnB w' w.heap.size v l ∧ Below w.heap.size w w'
theorem bytesC_nilF (w w' : World) (code : Int) (hb : Below w.heap.size w w') : BytesCF w [] code (.returned (.tuple #[.slice none 0 0, .int .i64 code])) w' := ⟨_, rfl, ownB_nil w' _, hb⟩

theorem u8w (n : Int) : IntKind.u8.wrap n = n % 256 := by simp [IntKind.wrap, IntKind.bits, IntKind.signed]
theorem made_u8 (n : Nat) (hn : n ≤ 1000000000000) (w : World) : (Instr.makeSlice 41 (.int .i64 0) (.int .i64 (n : Int))).run Try.prog w = .ok (.slice (some ⟨w.heap.size, 0, none⟩) 0 n) (w.alloc (.cells (madeCells #[.int .u8 0] n) 5)) := by
  obtain ⟨i0, hi, hz0, hz1, hz2⟩ := parts_of info_u8
  have h := run_make (P := Try.prog) w 41 5 i0 (.int .u8 0) Try.underlying41 hi hz0 .i64 .i64 0 (n : Int) (by omega) (by omega) (by rw [hz2]; omega) (by omega)
  rw [hz1, Int.toNat_natCast, Nat.mul_one] at h
  exact h

set_option maxRecDepth 8000 in
set_option maxHeartbeats 1000000 in
theorem put_long (A : Option Addr) (l : List Nat) (c : Nat) (w : World) (hn : l.length ≤ 9223372036854775807) (h : 400 < l.length) :
    Calls Try.prog 46 #[.slice A l.length c] w (BytesCF w [] 1) := by
  have F := Lib.hid (bytesC_nilF w w 1 (Below.refl _ _))
  go_enter Try.func46, Try.ntmps46
  go_wp2
  go_ret2
  exact F.out
theorem le4_of (S b0 b1 b2 b3 : Nat) (h0 : b0 = S % 256) (h1 : b1 = S / 256 % 256) (h2 : b2 = S / 65536 % 256) (h3 : b3 = S / 16777216 % 256) : le4 S = [b0, b1, b2, b3] := by unfold le4; rw [h0, h1, h2, h3]
theorem head_of (l : List Nat) (x1 x0 : Nat) (h1 : x1 = l.length / 256) (h0 : x0 = l.length % 256) : x1 :: x0 :: l = headL l := by unfold headL; rw [h0, h1]; rfl
set_option maxRecDepth 8000 in
set_option maxHeartbeats 2000000 in
theorem put_any (A : Option Addr) (l : List Nat) (c : Nat) (w : World) (hr : Byts w A l) (hl : Oct l) (hA : A = none → c = 0) (h : l.length ≤ 400) :
    Calls Try.prog 46 #[.slice A l.length c] w (BytesCF w (recL l) 0) := by
  obtain ⟨n, hn⟩ : ∃ n, n = l.length := ⟨_, rfl⟩
  obtain ⟨x1, hx1⟩ : ∃ x, x = n / 256 := ⟨_, rfl⟩
  obtain ⟨x0, hx0⟩ : ∃ x, x = n % 256 := ⟨_, rfl⟩
  have e1 : IntKind.u8.wrap ((n : Int) / 256) = (x1 : Int) := by rw [u8w]; omega
  have e0 : IntKind.u8.wrap (n : Int) = (x0 : Int) := by rw [u8w]; omega
  have HH := Lib.hid (head_of l x1 x0 (by rw [← hn]; exact hx1) (by rw [← hn]; exact hx0))
  have HR := Lib.hid (show recL l = headL l ++ le4 (crc (headL l)) from rfl)
  have HL := Lib.hid (headL_length l)
  have HO := Lib.hid (oct_head hl h)
  have hS := crc_lt (headL l)
  have hmk := fun w => by have := made_u8 (n + 6) (by omega) w; rw [show ((n + 6 : Nat) : Int) = 2 + (n : Int) + 4 from by omega] at this; exact this
  rw [← hn] at h ⊢
  have HN := Lib.hid hn
  have HA := Lib.hid hA
  have HB := Lib.hid hr
  clear hn hx1 hx0 hA hl hr
  go_enter Try.func46, Try.ntmps46
  go_wp2_with (at_builtin; refine wpList_appF rfl (.tmp 15) (.tmp 21) rfl w.heap.size _ [] rfl (ownB_made _ _ _ (n + 6) (Nat.le_refl _) ?c1 ?c2 _ rfl |>.alloc _) _ _ _ [x1, x0] rfl ?c3 ?c4 ?c5 ?c6 ?c7 ?_)
  case c1 => omega
  case c2 => simp [madeCells]
  case c3 => rfl
  case c4 => exact byts_new _ _ _ [x1, x0] rfl _ (by simp)
  case c5 => intro e; cases e
  case c6 => simp
  case c7 => simp; omega
  intro v1 w1 ho1 hb1 _
  obtain ⟨A1, c1, rfl, _⟩ := ho1.form
  change OwnB w1 w.heap.size (.slice A1 2 c1) [x1, x0] at ho1
  have HB1 := Lib.hid (below_two hb1)
  have HO1 := Lib.hid ho1
  clear ho1 hb1 hmk e1 e0
  simp only [List.length_cons, List.length_nil, Nat.reduceAdd]
  go_wp2_with (at_builtin; refine wpList_appF rfl (.tmp 23) (.tmp 24) rfl w.heap.size _ [x1, x0] rfl HO1.out _ _ _ l rfl HN.out (HB.out.below HB1.out) HA.out ?d1 ?d2 ?_)
  case d1 => have := HN.out; simp; omega
  case d2 => exact HB1.out.size
  intro v2 w2 ho2 hb2 _
  rw [HH.out] at ho2
  obtain ⟨A2, c2, rfl, hB2, _⟩ := ho2.form
  have C := Lib.hid (sum_any A2 (headL l) c2 w2 hB2 HO.out (by rw [HL.out, ← HN.out]; omega))
  have HB2 := Lib.hid (HB1.out.trans hb2)
  have HO2 := Lib.hid ho2
  have HL2 := Lib.hid (show (headL l).length ≤ 402 by rw [HL.out, ← HN.out]; omega)
  generalize crc (headL l) = S at *
  obtain ⟨b0, hb0⟩ : ∃ x, x = S % 256 := ⟨_, rfl⟩
  obtain ⟨b1, hb1⟩ : ∃ x, x = S / 256 % 256 := ⟨_, rfl⟩
  obtain ⟨b2, hb2'⟩ : ∃ x, x = S / 65536 % 256 := ⟨_, rfl⟩
  obtain ⟨b3, hb3⟩ : ∃ x, x = S / 16777216 % 256 := ⟨_, rfl⟩
  have f0 : IntKind.u8.wrap (S : Int) = (b0 : Int) := by rw [u8w]; omega
  have f1 : IntKind.u8.wrap ((S : Int) / 256) = (b1 : Int) := by rw [u8w]; omega
  have f2 : IntKind.u8.wrap ((S : Int) / 65536) = (b2 : Int) := by rw [u8w]; omega
  have f3 : IntKind.u8.wrap ((S : Int) / 16777216) = (b3 : Int) := by rw [u8w]; omega
  have HE := Lib.hid (le4_of S b0 b1 b2 b3 hb0 hb1 hb2' hb3)
  clear hb0 hb1 hb2 hb2' hb3 ho2 hB2 hS
  go_wp2_with (first
    | (go_at_call 59; refine C.out.mono ?_; rintro e w' ⟨rfl, rfl⟩)
    | (at_builtin; refine wpList_appF rfl (.tmp 28) (.tmp 40) rfl w.heap.size _ (headL l) rfl (HO2.out.alloc _) _ _ _ [b0, b1, b2, b3] rfl ?g3 ?g4 ?g5 ?g6 ?g7 ?_))
  case g3 => rfl
  case g4 => exact byts_new _ _ _ [b0, b1, b2, b3] rfl _ rfl
  case g5 => intro e; cases e
  case g6 => have := HL2.out; simp; omega
  case g7 => have := HB2.out.size; simp; omega
  intro v3 w3 ho3 hb3 _
  go_wp2
  go_ret2
  exact ⟨v3, rfl, by rw [HR.out, HE.out]; exact ho3, (HB2.out.alloc HB2.out.size _).trans hb3⟩
theorem and255 (s : Nat) (h : s < 4294967296) : bits .and .u32 (s : Int) 255 = ((s % 256 : Nat) : Int) := by
  rw [show (255 : Int) = ((255 : Nat) : Int) from rfl, u32_and_nat s 255 h (by omega), show s &&& 255 = s % 256 from Nat.and_two_pow_sub_one_eq_mod s 8]
end Go.Proofs.Ytmpipjangbedkaa

/-
  The walk of the reference's Next.
-/
namespace Go.Proofs.Ytmpipjangbedkaa
set_option maxRecDepth 8000
open Go.RowKit

/-- The first k bytes are those of the number. -/
def GoodF (r : List Nat) (S k : Nat) : Prop := ∀ j, j < k → r.getD j 0 = S / 256 ^ j % 256
theorem good_step {r : List Nat} {S k : Nat} (h : GoodF r S k) (e : r.getD k 0 = S / 256 ^ k % 256) : GoodF r S (k + 1) := by
  intro j hj
  rcases Nat.lt_or_ge j k with h1 | h1
  · exact h j h1
  · obtain rfl : j = k := by omega
    exact e
theorem good_allF {r : List Nat} {S : Nat} (hS : S < 4294967296) (h : GoodF r S 4) : S = stored r := by
  have h0 := h 0 (by omega)
  have h1 := h 1 (by omega)
  have h2 := h 2 (by omega)
  have h3 := h 3 (by omega)
  unfold stored
  rw [h0, h1, h2, h3]
  simp only [Nat.pow_zero, Nat.pow_succ]
  omega
theorem good_none {r : List Nat} {S k : Nat} (hr : Oct r) (hk : k < 4) (e : r.getD k 0 ≠ S / 256 ^ k % 256) : ¬ S = stored r := by
  intro h
  have g0 := getD_oct hr 0
  have g1 := getD_oct hr 1
  have g2 := getD_oct hr 2
  have g3 := getD_oct hr 3
  apply e
  unfold stored at h
  rw [h]
  rcases (by omega : k = 0 ∨ k = 1 ∨ k = 2 ∨ k = 3) with rfl | rfl | rfl | rfl <;> simp only [Nat.pow_zero, Nat.pow_succ] <;> omega

theorem u8b (x : Nat) (h : x < 256) : IntKind.u8.wrap (x : Int) = (x : Int) := by rw [u8w]; omega
theorem and255i (x : Int) (h0 : 0 ≤ x) (h : x < 4294967296) : bits .and .u32 x 255 = x % 256 := by
  obtain ⟨n, rfl⟩ := Int.eq_ofNat_of_zero_le h0
  rw [and255 n (by omega)]
  omega
end Go.Proofs.Ytmpipjangbedkaa

/-
  The walk of the reference's Records.
-/
namespace Go.Proofs.Ytmpipjangbedkaa
set_option maxRecDepth 8000
open Go.RowKit

theorem info_int : (Try.prog.info? 3).map (fun i => (i.zero, i.size, i.bytes)) = some (some (.int .i64 0), 1, 8) := by kernel_rfl
theorem info_bytes : (Try.prog.info? 41).map (fun i => (i.zero, i.size, i.bytes)) = some (some (.slice none 0 0), 1, 24) := by kernel_rfl
theorem own_below {w w' : World} {B e size n : Nat} {v : Value} {xs : List Value} (h : w.ownsRow B e size v n xs) (hb : Below w.heap.size w w') : w'.ownsRow B e size v n xs := by
  refine ⟨h.1, ?_⟩
  rcases h.2 with hn | ⟨g, cap, cur, rfl, hg, hgg, rest⟩
  · exact .inl hn
  · exact .inr ⟨g, cap, cur, rfl, hg, by rw [hb.block g (Array.getElem?_eq_some_iff.1 hgg).1]; exact hgg, rest⟩
/-- Rows of different element types lie apart. -/
theorem own_apart {w : World} {B B' e e' size size' n n' : Nat} {v v' : Value} {xs xs' : List Value} (h : w.ownsRow B e size v n xs) (h' : w.ownsRow B' e' size' v' n' xs') (hne : e ≠ e') : v.ownBlock = none ∨ v.ownBlock ≠ v'.ownBlock := by
  rcases h.2 with ⟨rfl, _⟩ | ⟨g, cap, cur, rfl, hg, hgg, _⟩
  · exact .inl rfl
  · rcases h'.2 with ⟨rfl, _⟩ | ⟨g', cap', cur', rfl, hg', hgg', _⟩
    · exact .inr (by simp [Value.ownBlock])
    · refine .inr fun e1 => ?_
      have e2 : g = g' := by simpa [Value.ownBlock] using e1
      subst e2
      rw [hgg] at hgg'
      injection hgg' with e3
      injection e3 with _ e4
      exact hne e4
theorem own_grown {w w' : World} {B B' e e' size size' n n' : Nat} {v v' : Value} {xs xs' : List Value} (h : w.ownsRow B e size v n xs) (h' : w.ownsRow B' e' size' v' n' xs') (hne : e ≠ e') (hg : w.grownBy w' v'.ownBlock) : w'.ownsRow B e size v n xs :=
  h.kept hg (own_apart h h' hne)
/-- Places and texts, in rows of the call's own. -/
structure RecS (B : Nat) (W : World) (v1 v2 : Value) (R : List (Nat × List Nat)) : Prop where
  p : W.ownsRow B 3 1 v1 R.length (R.map fun x => Value.int .i64 (x.1 : Int))
  l : ∃ vs : List Value, vs.length = R.length ∧ W.ownsRow B 41 1 v2 R.length vs ∧ ∀ i v, vs[i]? = some v → OwnB W B v (R.getD i (0, [])).2
theorem RecS.nil (B : Nat) (W : World) : RecS B W (.slice none 0 0) (.slice none 0 0) [] := ⟨World.ownsRow_nil _ _ _ _, [], rfl, World.ownsRow_nil _ _ _ _, fun i v h => by simp at h⟩
theorem RecS.below {B : Nat} {W W' : World} {v1 v2 : Value} {R : List (Nat × List Nat)} (h : RecS B W v1 v2 R) (hb : Below W.heap.size W W') : RecS B W' v1 v2 R := by
  obtain ⟨vs, h1, h2, h3⟩ := h.l
  exact ⟨own_below h.p hb, vs, h1, own_below h2 hb, fun i v hv => own_below (h3 i v hv) hb⟩
/-- The first row grown. -/
theorem RecS.first {B : Nat} {W W' : World} {v1 v1' v2 : Value} {R : List (Nat × List Nat)} {x : Nat} (h : RecS B W v1 v2 R) (hg : W.grownBy W' v1.ownBlock) (ho : W'.ownsRow B 3 1 v1' (R.length + 1) ((R.map fun x => Value.int .i64 (x.1 : Int)) ++ [.int .i64 (x : Int)])) :
    (∃ vs : List Value, vs.length = R.length ∧ W'.ownsRow B 41 1 v2 R.length vs ∧ ∀ i v, vs[i]? = some v → OwnB W' B v (R.getD i (0, [])).2) ∧ W'.ownsRow B 3 1 v1' (R.length + 1) ((R.map fun x => Value.int .i64 (x.1 : Int)) ++ [.int .i64 (x : Int)]) := by
  obtain ⟨vs, h1, h2, h3⟩ := h.l
  exact ⟨⟨vs, h1, own_grown h2 h.p (by decide) hg, fun i v hv => own_grown (h3 i v hv) h.p (by decide) hg⟩, ho⟩
/-- Then the second. -/
theorem RecS.second {B : Nat} {W W' : World} {v1 v2 v2' u : Value} {R : List (Nat × List Nat)} {x : Nat} {bs : List Nat} {vs : List Value} (h1 : vs.length = R.length) (h2 : W.ownsRow B 41 1 v2 R.length vs) (h3 : ∀ i v, vs[i]? = some v → OwnB W B v (R.getD i (0, [])).2)
    (hp : W.ownsRow B 3 1 v1 (R.length + 1) ((R.map fun x => Value.int .i64 (x.1 : Int)) ++ [.int .i64 (x : Int)])) (hu : OwnB W B u bs) (hg : W.grownBy W' v2.ownBlock) (ho : W'.ownsRow B 41 1 v2' (R.length + 1) (vs ++ [u])) : RecS B W' v1 v2' (R ++ [(x, bs)]) := by
  have hl : (R ++ [(x, bs)]).length = R.length + 1 := by simp
  refine ⟨?_, vs ++ [u], by simp [h1], by rw [hl]; exact ho, fun i v hv => ?_⟩
  · rw [hl, List.map_append]
    exact own_grown hp h2 (by decide) hg
  · rcases Nat.lt_or_ge i vs.length with hi | hi
    · rw [List.getElem?_append_left hi] at hv
      have := own_grown (h3 i v hv) h2 (by decide) hg
      rw [List.getD_eq_getElem?_getD, List.getElem?_append_left (by omega), ← List.getD_eq_getElem?_getD]
      exact this
    · rw [List.getElem?_append_right hi] at hv
      have h0 : i = vs.length := by
        rcases Nat.lt_or_ge (i - vs.length) 1 with h | h
        · omega
        · rw [List.getElem?_eq_none (by simpa using h)] at hv; cases hv
      subst h0
      simp at hv
      subst hv
      rw [List.getD_eq_getElem?_getD, List.getElem?_append_right (by omega), h1, Nat.sub_self]
      exact own_grown hu h2 (by decide) hg
theorem cell_first (w : World) (t : TypeId) (u : Value) (n : Nat) (hn : n = w.heap.size) : ∀ (j : Nat) (x : Value), [u][j]? = some x → (w.alloc (.cells #[u] t)).cell? ((⟨n, 0, none⟩ : Addr).add j) = some x := by
  subst hn
  intro j x hx
  cases j with
  | zero =>
    simp at hx
    subst hx
    rw [Go.WideShapes.add_plain, World.cell?_alloc_new]
    rfl
  | succ j => simp at hx
theorem one_int (x : Int) : ∀ u ∈ [Value.int .i64 x], u.oneCell' = true := by intro u hu; simp at hu; subst hu; rfl
theorem one_slice (A : Option Addr) (n c : Nat) : ∀ u ∈ [Value.slice A n c], u.oneCell' = true := by intro u hu; simp at hu; subst hu; rfl
/-- What Records answers. -/
def RecordsC (w : World) (L : List Nat) (e : Ending) (w' : World) : Prop :=
  ∃ v1 v2, e = .returned (.tuple #[v1, v2, .int .i64 ((wholeOf (recs L) : Nat) : Int)]) ∧ RecS w.heap.size w' v1 v2 (recs L) ∧ Below w.heap.size w w'
/-- What is known behind a call of Next. -/
def NextX (w : World) (X : List Nat × Nat × Nat) (e : Ending) (w' : World) : Prop :=
  ∃ v, e = .returned (.tuple #[v, .int .i64 ((X.2.1 : Nat) : Int), .int .i64 ((X.2.2 : Nat) : Int)]) ∧ OwnB w' w.heap.size v X.1 ∧ Below w.heap.size w w'
theorem recs_grow {L : List Nat} {R : List (Nat × List Nat)} {f p : Nat} (h : recs L = R ++ recF f p (L.drop p)) (h0 : (nextL (L.drop p)).2.2 = 0) (hf : L.length < f + p) (hp : p ≤ L.length) :
    ∃ f', f = f' + 1 ∧ recs L = (R ++ [(p, (nextL (L.drop p)).1)]) ++ recF f' (p + (nextL (L.drop p)).2.1) (L.drop (p + (nextL (L.drop p)).2.1)) := by
  obtain ⟨f', rfl⟩ : ∃ f', f = f' + 1 := ⟨f - 1, by omega⟩
  refine ⟨f', rfl, ?_⟩
  rw [recF_more h0, List.drop_drop] at h
  rw [h, List.append_assoc]
  rfl
end Go.Proofs.Ytmpipjangbedkaa
