import Derived.Test.YtmpipjangbedkaaMEv4
import Derived.Test.YtmpipjangbedkaaMBst
import Derived.Test.YtmpipjangbedkaaMEv5
/-
  Reading numbers by sevens of bits; the walk of the reference's number.
-/
namespace Go.Proofs.Ytmpipjangbedkaa
set_option maxRecDepth 8000
open Go Go.RowKit
set_option linter.unusedVariables false

/-- Reading on at the i-th byte behind a place, with u so far. -/
def rdn (b : List Nat) (at' : Nat) : Nat → Nat → Nat → Option (Nat × Nat)
  | 0, _, _ => none
  | fuel + 1, i, u => if at' + i < b.length then
      (if (i = 9 ∧ 1 < b.getD (at' + i) 0) ∨ (b.getD (at' + i) 0 = 0 ∧ 0 < i) then none else
        if b.getD (at' + i) 0 < 128 then some (u + b.getD (at' + i) 0 % 128 * 128 ^ i, at' + i + 1) else rdn b at' fuel (i + 1) (u + b.getD (at' + i) 0 % 128 * 128 ^ i)) else none
def unzig (u : Nat) : Int := if u % 2 = 1 then -((u / 2 : Nat) : Int) - 1 else ((u / 2 : Nat) : Int)
/-- What number tells: the number, and the place behind it, or -1. -/
def rdOut : Option (Nat × Nat) → Int × Int
  | none => (0, -1)
  | some (u, p) => (unzig u, (p : Int))
theorem rdOut_odd {V p : Nat} (h : V % 2 = 1) : rdOut (some (V, p)) = (-((V / 2 : Nat) : Int) - 1, (p : Int)) := by
  show (unzig V, (p : Int)) = _
  unfold unzig
  rw [if_pos h]
theorem rdOut_even {V p : Nat} (h : ¬ V % 2 = 1) : rdOut (some (V, p)) = (((V / 2 : Nat) : Int), (p : Int)) := by
  show (unzig V, (p : Int)) = _
  unfold unzig
  rw [if_neg h]
theorem or_high (u y i : Nat) (hu : u < 128 ^ i) (h : u + y * 128 ^ i < 18446744073709551616) : bits .or .u64 (u : Int) ((y * 128 ^ i : Nat) : Int) = ((u + y * 128 ^ i : Nat) : Int) := by
  have h128 : 128 ^ i = 2 ^ (7 * i) := by rw [Nat.pow_mul]
  rw [u64_or_nat u _ (by omega) (by omega)]
  have : u ||| y * 128 ^ i = y * 128 ^ i + u := by
    rw [Nat.or_comm, h128, Nat.mul_comm]
    exact (Nat.two_pow_add_eq_or_of_lt (i := 7 * i) (by rw [← h128]; exact hu) y).symm
  rw [this, Nat.add_comm]
end Go.Proofs.Ytmpipjangbedkaa

/-
  Numbers that are read are those that were put. (No program is named here.)
-/
namespace Go.Proofs.Ytmpipjangbedkaa
set_option maxRecDepth 8000
open Go Go.RowKit
set_option linter.unusedVariables false

theorem pow9 : (128 : Nat) ^ 9 = 9223372036854775808 := by decide
theorem pow10 : (128 : Nat) ^ 10 = 1180591620717411303424 := by decide
theorem drop_head {b : List Nat} {j c : Nat} {r : List Nat} (h : b.drop j = c :: r) : j < b.length ∧ b.getD j 0 = c ∧ b.drop (j + 1) = r := by
  have hj : j < b.length := by
    rcases Nat.lt_or_ge j b.length with h1 | h1
    · exact h1
    · rw [List.drop_eq_nil_of_le h1] at h; cases h
  rw [List.drop_eq_getElem_cons hj] at h
  injection h with h1 h2
  exact ⟨hj, by rw [List.getD_eq_getElem?_getD, List.getElem?_eq_getElem hj]; exact h1, h2⟩
theorem step_sum (v i : Nat) : v % 128 * 128 ^ i + v / 128 * 128 ^ (i + 1) = v * 128 ^ i := by
  rw [Nat.pow_succ, ← Nat.mul_assoc, Nat.mul_right_comm, ← Nat.add_mul]
  congr 1
  omega
theorem rdn_complete (b : List Nat) (a : Nat) (r : List Nat) : ∀ (f i v U : Nat), i + f = 10 → v * 128 ^ i < 18446744073709551616 → (0 < i → 0 < v) → b.drop (a + i) = sevens v ++ r → rdn b a f i U = some (U + v * 128 ^ i, a + i + (sevens v).length) := by
  intro f
  induction f with
  | zero =>
    intro i v U hi hv hp hb
    obtain rfl : i = 10 := by omega
    have := hp (by omega)
    rw [pow10] at hv
    omega
  | succ f ih =>
    intro i v U hi hv hp hb
    have h9 : i = 9 → v < 2 := by rintro rfl; rw [pow9] at hv; omega
    by_cases hs : v < 128
    · rw [sevens_small hs] at hb ⊢
      obtain ⟨h1, h2, _⟩ := drop_head hb
      rw [rdn, if_pos h1, h2, if_neg (by omega), if_pos hs, Nat.mod_eq_of_lt hs]
      rfl
    · rw [sevens_great hs] at hb ⊢
      obtain ⟨h1, h2, h3⟩ := drop_head hb
      rw [rdn, if_pos h1, h2, if_neg (by omega), if_neg (by omega), show (v % 128 + 128) % 128 = v % 128 by omega]
      rw [ih (i + 1) (v / 128) _ (by omega) (by have := step_sum v i; omega) (by omega) (by rw [← Nat.add_assoc]; exact h3)]
      rw [List.length_cons, Nat.add_assoc, step_sum]
      congr 2
      omega
theorem rdn_sound (b : List Nat) (hO : Oct b) (a : Nat) : ∀ (f i U u p : Nat), i + f = 10 → rdn b a f i U = some (u, p) → ∃ v, u = U + v * 128 ^ i ∧ (v + 1) * 128 ^ i ≤ 18446744073709551616 ∧ (0 < i → 0 < v) ∧ b.drop (a + i) = sevens v ++ b.drop p ∧ a + i < p ∧ p ≤ b.length := by
  intro f
  induction f with
  | zero => intro i U u p hi h; cases h
  | succ f ih =>
    intro i U u p hi h
    rw [rdn] at h
    by_cases hl : a + i < b.length
    · rw [if_pos hl] at h
      have hd : b.drop (a + i) = b.getD (a + i) 0 :: b.drop (a + i + 1) := by
        rw [List.drop_eq_getElem_cons hl, List.getD_eq_getElem?_getD, List.getElem?_eq_getElem hl]
        rfl
      have hc8 : b.getD (a + i) 0 < 256 := by
        have : b.getD (a + i) 0 ∈ b := by rw [List.getD_eq_getElem?_getD, List.getElem?_eq_getElem hl]; exact List.getElem_mem _
        have := hO _ this; omega
      generalize b.getD (a + i) 0 = c at *
      by_cases hbad : (i = 9 ∧ 1 < c) ∨ (c = 0 ∧ 0 < i)
      · rw [if_pos hbad] at h; cases h
      · rw [if_neg hbad] at h
        have hpw : i < 9 → 128 ^ (i + 1) ≤ 9223372036854775808 := fun h9 => by rw [← pow9]; exact Nat.pow_le_pow_right (by omega) (by omega)
        have hps : 128 ^ (i + 1) = 128 * 128 ^ i := by rw [Nat.pow_succ, Nat.mul_comm]
        by_cases hs : c < 128
        · rw [if_pos hs, Nat.mod_eq_of_lt hs] at h
          injection h with h
          injection h with h1 h2
          refine ⟨c, h1.symm, ?_, by omega, by rw [sevens_small hs, hd, ← h2]; rfl, by omega, by omega⟩
          rcases Nat.lt_or_ge i 9 with h9 | h9
          · have h10 := hpw h9
            have h11 : (c + 1) * 128 ^ i ≤ 128 * 128 ^ i := Nat.mul_le_mul_right _ (by omega)
            omega
          · obtain rfl : i = 9 := by omega
            rw [pow9]
            omega
        · rw [if_neg hs] at h
          obtain ⟨v, e1, e2, e3, e4, e5, e6⟩ := ih (i + 1) _ u p (by omega) h
          have hv := e3 (by omega)
          refine ⟨c % 128 + 128 * v, ?_, ?_, by omega, ?_, by omega, e6⟩
          · rw [e1, Nat.add_mul, Nat.add_assoc, hps]
            congr 2
            rw [Nat.mul_right_comm, Nat.mul_comm v, Nat.mul_assoc, Nat.mul_comm (128 ^ i)]
          · have h11 : (c % 128 + 128 * v + 1) * 128 ^ i ≤ (128 * (v + 1)) * 128 ^ i := Nat.mul_le_mul_right _ (by omega)
            have h12 : (128 * (v + 1)) * 128 ^ i = (v + 1) * 128 ^ (i + 1) := by rw [hps, Nat.mul_comm 128 (v + 1), Nat.mul_assoc]
            omega
          · rw [sevens_great (by omega), hd, show (c % 128 + 128 * v) % 128 + 128 = c by omega, show (c % 128 + 128 * v) / 128 = v by omega, Nat.add_assoc, e4]
            rfl
    · rw [if_neg hl] at h; cases h
theorem unzig_zig {n : Int} : unzig (zig n) = n := by
  unfold zig unzig
  by_cases h : 0 ≤ n
  · rw [if_pos h, if_neg (by omega)]; omega
  · rw [if_neg h, if_pos (by omega)]; omega
theorem zig_unzig (u : Nat) : zig (unzig u) = u := by
  unfold unzig zig
  by_cases h : u % 2 = 1
  · rw [if_pos h, if_neg (by omega)]; omega
  · rw [if_neg h, if_pos (by omega)]; omega
theorem unzig_i64 {u : Nat} (h : u < 18446744073709551616) : I64 (unzig u) := by
  unfold unzig I64
  split <;> omega
/-- What number reads: the number, and the place behind it. -/
def readN (b : List Nat) (a : Nat) : Option (Int × Nat) := (rdn b a 10 0 0).map fun x => (unzig x.1, x.2)
theorem readN_put {b r : List Nat} {a : Nat} {n : Int} (hn : I64 n) (h : b.drop a = numB n ++ r) : readN b a = some (n, a + (numB n).length) := by
  unfold readN
  rw [rdn_complete b a r 10 0 (zig n) 0 rfl (by have := zig_lt hn; omega) (by omega) (by rw [Nat.add_zero]; exact h)]
  simp [unzig_zig, numB]
theorem readN_is {b : List Nat} (hO : Oct b) {a p : Nat} {n : Int} (h : readN b a = some (n, p)) : I64 n ∧ b.drop a = numB n ++ b.drop p ∧ a < p ∧ p ≤ b.length := by
  unfold readN at h
  cases hr : rdn b a 10 0 0 with
  | none => rw [hr] at h; cases h
  | some x =>
    obtain ⟨u, q⟩ := x
    rw [hr] at h
    simp at h
    obtain ⟨rfl, rfl⟩ := h
    obtain ⟨v, e1, e2, _, e4, e5, e6⟩ := rdn_sound b hO a 10 0 0 u q rfl hr
    have hu : u = v := by simpa using e1
    subst hu
    refine ⟨unzig_i64 (by simp at e2; omega), ?_, by simpa using e5, e6⟩
    unfold numB
    rw [zig_unzig]
    simpa using e4
theorem rdOut_read (b : List Nat) (a : Nat) : rdOut (rdn b a 10 0 0) = (match readN b a with | none => (0, -1) | some (n, p) => (n, (p : Int))) := by
  unfold readN
  cases rdn b a 10 0 0 with
  | none => rfl
  | some x => rfl
end Go.Proofs.Ytmpipjangbedkaa

/-
  The walk of the reference's ReadEvent.
-/
namespace Go.Proofs.Ytmpipjangbedkaa
set_option maxRecDepth 8000
open Go Go.RowKit
set_option linter.unusedVariables false

/-- Reading the fields, one behind the other. -/
def rdFs (b : List Nat) : List Nat → Ev → Nat → Option (Ev × Nat)
  | [], e, a => some (e, a)
  | f :: l, e, a => match readN b a with
    | none => none
    | some (n, p) => rdFs b l (e.with f n) p
/-- The event that bytes are. -/
def readE (b : List Nat) : Option Ev :=
  if 0 < b.length ∧ 1 ≤ b.getD 0 0 ∧ b.getD 0 0 ≤ 22 then
    match rdFs b (fieldsOf (b.getD 0 0 : Nat)) ⟨(b.getD 0 0 : Nat), 0, 0, 0, 0, 0, 0, 0⟩ 1 with
    | none => none
    | some (e, a) => if a = b.length ∧ rightE e = true then some e else none
  else none
def readOut (b : List Nat) : Ev × Int := match readE b with
  | none => (Ev.zero, 13)
  | some e => (e, 0)
theorem rdFs_some {b : List Nat} {f : Nat} {l : List Nat} {x : Ev} {a p : Nat} {v : Int} (h : readN b a = some (v, p)) : rdFs b (f :: l) x a = rdFs b l (x.with f v) p := by
  rw [rdFs, h]
theorem rdFs_none {b : List Nat} {f : Nat} {l : List Nat} {x : Ev} {a : Nat} (h : readN b a = none) : rdFs b (f :: l) x a = none := by
  rw [rdFs, h]
theorem rdOut_some {b : List Nat} {a p : Nat} {v : Int} (h : readN b a = some (v, p)) : rdOut (rdn b a 10 0 0) = (v, (p : Int)) := by rw [rdOut_read, h]
theorem rdOut_none {b : List Nat} {a : Nat} (h : readN b a = none) : rdOut (rdn b a 10 0 0) = (0, -1) := by rw [rdOut_read, h]
/-- An event, and a code. -/
def EvC (w : World) (x : Ev × Int) (r : Ending) (w' : World) : Prop := r = .returned (.tuple #[x.1.v, .int .i64 x.2]) ∧ Below w.heap.size w w'
theorem readOut_none {b : List Nat} (h : readE b = none) : readOut b = (Ev.zero, 13) := by unfold readOut; rw [h]
theorem readOut_some {b : List Nat} {e : Ev} (h : readE b = some e) : readOut b = (e, 0) := by unfold readOut; rw [h]
theorem Byts.zero {w : World} {A : Option Addr} {b : List Nat} (h : Byts w A b) (h0 : 0 < b.length) : ∃ bb off, A = some ⟨bb, off, none⟩ ∧ w.cell? ⟨bb, off, none⟩ = some (.int .u8 ((b.getD 0 0 : Nat) : Int)) := by
  obtain ⟨bb, off, e, hc⟩ := h h0
  have := hc 0 h0
  rw [Nat.add_zero] at this
  exact ⟨bb, off, e, this⟩
theorem oct_at {b : List Nat} (hO : Oct b) (i : Nat) : b.getD i 0 < 256 := by
  rcases Nat.lt_or_ge i b.length with h | h
  · have : b.getD i 0 ∈ b := by rw [List.getD_eq_getElem?_getD, List.getElem?_eq_getElem h]; exact List.getElem_mem _
    have := hO _ this; omega
  · rw [List.getD_eq_getElem?_getD, List.getElem?_eq_none h]; simp
end Go.Proofs.Ytmpipjangbedkaa

/-
  What is put is read, and nothing else is. (No program is named here.)
-/
namespace Go.Proofs.Ytmpipjangbedkaa
set_option maxRecDepth 8000
open Go Go.RowKit
set_option linter.unusedVariables false

theorem rdFs_put {e : Ev} (ok : e.Ok) {b : List Nat} : ∀ (l : List Nat) (x : Ev) (a : Nat) (r : List Nat), b.drop a = (l.flatMap fun f => numB (e.val f)) ++ r → rdFs b l x a = some (l.foldl (fun y f => y.with f (e.val f)) x, a + (l.flatMap fun f => numB (e.val f)).length) := by
  intro l
  induction l with
  | nil => intro x a r h; simp [rdFs]
  | cons f l ih =>
    intro x a r h
    rw [List.flatMap_cons, List.append_assoc] at h
    have hr := readN_put (ok.val f) h
    have hd : b.drop (a + (numB (e.val f)).length) = (l.flatMap fun f => numB (e.val f)) ++ r := by
      rw [← List.drop_drop, h, List.drop_left]
    rw [rdFs_some hr, ih _ _ r hd, List.foldl_cons, List.flatMap_cons, List.length_append, Nat.add_assoc]
theorem readE_put {e : Ev} (ok : e.Ok) (h : rightE e = true) : readE (putB e (fieldsOf e.kind)) = some e := by
  have hk := right_is h
  have h0 : (putB e (fieldsOf e.kind)).getD 0 0 = e.kind.toNat := rfl
  have hkn : ((e.kind.toNat : Nat) : Int) = e.kind := by omega
  unfold readE
  rw [h0, if_pos ⟨by unfold putB; simp, by omega, by omega⟩, hkn]
  have hd : (putB e (fieldsOf e.kind)).drop 1 = ((fieldsOf e.kind).flatMap fun f => numB (e.val f)) ++ [] := by unfold putB; simp
  rw [rdFs_put ok _ _ 1 [] hd]
  have hb : (fieldsOf e.kind).foldl (fun y f => y.with f (e.val f)) ⟨e.kind, 0, 0, 0, 0, 0, 0, 0⟩ = e := by
    unfold rightE at h
    rw [Bool.and_eq_true, Bool.and_eq_true] at h
    exact of_decide_eq_true h.2.2
  rw [hb]
  simp only
  rw [if_pos ⟨by unfold putB; rw [List.length_cons]; omega, h⟩]
theorem rdFs_is {b : List Nat} (hO : Oct b) : ∀ (l : List Nat) (x e : Ev) (a p : Nat), (∀ f ∈ l, letter f) → l.Nodup → x.Ok → rdFs b l x a = some (e, p) → e.Ok ∧ e.kind = x.kind ∧ (∀ g, letter g → g ∉ l → e.val g = x.val g) ∧ b.drop a = (l.flatMap fun f => numB (e.val f)) ++ b.drop p ∧ (a ≤ b.length → p ≤ b.length) := by
  intro l
  induction l with
  | nil =>
    intro x e a p _ _ hx h
    rw [rdFs] at h
    injection h with h
    injection h with h1 h2
    subst h1; subst h2
    exact ⟨hx, rfl, fun _ _ _ => rfl, by simp, id⟩
  | cons f l ih =>
    intro x e a p hl hn hx h
    cases hr : readN b a with
    | none => rw [rdFs_none hr] at h; cases h
    | some y =>
      obtain ⟨v, q⟩ := y
      rw [rdFs_some hr] at h
      obtain ⟨hv, hd, _, hq⟩ := readN_is hO hr
      have hlf := hl f (List.mem_cons_self ..)
      obtain ⟨hnf, hnl⟩ := List.nodup_cons.1 hn
      obtain ⟨k1, k2, k3, k4, k5⟩ := ih (x.with f v) e q p (fun g hg => hl g (List.mem_cons_of_mem _ hg)) hnl (hx.with f v hv) h
      have hef : e.val f = v := by rw [k3 f hlf hnf, val_with_same x v hlf]
      refine ⟨k1, k2.trans (kind_with x f v), fun g hg hgl => ?_, ?_, fun _ => k5 hq⟩
      · rw [k3 g hg (fun hm => hgl (List.mem_cons_of_mem _ hm)), val_with_other x v hlf hg (fun e => hgl (by rw [e]; exact List.mem_cons_self ..))]
      · rw [List.flatMap_cons, List.append_assoc, ← k4, hef, hd]
theorem readE_is {b : List Nat} (hO : Oct b) {e : Ev} (h : readE b = some e) : e.Ok ∧ rightE e = true ∧ putB e (fieldsOf e.kind) = b := by
  unfold readE at h
  by_cases hc : 0 < b.length ∧ 1 ≤ b.getD 0 0 ∧ b.getD 0 0 ≤ 22
  · rw [if_pos hc] at h
    obtain ⟨h0, h1, h2⟩ := hc
    cases hr : rdFs b (fieldsOf (b.getD 0 0 : Nat)) ⟨(b.getD 0 0 : Nat), 0, 0, 0, 0, 0, 0, 0⟩ 1 with
    | none => rw [hr] at h; cases h
    | some y =>
      obtain ⟨x, a⟩ := y
      rw [hr] at h
      simp only at h
      by_cases hx : a = b.length ∧ rightE x = true
      · rw [if_pos hx] at h
        injection h with h
        subst h
        have hz : I64 0 := by unfold I64; omega
        obtain ⟨k1, k2, _, k4, _⟩ := rdFs_is hO _ _ x 1 a (fields_letters _) (fields_nodup _) ⟨by unfold I64; simp only; omega, hz, hz, hz, hz, hz, hz, hz⟩ hr
        refine ⟨k1, hx.2, ?_⟩
        unfold putB
        rw [k2]
        simp only [Int.toNat_natCast]
        rw [hx.1, List.drop_length, List.append_nil] at k4
        rw [← k4]
        obtain ⟨c, r, rfl⟩ : ∃ c r, b = c :: r := by
          cases b with
          | nil => simp at h0
          | cons c r => exact ⟨c, r, rfl⟩
        simp
      · rw [if_neg hx] at h; cases h
  · rw [if_neg hc] at h; cases h
end Go.Proofs.Ytmpipjangbedkaa
