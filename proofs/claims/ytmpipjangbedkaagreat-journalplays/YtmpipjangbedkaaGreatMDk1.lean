import Derived.Test.YtmpipjangbedkaaGreatMByt
import Derived.Lib.Hide
import Derived.Deep.QuietTactic
import Derived.BigQuiet
/-
  Decks of numbers: the walks of novationseat's Next, N, Yes, Some. (Which numbers come is not told.)
-/
namespace Go.Proofs.YtmpipjangbedkaaGreat
set_option maxRecDepth 8000
open Go Go.RowKit
set_option linter.unusedVariables false

/-- What a deck's list is, in the elder memory. -/
structure Nums (W0 : World) (A : Option Addr) (l : List Int) : Prop where
  ints : Ints W0 .u64 A l
  u64 : ∀ i, i < l.length → 0 ≤ l.getD i 0 ∧ l.getD i 0 < 18446744073709551616
  len : l.length ≤ 9223372036854775807
/-- A deck of the call's own, at the struct b, from which so many have been drawn at most. -/
structure Deck (W0 : World) (A : Option Addr) (l : List Int) (c b m : Nat) (W : World) : Prop where
  nums : Nums W0 A l
  low : W0.heap.size ≤ b
  box : ∃ i : Nat, i ≤ m ∧ Rec W b 68 [.slice A l.length c, .int .i64 (i : Int)]
  below : Below W0.heap.size W0 W
section
variable {W0 W W' : World} {A : Option Addr} {l : List Int} {c b m : Nat} {X : Nat → Prop}
theorem Deck.touch (h : Deck W0 A l c b m W) (ht : Touch X W W') (hx : ∀ k, X k → W0.heap.size ≤ k) (hb : ¬ X b) : Deck W0 A l c b m W' := by
  obtain ⟨i, hi, hr⟩ := h.box
  exact ⟨h.nums, h.low, ⟨i, hi, hr.touch ht hb⟩, h.below.trans (ht.below h.below.size hx)⟩
theorem Deck.keep (h : Deck W0 A l c b m W) (hb : Below W.heap.size W W') : Deck W0 A l c b m W' := by
  obtain ⟨i, hi, hr⟩ := h.box
  exact ⟨h.nums, h.low, ⟨i, hi, hr.keep hb⟩, h.below.trans (hb.mono h.below.size)⟩
theorem Deck.more (h : Deck W0 A l c b m W) {m' : Nat} (hm : m ≤ m') : Deck W0 A l c b m' W := by
  obtain ⟨i, hi, hr⟩ := h.box
  exact ⟨h.nums, h.low, ⟨i, by omega, hr⟩, h.below⟩
end
/-- What is drawn: a number of which this holds, and the deck is one further. -/
def DrawC (P : Value → Prop) (W0 : World) (A : Option Addr) (l : List Int) (c b m : Nat) (W : World) (e : Ending) (W' : World) : Prop := ∃ v, e = .returned v ∧ P v ∧ Deck W0 A l c b m W' ∧ Touch (fun k => k = b) W W'
def isU64 (v : Value) : Prop := ∃ n : Nat, v = .int .u64 (n : Int) ∧ n < 18446744073709551616
set_option maxRecDepth 8000 in
set_option maxHeartbeats 2000000 in
theorem deck_next (W0 W : World) (A : Option Addr) (l : List Int) (c b m : Nat) (h : Deck W0 A l c b m W) (hm : m < 1000000000) :
    Calls Tryz.prog 41 #[.pointer (some ⟨b, 0, none⟩)] W (DrawC isU64 W0 A l c b (m + 1) W) := by
  obtain ⟨i, hi, hr⟩ := h.box
  have c0 := hr.cell 0 rfl
  have c1 := hr.cell 1 rfl
  have f1 := hr.frozen 1
  have hl := h.nums.len
  obtain ⟨n, hn⟩ : ∃ n, n = l.length := ⟨_, rfl⟩
  have HD : Hid (∀ j, Deck W0 A l c b (m + 1) ((W.drewN j).setCell ⟨b, 1, none⟩ (.int .i64 ((i : Int) + 1))) ∧ Touch (fun k => k = b) W ((W.drewN j).setCell ⟨b, 1, none⟩ (.int .i64 ((i : Int) + 1)))) := Lib.hid (fun j => by
    have ht0 : Touch (fun k => k = b) W (W.drewN j) := ⟨rfl, rfl, rfl, Nat.le_refl _, fun _ _ _ => rfl⟩
    have ht : Touch (fun k => k = b) W ((W.drewN j).setCell ⟨b, 1, none⟩ (.int .i64 ((i : Int) + 1))) := ht0.trans (Touch.setCell (W.drewN j) ⟨b, 1, none⟩ _) (fun _ _ h => h)
    refine ⟨⟨h.nums, h.low, ⟨i + 1, by omega, ?_⟩, h.below.trans (ht.below h.below.size (fun k e => by rw [e]; exact h.low))⟩, ht⟩
    exact Rec.set (w := W.drewN j) (show Rec (W.drewN j) b _ _ from hr) 1 (.int .i64 ((i : Int) + 1)))
  rw [← hn] at c0 hl
  have hi9 : i < 1000000000 := by omega
  by_cases hlt : i < n
  · obtain ⟨b0, off, rfl, hc⟩ := h.nums.ints (by omega)
    have hcell := (h.below.cell (p := ⟨b0, off + i, none⟩) (block_lt (hc i (by omega)))).trans (hc i (by omega))
    have hu := h.nums.u64 i (by omega)
    obtain ⟨v, hv⟩ := Int.eq_ofNat_of_zero_le hu.1
    rw [hv] at hcell hu
    have hv64 : v < 18446744073709551616 := by omega
    have hne : b ≠ b0 := by
      have := block_lt (hc i (by omega)); have := h.low; simp only at *; omega
    clear h hr hc hu hv hn
    go_enter Tryz.func41, Tryz.ntmps41
    go_wp2
    go_quiet (fail)
    go_wp2
    go_quiet (fail)
    go_wp2
    go_ret
    exact ⟨_, rfl, ⟨v, rfl, hv64⟩, HD.out _⟩
  · clear h hr hn
    go_enter Tryz.func41, Tryz.ntmps41
    go_wp2
    go_quiet (fail)
    go_wp2
    go_ret
    exact ⟨_, rfl, ⟨0, rfl, by omega⟩, HD.out _⟩
/-- A number from 0 to n - 1. -/
def isN (n : Nat) (v : Value) : Prop := ∃ k : Nat, v = .int .i64 (k : Int) ∧ k < n
set_option maxRecDepth 8000 in
set_option maxHeartbeats 2000000 in
theorem deck_n (W0 W : World) (A : Option Addr) (l : List Int) (c b m n : Nat) (h : Deck W0 A l c b m W) (hm : m < 1000000000) (hn : 0 < n) (hn2 : n ≤ 1000000000000) :
    Calls Tryz.prog 15 #[.pointer (some ⟨b, 0, none⟩), .int .i64 (n : Int)] W (DrawC (isN n) W0 A l c b (m + 1) W) := by
  have C := Lib.hid (deck_next W0 W A l c b m h hm)
  clear h
  go_enter Tryz.func15, Tryz.ntmps15
  go_wp2_with (go_at_call 41; (with_reducible refine C.out.mono ?_); rintro r w1 ⟨_, rfl, ⟨v, rfl, hv⟩, h1, ht1⟩; have H1 := Lib.hid h1; have HT := Lib.hid ht1; clear h1 ht1; (obtain ⟨k, hk⟩ : ∃ k, k = v % n := ⟨_, rfl⟩); have hkn : k < n := (by rw [hk]; exact Nat.mod_lt _ hn); have hmod : (v : Int) % (n : Int) = (k : Int) := (by rw [hk]; rfl); have HKN := Lib.hid hkn; clear hk)
  go_ret
  exact ⟨_, rfl, ⟨k, rfl, hkn⟩, H1.out, HT.out⟩
set_option maxRecDepth 8000 in
set_option maxHeartbeats 2000000 in
theorem deck_yes (W0 W : World) (A : Option Addr) (l : List Int) (c b m n : Nat) (h : Deck W0 A l c b m W) (hm : m < 1000000000) (hn : 0 < n) (hn2 : n ≤ 1000000000000) :
    Calls Tryz.prog 12 #[.pointer (some ⟨b, 0, none⟩), .int .i64 (n : Int)] W (DrawC (fun v => v = .bool true ∨ v = .bool false) W0 A l c b (m + 1) W) := by
  have C := Lib.hid (deck_n W0 W A l c b m n h hm hn hn2)
  clear h
  go_enter Tryz.func12, Tryz.ntmps12
  go_wp2_with (go_at_call 15; (with_reducible refine C.out.mono ?_); rintro r w1 ⟨_, rfl, ⟨k, rfl, hk⟩, h1, ht1⟩; have H1 := Lib.hid h1; have HT := Lib.hid ht1; clear h1 ht1)
  go_ret
  refine ⟨_, rfl, ?_, H1.out, HT.out⟩
  generalize ((k : Int) == (n : Int) - 1) = x
  cases x
  · exact .inr rfl
  · exact .inl rfl
def isSome63 (v : Value) : Prop := ∃ k : Nat, v = .int .i64 (k : Int) ∧ k < 9223372036854775808
set_option maxRecDepth 8000 in
set_option maxHeartbeats 4000000 in
theorem deck_some (W0 W : World) (A : Option Addr) (l : List Int) (c b m : Nat) (h : Deck W0 A l c b m W) (hm : m < 1000000000) :
    Calls Tryz.prog 29 #[.pointer (some ⟨b, 0, none⟩)] W (DrawC isSome63 W0 A l c b (m + 1) W) := by
  have C := Lib.hid (deck_next W0 W A l c b m h hm)
  clear h
  go_enter Tryz.func29, Tryz.ntmps29
  go_wp2_with (go_at_call 41; (with_reducible refine C.out.mono ?_); rintro r w1 ⟨_, rfl, ⟨v, rfl, hv⟩, h1, ht1⟩; have H1 := Lib.hid h1; have HT := Lib.hid ht1; clear h1 ht1)
  all_goals go_ret
  all_goals refine ⟨_, rfl, ?_, H1.out, HT.out⟩
  all_goals first
    | (refine ⟨v / 2, ?_, by omega⟩; exact congrArg (Value.int .i64) (show (v : Int) / 2 = ((v / 2 : Nat) : Int) from rfl))
    | (refine ⟨v / 8 % 1000000000000, ?_, by omega⟩; exact congrArg (Value.int .i64) (show (v : Int) / 8 % 1000000000000 = ((v / 8 % 1000000000000 : Nat) : Int) from rfl))
    | (refine ⟨v / 8 % 2, ?_, by omega⟩; exact congrArg (Value.int .i64) (show (v : Int) / 8 % 2 = ((v / 8 % 2 : Nat) : Int) from rfl))
    | (refine ⟨v / 8 % 5000, ?_, by omega⟩; exact congrArg (Value.int .i64) (show (v : Int) / 8 % 5000 = ((v / 8 % 5000 : Nat) : Int) from rfl))
end Go.Proofs.YtmpipjangbedkaaGreat

/-
  Slices of structs of the call's own: append of a struct, cells, what is elder.
-/
namespace Go.Proofs.YtmpipjangbedkaaGreat
set_option maxRecDepth 8000
open Go Go.RowKit
set_option linter.unusedVariables false

/-- A slice type, its element's, and how a thing lies in cells. -/
structure Lay {α : Type} (enc : α → List Value) (t e : TypeId) (sz bts : Nat) : Prop where
  und : Tryz.prog.underlying t = some (.slice e)
  info : ∃ i z, Tryz.prog.info? e = some i ∧ i.zero = some z ∧ i.size = sz ∧ i.bytes = bts ∧ z.cells.size = sz
  pos : 0 < sz
  len : ∀ x, (enc x).length = sz
  one : ∀ x, ∀ u ∈ enc x, u.oneCell' = true
/-- A slice value that is the call's own (blocks from base on), and what is in it. -/
def OwnL {α : Type} (enc : α → List Value) (e : TypeId) (sz : Nat) (w : World) (base : Nat) (v : Value) (l : List α) : Prop := w.ownsRow base e sz v l.length (l.flatMap enc)
section
variable {α : Type} {enc : α → List Value} {t e : TypeId} {sz bts : Nat} {w w' : World} {base base' : Nat} {v v' : Value} {l : List α} {X : Nat → Prop}
theorem ownL_nil (w : World) (base : Nat) : OwnL enc e sz w base (.slice none 0 0) [] := World.ownsRow_nil w base e sz
theorem OwnL.lower (h : OwnL enc e sz w base v l) (hb : base' ≤ base) : OwnL enc e sz w base' v l := by
  refine ⟨h.1, ?_⟩
  rcases h.2 with hn | ⟨g, cap, cur, rfl, hg, rest⟩
  · exact .inl hn
  · exact .inr ⟨g, cap, cur, rfl, by omega, rest⟩
theorem OwnL.touch (h : OwnL enc e sz w base v l) (ht : Touch X w w') (hx : ∀ k, v.ownBlock = some k → ¬ X k) : OwnL enc e sz w' base v l := by
  refine ⟨h.1, ?_⟩
  rcases h.2 with hn | ⟨g, cap, cur, rfl, hg, hgg, rest⟩
  · exact .inl hn
  · exact .inr ⟨g, cap, cur, rfl, hg, by rw [ht.block g (Array.getElem?_eq_some_iff.1 hgg).1 (hx g rfl)]; exact hgg, rest⟩
theorem OwnL.keep (h : OwnL enc e sz w base v l) (hb : Below w.heap.size w w') : OwnL enc e sz w' base v l := h.touch (Touch.of_below (fun _ => False) hb) (fun _ _ h => h)
theorem OwnL.alloc (h : OwnL enc e sz w base v l) (o : Obj) : OwnL enc e sz (w.alloc o) base v l := h.keep ((Below.refl _ _).alloc (Nat.le_refl _) _)
theorem OwnL.lt (h : OwnL enc e sz w base v l) : ∀ k, v.ownBlock = some k → base ≤ k ∧ k < w.heap.size := World.ownsRow.lt h
theorem OwnL.below (h : OwnL enc e sz w base v l) (hg : w.grownBy w' v.ownBlock) (hbase : base ≤ w.heap.size) : Below base w w' := (Below.refl base w).grown hg hbase (fun g e => (h.lt g e).1)
/-- Its form, and its cells. -/
theorem OwnL.form (h : OwnL enc e sz w base v l) (hL : Lay enc t e sz bts) : ∃ A c, v = .slice A l.length c ∧ l.length ≤ c ∧ c ≤ 9223372036854775807 ∧ (A = none → c = 0) ∧ (0 < l.length → ∃ g, A = some ⟨g, 0, none⟩ ∧ base ≤ g ∧ g < w.heap.size ∧ ∀ i (hi : i < l.length) j, j < sz → w.cell? ⟨g, i * sz + j, none⟩ = (enc l[i])[j]? ∧ w.frozen? ⟨g, i * sz + j, none⟩ = false) := by
  rcases h.2 with ⟨rfl, h0⟩ | ⟨g, cap, cur, rfl, hg, hgg, h1, h2, h3, h4⟩
  · exact ⟨none, 0, by rw [h0], by omega, by omega, fun _ => rfl, fun h => by omega⟩
  · refine ⟨_, cap, rfl, h1, by unfold maxLen at h2; exact h2, fun e => (by cases e), fun h00 => ⟨g, rfl, hg, (Array.getElem?_eq_some_iff.1 hgg).1, fun i hi j hj => ⟨?_, by simp [World.frozen?, hgg]⟩⟩⟩
    have hlt : i * sz + j < l.length * sz := by
      have : (i + 1) * sz ≤ l.length * sz := Nat.mul_le_mul_right _ (by omega)
      rw [Nat.add_mul] at this
      omega
    have e1 : w.cell? ⟨g, i * sz + j, none⟩ = cur.toList[i * sz + j]? := by simp [World.cell?, hgg]
    have e2 : cur.toList[i * sz + j]? = (l.flatMap enc)[i * sz + j]? := by rw [← h4, List.getElem?_take_of_lt hlt]
    rw [e1, e2]
    clear e1 e2 hlt h h1 h3 h4 hgg h00
    induction l generalizing i with
    | nil => simp at hi
    | cons x l ih =>
      rw [List.flatMap_cons]
      cases i with
      | zero => rw [Nat.zero_mul, Nat.zero_add, List.getElem?_append_left (by rw [hL.len]; exact hj)]; rfl
      | succ i =>
        rw [List.getElem?_append_right (by rw [hL.len, Nat.add_mul]; omega), hL.len, show (i + 1) * sz + j - sz = i * sz + j by rw [Nat.add_mul]; omega]
        exact ih i (by simpa using hi)
/-- The run of an append of one. -/
theorem run_appL (hL : Lay enc t e sz bts) (w : World) (ty : TypeId) (base : Nat) (v : Value) (l : List α) (hown : OwnL enc e sz w base v l) (a : Addr) (c : Nat) (x : α) (hx : ∀ j u, (enc x)[j]? = some u → w.cell? (a.add j) = some u) (hb : (l.length + 1) * bts ≤ 140737488355328) (hl : l.length + 1 ≤ 140737488355328) (hbase : base ≤ w.heap.size) :
    ∃ v' w', (Builtin.append_ #[t, t] ty #[v, .slice (some a) 1 c]).run Tryz.prog w = .ok v' w' ∧ OwnL enc e sz w' base v' (l ++ [x]) ∧ w.grownBy w' v.ownBlock ∧ Moved w v v' := by
  obtain ⟨i, z, hi, hz, hs, hby, hzs⟩ := hL.info
  obtain ⟨v', w', h1, h2, h3, _, h5⟩ := run_append_own_at (P := Tryz.prog) w base t ty e i z sz bts hL.und hi hz hs hby hzs hL.pos v _ _ hown a 1 c (enc x) (by rw [hL.len, Nat.one_mul]) hx (hL.one x) (by unfold maxLen; omega) hb hbase
  refine ⟨v', w', h1, ?_, h3, h5⟩
  unfold OwnL
  rw [List.length_append, List.flatMap_append, List.length_singleton, List.flatMap_singleton]
  exact h2
theorem wpList_appL (hL : Lay enc t e sz bts) {w : World} {ops : Array Oper} {rest : List Oper} {o : Oper} {a : Act} {Q : Exit → Act → World → Prop} (hgd : o.guard = none) (s x : Operand)
    (ho : o.op = .call { callee := .builtin .append, args := #[s, x], argTypes := #[t, t] }) (base : Nat) (v : Value) (l : List α) (hs : a.eval s = v) (hown : OwnL enc e sz w base v l)
    (ad : Addr) (c : Nat) (y : α) (hx : a.eval x = .slice (some ad) 1 c) (hy : ∀ j u, (enc y)[j]? = some u → w.cell? (ad.add j) = some u) (hb : (l.length + 1) * bts ≤ 140737488355328) (hl : l.length + 1 ≤ 140737488355328) (hbase : base ≤ w.heap.size)
    (h : ∀ v' w', OwnL enc e sz w' base v' (l ++ [y]) → w.grownBy w' v.ownBlock → Moved w v v' → wpList Tryz.prog ops Q rest (a.put o.dst v') w') : wpList Tryz.prog ops Q (o :: rest) a w := by
  refine wpList_plain hgd fun _ hK => ?_
  obtain ⟨v', w', hr, h2, h3, h4⟩ := run_appL hL w o.type base v l hown ad c y hy hb hl hbase
  unfold Oper.wp execOp
  simp only [ho, resolve, invoke, builtin, Sem.run_bind, Sem.run_pure, Result.andThen_ok, List.map_toArray, List.map_cons, List.map_nil, hs, hx, hr]
  exact hK _ _ (h v' w' h2 h3 h4)
/-- A literal of one. -/
theorem lit_one (w : World) (ty : TypeId) (cs : Array Value) (xs : List Value) (h : cs.toList = xs) (n : Nat) (hn : n = w.heap.size) : ∀ j u, xs[j]? = some u → (w.alloc (.cells cs ty)).cell? ((⟨n, 0, none⟩ : Addr).add j) = some u := by
  subst hn
  intro j u hu
  rw [Go.WideShapes.add_plain, Nat.zero_add, World.cell?_alloc_new, ← Array.getElem?_toList, h]
  exact hu
end
end Go.Proofs.YtmpipjangbedkaaGreat

/-
  Configs as plain data, in memory; the walk of novationseat's Config.
-/
namespace Go.Proofs.YtmpipjangbedkaaGreat
set_option maxRecDepth 8000
open Go Go.RowKit
set_option linter.unusedVariables false

/-- An instrument; a config. -/
structure Ins where
  bucket : Int
  price : Int
  rate : Int
  slip : Int
  deriving DecidableEq
structure Cfg where
  insts : List Ins
  skin : Int
  times : Int
  port : Int
  bid : Int
  lot : Int
  hedge : Int
  deriving DecidableEq
def Ins.cells (x : Ins) : List Value := [.int .i64 x.bucket, .int .i64 x.price, .int .i64 x.rate, .int .i64 x.slip]
def Cfg.cells (c : Cfg) (v : Value) : List Value := [v, .int .i64 c.skin, .int .i64 c.times, .int .i64 c.port, .int .i64 c.bid, .int .i64 c.lot, .int .i64 c.hedge]
def Cfg.v (c : Cfg) (v : Value) : Value := .agg #[v, .int .i64 c.skin, .int .i64 c.times, .int .i64 c.port, .int .i64 c.bid, .int .i64 c.lot, .int .i64 c.hedge]
/-- What holds of drawn ones. -/
structure Ins.Ok (x : Ins) : Prop where
  bucket : 0 ≤ x.bucket ∧ x.bucket ≤ 2
  price : 1 ≤ x.price ∧ x.price ≤ 1000000000000
  rate : 0 ≤ x.rate ∧ x.rate ≤ 1000000000
  slip : 0 ≤ x.slip ∧ x.slip ≤ 1000000000
theorem lay_ins : Lay Ins.cells 29 70 4 32 := by
  refine ⟨Tryz.underlying29, ?_, by omega, fun _ => rfl, fun x u hu => ?_⟩
  · have h : (Tryz.prog.info? 70).map (fun i => (i.zero, i.size, i.bytes)) = some (some (.agg #[.int .i64 0, .int .i64 0, .int .i64 0, .int .i64 0]), 4, 32) := by kernel_rfl
    obtain ⟨i, h1, h2, h3, h4⟩ := parts_of h
    exact ⟨i, _, h1, h2, h3, h4, rfl⟩
  · simp [Ins.cells] at hu
    rcases hu with rfl | rfl | rfl | rfl <;> rfl
def OwnI (w : World) (base : Nat) (v : Value) (l : List Ins) : Prop := OwnL Ins.cells 70 4 w base v l
theorem deck_nI (n : Nat) (N : Int) (hN : N = (n : Int)) (W0 W : World) (A : Option Addr) (l : List Int) (c b m : Nat) (h : Deck W0 A l c b m W) (hm : m < 1000000000) (hn : 0 < n) (hn2 : n ≤ 1000000000000) :
    Calls Tryz.prog 15 #[.pointer (some ⟨b, 0, none⟩), .int .i64 N] W (DrawC (isN n) W0 A l c b (m + 1) W) := by
  subst hN; exact deck_n W0 W A l c b m n h hm hn hn2
theorem deck_yesI (n : Nat) (N : Int) (hN : N = (n : Int)) (W0 W : World) (A : Option Addr) (l : List Int) (c b m : Nat) (h : Deck W0 A l c b m W) (hm : m < 1000000000) (hn : 0 < n) (hn2 : n ≤ 1000000000000) :
    Calls Tryz.prog 12 #[.pointer (some ⟨b, 0, none⟩), .int .i64 N] W (DrawC (fun v => v = .bool true ∨ v = .bool false) W0 A l c b (m + 1) W) := by
  subst hN; exact deck_yes W0 W A l c b m n h hm hn hn2
def Cfg.zero : Cfg := ⟨[], 0, 0, 0, 0, 0, 0⟩
end Go.Proofs.YtmpipjangbedkaaGreat
