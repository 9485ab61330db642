/-
  Acc: its structure, lists of it in memory and of the call's own, as an argument; two of them held against one another.
-/
import Derived.Test.YtjlhmiajklddiaaMls
import Derived.Deep.QuietTactic
import Derived.BigQuiet
import Derived.WalkSmall
namespace Go.Proofs.Ytjlhmiajklddiaa
set_option maxRecDepth 8000
open Go Go.RowKit
set_option linter.unusedVariables false

structure SAcc where
  id : Int
  member : Int
  kind : Int
  limit : Int
  deriving DecidableEq
def SAcc.zero : SAcc := ⟨0, 0, 0, 0⟩
instance : Inhabited SAcc := ⟨SAcc.zero⟩
def SAcc.cells (x : SAcc) : List Value := [.int .i64 x.id, .int .i64 x.member, .int .i64 x.kind, .int .i64 x.limit]
def SAcc.v (x : SAcc) : Value := .agg #[.int .i64 x.id, .int .i64 x.member, .int .i64 x.kind, .int .i64 x.limit]
structure SAcc.Ok (x : SAcc) : Prop where
  id : I64 x.id
  member : I64 x.member
  kind : I64 x.kind
  limit : I64 x.limit
theorem lay_Acc : Lay SAcc.cells 23 25 4 32 := by
  refine ⟨Try.underlying23, ?_, by omega, fun _ => rfl, fun x u hu => ?_⟩
  · have h : (Try.prog.info? 25).map (fun i => (i.zero, i.size, i.bytes)) = some (some (.agg #[.int .i64 0, .int .i64 0, .int .i64 0, .int .i64 0]), 4, 32) := by kernel_rfl
    obtain ⟨i, h1, h2, h3, h4⟩ := parts_of h
    exact ⟨i, _, h1, h2, h3, h4, rfl⟩
  · simp [SAcc.cells] at hu
    rcases hu with rfl | rfl | rfl | rfl <;> rfl
/-- A list of the call's own. -/
def OAcc (w : World) (base : Nat) (v : Value) (l : List SAcc) : Prop := OwnL SAcc.cells 25 4 w base v l
theorem SAcc.at {x : SAcc} {l : List SAcc} {i : Nat} (hi : i < l.length) : l.getD i SAcc.zero = l[i] := by rw [List.getD_eq_getElem?_getD, List.getElem?_eq_getElem hi]; rfl
theorem SAcc.reads {w : World} {A : Option Addr} {l : List SAcc} (h : MemL SAcc.cells 4 w A l) (h0 : 0 < l.length) : ∃ b off, A = some ⟨b, off, none⟩ ∧ b < w.heap.size ∧ ∀ i, i < l.length → w.cell? ⟨b, off + i * 4, none⟩ = some (.int .i64 (l.getD i SAcc.zero).id) ∧ w.cell? ⟨b, off + i * 4 + 1, none⟩ = some (.int .i64 (l.getD i SAcc.zero).member) ∧ w.cell? ⟨b, off + i * 4 + 2, none⟩ = some (.int .i64 (l.getD i SAcc.zero).kind) ∧ w.cell? ⟨b, off + i * 4 + 3, none⟩ = some (.int .i64 (l.getD i SAcc.zero).limit) := by
  obtain ⟨b, off, e, hc⟩ := h h0
  have hb : b < w.heap.size := by
    have h1 := hc 0 h0 0 (by omega)
    exact block_lt (a := ⟨b, off + 0 * 4 + 0, none⟩) (h1.trans (show (SAcc.cells l[0])[0]? = some _ from rfl))
  refine ⟨b, off, e, hb, fun i hi => ?_⟩
  rw [SAcc.at (x := SAcc.zero) hi]
  exact ⟨hc i hi 0 (by omega), hc i hi 1 (by omega), hc i hi 2 (by omega), hc i hi 3 (by omega)⟩

theorem SAcc.oreads {w : World} {base : Nat} {v : Value} {l : List SAcc} (h : OwnL SAcc.cells 25 4 w base v l) (h0 : 0 < l.length) : ∃ g c, v = .slice (some ⟨g, 0, none⟩) l.length c ∧ base ≤ g ∧ g < w.heap.size ∧ ∀ i, i < l.length → (w.cell? ⟨g, i * 4, none⟩ = some (.int .i64 (l.getD i SAcc.zero).id) ∧ w.cell? ⟨g, i * 4 + 1, none⟩ = some (.int .i64 (l.getD i SAcc.zero).member) ∧ w.cell? ⟨g, i * 4 + 2, none⟩ = some (.int .i64 (l.getD i SAcc.zero).kind) ∧ w.cell? ⟨g, i * 4 + 3, none⟩ = some (.int .i64 (l.getD i SAcc.zero).limit)) ∧ (w.frozen? ⟨g, i * 4, none⟩ = false ∧ w.frozen? ⟨g, i * 4 + 1, none⟩ = false ∧ w.frozen? ⟨g, i * 4 + 2, none⟩ = false ∧ w.frozen? ⟨g, i * 4 + 3, none⟩ = false) := by
  obtain ⟨A, c, e1, _, _, _, h4⟩ := OwnL.form h lay_Acc
  obtain ⟨g, rfl, h5, h6, hc⟩ := h4 h0
  refine ⟨g, c, e1, h5, h6, fun i hi => ?_⟩
  rw [SAcc.at (x := SAcc.zero) hi]
  exact ⟨⟨(hc i hi 0 (by omega)).1, (hc i hi 1 (by omega)).1, (hc i hi 2 (by omega)).1, (hc i hi 3 (by omega)).1⟩, ⟨(hc i hi 0 (by omega)).2, (hc i hi 1 (by omega)).2, (hc i hi 2 (by omega)).2, (hc i hi 3 (by omega)).2⟩⟩

/-- In a block of its own. -/
theorem SAcc.recs {w : World} {b : Nat} {x : SAcc} (h : Rec w b 25 x.cells) : (w.cell? ⟨b, 0, none⟩ = some (.int .i64 x.id) ∧ w.cell? ⟨b, 1, none⟩ = some (.int .i64 x.member) ∧ w.cell? ⟨b, 2, none⟩ = some (.int .i64 x.kind) ∧ w.cell? ⟨b, 3, none⟩ = some (.int .i64 x.limit)) ∧ (w.frozen? ⟨b, 0, none⟩ = false ∧ w.frozen? ⟨b, 1, none⟩ = false ∧ w.frozen? ⟨b, 2, none⟩ = false ∧ w.frozen? ⟨b, 3, none⟩ = false) :=
  ⟨⟨h.cell 0 rfl, h.cell 1 rfl, h.cell 2 rfl, h.cell 3 rfl⟩, ⟨h.frozen 0, h.frozen 1, h.frozen 2, h.frozen 3⟩⟩
def SAcc.store (w : World) (b : Nat) (y : SAcc) : World := ((((w.setCell ⟨b, 0, none⟩ (.int .i64 y.id)).setCell ⟨b, 1, none⟩ (.int .i64 y.member)).setCell ⟨b, 2, none⟩ (.int .i64 y.kind)).setCell ⟨b, 3, none⟩ (.int .i64 y.limit))
theorem SAcc.put {w : World} {b : Nat} {x : SAcc} (h : Rec w b 25 x.cells) (y : SAcc) : Rec (SAcc.store w b y) b 25 y.cells := (Rec.set (Rec.set (Rec.set (Rec.set h 0 (.int .i64 y.id)) 1 (.int .i64 y.member)) 2 (.int .i64 y.kind)) 3 (.int .i64 y.limit))
theorem SAcc.putB {w w0 : World} {B b : Nat} (h : Below B w0 w) (hb : B ≤ b) (y : SAcc) : Below B w0 (SAcc.store w b y) := (Below.setCell (Below.setCell (Below.setCell (Below.setCell h (p := ⟨b, 0, none⟩) hb _) (p := ⟨b, 1, none⟩) hb _) (p := ⟨b, 2, none⟩) hb _) (p := ⟨b, 3, none⟩) hb _)

section
open Go.ChangeShapes Go.WideShapes Go.Deep
variable {H : Type} {enc : TypeId × Value → H} {w : World} {base : Nat} {spare : Nat → Bool} {held : Bool}
theorem trod_Acc {fuel : Nat} {cs : List Value} {x : DataW H × List MemPlace} (hl : cs.length = 4) (h : DataW.trod enc Try.prog w base spare held fuel 25 cs = some x) : ∃ q : SAcc, cs = q.cells ∧ q.Ok := by
  obtain ⟨xs, n, _, _, _, hlen, hx⟩ := DataW.trod_struct Try.underlying25 h
  have hone : oneCellFields Try.prog _ = true := (by kernel_rfl : oneCellFields Try.prog (match Try.prog.underlying 25 with | some (.struct fs) => fs | _ => #[]) = true)
  match cs, hl with
  | [c0, c1, c2, c3], _ =>
    obtain ⟨x0, rfl, k0⟩ := fieldV_int (i := 0) hx hlen hone rfl (by kernel_rfl) rfl
    obtain ⟨x1, rfl, k1⟩ := fieldV_int (i := 1) hx hlen hone rfl (by kernel_rfl) rfl
    obtain ⟨x2, rfl, k2⟩ := fieldV_int (i := 2) hx hlen hone rfl (by kernel_rfl) rfl
    obtain ⟨x3, rfl, k3⟩ := fieldV_int (i := 3) hx hlen hone rfl (by kernel_rfl) rfl
    exact ⟨⟨x0, x1, x2, x3⟩, rfl, ⟨k0, k1, k2, k3⟩⟩
theorem open_Acc {r : Reach} {b0 : Nat} {v : Value} {d : DataW H} {p : List MemPlace} (hv : Value.okWide Try.prog w r b0 25 v) (h : DataW.Trod enc Try.prog w base spare held 25 v d p) : ∃ x : SAcc, v = x.v ∧ x.Ok := by
  obtain ⟨cs, rfl, hsz⟩ := okWide_struct Try.underlying25 hv
  obtain ⟨fuel, hf⟩ := h
  obtain ⟨q, hq, hk⟩ := trod_Acc (by rw [Array.length_toList]; exact hsz.trans (by kernel_rfl)) hf
  refine ⟨q, ?_, hk⟩
  show Value.agg cs = .agg q.cells.toArray
  rw [← hq]
  simp [Value.cells]
theorem open_LAcc {fuel : Nat} {c : Value} {x : DataW H × List MemPlace} (h : DataW.trod enc Try.prog w base (fun _ => true) held fuel 23 [c] = some x) : ∃ l : List SAcc, LstV SAcc.cells 4 w c l ∧ ∀ y ∈ l, y.Ok :=
  open_lst Try.underlying23 (by kernel_rfl) (by omega) _ SAcc.zero (fun fuel cs x hl h => trod_Acc hl h) h
end

theorem SAcc.v_eq (x y : SAcc) : decide (x = y) = (decide (x.id = y.id) && (decide (x.member = y.member) && (decide (x.kind = y.kind) && (decide (x.limit = y.limit))))) := by
  obtain ⟨a0, a1, a2, a3⟩ := x
  obtain ⟨b0, b1, b2, b3⟩ := y
  simp [Bool.decide_and]
set_option maxRecDepth 8000 in
set_option maxHeartbeats 1000000 in
theorem run_Acc_ne (x y : SAcc) (W : World) : (binOp .neq 25 x.v y.v).run Try.prog W = .ok (.bool (!decide (x = y))) W := by
  rw [SAcc.v_eq]
  unfold SAcc.v
  simp [go_sem]
  repeat' split
  all_goals simp_all
set_option maxRecDepth 8000 in
set_option maxHeartbeats 1000000 in
theorem run_Acc_eq (x y : SAcc) (W : World) : (binOp .eql 25 x.v y.v).run Try.prog W = .ok (.bool (decide (x = y))) W := by
  rw [SAcc.v_eq]
  unfold SAcc.v
  simp [go_sem]
  repeat' split
  all_goals simp_all
set_option maxRecDepth 8000 in
set_option maxHeartbeats 8000000 in
theorem alike_Acc (A B : Option Addr) (p q : List SAcc) (n m c d : Nat) (w : World) (hn : n = p.length) (hm : m = q.length) (hI : MemL SAcc.cells 4 w A p) (hJ : MemL SAcc.cells 4 w B q) (hl : n ≤ 9223372036854775807) : Calls Try.prog 26 #[.slice A n c, .slice B m d] w fun r w' => r = .returned (.bool (decide (p = q))) ∧ Below w.heap.size w w' := by
  have HN := Lib.hid hn
  have HM := Lib.hid hm
  have HI := Lib.hid hI
  have HJ := Lib.hid hJ
  by_cases hlen : n ≠ m
  · have HP : Hid (decide (p = q) = false) := Lib.hid (decide_eq_false (fun e => hlen (by rw [hn, hm, e])))
    rw [HP.out]
    have hne : ((n : Int) != (m : Int)) = true := by rw [bne_iff_ne]; omega
    clear hn hm hI hJ hlen
    go_enter Try.func26, Try.ntmps26
    go_wp2
    go_ret
    exact ⟨rfl, Below.refl _ _⟩
  have hlen := Classical.not_not.1 hlen
  subst hlen
  clear hn hm hI hJ
  go_enter Try.func26, Try.ntmps26
  go_wp2
  go_loopw [5] (fun i wr => ∃ k : Nat, k ≤ n ∧ i = .int .i64 (k : Int) ∧ Hid (Below w.heap.size w wr) ∧ Hid (∀ j, j < k → p.getD j SAcc.zero = q.getD j SAcc.zero)) (fun i _ => n - (intOf i).toNat)
  case atStart => exact ⟨0, Nat.zero_le _, rfl, Lib.hid (Below.refl _ _), Lib.hid (fun j hj => absurd hj (Nat.not_lt_zero j))⟩
  case round =>
    obtain ⟨k, hk, rfl, HB, HA⟩ := hrel
    by_cases hlt : k < n
    · have hkl : k < p.length := by rw [← HN.out]; exact hlt
      have hkm : k < q.length := by rw [← HM.out]; exact hlt
      obtain ⟨b, off, rfl, _, hcells⟩ := SAcc.reads (HI.out.below HB.out (fun _ => rfl)) (by omega)
      obtain ⟨b', off', rfl, _, hcells'⟩ := SAcc.reads (HJ.out.below HB.out (fun _ => rfl)) (by omega)
      obtain ⟨g0, g1, g2, g3⟩ := hcells k hkl
      obtain ⟨h0, h1, h2, h3⟩ := hcells' k hkm
      obtain ⟨x, hx⟩ : ∃ x, x = p.getD k SAcc.zero := ⟨_, rfl⟩
      obtain ⟨y, hy⟩ : ∃ y, y = q.getD k SAcc.zero := ⟨_, rfl⟩
      rw [← hx] at g0 g1 g2 g3
      rw [← hy] at h0 h1 h2 h3
      have HX := Lib.hid hx
      have HY := Lib.hid hy
      have heq : ∀ W : World, (binOp .neq 25 x.v y.v).run Try.prog W = .ok (.bool (!decide (x = y))) W := fun W => run_Acc_ne x y W
      unfold SAcc.v at heq
      clear hx hy hkl hkm hcells hcells'
      by_cases hxy : x = y
      · have HXY := Lib.hid hxy
        rw [decide_eq_true hxy] at heq
        clear hxy
        go_wp2
        go_quiet (fail)
        go_wp2
        go_roundw
        case rel => exact ⟨k + 1, by omega, by go_num, Lib.hid (below_drewN HB.out _), Lib.hid (fun j hj => by
          rcases Nat.lt_or_ge j k with h | h
          · exact HA.out j h
          · obtain rfl : j = k := by omega
            rw [← HX.out, ← HY.out]; exact HXY.out)⟩
        case measure => simp [intOf]; omega
      · have HXY := Lib.hid hxy
        rw [decide_eq_false hxy] at heq
        clear hxy
        go_wp2
        go_quiet (fail)
        go_wp2
        go_ret
        exact ⟨by rw [decide_eq_false (fun e : p = q => HXY.out (by rw [HX.out, HY.out, e]))]; rfl, below_drewN HB.out _⟩
    · obtain rfl : k = n := by omega
      have HE : Hid (decide (p = q) = true) := Lib.hid (decide_eq_true (lists_all SAcc.zero (by rw [← HN.out, ← HM.out]) (fun i hi => HA.out i (by rw [HN.out]; exact hi))))
      go_wp2
      go_ret
      exact ⟨by rw [HE.out]; rfl, HB.out⟩
end Go.Proofs.Ytjlhmiajklddiaa
