/-
  The walks of the reference's Bucket, of novationhelp's Nums.
-/
import Derived.Test.YtldceocbmmidmaaPl3
namespace Go.Proofs.Ytldceocbmmidmaa
open Go Go.RowKit
set_option linter.unusedVariables false

/-- A place in a slice of numbers. -/
def encN (i : Nat) : List Value := [.int .i64 (i : Int)]
theorem lay_nat : Lay encN 33 3 1 8 := by
  refine ⟨Try.underlying33, ?_, by omega, fun _ => rfl, fun x u hu => ?_⟩
  · have h : (Try.prog.info? 3).map (fun i => (i.zero, i.size, i.bytes)) = some (some (.int .i64 0), 1, 8) := by kernel_rfl
    obtain ⟨i, h1, h2, h3, h4⟩ := parts_of h
    exact ⟨i, _, h1, h2, h3, h4, rfl⟩
  · simp [encN] at hu
    subst hu; rfl
def OwnN (w : World) (base : Nat) (v : Value) (l : List Nat) : Prop := OwnL encN 3 1 w base v l
/-- The places below n of the instruments of a bucket. -/
def buckL (l : List Ins) (k : Int) (n : Nat) : List Nat := (List.range n).filter fun i => decide ((l.getD i Ins.zero).bucket = k)
theorem buck_succ (l : List Ins) (k : Int) (n : Nat) : buckL l k (n + 1) = if (l.getD n Ins.zero).bucket = k then buckL l k n ++ [n] else buckL l k n := by
  unfold buckL
  rw [List.range_succ, List.filter_append]
  by_cases h : (l.getD n Ins.zero).bucket = k
  · rw [if_pos h, List.filter_cons_of_pos (by simpa using h)]; rfl
  · rw [if_neg h, List.filter_cons_of_neg (by simpa using h), List.filter_nil, List.append_nil]
theorem buck_len (l : List Ins) (k : Int) (n : Nat) : (buckL l k n).length ≤ n := by
  unfold buckL
  have := List.length_filter_le (fun i => decide ((l.getD i Ins.zero).bucket = k)) (List.range n)
  simpa using this
/-- What Bucket answers. -/
def buckP (cf : Cfg) (k : Int) : List Nat := if planOk cf then buckL cf.insts k cf.insts.length else []
/-- New numbers. -/
def NatsN (w : World) (l : List Nat) (e : Ending) (w' : World) : Prop := ∃ v, e = .returned v ∧ OwnN w' w.heap.size v l ∧ Below w.heap.size w w'
set_option maxRecDepth 8000 in
set_option maxHeartbeats 8000000 in
theorem rbuck_any (cf : Cfg) (x : Int) (A : Option Addr) (n c : Nat) (w : World) (hn : n = cf.insts.length) (hI : InsM w A cf.insts) : Calls Try.prog 17 #[cf.v (.slice A n c), .int .i64 x] w (NatsN w (buckP cf x)) := by
  have HN := Lib.hid hn
  have HC0 : Hid (CfAt (w.alloc (.cells (cf.cells (.slice A n c)).toArray 24)) w.heap.size cf (.slice A n c)) := Lib.hid (Rec.new w _ (cf.cells (.slice A n c)) _ rfl)
  have HB0 : Hid (Below w.heap.size w (w.alloc (.cells (cf.cells (.slice A n c)).toArray 24))) := Lib.hid ((Below.refl _ _).alloc (Nat.le_refl _) _)
  have HI := Lib.hid hI
  have CR := Lib.hid (fun W (h : Below w.heap.size w W) => rplan_any cf A n c W hn (hI.below h))
  have F : Hid (∀ W, Below w.heap.size w W → NatsN w [] (.returned (.slice none 0 0)) W) := Lib.hid (fun W hW => ⟨_, rfl, ownL_nil W _, hW⟩)
  cases hp : planOk cf with
  | false =>
    rw [show buckP cf x = [] from by unfold buckP; rw [hp]; rfl]
    rw [hp] at CR
    have CR1 := Lib.hid (CR.out _ HB0.out)
    unfold Cfg.v at CR1 ⊢
    simp only [Cfg.cells] at CR1
    clear hn hI hp
    go_enter Try.func17, Try.ntmps17
    go_wp2_with (go_at_call 12; (with_reducible refine CR1.out.mono ?_); rintro r w1 ⟨rfl, hb1⟩; have HB1 := Lib.hid hb1; clear hb1)
    go_ret
    exact F.out _ (HB0.out.trans (HB1.out.mono HB0.out.size))
  | true =>
    have hn6 : n ≤ 6 := by
      rw [hn]
      unfold planOk at hp
      rw [Bool.and_eq_true, Bool.and_eq_true] at hp
      exact of_decide_eq_true hp.1.2
    rw [show buckP cf x = buckL cf.insts x n from by unfold buckP; rw [hp, hn]; rfl]
    rw [hp] at CR
    have CR1 := Lib.hid (CR.out _ HB0.out)
    unfold Cfg.v at CR1 ⊢
    simp only [Cfg.cells] at CR1
    clear hn hI hp
    go_enter Try.func17, Try.ntmps17
    go_wp2_with (go_at_call 12; (with_reducible refine CR1.out.mono ?_); rintro r w1 ⟨rfl, hb1⟩; have HB1 := Lib.hid (HB0.out.trans (hb1.mono HB0.out.size)); have HC1 := Lib.hid (HC0.out.keep hb1); clear hb1)
    go_loopw [5, 6] (fun out i wr => ∃ (k : Nat) (V : Value), V = out ∧ k ≤ n ∧ i = .int .i64 (k : Int) ∧ Hid (OwnN wr (w.heap.size + 1) V (buckL cf.insts x k)) ∧ Hid (CfAt wr w.heap.size cf (.slice A n c)) ∧ Hid (Below w.heap.size w wr)) (fun _ i _ => n - (intOf i).toNat)
    case atStart => exact ⟨0, _, rfl, Nat.zero_le _, rfl, Lib.hid (ownL_nil _ _), HC1, HB1⟩
    case round =>
      obtain ⟨k, V, rfl, hk, rfl, HO, HC, HB⟩ := hrel
      obtain ⟨d0, d1, d2, d3, d4, d5, d6⟩ := HC.out.reads
      by_cases hlt : k < n
      · have hkl : k < cf.insts.length := by rw [← HN.out]; exact hlt
        obtain ⟨b, off, rfl, hcells⟩ := (HI.out.below HB.out) (by omega)
        obtain ⟨e0, e1, e2, e3⟩ := hcells k hkl
        have HS := Lib.hid (buck_succ cf.insts x k)
        have HLN : Hid ((buckL cf.insts x k).length ≤ 6) := Lib.hid (by have := buck_len cf.insts x k; omega)
        have hcl := HC.out.lt
        generalize (cf.insts.getD k Ins.zero).bucket = y at *
        clear hkl hcells
        by_cases hy : y = x
        · rw [if_pos hy] at HS
          have hby : (y == x) = true := beq_iff_eq.2 hy
          clear hy
          go_wp2_with (at_builtin; refine wpList_appL lay_nat rfl (.tmp 26) (.tmp 28) rfl (w.heap.size + 1) _ (buckL cf.insts x k) rfl (HO.out.alloc _) _ _ k rfl ?c1 ?c2 ?c3 ?c4 ?_)
          case c1 => exact lit_one _ _ _ _ rfl _ rfl
          case c2 => have := HLN.out; omega
          case c3 => have := HLN.out; omega
          case c4 => have := HB.out.size; simp; omega
          intro v2 w2 ho2 hg2 _
          have hb2 : Below (w.heap.size + 1) wr w2 := ((Below.refl _ _).alloc (by omega) _).trans ((HO.out.alloc _).below hg2 (by simp; omega))
          have HO2 := Lib.hid ho2
          rw [← HS.out] at HO2
          have HC2 : Hid (CfAt w2 w.heap.size cf (.slice (some ⟨b, off, none⟩) n c)) := Lib.hid ((hb2.block w.heap.size (by omega)).trans HC.out)
          have HB2 := Lib.hid (HB.out.trans (hb2.mono (by omega)))
          clear ho2 hg2 hb2
          go_wp2
          go_roundw
          case rel => exact ⟨k + 1, _, rfl, by omega, by go_num, HO2, HC2, HB2⟩
          case measure => simp [intOf]; omega
        · rw [if_neg hy] at HS
          have hby : (y == x) = false := beq_eq_false_iff_ne.2 hy
          rw [← HS.out] at HO
          clear hy
          go_wp2
          go_roundw
          case rel => exact ⟨k + 1, _, rfl, by omega, by go_num, HO, HC, HB⟩
          case measure => simp [intOf]; omega
      · obtain rfl : k = n := by omega
        go_wp2
        go_ret
        exact ⟨_, rfl, HO.out.lower (by omega), HB.out⟩
end Go.Proofs.Ytldceocbmmidmaa
