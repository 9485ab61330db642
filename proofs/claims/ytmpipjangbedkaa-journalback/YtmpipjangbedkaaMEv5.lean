import Derived.Test.YtmpipjangbedkaaMBst
import Derived.Test.YtmpipjangbedkaaMEv4
import Derived.Test.YtmpipjangbedkaaMPv2
/-
  The walk of the reference's PutEvent.
-/
namespace Go.Proofs.Ytmpipjangbedkaa
set_option maxRecDepth 8000
open Go Go.RowKit
set_option linter.unusedVariables false

/-- New bytes, and a code. -/
def BytesK (w : World) (l : List Nat) (code : Int) (e : Ending) (w' : World) : Prop :=
  ∃ v, e = .returned (.tuple #[v, .int .i64 code]) ∧ OwnB w' w.heap.size v l ∧ Below w.heap.size w w'
/-- The kind, and the numbers of these fields. -/
def putB (e : Ev) (l : List Nat) : List Nat := e.kind.toNat :: l.flatMap fun f => numB (e.val f)
/-- Put, and its code. -/
def putE? (e : Ev) : List Nat × Int := if rightE e then (putB e (fieldsOf e.kind), 0) else ([], 1)
theorem putB_take (e : Ev) (l : List Nat) (k : Nat) (h : k < l.length) : putB e (l.take (k + 1)) = putB e (l.take k) ++ numB (e.val (l.getD k 0)) := by
  unfold putB
  rw [List.take_succ_eq_append_getElem h, List.flatMap_append, List.getD_eq_getElem?_getD, List.getElem?_eq_getElem h]
  simp
theorem putB_len {e : Ev} (ok : e.Ok) (l : List Nat) : (putB e l).length ≤ 1 + 10 * l.length := by
  unfold putB
  rw [List.length_cons]
  induction l with
  | nil => simp
  | cons f l ih =>
    rw [List.flatMap_cons, List.length_append, List.length_cons]
    have := numB_len (ok.val f)
    omega
theorem putB_oct {e : Ev} (hk : 1 ≤ e.kind ∧ e.kind ≤ 22) (l : List Nat) : Oct (putB e l) := by
  unfold putB
  intro x hx
  rcases List.mem_cons.1 hx with rfl | hx
  · omega
  · obtain ⟨f, _, hf⟩ := List.mem_flatMap.1 hx
    exact numB_oct _ x hf
theorem right_is {e : Ev} (h : rightE e = true) : 1 ≤ e.kind ∧ e.kind ≤ 22 := by
  unfold rightE at h
  rw [Bool.and_eq_true] at h
  simpa using h.1
end Go.Proofs.Ytmpipjangbedkaa

/-
  Iterators of strings in memory.
-/
namespace Go.Proofs.Ytmpipjangbedkaa
set_option maxRecDepth 8000
open Go Go.RowKit
set_option linter.unusedVariables false

theorem touch_iter (w : World) (k : Nat) (s : ByteArray) (p : Nat) : Touch (fun i => i = k) w (w.iterAt k s p) := ⟨rfl, rfl, rfl, by rw [Lib.iterAt_size]; exact Nat.le_refl _, fun i _ h => Lib.iterAt_other w k i s p h⟩
theorem iter_lt {w : World} {k p : Nat} {s : ByteArray} (h : w.heap[k]? = some (.stringIter s p)) : k < w.heap.size := (Array.getElem?_eq_some_iff.1 h).1
theorem iter_touch {w w' : World} {k p : Nat} {s : ByteArray} {X : Nat → Prop} (h : w.heap[k]? = some (.stringIter s p)) (ht : Touch X w w') (hx : ¬ X k) : w'.heap[k]? = some (.stringIter s p) := (ht.block k (iter_lt h) hx).trans h
theorem iter_keep {w w' : World} {k p : Nat} {s : ByteArray} (h : w.heap[k]? = some (.stringIter s p)) (hb : Below w.heap.size w w') : w'.heap[k]? = some (.stringIter s p) := (hb.block k (iter_lt h)).trans h
theorem iter_not_row {w : World} {k p base : Nat} {s : ByteArray} {v : Value} {l : List Nat} (h : w.heap[k]? = some (.stringIter s p)) (ho : OwnB w base v l) : v.ownBlock ≠ some k := by
  rcases ho.2 with ⟨rfl, _⟩ | ⟨g, cap, cur, rfl, _, hgb, _⟩
  · simp [Value.ownBlock]
  · intro e
    obtain rfl : g = k := by simpa [Value.ownBlock] using e
    rw [h] at hgb
    simp at hgb
theorem iter_not_rec {w : World} {k p b : Nat} {s : ByteArray} {t : TypeId} {cs : List Value} (h : w.heap[k]? = some (.stringIter s p)) (hr : Rec w b t cs) : b ≠ k := by
  rintro rfl
  have := (show w.heap[b]? = _ from hr).symm.trans h
  simp at this
theorem fields_lett (k : Int) (j : Nat) (h : j < (fieldsOf k).length) : lett ((fieldsOf k).getD j 0) := by
  refine fields_letters k _ ?_
  rw [List.getD_eq_getElem?_getD, List.getElem?_eq_getElem h]
  exact List.getElem_mem _
end Go.Proofs.Ytmpipjangbedkaa

/-
  The walk of the program's Put.
-/
namespace Go.Proofs.Ytmpipjangbedkaa
set_option maxRecDepth 8000
open Go Go.RowKit
set_option linter.unusedVariables false

set_option maxRecDepth 8000 in
set_option maxHeartbeats 4000000 in
theorem pput_any (e : Ev) (ok : e.Ok) (w : World) : Calls Try.prog 30 #[e.v] w (BytesK w (putE? e).1 (putE? e).2) := by
  have CR := Lib.hid (fun W => pright_any e W)
  cases hr : rightE e with
  | false =>
    rw [show putE? e = ([], 1) from by unfold putE?; rw [hr]; rfl]
    rw [hr] at CR
    have F : Hid (∀ W, Below w.heap.size w W → BytesK w [] 1 (.returned (.tuple #[.slice none 0 0, .int .i64 1])) W) := Lib.hid (fun W hW => ⟨_, rfl, ownB_nil W _, hW⟩)
    have HB0 : Hid (Below w.heap.size w (w.alloc (.cells e.cells.toArray 38))) := Lib.hid ((Below.refl _ _).alloc (Nat.le_refl _) _)
    unfold Ev.v at CR ⊢
    clear hr ok
    go_enter Try.func30, Try.ntmps30
    go_wp2_with (go_at_call 48; (with_reducible refine (CR.out _).mono ?_); rintro r w1 ⟨rfl, hb1⟩; have HB1 := Lib.hid hb1; clear hb1)
    go_ret2
    exact F.out _ (HB0.out.trans (HB1.out.mono HB0.out.size))
  | true =>
    rw [show putE? e = (putB e (fieldsOf e.kind), 0) from by unfold putE?; rw [hr]; rfl]
    rw [hr] at CR
    have hk := right_is hr
    have CF := Lib.hid (fun W => pfields_any e.kind W)
    obtain ⟨l, hl⟩ : ∃ l, l = fieldsOf e.kind := ⟨_, rfl⟩
    have hO : Oct l := by rw [hl]; exact fields_oct _
    have hlen : l.length ≤ 5 := by rw [hl]; exact fields_len _
    have HLT : Hid (∀ j, j < l.length → lett (l.getD j 0)) := Lib.hid (by rw [hl]; exact fields_lett _)
    rw [← hl] at CF ⊢
    have HSZ : Hid ((bstr l).size = l.length) := Lib.hid (bstr_size l)
    have HGT : Hid (∀ k (h : k < (bstr l).size), ((bstr l)[k]'h).toNat = l.getD k 0) := Lib.hid (fun k h => bstr_get l hO k h)
    obtain ⟨S, hS⟩ : ∃ S, S = bstr l := ⟨_, rfl⟩
    rw [← hS] at CF HSZ HGT
    obtain ⟨n, hn⟩ : ∃ n, n = l.length := ⟨_, rfl⟩
    rw [← hn] at HSZ hlen HLT
    have HN := Lib.hid hn
    have HOK := Lib.hid ok
    have HK := Lib.hid hk
    have HE0 : Hid (EvAt (w.alloc (.cells e.cells.toArray 38)) w.heap.size e) := Lib.hid (Rec.new w _ e.cells _ rfl)
    have HB0 : Hid (Below w.heap.size w (w.alloc (.cells e.cells.toArray 38))) := Lib.hid ((Below.refl _ _).alloc (Nat.le_refl _) _)
    have hk1 : 1 ≤ e.kind := hk.1
    have hk2 : e.kind ≤ 22 := hk.2
    have HKN : Hid ((e.kind.toNat : Int) = e.kind) := Lib.hid (by omega)
    have CV : Hid (∀ f, lett f → ∀ W, Calls Try.prog 51 #[e.v, .int .i32 ((f : Nat) : Int)] W fun r w' => r = .returned (.int .i64 (e.val f)) ∧ Below W.heap.size W w') := Lib.hid (fun f hf W => pvalue_any e f hf W)
    unfold Ev.v at CR CV ⊢
    clear hr ok hl hO hS hn hk
    go_enter Try.func30, Try.ntmps30
    go_wp2_with (first
      | (go_at_call 48; (with_reducible refine (CR.out _).mono ?_); rintro r w1 ⟨rfl, hb1⟩; have H1 := Lib.hid (HE0.out.keep hb1); have HB1 := Lib.hid (HB0.out.trans (hb1.mono HB0.out.size)); obtain ⟨c0, _⟩ := H1.out.reads; have zlt := Rec.lt H1.out; clear hb1)
      | (go_at_call 49; (with_reducible refine (CF.out _).mono ?_); rintro r _ ⟨rfl, rfl⟩))
    have HO0 : Hid (OwnB ((w1.alloc (.cells #[.int .u8 e.kind] 5)).iter S 0) w.heap.size (.slice (some ⟨w1.heap.size, 0, none⟩) 1 1) (putB e (l.take 0))) := Lib.hid ((ownB_lit w1 _ _ [e.kind.toNat] HB1.out.size (by simp) (by simp [byteV, HKN.out]) _ rfl _ rfl).alloc _)
    have HE1 : Hid (EvAt ((w1.alloc (.cells #[.int .u8 e.kind] 5)).iter S 0) w.heap.size e) := Lib.hid (H1.out.keep (((Below.refl _ _).alloc (Nat.le_refl _) _).alloc (by simp) _))
    have HB2 : Hid (Below w.heap.size w ((w1.alloc (.cells #[.int .u8 e.kind] 5)).iter S 0)) := Lib.hid ((HB1.out.alloc HB1.out.size _).alloc (by have := HB1.out.size; simp; omega) _)
    have HI0 : Hid (((w1.alloc (.cells #[.int .u8 e.kind] 5)).iter S 0).heap[w1.heap.size + 1]? = some (.stringIter S 0)) := Lib.hid (by
      have := World.iter_heap (w1.alloc (.cells #[.int .u8 e.kind] 5)) S 0
      simpa using this)
    obtain ⟨q, hq⟩ : ∃ q, q = w1.heap.size + 1 := ⟨_, rfl⟩
    have HQ : Hid (w.heap.size ≤ q) := Lib.hid (by have := HB1.out.size; omega)
    rw [← hq] at HI0
    have HQE := Lib.hid hq
    clear CR CF HE0 HB0 hq
    go_loopw [4] (fun out wr => ∃ (k : Nat) (V : Value), V = out ∧ k ≤ n ∧ Hid (wr.heap[q]? = some (.stringIter S k)) ∧ Hid (OwnB wr w.heap.size out (putB e (l.take k))) ∧ Hid (EvAt wr w.heap.size e) ∧ Hid (Below w.heap.size w wr)) (fun _ wr => n - wr.iterPos q)
    case atStart => exact ⟨0, _, rfl, Nat.zero_le _, HI0, HO0, HE1, HB2⟩
    case round =>
      rw [← HQE.out]
      obtain ⟨k, out, rfl, hk, HI, HO, HE, HB⟩ := hrel
      have hpos : wr.iterPos q = k := iterPos_of HI.out
      by_cases hlt : k < n
      · have hszk : k < S.size := by rw [HSZ.out]; exact hlt
        have HT := Lib.hid (putB_take e l k (by rw [← HN.out]; exact hlt))
        have hl := HLT.out k hlt
        have hgt := HGT.out k hszk
        have hv := HOK.out.val (l.getD k 0)
        obtain ⟨f, hf⟩ : ∃ f, f = l.getD k 0 := ⟨_, rfl⟩
        rw [← hf] at HT hl hv hgt
        have hnx : ∀ ty, (Instr.next (.pointer (some ⟨q, 0, none⟩)) true ty).run Try.prog wr = .ok (.tuple #[.bool true, .int .i64 k, .int .i32 (f : Int)]) (wr.iterAt q S (k + 1)) := fun ty => by
          rw [Lib.run_next_ascii_at wr _ S k ty HI.out hszk (by rw [hgt]; exact lett_lt hl), hgt]
        have hL : (putB e (l.take k)).length ≤ 100 := by have := putB_len HOK.out (l.take k); rw [List.length_take, ← HN.out] at this; omega
        have hqi := HQ.out
        have HI2 := Lib.hid (Lib.iterAt_heap wr q S k (k + 1) HI.out)
        have HO2 : Hid (OwnB (wr.iterAt q S (k + 1)) w.heap.size out (putB e (l.take k))) := Lib.hid (HO.out.touch (touch_iter wr q S (k + 1)) (fun j hj e => iter_not_row HI.out HO.out (by rw [hj, e])))
        have HE2 : Hid (EvAt (wr.iterAt q S (k + 1)) w.heap.size e) := Lib.hid (Rec.touch HE.out (touch_iter wr q S (k + 1)) (iter_not_rec HI.out HE.out))
        have HB3 := Lib.hid (Lib.below_iterAt HB.out (k := q) hqi S (k + 1))
        generalize wr.iterAt q S (k + 1) = wi at *
        obtain ⟨c0, c1, c2, c3, c4, c5, c6, c7⟩ := HE2.out.reads
        have CV1 := Lib.hid (CV.out f hl)
        obtain ⟨val, hval⟩ : ∃ val, val = e.val f := ⟨_, rfl⟩
        rw [← hval] at CV1 hv
        have CN : Hid (∀ W, Below wi.heap.size wi W → Calls Try.prog 50 #[out, .int .i64 val] W (AppN W w.heap.size out (putB e (l.take (k + 1))))) := Lib.hid (fun W hW => by
          rw [HT.out, ← hval]
          exact appnum_any w.heap.size out _ val W (HO2.out.keep hW) (by omega) hv (Nat.le_trans HB3.out.size hW.size))
        clear hf hval hv HT hL hl CV hgt
        go_wp2_with (first
          | (go_at_call 51; (with_reducible refine (CV1.out _).mono ?_); rintro r w2 ⟨rfl, hb2⟩; have K2 := Lib.hid hb2; have CN2 := Lib.hid (CN.out w2 hb2); clear hb2)
          | (go_at_call 50; (with_reducible refine CN2.out.mono ?_); rintro r w3 ⟨v3, rfl, ho3, ht3, _⟩; have HO3 := Lib.hid ho3; have HT3 := Lib.hid ht3; clear ho3 ht3))
        have HI3 := Lib.hid (iter_touch (iter_keep HI2.out K2.out) HT3.out (iter_not_row HI2.out HO2.out))
        go_roundw
        case rel => exact ⟨k + 1, _, rfl, by omega, HI3, HO3, Lib.hid (Rec.touch (HE2.out.keep K2.out) HT3.out (Rec.not_row HE2.out (by decide) HO2.out)), Lib.hid ((HB3.out.trans (K2.out.mono HB3.out.size)).trans (HT3.out.below (Nat.le_trans HB3.out.size K2.out.size) (fun j e => (HO2.out.lt j e).1)))⟩
        case measure =>
          rw [hpos, iterPos_of HI3.out]
          omega
      · obtain rfl : k = n := by omega
        have hnx : ∀ ty, (Instr.next (.pointer (some ⟨q, 0, none⟩)) true ty).run Try.prog wr = .ok (.tuple #[.bool false]) wr := fun ty => Lib.run_next_end_at wr _ S k ty HI.out (by rw [HSZ.out]; omega)
        have HTL : Hid (l.take k = l) := Lib.hid (by rw [HN.out, List.take_length])
        rw [HTL.out] at HO
        go_wp2
        go_ret2
        exact ⟨_, rfl, HO.out, HB.out⟩
end Go.Proofs.Ytmpipjangbedkaa
