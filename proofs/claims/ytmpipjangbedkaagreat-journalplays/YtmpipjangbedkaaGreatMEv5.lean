import Derived.Test.YtmpipjangbedkaaGreatMEv3
import Derived.Test.YtmpipjangbedkaaGreatMEv4
import Derived.Test.YtmpipjangbedkaaGreatMPv2
/-
  The walk of the reference's PutEvent.
-/
namespace Go.Proofs.YtmpipjangbedkaaGreat
set_option maxRecDepth 8000
open Go Go.RowKit
set_option linter.unusedVariables false

/-- New bytes, and a code. -/
def BytesK (w : World) (l : List Nat) (code : Int) (e : Ending) (w' : World) : Prop :=
  ∃ v, e = .returned (.tuple #[v, .int .i64 code]) ∧ OwnB w' w.heap.size v l ∧ Below w.heap.size w w'
/-- The kind, and the numbers of these fields. -/
def putB (e : Ev) (l : List Nat) : List Nat := e.kind.toNat :: l.flatMap fun f => numB (e.val f)
/-- Put, and its code. -/
def putE? (e : Ev) : List Nat × Int := if rightE e then (putB e (fieldsOf e.kind), 0) else ([], 1)
theorem putB_take (e : Ev) (l : List Nat) (k : Nat) (h : k < l.length) : putB e (l.take (k + 1)) = putB e (l.take k) ++ numB (e.val (l.getD k 0)) := by
  unfold putB
  rw [List.take_succ_eq_append_getElem h, List.flatMap_append, List.getD_eq_getElem?_getD, List.getElem?_eq_getElem h]
  simp
theorem putB_len {e : Ev} (ok : e.Ok) (l : List Nat) : (putB e l).length ≤ 1 + 10 * l.length := by
  unfold putB
  rw [List.length_cons]
  induction l with
  | nil => simp
  | cons f l ih =>
    rw [List.flatMap_cons, List.length_append, List.length_cons]
    have := numB_len (ok.val f)
    omega
theorem putB_oct {e : Ev} (hk : 1 ≤ e.kind ∧ e.kind ≤ 22) (l : List Nat) : Oct (putB e l) := by
  unfold putB
  intro x hx
  rcases List.mem_cons.1 hx with rfl | hx
  · omega
  · obtain ⟨f, _, hf⟩ := List.mem_flatMap.1 hx
    exact numB_oct _ x hf
theorem right_is {e : Ev} (h : rightE e = true) : 1 ≤ e.kind ∧ e.kind ≤ 22 := by
  unfold rightE at h
  rw [Bool.and_eq_true] at h
  simpa using h.1
set_option maxRecDepth 8000 in
set_option maxHeartbeats 4000000 in
theorem putev_any (e : Ev) (ok : e.Ok) (w : World) : Calls Tryz.prog 16 #[e.v] w (BytesK w (putE? e).1 (putE? e).2) := by
  have CR := Lib.hid (fun W => right_any e W)
  cases hr : rightE e with
  | false =>
    rw [show putE? e = ([], 1) from by unfold putE?; rw [hr]; rfl]
    rw [hr] at CR
    have F : Hid (∀ W, Below w.heap.size w W → BytesK w [] 1 (.returned (.tuple #[.slice none 0 0, .int .i64 1])) W) := Lib.hid (fun W hW => ⟨_, rfl, ownB_nil W _, hW⟩)
    have HB0 : Hid (Below w.heap.size w (w.alloc (.cells e.cells.toArray 51))) := Lib.hid ((Below.refl _ _).alloc (Nat.le_refl _) _)
    unfold Ev.v at CR ⊢
    clear hr ok
    go_enter Tryz.func16, Tryz.ntmps16
    go_wp2_with (go_at_call 42; (with_reducible refine (CR.out _).mono ?_); rintro r w1 ⟨rfl, hb1⟩; have HB1 := Lib.hid hb1; clear hb1)
    go_ret2
    exact F.out _ (HB0.out.trans (HB1.out.mono HB0.out.size))
  | true =>
    rw [show putE? e = (putB e (fieldsOf e.kind), 0) from by unfold putE?; rw [hr]; rfl]
    rw [hr] at CR
    have hk := right_is hr
    have CF := Lib.hid (fun W => fields_any e.kind W)
    obtain ⟨l, hl⟩ : ∃ l, l = fieldsOf e.kind := ⟨_, rfl⟩
    have hO : Oct l := by rw [hl]; exact fields_oct _
    have hlen : l.length ≤ 5 := by rw [hl]; exact fields_len _
    rw [← hl] at CF ⊢
    have HSZ : Hid ((bstr l).size = l.length) := Lib.hid (bstr_size l)
    have HGT : Hid (∀ k (h : k < (bstr l).size), ((bstr l)[k]'h).toNat = l.getD k 0) := Lib.hid (fun k h => bstr_get l hO k h)
    obtain ⟨S, hS⟩ : ∃ S, S = bstr l := ⟨_, rfl⟩
    rw [← hS] at CF HSZ HGT
    obtain ⟨n, hn⟩ : ∃ n, n = l.length := ⟨_, rfl⟩
    rw [← hn] at HSZ hlen
    have HN := Lib.hid hn
    have hsz := HSZ.out
    have HOK := Lib.hid ok
    have HK := Lib.hid hk
    have HE0 : Hid (EvAt (w.alloc (.cells e.cells.toArray 51)) w.heap.size e) := Lib.hid (Rec.new w _ e.cells _ rfl)
    have HB0 : Hid (Below w.heap.size w (w.alloc (.cells e.cells.toArray 51))) := Lib.hid ((Below.refl _ _).alloc (Nat.le_refl _) _)
    have hk1 : 1 ≤ e.kind := hk.1
    have hk2 : e.kind ≤ 22 := hk.2
    have HKN : Hid ((e.kind.toNat : Int) = e.kind) := Lib.hid (by omega)
    have CV : Hid (∀ f W, Calls Tryz.prog 44 #[e.v, .int .u8 ((f : Nat) : Int)] W fun r w' => r = .returned (.int .i64 (e.val f)) ∧ Below W.heap.size W w') := Lib.hid (fun f W => value_any e f W)
    unfold Ev.v at CR CV ⊢
    clear hr ok hl hO hS hn hk
    go_enter Tryz.func16, Tryz.ntmps16
    go_wp2_with (first
      | (go_at_call 42; (with_reducible refine (CR.out _).mono ?_); rintro r w1 ⟨rfl, hb1⟩; have H1 := Lib.hid (HE0.out.keep hb1); have HB1 := Lib.hid (HB0.out.trans (hb1.mono HB0.out.size)); obtain ⟨c0, _⟩ := H1.out.reads; have zlt := Rec.lt H1.out; clear hb1)
      | (go_at_call 43; (with_reducible refine (CF.out _).mono ?_); rintro r _ ⟨rfl, rfl⟩))
    have HO0 : Hid (OwnB (w1.alloc (.cells #[.int .u8 e.kind] 5)) w.heap.size (.slice (some ⟨w1.heap.size, 0, none⟩) 1 1) (putB e (l.take 0))) := Lib.hid (ownB_lit w1 _ _ [e.kind.toNat] HB1.out.size (by simp) (by simp [byteV, HKN.out]) _ rfl _ rfl)
    have HE1 : Hid (EvAt (w1.alloc (.cells #[.int .u8 e.kind] 5)) w.heap.size e) := Lib.hid (H1.out.keep ((Below.refl _ _).alloc (Nat.le_refl _) _))
    have HB2 : Hid (Below w.heap.size w (w1.alloc (.cells #[.int .u8 e.kind] 5))) := Lib.hid (HB1.out.alloc HB1.out.size _)
    clear CR CF HE0 HB0
    go_loopw [4, 6] (fun out i wr => ∃ k : Nat, k ≤ n ∧ i = .int .i64 k ∧ Hid (OwnB wr w.heap.size out (putB e (l.take k))) ∧ Hid (EvAt wr w.heap.size e) ∧ Hid (Below w.heap.size w wr)) (fun _ i _ => n - (intOf i).toNat)
    case atStart => exact ⟨0, Nat.zero_le _, rfl, HO0, HE1, HB2⟩
    case round =>
      obtain ⟨k, hk, rfl, HO, HE, HB⟩ := hrel
      by_cases hlt : k < n
      · have hgt := HGT.out k
        have HT := Lib.hid (putB_take e l k (by rw [← HN.out]; exact hlt))
        have hv := HOK.out.val (l.getD k 0)
        obtain ⟨c0, c1, c2, c3, c4, c5, c6, c7⟩ := HE.out.reads
        obtain ⟨A1, m1, rfl, hB1, hm1, hm2, hA1, _⟩ := HO.out.form
        have hL : (putB e (l.take k)).length ≤ 100 := by have := putB_len HOK.out (l.take k); rw [List.length_take, ← HN.out] at this; omega
        have CN : Hid (∀ W, Below wr.heap.size wr W → Calls Tryz.prog 39 #[.slice A1 (putB e (l.take k)).length m1, .int .i64 (e.val (l.getD k 0))] W (BytesN W (putB e (l.take (k + 1))))) := Lib.hid (fun W hW => by
          rw [HT.out]
          exact number_any A1 _ m1 _ W (hB1.below hW) (putB_oct HK.out _) hA1 (by omega) hv)
        generalize hf : l.getD k 0 = f at *
        obtain ⟨val, hval⟩ : ∃ val, val = e.val f := ⟨_, rfl⟩
        have CV1 := Lib.hid (fun W => CV.out f W)
        rw [← hval] at CV1 CN
        generalize (putB e (l.take k)).length = L at *
        clear hf hval hv hB1 HT
        go_wp2
        go_region_with (first
          | (go_at_call 44; (with_reducible refine (CV1.out _).mono ?_); rintro r w2 ⟨rfl, hb2⟩; have HB2 : Hid (Below wr.heap.size wr w2) := (Lib.hid ⟨hb2.os, hb2.tape, hb2.output, hb2.size, hb2.block⟩); have CN2 := Lib.hid (CN.out w2 HB2.out); clear hb2)
          | (go_at_call 39; (with_reducible refine CN2.out.mono ?_); rintro r w3 ⟨v3, rfl, ho3, hb3⟩; have HB3 := Lib.hid (HB2.out.trans (hb3.mono HB2.out.size)); have HO3 := Lib.hid (ho3.base (Nat.le_trans HB.out.size HB2.out.size)); clear ho3 hb3))
        all_goals go_wp2
        all_goals go_roundw
        all_goals first
          | exact ⟨k + 1, by omega, by go_num, HO3, Lib.hid (HE.out.keep HB3.out), Lib.hid (HB.out.trans (HB3.out.mono HB.out.size))⟩
          | (simp [intOf]; omega)
      · obtain rfl : k = n := by omega
        have HTL : Hid (l.take k = l) := Lib.hid (by rw [HN.out, List.take_length])
        rw [HTL.out] at HO
        go_wp2
        go_ret2
        exact ⟨_, rfl, HO.out, HB.out⟩
end Go.Proofs.YtmpipjangbedkaaGreat

/-
  Iterators of strings in memory.
-/
namespace Go.Proofs.YtmpipjangbedkaaGreat
set_option maxRecDepth 8000
open Go Go.RowKit
set_option linter.unusedVariables false

theorem touch_iter (w : World) (k : Nat) (s : ByteArray) (p : Nat) : Touch (fun i => i = k) w (w.iterAt k s p) := ⟨rfl, rfl, rfl, by rw [Lib.iterAt_size]; exact Nat.le_refl _, fun i _ h => Lib.iterAt_other w k i s p h⟩
theorem iter_lt {w : World} {k p : Nat} {s : ByteArray} (h : w.heap[k]? = some (.stringIter s p)) : k < w.heap.size := (Array.getElem?_eq_some_iff.1 h).1
theorem iter_touch {w w' : World} {k p : Nat} {s : ByteArray} {X : Nat → Prop} (h : w.heap[k]? = some (.stringIter s p)) (ht : Touch X w w') (hx : ¬ X k) : w'.heap[k]? = some (.stringIter s p) := (ht.block k (iter_lt h) hx).trans h
theorem iter_keep {w w' : World} {k p : Nat} {s : ByteArray} (h : w.heap[k]? = some (.stringIter s p)) (hb : Below w.heap.size w w') : w'.heap[k]? = some (.stringIter s p) := (hb.block k (iter_lt h)).trans h
theorem iter_not_row {w : World} {k p base : Nat} {s : ByteArray} {v : Value} {l : List Nat} (h : w.heap[k]? = some (.stringIter s p)) (ho : OwnB w base v l) : v.ownBlock ≠ some k := by
  rcases ho.2 with ⟨rfl, _⟩ | ⟨g, cap, cur, rfl, _, hgb, _⟩
  · simp [Value.ownBlock]
  · intro e
    obtain rfl : g = k := by simpa [Value.ownBlock] using e
    rw [h] at hgb
    simp at hgb
theorem iter_not_rec {w : World} {k p b : Nat} {s : ByteArray} {t : TypeId} {cs : List Value} (h : w.heap[k]? = some (.stringIter s p)) (hr : Rec w b t cs) : b ≠ k := by
  rintro rfl
  have := (show w.heap[b]? = _ from hr).symm.trans h
  simp at this
theorem fields_lett (k : Int) (j : Nat) (h : j < (fieldsOf k).length) : lett ((fieldsOf k).getD j 0) := by
  refine fields_letters k _ ?_
  rw [List.getD_eq_getElem?_getD, List.getElem?_eq_getElem h]
  exact List.getElem_mem _
end Go.Proofs.YtmpipjangbedkaaGreat

/-
  The walk of the program's Put.
-/
namespace Go.Proofs.YtmpipjangbedkaaGreat
set_option maxRecDepth 8000
open Go Go.RowKit
set_option linter.unusedVariables false

set_option maxRecDepth 8000 in
set_option maxHeartbeats 4000000 in
theorem pput_any (e : Ev) (ok : e.Ok) (w : World) : Calls Tryz.prog 59 #[e.v] w (BytesK w (putE? e).1 (putE? e).2) := by
  have CR := Lib.hid (fun W => pright_any e W)
  cases hr : rightE e with
  | false =>
    rw [show putE? e = ([], 1) from by unfold putE?; rw [hr]; rfl]
    rw [hr] at CR
    have F : Hid (∀ W, Below w.heap.size w W → BytesK w [] 1 (.returned (.tuple #[.slice none 0 0, .int .i64 1])) W) := Lib.hid (fun W hW => ⟨_, rfl, ownB_nil W _, hW⟩)
    have HB0 : Hid (Below w.heap.size w (w.alloc (.cells e.cells.toArray 51))) := Lib.hid ((Below.refl _ _).alloc (Nat.le_refl _) _)
    unfold Ev.v at CR ⊢
    clear hr ok
    go_enter Tryz.func59, Tryz.ntmps59
    go_wp2_with (go_at_call 77; (with_reducible refine (CR.out _).mono ?_); rintro r w1 ⟨rfl, hb1⟩; have HB1 := Lib.hid hb1; clear hb1)
    go_ret2
    exact F.out _ (HB0.out.trans (HB1.out.mono HB0.out.size))
  | true =>
    rw [show putE? e = (putB e (fieldsOf e.kind), 0) from by unfold putE?; rw [hr]; rfl]
    rw [hr] at CR
    have hk := right_is hr
    have CF := Lib.hid (fun W => pfields_any e.kind W)
    obtain ⟨l, hl⟩ : ∃ l, l = fieldsOf e.kind := ⟨_, rfl⟩
    have hO : Oct l := by rw [hl]; exact fields_oct _
    have hlen : l.length ≤ 5 := by rw [hl]; exact fields_len _
    have HLT : Hid (∀ j, j < l.length → lett (l.getD j 0)) := Lib.hid (by rw [hl]; exact fields_lett _)
    rw [← hl] at CF ⊢
    have HSZ : Hid ((bstr l).size = l.length) := Lib.hid (bstr_size l)
    have HGT : Hid (∀ k (h : k < (bstr l).size), ((bstr l)[k]'h).toNat = l.getD k 0) := Lib.hid (fun k h => bstr_get l hO k h)
    obtain ⟨S, hS⟩ : ∃ S, S = bstr l := ⟨_, rfl⟩
    rw [← hS] at CF HSZ HGT
    obtain ⟨n, hn⟩ : ∃ n, n = l.length := ⟨_, rfl⟩
    rw [← hn] at HSZ hlen HLT
    have HN := Lib.hid hn
    have HOK := Lib.hid ok
    have HK := Lib.hid hk
    have HE0 : Hid (EvAt (w.alloc (.cells e.cells.toArray 51)) w.heap.size e) := Lib.hid (Rec.new w _ e.cells _ rfl)
    have HB0 : Hid (Below w.heap.size w (w.alloc (.cells e.cells.toArray 51))) := Lib.hid ((Below.refl _ _).alloc (Nat.le_refl _) _)
    have hk1 : 1 ≤ e.kind := hk.1
    have hk2 : e.kind ≤ 22 := hk.2
    have HKN : Hid ((e.kind.toNat : Int) = e.kind) := Lib.hid (by omega)
    have CV : Hid (∀ f, lett f → ∀ W, Calls Tryz.prog 80 #[e.v, .int .i32 ((f : Nat) : Int)] W fun r w' => r = .returned (.int .i64 (e.val f)) ∧ Below W.heap.size W w') := Lib.hid (fun f hf W => pvalue_any e f hf W)
    unfold Ev.v at CR CV ⊢
    clear hr ok hl hO hS hn hk
    go_enter Tryz.func59, Tryz.ntmps59
    go_wp2_with (first
      | (go_at_call 77; (with_reducible refine (CR.out _).mono ?_); rintro r w1 ⟨rfl, hb1⟩; have H1 := Lib.hid (HE0.out.keep hb1); have HB1 := Lib.hid (HB0.out.trans (hb1.mono HB0.out.size)); obtain ⟨c0, _⟩ := H1.out.reads; have zlt := Rec.lt H1.out; clear hb1)
      | (go_at_call 78; (with_reducible refine (CF.out _).mono ?_); rintro r _ ⟨rfl, rfl⟩))
    have HO0 : Hid (OwnB ((w1.alloc (.cells #[.int .u8 e.kind] 5)).iter S 0) w.heap.size (.slice (some ⟨w1.heap.size, 0, none⟩) 1 1) (putB e (l.take 0))) := Lib.hid ((ownB_lit w1 _ _ [e.kind.toNat] HB1.out.size (by simp) (by simp [byteV, HKN.out]) _ rfl _ rfl).alloc _)
    have HE1 : Hid (EvAt ((w1.alloc (.cells #[.int .u8 e.kind] 5)).iter S 0) w.heap.size e) := Lib.hid (H1.out.keep (((Below.refl _ _).alloc (Nat.le_refl _) _).alloc (by simp) _))
    have HB2 : Hid (Below w.heap.size w ((w1.alloc (.cells #[.int .u8 e.kind] 5)).iter S 0)) := Lib.hid ((HB1.out.alloc HB1.out.size _).alloc (by have := HB1.out.size; simp; omega) _)
    have HI0 : Hid (((w1.alloc (.cells #[.int .u8 e.kind] 5)).iter S 0).heap[w1.heap.size + 1]? = some (.stringIter S 0)) := Lib.hid (by
      have := World.iter_heap (w1.alloc (.cells #[.int .u8 e.kind] 5)) S 0
      simpa using this)
    obtain ⟨q, hq⟩ : ∃ q, q = w1.heap.size + 1 := ⟨_, rfl⟩
    have HQ : Hid (w.heap.size ≤ q) := Lib.hid (by have := HB1.out.size; omega)
    rw [← hq] at HI0
    have HQE := Lib.hid hq
    clear CR CF HE0 HB0 hq
    go_loopw [4] (fun out wr => ∃ (k : Nat) (V : Value), V = out ∧ k ≤ n ∧ Hid (wr.heap[q]? = some (.stringIter S k)) ∧ Hid (OwnB wr w.heap.size out (putB e (l.take k))) ∧ Hid (EvAt wr w.heap.size e) ∧ Hid (Below w.heap.size w wr)) (fun _ wr => n - wr.iterPos q)
    case atStart => exact ⟨0, _, rfl, Nat.zero_le _, HI0, HO0, HE1, HB2⟩
    case round =>
      rw [← HQE.out]
      obtain ⟨k, out, rfl, hk, HI, HO, HE, HB⟩ := hrel
      have hpos : wr.iterPos q = k := iterPos_of HI.out
      by_cases hlt : k < n
      · have hszk : k < S.size := by rw [HSZ.out]; exact hlt
        have HT := Lib.hid (putB_take e l k (by rw [← HN.out]; exact hlt))
        have hl := HLT.out k hlt
        have hgt := HGT.out k hszk
        have hv := HOK.out.val (l.getD k 0)
        obtain ⟨f, hf⟩ : ∃ f, f = l.getD k 0 := ⟨_, rfl⟩
        rw [← hf] at HT hl hv hgt
        have hnx : ∀ ty, (Instr.next (.pointer (some ⟨q, 0, none⟩)) true ty).run Tryz.prog wr = .ok (.tuple #[.bool true, .int .i64 k, .int .i32 (f : Int)]) (wr.iterAt q S (k + 1)) := fun ty => by
          rw [Lib.run_next_ascii_at wr _ S k ty HI.out hszk (by rw [hgt]; exact lett_lt hl), hgt]
        have hL : (putB e (l.take k)).length ≤ 100 := by have := putB_len HOK.out (l.take k); rw [List.length_take, ← HN.out] at this; omega
        have hqi := HQ.out
        have HI2 := Lib.hid (Lib.iterAt_heap wr q S k (k + 1) HI.out)
        have HO2 : Hid (OwnB (wr.iterAt q S (k + 1)) w.heap.size out (putB e (l.take k))) := Lib.hid (HO.out.touch (touch_iter wr q S (k + 1)) (fun j hj e => iter_not_row HI.out HO.out (by rw [hj, e])))
        have HE2 : Hid (EvAt (wr.iterAt q S (k + 1)) w.heap.size e) := Lib.hid (Rec.touch HE.out (touch_iter wr q S (k + 1)) (iter_not_rec HI.out HE.out))
        have HB3 := Lib.hid (Lib.below_iterAt HB.out (k := q) hqi S (k + 1))
        generalize wr.iterAt q S (k + 1) = wi at *
        obtain ⟨c0, c1, c2, c3, c4, c5, c6, c7⟩ := HE2.out.reads
        have CV1 := Lib.hid (CV.out f hl)
        obtain ⟨val, hval⟩ : ∃ val, val = e.val f := ⟨_, rfl⟩
        rw [← hval] at CV1 hv
        have CN : Hid (∀ W, Below wi.heap.size wi W → Calls Tryz.prog 79 #[out, .int .i64 val] W (AppN W w.heap.size out (putB e (l.take (k + 1))))) := Lib.hid (fun W hW => by
          rw [HT.out, ← hval]
          exact appnum_any w.heap.size out _ val W (HO2.out.keep hW) (by omega) hv (Nat.le_trans HB3.out.size hW.size))
        clear hf hval hv HT hL hl CV hgt
        go_wp2_with (first
          | (go_at_call 80; (with_reducible refine (CV1.out _).mono ?_); rintro r w2 ⟨rfl, hb2⟩; have K2 := Lib.hid hb2; have CN2 := Lib.hid (CN.out w2 hb2); clear hb2)
          | (go_at_call 79; (with_reducible refine CN2.out.mono ?_); rintro r w3 ⟨v3, rfl, ho3, ht3, _⟩; have HO3 := Lib.hid ho3; have HT3 := Lib.hid ht3; clear ho3 ht3))
        have HI3 := Lib.hid (iter_touch (iter_keep HI2.out K2.out) HT3.out (iter_not_row HI2.out HO2.out))
        go_roundw
        case rel => exact ⟨k + 1, _, rfl, by omega, HI3, HO3, Lib.hid (Rec.touch (HE2.out.keep K2.out) HT3.out (Rec.not_row HE2.out (by decide) HO2.out)), Lib.hid ((HB3.out.trans (K2.out.mono HB3.out.size)).trans (HT3.out.below (Nat.le_trans HB3.out.size K2.out.size) (fun j e => (HO2.out.lt j e).1)))⟩
        case measure =>
          rw [hpos, iterPos_of HI3.out]
          omega
      · obtain rfl : k = n := by omega
        have hnx : ∀ ty, (Instr.next (.pointer (some ⟨q, 0, none⟩)) true ty).run Tryz.prog wr = .ok (.tuple #[.bool false]) wr := fun ty => Lib.run_next_end_at wr _ S k ty HI.out (by rw [HSZ.out]; omega)
        have HTL : Hid (l.take k = l) := Lib.hid (by rw [HN.out, List.take_length])
        rw [HTL.out] at HO
        go_wp2
        go_ret2
        exact ⟨_, rfl, HO.out, HB.out⟩
end Go.Proofs.YtmpipjangbedkaaGreat

/-
  Reading numbers by sevens of bits; the walk of the reference's number.
-/
namespace Go.Proofs.YtmpipjangbedkaaGreat
set_option maxRecDepth 8000
open Go Go.RowKit
set_option linter.unusedVariables false

/-- Reading on at the i-th byte behind a place, with u so far. -/
def rdn (b : List Nat) (at' : Nat) : Nat → Nat → Nat → Option (Nat × Nat)
  | 0, _, _ => none
  | fuel + 1, i, u => if at' + i < b.length then
      (if (i = 9 ∧ 1 < b.getD (at' + i) 0) ∨ (b.getD (at' + i) 0 = 0 ∧ 0 < i) then none else
        if b.getD (at' + i) 0 < 128 then some (u + b.getD (at' + i) 0 % 128 * 128 ^ i, at' + i + 1) else rdn b at' fuel (i + 1) (u + b.getD (at' + i) 0 % 128 * 128 ^ i)) else none
def unzig (u : Nat) : Int := if u % 2 = 1 then -((u / 2 : Nat) : Int) - 1 else ((u / 2 : Nat) : Int)
/-- What number tells: the number, and the place behind it, or -1. -/
def rdOut : Option (Nat × Nat) → Int × Int
  | none => (0, -1)
  | some (u, p) => (unzig u, (p : Int))
theorem rdOut_odd {V p : Nat} (h : V % 2 = 1) : rdOut (some (V, p)) = (-((V / 2 : Nat) : Int) - 1, (p : Int)) := by
  show (unzig V, (p : Int)) = _
  unfold unzig
  rw [if_pos h]
theorem rdOut_even {V p : Nat} (h : ¬ V % 2 = 1) : rdOut (some (V, p)) = (((V / 2 : Nat) : Int), (p : Int)) := by
  show (unzig V, (p : Int)) = _
  unfold unzig
  rw [if_neg h]
theorem or_high (u y i : Nat) (hu : u < 128 ^ i) (h : u + y * 128 ^ i < 18446744073709551616) : bits .or .u64 (u : Int) ((y * 128 ^ i : Nat) : Int) = ((u + y * 128 ^ i : Nat) : Int) := by
  have h128 : 128 ^ i = 2 ^ (7 * i) := by rw [Nat.pow_mul]
  rw [u64_or_nat u _ (by omega) (by omega)]
  have : u ||| y * 128 ^ i = y * 128 ^ i + u := by
    rw [Nat.or_comm, h128, Nat.mul_comm]
    exact (Nat.two_pow_add_eq_or_of_lt (i := 7 * i) (by rw [← h128]; exact hu) y).symm
  rw [this, Nat.add_comm]
set_option maxRecDepth 8000 in
set_option maxHeartbeats 4000000 in
theorem rnum_any (A : Option Addr) (b : List Nat) (c : Nat) (a : Nat) (w : World) (hB : Byts w A b) (hO : Oct b) (hl : b.length ≤ 1000000000000) (ha : a ≤ 1000000000000) :
    Calls Tryz.prog 89 #[.slice A b.length c, .int .i64 (a : Int)] w fun e w' => e = .returned (.tuple #[.int .i64 (rdOut (rdn b a 10 0 0)).1, .int .i64 (rdOut (rdn b a 10 0 0)).2]) ∧ w = w' := by
  obtain ⟨n, hn⟩ : ∃ n, n = b.length := ⟨_, rfl⟩
  have HN := Lib.hid hn
  have HB := Lib.hid hB
  have HO := Lib.hid hO
  rw [← hn] at hl ⊢
  obtain ⟨R, hR⟩ : ∃ R, R = rdn b a 10 0 0 := ⟨_, rfl⟩
  rw [← hR]
  have HR := Lib.hid hR.symm
  clear hR hn hB hO
  go_enter Tryz.func89, Tryz.ntmps89
  go_wp2
  go_loop [6, 7] (fun u i => ∃ (U k : Nat), k ≤ 10 ∧ u = .int .u64 (U : Int) ∧ i = .int .i64 (k : Int) ∧ U < 128 ^ k ∧ U < 18446744073709551616 ∧ Hid (rdn b a (10 - k) k U = R)) (fun _ i => 10 - (intOf i).toNat)
  case atStart => exact ⟨0, 0, Nat.zero_le _, rfl, rfl, by simp, by omega, HR⟩
  case round =>
    obtain ⟨U, k, hk, rfl, rfl, hU, hU2, HRR⟩ := hrel
    by_cases hk10 : k < 10
    · by_cases hlt : a + k < n
      · obtain ⟨bb, off, rfl, hc⟩ := HB.out (by rw [← HN.out]; omega)
        have hcell := hc (a + k) (by rw [← HN.out]; exact hlt)
        have hC8 : b.getD (a + k) 0 < 256 := by
          have : b.getD (a + k) 0 ∈ b := by rw [List.getD_eq_getElem?_getD, List.getElem?_eq_getElem (by rw [← HN.out]; exact hlt)]; exact List.getElem_mem _
          have := HO.out _ this; omega
        have hun : rdn b a (10 - k) k U = (if (k = 9 ∧ 1 < b.getD (a + k) 0) ∨ (b.getD (a + k) 0 = 0 ∧ 0 < k) then none else if b.getD (a + k) 0 < 128 then some (U + b.getD (a + k) 0 % 128 * 128 ^ k, a + k + 1) else rdn b a (10 - (k + 1)) (k + 1) (U + b.getD (a + k) 0 % 128 * 128 ^ k)) := by
          rw [show 10 - k = (10 - (k + 1)) + 1 by omega]
          rw [rdn, if_pos (by rw [← HN.out]; exact hlt)]
        generalize b.getD (a + k) 0 = C at *
        rw [HRR.out] at hun
        have HU := Lib.hid hun
        clear hun HRR hc
        by_cases hbad : (k = 9 ∧ 1 < C) ∨ (C = 0 ∧ 0 < k)
        · rw [if_pos hbad] at HU
          have HRN : Hid (rdOut R = (0, -1)) := Lib.hid (by rw [HU.out]; rfl)
          rcases (by omega : (k = 9 ∧ 1 < C) ∨ (C = 0 ∧ k = 9) ∨ (C = 0 ∧ 0 < k ∧ k ≠ 9)) with ⟨rfl, hC⟩ | ⟨rfl, rfl⟩ | ⟨rfl, h1, h2⟩
          · go_wp2
            go_ret2
            exact ⟨by rw [HRN.out]; rfl, rfl⟩
          · go_wp2
            go_ret2
            exact ⟨by rw [HRN.out]; rfl, rfl⟩
          · have b9 : ((k : Int) == 9) = false := beq_eq_false_iff_ne.2 (by omega)
            go_wp2
            go_ret2
            exact ⟨by rw [HRN.out]; rfl, rfl⟩
        · rw [if_neg hbad] at HU
          obtain ⟨y, hy⟩ : ∃ y, y = C % 128 := ⟨_, rfl⟩
          obtain ⟨Y, hY⟩ : ∃ Y, Y = y * 128 ^ k := ⟨_, rfl⟩
          obtain ⟨V, hV⟩ : ∃ V, V = U + Y := ⟨_, rfl⟩
          have hand : bits .and .u8 (C : Int) 127 = (y : Int) := by
            rw [show (127 : Int) = ((127 : Nat) : Int) from rfl, u8_and_nat C 127 hC8 (by omega), hy]
            have : C &&& 127 = C % 128 := Nat.and_two_pow_sub_one_eq_mod C 7
            rw [this]
          have hy8 : y < 128 := by omega
          have h128 : 128 ^ k = 2 ^ (7 * k) := by rw [Nat.pow_mul]
          have hV63 : V < 128 ^ (k + 1) := by
            rw [hV, hY, Nat.pow_succ]
            have : y * 128 ^ k ≤ 127 * 128 ^ k := Nat.mul_le_mul_right _ (by omega)
            omega
          have hV64 : V < 18446744073709551616 := by
            rcases Nat.lt_or_ge k 9 with h9 | h9
            · have : (128 : Nat) ^ (k + 1) ≤ 128 ^ 9 := Nat.pow_le_pow_right (by omega) (by omega)
              have h9' : (128 : Nat) ^ 9 = 9223372036854775808 := by decide
              omega
            · obtain rfl : k = 9 := by omega
              have h9' : (128 : Nat) ^ 9 = 9223372036854775808 := by decide
              rw [h9'] at hU hY
              have : C ≤ 1 := by omega
              omega
          have hshl : IntKind.u64.wrap ((y : Int) * 2 ^ (7 * k)) = (Y : Int) := by
            have e1 : (y : Int) * 2 ^ (7 * k) = (Y : Int) := by rw [hY, h128]; simp
            rw [e1]
            simp [IntKind.wrap, IntKind.bits, IntKind.signed]
            omega
          have hor : bits .or .u64 (U : Int) (Y : Int) = (V : Int) := by rw [hV, hY]; exact or_high U y k hU (by rw [← hY, ← hV]; exact hV64)
          have hwy : IntKind.u64.wrap (y : Int) = (y : Int) := by simp [IntKind.wrap, IntKind.bits, IntKind.signed]; omega
          have hpar : bits .and .u64 (V : Int) 1 = ((V % 2 : Nat) : Int) := by
            rw [show (1 : Int) = ((1 : Nat) : Int) from rfl, u64_and_nat V 1 hV64 (by omega)]
            have : V &&& 1 = V % 2 := Nat.and_two_pow_sub_one_eq_mod V 1
            rw [this]
          obtain ⟨H, hH⟩ : ∃ H, H = V / 2 := ⟨_, rfl⟩
          have hhalf : (V : Int) / 2 = (H : Int) := by omega
          have hH63 : H < 9223372036854775808 := by omega
          rw [← hy, ← hY, ← hV] at HU
          by_cases hgo : C < 128
          · rw [if_pos hgo] at HU
            by_cases hodd : V % 2 = 1
            · have HRN : Hid (rdOut R = (-(H : Int) - 1, ((a + k + 1 : Nat) : Int))) := Lib.hid (by rw [HU.out, hH]; exact rdOut_odd hodd)
              rw [hodd] at hpar
              clear hy hY hV hH h128 hV63
              rcases (by omega : (k = 9 ∧ C = 1) ∨ (k < 9 ∧ C ≠ 0) ∨ (k = 0 ∧ C = 0)) with ⟨rfl, hC1⟩ | ⟨hk9, hC0⟩ | ⟨rfl, hC0⟩
              · rw [show (2 : Int) ^ (7 * 9) = 9223372036854775808 by decide] at hshl
                have bC : ((C : Int) == 0) = false := beq_eq_false_iff_ne.2 (by omega)
                have bC1 : ¬ (1 : Int) < (C : Int) := by omega
                clear hbad HU hC1
                go_wp2
                go_ret2
                exact ⟨by rw [HRN.out]; simp [Int.natCast_add], rfl⟩
              · have b9 : ((k : Int) == 9) = false := beq_eq_false_iff_ne.2 (by omega)
                have bC : ((C : Int) == 0) = false := beq_eq_false_iff_ne.2 (by omega)
                clear hbad HU
                go_wp2
                go_ret2
                exact ⟨by rw [HRN.out]; simp [Int.natCast_add], rfl⟩
              · rw [show (2 : Int) ^ (7 * 0) = 1 by decide, Int.mul_one] at hshl
                rw [hwy] at hshl
                have bC : ((C : Int) == 0) = true := beq_iff_eq.2 (by omega)
                have hYy : Y = y := by omega
                subst hYy
                simp only [Nat.add_zero] at hcell hlt
                clear hbad HU hC0 hshl
                go_wp2
                go_ret2
                exact ⟨by rw [HRN.out]; simp [Int.natCast_add], rfl⟩
            · have HRN : Hid (rdOut R = ((H : Int), ((a + k + 1 : Nat) : Int))) := Lib.hid (by rw [HU.out, hH]; exact rdOut_even hodd)
              rw [show V % 2 = 0 by omega] at hpar
              clear hy hY hV hH h128 hV63
              rcases (by omega : (k = 9 ∧ C = 1) ∨ (k < 9 ∧ C ≠ 0) ∨ (k = 0 ∧ C = 0)) with ⟨rfl, hC1⟩ | ⟨hk9, hC0⟩ | ⟨rfl, hC0⟩
              · rw [show (2 : Int) ^ (7 * 9) = 9223372036854775808 by decide] at hshl
                have bC : ((C : Int) == 0) = false := beq_eq_false_iff_ne.2 (by omega)
                have bC1 : ¬ (1 : Int) < (C : Int) := by omega
                clear hbad HU hC1
                go_wp2
                go_ret2
                exact ⟨by rw [HRN.out]; simp [Int.natCast_add], rfl⟩
              · have b9 : ((k : Int) == 9) = false := beq_eq_false_iff_ne.2 (by omega)
                have bC : ((C : Int) == 0) = false := beq_eq_false_iff_ne.2 (by omega)
                clear hbad HU
                go_wp2
                go_ret2
                exact ⟨by rw [HRN.out]; simp [Int.natCast_add], rfl⟩
              · rw [show (2 : Int) ^ (7 * 0) = 1 by decide, Int.mul_one] at hshl
                rw [hwy] at hshl
                have bC : ((C : Int) == 0) = true := beq_iff_eq.2 (by omega)
                have hYy : Y = y := by omega
                subst hYy
                simp only [Nat.add_zero] at hcell hlt
                clear hbad HU hC0 hshl
                go_wp2
                go_ret2
                exact ⟨by rw [HRN.out]; simp [Int.natCast_add], rfl⟩
          · rw [if_neg hgo] at HU
            have hk9 : k < 9 := by omega
            have b9 : ((k : Int) == 9) = false := beq_eq_false_iff_ne.2 (by omega)
            have bC : ((C : Int) == 0) = false := beq_eq_false_iff_ne.2 (by omega)
            have HV63 := Lib.hid hV63
            clear hy hY hV hH h128 hV63 hpar hhalf
            go_wp2
            go_round
            case rel => exact ⟨V, k + 1, by omega, rfl, by go_num, HV63.out, hV64, Lib.hid HU.out.symm⟩
            case measure => simp [intOf]; omega
      · have HRN : Hid (rdOut R = (0, -1)) := Lib.hid (by
          rw [← HRR.out, show 10 - k = (10 - (k + 1)) + 1 by omega, rdn, if_neg (by rw [← HN.out]; exact hlt)]; rfl)
        go_wp2
        go_ret2
        exact ⟨by rw [HRN.out]; rfl, rfl⟩
    · obtain rfl : k = 10 := by omega
      have HRN : Hid (rdOut R = (0, -1)) := Lib.hid (by rw [← HRR.out]; rfl)
      go_wp2
      go_ret2
      exact ⟨by rw [HRN.out]; rfl, rfl⟩
end Go.Proofs.YtmpipjangbedkaaGreat

/-
  Numbers that are read are those that were put. (No program is named here.)
-/
namespace Go.Proofs.YtmpipjangbedkaaGreat
set_option maxRecDepth 8000
open Go Go.RowKit
set_option linter.unusedVariables false

theorem pow9 : (128 : Nat) ^ 9 = 9223372036854775808 := by decide
theorem pow10 : (128 : Nat) ^ 10 = 1180591620717411303424 := by decide
theorem drop_head {b : List Nat} {j c : Nat} {r : List Nat} (h : b.drop j = c :: r) : j < b.length ∧ b.getD j 0 = c ∧ b.drop (j + 1) = r := by
  have hj : j < b.length := by
    rcases Nat.lt_or_ge j b.length with h1 | h1
    · exact h1
    · rw [List.drop_eq_nil_of_le h1] at h; cases h
  rw [List.drop_eq_getElem_cons hj] at h
  injection h with h1 h2
  exact ⟨hj, by rw [List.getD_eq_getElem?_getD, List.getElem?_eq_getElem hj]; exact h1, h2⟩
theorem step_sum (v i : Nat) : v % 128 * 128 ^ i + v / 128 * 128 ^ (i + 1) = v * 128 ^ i := by
  rw [Nat.pow_succ, ← Nat.mul_assoc, Nat.mul_right_comm, ← Nat.add_mul]
  congr 1
  omega
theorem rdn_complete (b : List Nat) (a : Nat) (r : List Nat) : ∀ (f i v U : Nat), i + f = 10 → v * 128 ^ i < 18446744073709551616 → (0 < i → 0 < v) → b.drop (a + i) = sevens v ++ r → rdn b a f i U = some (U + v * 128 ^ i, a + i + (sevens v).length) := by
  intro f
  induction f with
  | zero =>
    intro i v U hi hv hp hb
    obtain rfl : i = 10 := by omega
    have := hp (by omega)
    rw [pow10] at hv
    omega
  | succ f ih =>
    intro i v U hi hv hp hb
    have h9 : i = 9 → v < 2 := by rintro rfl; rw [pow9] at hv; omega
    by_cases hs : v < 128
    · rw [sevens_small hs] at hb ⊢
      obtain ⟨h1, h2, _⟩ := drop_head hb
      rw [rdn, if_pos h1, h2, if_neg (by omega), if_pos hs, Nat.mod_eq_of_lt hs]
      rfl
    · rw [sevens_great hs] at hb ⊢
      obtain ⟨h1, h2, h3⟩ := drop_head hb
      rw [rdn, if_pos h1, h2, if_neg (by omega), if_neg (by omega), show (v % 128 + 128) % 128 = v % 128 by omega]
      rw [ih (i + 1) (v / 128) _ (by omega) (by have := step_sum v i; omega) (by omega) (by rw [← Nat.add_assoc]; exact h3)]
      rw [List.length_cons, Nat.add_assoc, step_sum]
      congr 2
      omega
theorem rdn_sound (b : List Nat) (hO : Oct b) (a : Nat) : ∀ (f i U u p : Nat), i + f = 10 → rdn b a f i U = some (u, p) → ∃ v, u = U + v * 128 ^ i ∧ (v + 1) * 128 ^ i ≤ 18446744073709551616 ∧ (0 < i → 0 < v) ∧ b.drop (a + i) = sevens v ++ b.drop p ∧ a + i < p ∧ p ≤ b.length := by
  intro f
  induction f with
  | zero => intro i U u p hi h; cases h
  | succ f ih =>
    intro i U u p hi h
    rw [rdn] at h
    by_cases hl : a + i < b.length
    · rw [if_pos hl] at h
      have hd : b.drop (a + i) = b.getD (a + i) 0 :: b.drop (a + i + 1) := by
        rw [List.drop_eq_getElem_cons hl, List.getD_eq_getElem?_getD, List.getElem?_eq_getElem hl]
        rfl
      have hc8 : b.getD (a + i) 0 < 256 := by
        have : b.getD (a + i) 0 ∈ b := by rw [List.getD_eq_getElem?_getD, List.getElem?_eq_getElem hl]; exact List.getElem_mem _
        have := hO _ this; omega
      generalize b.getD (a + i) 0 = c at *
      by_cases hbad : (i = 9 ∧ 1 < c) ∨ (c = 0 ∧ 0 < i)
      · rw [if_pos hbad] at h; cases h
      · rw [if_neg hbad] at h
        have hpw : i < 9 → 128 ^ (i + 1) ≤ 9223372036854775808 := fun h9 => by rw [← pow9]; exact Nat.pow_le_pow_right (by omega) (by omega)
        have hps : 128 ^ (i + 1) = 128 * 128 ^ i := by rw [Nat.pow_succ, Nat.mul_comm]
        by_cases hs : c < 128
        · rw [if_pos hs, Nat.mod_eq_of_lt hs] at h
          injection h with h
          injection h with h1 h2
          refine ⟨c, h1.symm, ?_, by omega, by rw [sevens_small hs, hd, ← h2]; rfl, by omega, by omega⟩
          rcases Nat.lt_or_ge i 9 with h9 | h9
          · have h10 := hpw h9
            have h11 : (c + 1) * 128 ^ i ≤ 128 * 128 ^ i := Nat.mul_le_mul_right _ (by omega)
            omega
          · obtain rfl : i = 9 := by omega
            rw [pow9]
            omega
        · rw [if_neg hs] at h
          obtain ⟨v, e1, e2, e3, e4, e5, e6⟩ := ih (i + 1) _ u p (by omega) h
          have hv := e3 (by omega)
          refine ⟨c % 128 + 128 * v, ?_, ?_, by omega, ?_, by omega, e6⟩
          · rw [e1, Nat.add_mul, Nat.add_assoc, hps]
            congr 2
            rw [Nat.mul_right_comm, Nat.mul_comm v, Nat.mul_assoc, Nat.mul_comm (128 ^ i)]
          · have h11 : (c % 128 + 128 * v + 1) * 128 ^ i ≤ (128 * (v + 1)) * 128 ^ i := Nat.mul_le_mul_right _ (by omega)
            have h12 : (128 * (v + 1)) * 128 ^ i = (v + 1) * 128 ^ (i + 1) := by rw [hps, Nat.mul_comm 128 (v + 1), Nat.mul_assoc]
            omega
          · rw [sevens_great (by omega), hd, show (c % 128 + 128 * v) % 128 + 128 = c by omega, show (c % 128 + 128 * v) / 128 = v by omega, Nat.add_assoc, e4]
            rfl
    · rw [if_neg hl] at h; cases h
theorem unzig_zig {n : Int} : unzig (zig n) = n := by
  unfold zig unzig
  by_cases h : 0 ≤ n
  · rw [if_pos h, if_neg (by omega)]; omega
  · rw [if_neg h, if_pos (by omega)]; omega
theorem zig_unzig (u : Nat) : zig (unzig u) = u := by
  unfold unzig zig
  by_cases h : u % 2 = 1
  · rw [if_pos h, if_neg (by omega)]; omega
  · rw [if_neg h, if_pos (by omega)]; omega
theorem unzig_i64 {u : Nat} (h : u < 18446744073709551616) : I64 (unzig u) := by
  unfold unzig I64
  split <;> omega
/-- What number reads: the number, and the place behind it. -/
def readN (b : List Nat) (a : Nat) : Option (Int × Nat) := (rdn b a 10 0 0).map fun x => (unzig x.1, x.2)
theorem readN_put {b r : List Nat} {a : Nat} {n : Int} (hn : I64 n) (h : b.drop a = numB n ++ r) : readN b a = some (n, a + (numB n).length) := by
  unfold readN
  rw [rdn_complete b a r 10 0 (zig n) 0 rfl (by have := zig_lt hn; omega) (by omega) (by rw [Nat.add_zero]; exact h)]
  simp [unzig_zig, numB]
theorem readN_is {b : List Nat} (hO : Oct b) {a p : Nat} {n : Int} (h : readN b a = some (n, p)) : I64 n ∧ b.drop a = numB n ++ b.drop p ∧ a < p ∧ p ≤ b.length := by
  unfold readN at h
  cases hr : rdn b a 10 0 0 with
  | none => rw [hr] at h; cases h
  | some x =>
    obtain ⟨u, q⟩ := x
    rw [hr] at h
    simp at h
    obtain ⟨rfl, rfl⟩ := h
    obtain ⟨v, e1, e2, _, e4, e5, e6⟩ := rdn_sound b hO a 10 0 0 u q rfl hr
    have hu : u = v := by simpa using e1
    subst hu
    refine ⟨unzig_i64 (by simp at e2; omega), ?_, by simpa using e5, e6⟩
    unfold numB
    rw [zig_unzig]
    simpa using e4
theorem rdOut_read (b : List Nat) (a : Nat) : rdOut (rdn b a 10 0 0) = (match readN b a with | none => (0, -1) | some (n, p) => (n, (p : Int))) := by
  unfold readN
  cases rdn b a 10 0 0 with
  | none => rfl
  | some x => rfl
end Go.Proofs.YtmpipjangbedkaaGreat
