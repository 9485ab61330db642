/-
  The walk of the reference's PutEvent.
-/
import Derived.Test.YtincelegepafcaaEv3
import Derived.Test.YtincelegepafcaaEv4
namespace Go.Proofs.Ytincelegepafcaa
open Go Go.RowKit
set_option linter.unusedVariables false

/-- New bytes, and a code. -/
def BytesK (w : World) (l : List Nat) (code : Int) (e : Ending) (w' : World) : Prop :=
  ∃ v, e = .returned (.tuple #[v, .int .i64 code]) ∧ OwnB w' w.heap.size v l ∧ Below w.heap.size w w'
/-- The kind, and the numbers of these fields. -/
def putB (e : Ev) (l : List Nat) : List Nat := e.kind.toNat :: l.flatMap fun f => numB (e.val f)
/-- Put, and its code. -/
def putE? (e : Ev) : List Nat × Int := if rightE e then (putB e (fieldsOf e.kind), 0) else ([], 1)
theorem putB_take (e : Ev) (l : List Nat) (k : Nat) (h : k < l.length) : putB e (l.take (k + 1)) = putB e (l.take k) ++ numB (e.val (l.getD k 0)) := by
  unfold putB
  rw [List.take_succ_eq_append_getElem h, List.flatMap_append, List.getD_eq_getElem?_getD, List.getElem?_eq_getElem h]
  simp
theorem putB_len {e : Ev} (ok : e.Ok) (l : List Nat) : (putB e l).length ≤ 1 + 10 * l.length := by
  unfold putB
  rw [List.length_cons]
  induction l with
  | nil => simp
  | cons f l ih =>
    rw [List.flatMap_cons, List.length_append, List.length_cons]
    have := numB_len (ok.val f)
    omega
theorem putB_oct {e : Ev} (hk : 1 ≤ e.kind ∧ e.kind ≤ 22) (l : List Nat) : Oct (putB e l) := by
  unfold putB
  intro x hx
  rcases List.mem_cons.1 hx with rfl | hx
  · omega
  · obtain ⟨f, _, hf⟩ := List.mem_flatMap.1 hx
    exact numB_oct _ x hf
theorem right_is {e : Ev} (h : rightE e = true) : 1 ≤ e.kind ∧ e.kind ≤ 22 := by
  unfold rightE at h
  rw [Bool.and_eq_true] at h
  simpa using h.1
set_option maxRecDepth 8000 in
set_option maxHeartbeats 4000000 in
theorem putev_any (e : Ev) (ok : e.Ok) (w : World) : Calls Try.prog 11 #[e.v] w (BytesK w (putE? e).1 (putE? e).2) := by
  have CR := Lib.hid (fun W => right_any e W)
  cases hr : rightE e with
  | false =>
    rw [show putE? e = ([], 1) from by unfold putE?; rw [hr]; rfl]
    rw [hr] at CR
    have F : Hid (∀ W, Below w.heap.size w W → BytesK w [] 1 (.returned (.tuple #[.slice none 0 0, .int .i64 1])) W) := Lib.hid (fun W hW => ⟨_, rfl, ownB_nil W _, hW⟩)
    have HB0 : Hid (Below w.heap.size w (w.alloc (.cells e.cells.toArray 23))) := Lib.hid ((Below.refl _ _).alloc (Nat.le_refl _) _)
    unfold Ev.v at CR ⊢
    clear hr ok
    go_enter Try.func11, Try.ntmps11
    go_wp2_with (go_at_call 13; (with_reducible refine (CR.out _).mono ?_); rintro r w1 ⟨rfl, hb1⟩; have HB1 := Lib.hid hb1; clear hb1)
    go_ret2
    exact F.out _ (HB0.out.trans (HB1.out.mono HB0.out.size))
  | true =>
    rw [show putE? e = (putB e (fieldsOf e.kind), 0) from by unfold putE?; rw [hr]; rfl]
    rw [hr] at CR
    have hk := right_is hr
    have CF := Lib.hid (fun W => fields_any e.kind W)
    obtain ⟨l, hl⟩ : ∃ l, l = fieldsOf e.kind := ⟨_, rfl⟩
    have hO : Oct l := by rw [hl]; exact fields_oct _
    have hlen : l.length ≤ 5 := by rw [hl]; exact fields_len _
    rw [← hl] at CF ⊢
    have HSZ : Hid ((bstr l).size = l.length) := Lib.hid (bstr_size l)
    have HGT : Hid (∀ k (h : k < (bstr l).size), ((bstr l)[k]'h).toNat = l.getD k 0) := Lib.hid (fun k h => bstr_get l hO k h)
    obtain ⟨S, hS⟩ : ∃ S, S = bstr l := ⟨_, rfl⟩
    rw [← hS] at CF HSZ HGT
    obtain ⟨n, hn⟩ : ∃ n, n = l.length := ⟨_, rfl⟩
    rw [← hn] at HSZ hlen
    have HN := Lib.hid hn
    have hsz := HSZ.out
    have HOK := Lib.hid ok
    have HK := Lib.hid hk
    have HE0 : Hid (EvAt (w.alloc (.cells e.cells.toArray 23)) w.heap.size e) := Lib.hid (Rec.new w _ e.cells _ rfl)
    have HB0 : Hid (Below w.heap.size w (w.alloc (.cells e.cells.toArray 23))) := Lib.hid ((Below.refl _ _).alloc (Nat.le_refl _) _)
    have hk1 : 1 ≤ e.kind := hk.1
    have hk2 : e.kind ≤ 22 := hk.2
    have HKN : Hid ((e.kind.toNat : Int) = e.kind) := Lib.hid (by omega)
    have CV : Hid (∀ f W, Calls Try.prog 25 #[e.v, .int .u8 ((f : Nat) : Int)] W fun r w' => r = .returned (.int .i64 (e.val f)) ∧ Below W.heap.size W w') := Lib.hid (fun f W => value_any e f W)
    unfold Ev.v at CR CV ⊢
    clear hr ok hl hO hS hn hk
    go_enter Try.func11, Try.ntmps11
    go_wp2_with (first
      | (go_at_call 13; (with_reducible refine (CR.out _).mono ?_); rintro r w1 ⟨rfl, hb1⟩; have H1 := Lib.hid (HE0.out.keep hb1); have HB1 := Lib.hid (HB0.out.trans (hb1.mono HB0.out.size)); obtain ⟨c0, _⟩ := H1.out.reads; have zlt := Rec.lt H1.out; clear hb1)
      | (go_at_call 15; (with_reducible refine (CF.out _).mono ?_); rintro r _ ⟨rfl, rfl⟩))
    have HO0 : Hid (OwnB (w1.alloc (.cells #[.int .u8 e.kind] 5)) w.heap.size (.slice (some ⟨w1.heap.size, 0, none⟩) 1 1) (putB e (l.take 0))) := Lib.hid (ownB_lit w1 _ _ [e.kind.toNat] HB1.out.size (by simp) (by simp [byteV, HKN.out]) _ rfl _ rfl)
    have HE1 : Hid (EvAt (w1.alloc (.cells #[.int .u8 e.kind] 5)) w.heap.size e) := Lib.hid (H1.out.keep ((Below.refl _ _).alloc (Nat.le_refl _) _))
    have HB2 : Hid (Below w.heap.size w (w1.alloc (.cells #[.int .u8 e.kind] 5))) := Lib.hid (HB1.out.alloc HB1.out.size _)
    clear CR CF HE0 HB0
    go_loopw [4, 6] (fun out i wr => ∃ k : Nat, k ≤ n ∧ i = .int .i64 k ∧ Hid (OwnB wr w.heap.size out (putB e (l.take k))) ∧ Hid (EvAt wr w.heap.size e) ∧ Hid (Below w.heap.size w wr)) (fun _ i _ => n - (intOf i).toNat)
    case atStart => exact ⟨0, Nat.zero_le _, rfl, HO0, HE1, HB2⟩
    case round =>
      obtain ⟨k, hk, rfl, HO, HE, HB⟩ := hrel
      by_cases hlt : k < n
      · have hgt := HGT.out k
        have HT := Lib.hid (putB_take e l k (by rw [← HN.out]; exact hlt))
        have hv := HOK.out.val (l.getD k 0)
        obtain ⟨c0, c1, c2, c3, c4, c5, c6, c7⟩ := HE.out.reads
        obtain ⟨A1, m1, rfl, hB1, hm1, hm2, hA1, _⟩ := HO.out.form
        have hL : (putB e (l.take k)).length ≤ 100 := by have := putB_len HOK.out (l.take k); rw [List.length_take, ← HN.out] at this; omega
        have CN : Hid (∀ W, Below wr.heap.size wr W → Calls Try.prog 22 #[.slice A1 (putB e (l.take k)).length m1, .int .i64 (e.val (l.getD k 0))] W (BytesN W (putB e (l.take (k + 1))))) := Lib.hid (fun W hW => by
          rw [HT.out]
          exact number_any A1 _ m1 _ W (hB1.below hW) (putB_oct HK.out _) hA1 (by omega) hv)
        generalize hf : l.getD k 0 = f at *
        obtain ⟨val, hval⟩ : ∃ val, val = e.val f := ⟨_, rfl⟩
        have CV1 := Lib.hid (fun W => CV.out f W)
        rw [← hval] at CV1 CN
        generalize (putB e (l.take k)).length = L at *
        clear hf hval hv hB1 HT
        go_wp2
        go_region_with (first
          | (go_at_call 25; (with_reducible refine (CV1.out _).mono ?_); rintro r w2 ⟨rfl, hb2⟩; have HB2 : Hid (Below wr.heap.size wr w2) := (Lib.hid ⟨hb2.os, hb2.tape, hb2.output, hb2.size, hb2.block⟩); have CN2 := Lib.hid (CN.out w2 HB2.out); clear hb2)
          | (go_at_call 22; (with_reducible refine CN2.out.mono ?_); rintro r w3 ⟨v3, rfl, ho3, hb3⟩; have HB3 := Lib.hid (HB2.out.trans (hb3.mono HB2.out.size)); have HO3 := Lib.hid (ho3.base (Nat.le_trans HB.out.size HB2.out.size)); clear ho3 hb3))
        all_goals go_wp2
        all_goals go_roundw
        all_goals first
          | exact ⟨k + 1, by omega, by go_num, HO3, Lib.hid (HE.out.keep HB3.out), Lib.hid (HB.out.trans (HB3.out.mono HB.out.size))⟩
          | (simp [intOf]; omega)
      · obtain rfl : k = n := by omega
        have HTL : Hid (l.take k = l) := Lib.hid (by rw [HN.out, List.take_length])
        rw [HTL.out] at HO
        go_wp2
        go_ret2
        exact ⟨_, rfl, HO.out, HB.out⟩
end Go.Proofs.Ytincelegepafcaa
