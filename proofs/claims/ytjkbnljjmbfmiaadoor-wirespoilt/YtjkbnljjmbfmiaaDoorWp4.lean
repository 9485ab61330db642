/-
  The walks of wire's fieldText and Text.
-/
import Derived.Test.YtjkbnljjmbfmiaaDoorWp2
import Derived.Test.YtjkbnljjmbfmiaaDoorItr
namespace Go.Proofs.YtjkbnljjmbfmiaaDoor
open Go Go.RowKit
set_option linter.unusedVariables false

set_option maxRecDepth 8000 in
set_option maxHeartbeats 2000000 in
theorem wfield_any (e : Ev) (ok : e.Ok) (f : Nat) (hf : lett f) (w : World) (hw : Laid w) : Calls Tryd.prog 27 #[e.v, .int .i32 (f : Int)] w fun r w' => r = .returned (.string (bstr (fieldL e f))) ∧ Below w.heap.size w w' := by
  have HB0 : Hid (Below w.heap.size w (w.alloc (.cells e.cells.toArray 23))) := Lib.hid ((Below.refl _ _).alloc (Nat.le_refl _) _)
  by_cases h83 : f = 83
  · subst h83
    have C := Lib.hid (fun W => wside_any e W)
    rw [show fieldL e 83 = sideOf e.kind e.side from rfl]
    generalize bstr (sideOf e.kind e.side) = S at *
    unfold Ev.v at *
    clear ok hw hf
    go_enter Tryd.func27, Tryd.ntmps27
    go_wp2_with (go_at_call 40; (with_reducible refine (C.out _).mono ?_); rintro r w1 ⟨rfl, hb⟩; have HB1 := Lib.hid hb; clear hb)
    go_ret
    exact ⟨rfl, HB0.out.trans (HB1.out.mono HB0.out.size)⟩
  · have hd : ((f : Int) == 83) = false := beq_eq_false_iff_ne.2 (by omega)
    have C := Lib.hid (fun W => wvalue_any e f hf h83 W)
    have CF : Hid (∀ W, Below w.heap.size w W → Calls Tryd.prog 41 #[.int .i64 (e.val f), .int .i64 10] W fun r w' => r = .returned (.string (bstr (dec (e.val f)))) ∧ Below W.heap.size W w') := Lib.hid (fun W hW => format_any _ (ok.val f) W (hw.keep hW))
    rw [show fieldL e f = dec (e.val f) from by unfold fieldL; rw [if_neg h83]]
    generalize bstr (dec (e.val f)) = S at *
    generalize e.val f = val at *
    unfold Ev.v at *
    clear ok hw hf h83
    go_enter Tryd.func27, Tryd.ntmps27
    go_wp2_with (first
      | (go_at_call 42; (with_reducible refine (C.out _).mono ?_); rintro r w1 ⟨rfl, hb⟩; have HB1 := Lib.hid (HB0.out.trans (hb.mono HB0.out.size)); clear hb)
      | (go_at_call 41; (with_reducible refine (CF.out _ HB1.out).mono ?_); rintro r w2 ⟨rfl, hb⟩; have HB2 := Lib.hid (HB1.out.trans (hb.mono HB1.out.size)); clear hb))
    go_ret
    exact ⟨rfl, HB2.out⟩
theorem tail_take (g : Nat → List Nat) (l : List Nat) (k : Nat) (h : k < l.length) : tailOf ((l.take (k + 1)).map g) = tailOf ((l.take k).map g) ++ (32 :: g (l.getD k 0)) := by
  rw [List.take_succ_eq_append_getElem h, List.map_append, tail_app, List.getD_eq_getElem?_getD, List.getElem?_eq_getElem h]
  simp [tailOf]
theorem tail_lens (e : Ev) (ok : e.Ok) (l : List Nat) : (tailOf (l.map (fieldL e))).length ≤ 21 * l.length := by
  have := tail_len (n := 20) (l := l.map (fieldL e)) (by
    intro y hy
    obtain ⟨f, _, rfl⟩ := List.mem_map.1 hy
    exact field_len ok f)
  rw [List.length_map] at this
  exact this
/-- What Text answers. -/
def TextK (w : World) (t : List Nat) (c : Int) (r : Ending) (w' : World) : Prop := r = .returned (.tuple #[.string (bstr t), .int .i64 c]) ∧ Below w.heap.size w w'
set_option maxRecDepth 8000 in
set_option maxHeartbeats 2000000 in
theorem wtext_no (e : Ev) (hr : rightE e = false) (w : World) : Calls Tryd.prog 13 #[e.v] w (TextK w [] 1) := by
  have CR := Lib.hid (fun W => pright_any e W)
  rw [hr] at CR
  have HB0 : Hid (Below w.heap.size w (w.alloc (.cells e.cells.toArray 23))) := Lib.hid ((Below.refl _ _).alloc (Nat.le_refl _) _)
  unfold TextK
  rw [show bstr [] = { data := #[] } from rfl]
  unfold Ev.v at CR ⊢
  clear hr
  go_enter Tryd.func13, Tryd.ntmps13
  go_wp2_with (go_at_call 19; (with_reducible refine (CR.out _).mono ?_); rintro r w1 ⟨rfl, hb1⟩; have HB1 := Lib.hid hb1; clear hb1)
  go_ret2
  exact ⟨rfl, HB0.out.trans (HB1.out.mono HB0.out.size)⟩
set_option maxRecDepth 8000 in
set_option maxHeartbeats 4000000 in
theorem wtext_yes (e : Ev) (ok : e.Ok) (hr : rightE e = true) (w : World) (hw : Laid w) : Calls Tryd.prog 13 #[e.v] w (TextK w (textL e) 0) := by
  have CR := Lib.hid (fun W => pright_any e W)
  rw [hr] at CR
  have CF := Lib.hid (fun W => pfields_any e.kind W)
  have CW := Lib.hid (fun W => wword_any e.kind W)
  obtain ⟨W0, hW0⟩ : ∃ l, l = wordOf e.kind := ⟨_, rfl⟩
  obtain ⟨l, hl⟩ : ∃ l, l = fieldsOf e.kind := ⟨_, rfl⟩
  have HTX : Hid (textL e = W0 ++ tailOf (l.map (fieldL e))) := Lib.hid (by rw [hW0, hl]; rfl)
  have HWL : Hid (W0.length ≤ 9) := Lib.hid (by rw [hW0]; exact word_len _)
  have hO : Oct l := by rw [hl]; exact fields_oct _
  have hlen : l.length ≤ 5 := by rw [hl]; exact fields_len _
  have HLT : Hid (∀ j, j < l.length → lett (l.getD j 0)) := Lib.hid (by rw [hl]; exact fields_lett _)
  rw [← hl] at CF
  rw [← hW0] at CW
  have HSZ : Hid ((bstr l).size = l.length) := Lib.hid (bstr_size l)
  have HGT : Hid (∀ k (h : k < (bstr l).size), ((bstr l)[k]'h).toNat = l.getD k 0) := Lib.hid (fun k h => bstr_get l hO k h)
  obtain ⟨S, hS⟩ : ∃ S, S = bstr l := ⟨_, rfl⟩
  rw [← hS] at CF HSZ HGT
  obtain ⟨n, hn⟩ : ∃ n, n = l.length := ⟨_, rfl⟩
  rw [← hn] at HSZ hlen HLT
  have HN := Lib.hid hn
  have HOK := Lib.hid ok
  have HE0 : Hid (EvAt (w.alloc (.cells e.cells.toArray 23)) w.heap.size e) := Lib.hid (Rec.new w _ e.cells _ rfl)
  have HB0 : Hid (Below w.heap.size w (w.alloc (.cells e.cells.toArray 23))) := Lib.hid ((Below.refl _ _).alloc (Nat.le_refl _) _)
  have CV : Hid (∀ f, lett f → ∀ W, Below w.heap.size w W → Calls Tryd.prog 27 #[e.v, .int .i32 ((f : Nat) : Int)] W fun r w' => r = .returned (.string (bstr (fieldL e f))) ∧ Below W.heap.size W w') := Lib.hid (fun f hf W hW => wfield_any e ok f hf W (hw.keep hW))
  unfold Ev.v at CR CV ⊢
  clear hr ok hl hO hS hn hW0 hw
  go_enter Tryd.func13, Tryd.ntmps13
  go_wp2_with (first
    | (go_at_call 19; (with_reducible refine (CR.out _).mono ?_); rintro r w1 ⟨rfl, hb1⟩; have H1 := Lib.hid (HE0.out.keep hb1); have HB1 := Lib.hid (HB0.out.trans (hb1.mono HB0.out.size)); obtain ⟨c0, _⟩ := H1.out.reads; have zlt := Rec.lt H1.out; clear hb1)
    | (go_at_call 15; (with_reducible refine (CW.out _).mono ?_); rintro r w2 ⟨rfl, hb2⟩; have H2 := Lib.hid (H1.out.keep hb2); have HB2 := Lib.hid (HB1.out.trans (hb2.mono HB1.out.size)); obtain ⟨d0, _⟩ := H2.out.reads; have zlt2 := Rec.lt H2.out; clear hb2)
    | (go_at_call 26; (with_reducible refine (CF.out _).mono ?_); rintro r _ ⟨rfl, rfl⟩))
  have HE1 : Hid (EvAt (w2.iter S 0) w.heap.size e) := Lib.hid (H2.out.keep ((Below.refl _ _).alloc (Nat.le_refl _) _))
  have HB3 : Hid (Below w.heap.size w (w2.iter S 0)) := Lib.hid (HB2.out.alloc HB2.out.size _)
  have HI0 : Hid ((w2.iter S 0).heap[w2.heap.size]? = some (.stringIter S 0)) := Lib.hid (by
    have := World.iter_heap w2 S 0
    simpa using this)
  obtain ⟨q, hq⟩ : ∃ q, q = w2.heap.size := ⟨_, rfl⟩
  have HQ : Hid (w.heap.size ≤ q) := Lib.hid (by have := HB2.out.size; omega)
  rw [← hq] at HI0
  have HQE := Lib.hid hq
  clear CR CF HE0 HB0 hq CW
  go_loopw [4] (fun out wr => ∃ (k : Nat), out = .string (bstr (W0 ++ tailOf ((l.take k).map (fieldL e)))) ∧ k ≤ n ∧ Hid (wr.heap[q]? = some (.stringIter S k)) ∧ Hid (EvAt wr w.heap.size e) ∧ Hid (Below w.heap.size w wr)) (fun _ wr => n - wr.iterPos q)
  case atStart => exact ⟨0, by rw [List.take_zero, List.map_nil, tailOf, List.append_nil], Nat.zero_le _, HI0, HE1, HB3⟩
  case round =>
    rw [← HQE.out]
    obtain ⟨k, rfl, hk, HI, HE, HB⟩ := hrel
    have hpos : wr.iterPos q = k := iterPos_of HI.out
    by_cases hlt : k < n
    · have hszk : k < S.size := by rw [HSZ.out]; exact hlt
      have HT := Lib.hid (tail_take (fieldL e) l k (by rw [← HN.out]; exact hlt))
      have hl := HLT.out k hlt
      have hgt := HGT.out k hszk
      have hLn := tail_lens e HOK.out (l.take k)
      have hfl := field_len HOK.out (l.getD k 0)
      rw [List.length_take, ← HN.out] at hLn
      obtain ⟨f, hf⟩ : ∃ f, f = l.getD k 0 := ⟨_, rfl⟩
      rw [← hf] at HT hl hgt hfl
      obtain ⟨F, hF⟩ : ∃ F, F = fieldL e f := ⟨_, rfl⟩
      rw [← hF] at HT hfl
      have hnx : ∀ ty, (Instr.next (.pointer (some ⟨q, 0, none⟩)) true ty).run Tryd.prog wr = .ok (.tuple #[.bool true, .int .i64 k, .int .i32 (f : Int)]) (wr.iterAt q S (k + 1)) := fun ty => by
        rw [Lib.run_next_ascii_at wr _ S k ty HI.out hszk (by rw [hgt]; exact lett_lt hl), hgt]
      have hqi := HQ.out
      have HI2 := Lib.hid (Lib.iterAt_heap wr q S k (k + 1) HI.out)
      have HE2 : Hid (EvAt (wr.iterAt q S (k + 1)) w.heap.size e) := Lib.hid (Rec.touch HE.out (touch_iter wr q S (k + 1)) (iter_not_rec HI.out HE.out))
      have HB3' := Lib.hid (Lib.below_iterAt HB.out (k := q) hqi S (k + 1))
      generalize wr.iterAt q S (k + 1) = wi at *
      obtain ⟨c0', c1, c2, c3, c4, c5, c6, c7⟩ := HE2.out.reads
      have CV1 := Lib.hid (CV.out f hl wi HB3'.out)
      rw [← hF] at CV1
      obtain ⟨D, hD⟩ : ∃ D, D = W0 ++ tailOf ((l.take k).map (fieldL e)) := ⟨_, rfl⟩
      have hsD : (bstr D).size = D.length := bstr_size D
      have hDl : D.length ≤ 114 := by
        have := HWL.out
        rw [hD, List.length_append]
        have h5 : 21 * min k n ≤ 105 := by have : min k n ≤ 5 := by omega
                                           omega
        omega
      have hsF : (bstr F).size = F.length := bstr_size F
      have hcat1 : ({ data := #[32] } : ByteArray) ++ bstr F = bstr (32 :: F) := bstr_cat [32] F
      have hs1 : (bstr (32 :: F)).size = F.length + 1 := by rw [bstr_size]; rfl
      have hcat2 : bstr D ++ bstr (32 :: F) = bstr (D ++ 32 :: F) := bstr_cat D (32 :: F)
      have HD2 : Hid (D ++ 32 :: F = W0 ++ tailOf ((l.take (k + 1)).map (fieldL e))) := Lib.hid (by rw [HT.out, hD, List.append_assoc])
      rw [← hD]
      clear hf hF HT hl CV hgt hD hLn
      go_wp2_with (go_at_call 27; (with_reducible refine CV1.out.mono ?_); rintro r w4 ⟨rfl, hb4⟩; have K4 := Lib.hid hb4; clear hb4)
      go_roundw
      case rel => exact ⟨k + 1, by rw [← HD2.out], by omega, Lib.hid (iter_keep HI2.out K4.out), Lib.hid (HE2.out.keep K4.out), Lib.hid (HB3'.out.trans (K4.out.mono HB3'.out.size))⟩
      case measure =>
        rw [hpos, iterPos_of (iter_keep HI2.out K4.out)]
        omega
    · obtain rfl : k = n := by omega
      have hnx : ∀ ty, (Instr.next (.pointer (some ⟨q, 0, none⟩)) true ty).run Tryd.prog wr = .ok (.tuple #[.bool false]) wr := fun ty => Lib.run_next_end_at wr _ S k ty HI.out (by rw [HSZ.out]; omega)
      have HTL : Hid (l.take k = l) := Lib.hid (by rw [HN.out, List.take_length])
      rw [HTL.out, ← HTX.out]
      go_wp2
      go_ret2
      exact ⟨rfl, HB.out⟩
end Go.Proofs.YtjkbnljjmbfmiaaDoor
