import Derived.Test.YtmpipjangbedkaaGreatMEv5
import Derived.Test.YtmpipjangbedkaaGreatMEv8
import Derived.Test.YtmpipjangbedkaaGreatMPv6
/-
  The walk of the program's Read.
-/
namespace Go.Proofs.YtmpipjangbedkaaGreat
set_option maxRecDepth 8000
open Go Go.RowKit
set_option linter.unusedVariables false

theorem getD_drop (b : List Nat) (a i : Nat) : (b.drop a).getD i 0 = b.getD (a + i) 0 := by
  rw [List.getD_eq_getElem?_getD, List.getD_eq_getElem?_getD, List.getElem?_drop]
theorem rdn_shift (b : List Nat) (a : Nat) (ha : a ≤ b.length) : ∀ f i u, rdn b a f i u = (rdn (b.drop a) 0 f i u).map fun x => (x.1, a + x.2) := by
  intro f
  induction f with
  | zero => intro i u; rfl
  | succ f ih =>
    intro i u
    rw [rdn, rdn]
    simp only [Nat.zero_add, getD_drop, List.length_drop]
    by_cases h : a + i < b.length
    · rw [if_pos h, if_pos (by omega : i < b.length - a)]
      by_cases h2 : (i = 9 ∧ 1 < b.getD (a + i) 0) ∨ (b.getD (a + i) 0 = 0 ∧ 0 < i)
      · rw [if_pos h2, if_pos h2]; rfl
      · rw [if_neg h2, if_neg h2]
        by_cases h3 : b.getD (a + i) 0 < 128
        · rw [if_pos h3, if_pos h3]; simp; omega
        · rw [if_neg h3, if_neg h3]; exact ih _ _
    · rw [if_neg h, if_neg (by omega : ¬ i < b.length - a)]; rfl
theorem readN_shift {b : List Nat} {a : Nat} (ha : a ≤ b.length) : readN b a = (readN (b.drop a) 0).map fun x => (x.1, a + x.2) := by
  unfold readN
  rw [rdn_shift b a ha]
  cases rdn (b.drop a) 0 10 0 0 <;> rfl
theorem fnOut_none {b : List Nat} (h : readN b 0 = none) : fnOut (rdn b 0 10 0 0) = #[.int .i64 0, .int .i64 0, .bool false] := by
  unfold readN at h
  cases hr : rdn b 0 10 0 0 with
  | none => rfl
  | some x => rw [hr] at h; cases h
theorem fnOut_some {b : List Nat} {v : Int} {p : Nat} (h : readN b 0 = some (v, p)) : fnOut (rdn b 0 10 0 0) = #[.int .i64 v, .int .i64 (p : Int), .bool true] := by
  unfold readN at h
  cases hr : rdn b 0 10 0 0 with
  | none => rw [hr] at h; cases h
  | some x =>
    rw [hr] at h
    obtain ⟨u, q⟩ := x
    simp at h
    obtain ⟨rfl, rfl⟩ := h
    rfl
theorem oct_drop {b : List Nat} (h : Oct b) (a : Nat) : Oct (b.drop a) := fun x hx => h x (List.mem_of_mem_drop hx)
theorem byts_drop {w : World} {bb off a : Nat} {b : List Nat} (h : Byts w (some ⟨bb, off, none⟩) b) : Byts w (some ⟨bb, off + a, none⟩) (b.drop a) := by
  intro hl
  rw [List.length_drop] at hl
  obtain ⟨b', o', e, hc⟩ := h (by omega)
  injection e with e; injection e with e1 e2; subst e1; subst e2
  refine ⟨_, _, rfl, fun i hi => ?_⟩
  rw [List.length_drop] at hi
  rw [getD_drop, Nat.add_assoc]
  exact hc (a + i) (by omega)
theorem byts_none (w : World) (A : Option Addr) {b : List Nat} (h : b.length = 0) : Byts w A b := fun hl => by omega
theorem readE_eq {b : List Nat} (h0 : 0 < b.length) : readE b = (match rdFs b (fieldsOf (b.getD 0 0 : Nat)) ⟨(b.getD 0 0 : Nat), 0, 0, 0, 0, 0, 0, 0⟩ 1 with | none => none | some (e, a) => if a = b.length ∧ rightE e = true then some e else none) := by
  unfold readE
  by_cases hk : 1 ≤ b.getD 0 0 ∧ b.getD 0 0 ≤ 22
  · rw [if_pos ⟨h0, hk.1, hk.2⟩]
    rfl
  · rw [if_neg (by omega)]
    have hf : fieldsOf (b.getD 0 0 : Nat) = [] := by
      unfold fieldsOf
      repeat rw [if_neg (by omega)]
    rw [hf, rdFs]
    have hr : rightE ⟨(b.getD 0 0 : Nat), 0, 0, 0, 0, 0, 0, 0⟩ = false := right_kind (by simp only; omega)
    dsimp only
    rw [hr]
    simp
set_option maxRecDepth 8000 in
set_option maxHeartbeats 4000000 in
theorem pread_empty (A : Option Addr) (c : Nat) (w : World) : Calls Tryz.prog 64 #[.slice A 0 c] w (EvC w (Ev.zero, 13)) := by
  go_enter Tryz.func64, Tryz.ntmps64
  go_wp2
  refine bodyPost_ret (v := .tuple #[Ev.zero.v, .int .i64 13]) (by simp [results, Tryz.results64, go_sem, Ev.v, Ev.zero]) rfl ⟨rfl, ?_⟩
  exact (Below.refl _ _).alloc (Nat.le_refl _) _
set_option maxRecDepth 8000 in
set_option maxHeartbeats 8000000 in
theorem pread_one (A : Option Addr) (b : List Nat) (c : Nat) (w : World) (hB : Byts w A b) (hO : Oct b) (hl : b.length ≤ 1000000000000) (h0 : 0 < b.length) (hcl : b.length ≤ c) (hC : c = 1) : Calls Tryz.prog 64 #[.slice A b.length c] w (EvC w (readOut b)) := by
  obtain ⟨bb, off, rfl, hc⟩ := hB.zero h0
  have hblt := block_lt hc
  have hread := readE_eq h0
  obtain ⟨X, hX⟩ : ∃ X, X = readOut b := ⟨_, rfl⟩
  rw [← hX]
  have hK8 := oct_at hO 0
  obtain ⟨K, hK⟩ : ∃ K, K = b.getD 0 0 := ⟨_, rfl⟩
  rw [← hK] at hread hc hK8
  have CF := Lib.hid (fun W => pfields_any (K : Int) W)
  obtain ⟨l, hle⟩ : ∃ l, l = fieldsOf (K : Int) := ⟨_, rfl⟩
  have hOl : Oct l := by rw [hle]; exact fields_oct _
  have HLT : Hid (∀ j, j < l.length → lett (l.getD j 0)) := Lib.hid (by rw [hle]; exact fields_lett _)
  rw [← hle] at CF hread
  have HSZ : Hid ((bstr l).size = l.length) := Lib.hid (bstr_size l)
  have HGT : Hid (∀ k (h : k < (bstr l).size), ((bstr l)[k]'h).toNat = l.getD k 0) := Lib.hid (fun k h => bstr_get l hOl k h)
  obtain ⟨S, hS⟩ : ∃ S, S = bstr l := ⟨_, rfl⟩
  rw [← hS] at CF HSZ HGT
  obtain ⟨m, hm⟩ : ∃ m, m = l.length := ⟨_, rfl⟩
  rw [← hm] at HSZ HLT
  have HMM := Lib.hid hm
  obtain ⟨n, hn⟩ : ∃ n, n = b.length := ⟨_, rfl⟩
  have HN := Lib.hid hn
  have HX := Lib.hid hX
  have HRD := Lib.hid hread
  have HBY := Lib.hid hB
  have CN : Hid (∀ (A' : Option Addr) (a r rc : Nat), r + a = n → rc + a = c → Byts w A' (b.drop a) → ∀ W, Below w.heap.size w W → Calls Tryz.prog 85 #[.slice A' r rc] W fun e w' => e = .returned (.tuple (fnOut (rdn (b.drop a) 0 10 0 0))) ∧ W = w') := Lib.hid (fun A' a r rc hr hrc hB' W hW => by
    have hlen : (b.drop a).length = r := by rw [List.length_drop]; omega
    rw [← hlen]
    exact first_any A' (b.drop a) rc W (hB'.below hW) (oct_drop hO a) (by omega) (by omega))
  have HO := Lib.hid hO
  rw [← hn] at hl h0 hcl ⊢
  have HE0 : Hid (EvAt (w.alloc (.cells Ev.zero.cells.toArray 51)) w.heap.size Ev.zero) := Lib.hid (Rec.new w _ Ev.zero.cells _ rfl)
  have hn0 : ((n : Int) == 0) = false := beq_eq_false_iff_ne.2 (by omega)
  have hn1 : n = 1 := by omega
  subst hC
  clear hn0
  subst hn1
  clear hread hX hK hle hOl hS hm hn hB hO
  go_enter Tryz.func64, Tryz.ntmps64
  go_wp2_with (go_at_call 78; (with_reducible refine (CF.out _).mono ?_); rintro r _ ⟨rfl, rfl⟩)
  have HW0 : Hid (EvAt (((w.alloc (.cells Ev.zero.cells.toArray 51)).alloc (.cells (⟨(K : Int), 0, 0, 0, 0, 0, 0, 0⟩ : Ev).cells.toArray 51)).iter S 0) w.heap.size Ev.zero ∧ EvAt (((w.alloc (.cells Ev.zero.cells.toArray 51)).alloc (.cells (⟨(K : Int), 0, 0, 0, 0, 0, 0, 0⟩ : Ev).cells.toArray 51)).iter S 0) (w.heap.size + 1) ⟨(K : Int), 0, 0, 0, 0, 0, 0, 0⟩ ∧ Below w.heap.size w (((w.alloc (.cells Ev.zero.cells.toArray 51)).alloc (.cells (⟨(K : Int), 0, 0, 0, 0, 0, 0, 0⟩ : Ev).cells.toArray 51)).iter S 0)) := Lib.hid ⟨HE0.out.keep (((Below.refl _ _).alloc (Nat.le_refl _) _).alloc (by simp) _), (show EvAt ((w.alloc (.cells Ev.zero.cells.toArray 51)).alloc (.cells (⟨(K : Int), 0, 0, 0, 0, 0, 0, 0⟩ : Ev).cells.toArray 51)) (w.heap.size + 1) ⟨(K : Int), 0, 0, 0, 0, 0, 0, 0⟩ from Rec.new _ _ _ _ (by simp)).keep ((Below.refl _ _).alloc (Nat.le_refl _) _), (((Below.refl _ _).alloc (Nat.le_refl _) _).alloc (by simp) _).alloc (by simp; omega) _⟩
  have HI0 : Hid ((((w.alloc (.cells Ev.zero.cells.toArray 51)).alloc (.cells (⟨(K : Int), 0, 0, 0, 0, 0, 0, 0⟩ : Ev).cells.toArray 51)).iter S 0).heap[w.heap.size + 2]? = some (.stringIter S 0)) := Lib.hid (by
    have := World.iter_heap ((w.alloc (.cells Ev.zero.cells.toArray 51)).alloc (.cells (⟨(K : Int), 0, 0, 0, 0, 0, 0, 0⟩ : Ev).cells.toArray 51)) S 0
    simpa using this)
  clear CF HE0
  go_loopw [5] (fun rest wr => ∃ (k a r rc : Nat) (A' : Option Addr) (x : Ev), k ≤ m ∧ r + a = 1 ∧ rc + a = 1 ∧ rest = .slice A' r rc ∧ Hid (Byts w A' (b.drop a)) ∧ Hid (wr.heap[w.heap.size + 2]? = some (.stringIter S k)) ∧ Hid (EvAt wr w.heap.size Ev.zero) ∧ Hid (EvAt wr (w.heap.size + 1) x) ∧ Hid (Below w.heap.size w wr) ∧ Hid (rdFs b (l.drop k) x a = rdFs b l ⟨(K : Int), 0, 0, 0, 0, 0, 0, 0⟩ 1)) (fun _ wr => m - wr.iterPos (w.heap.size + 2))
  case atStart => exact ⟨0, 1, 1 - 1, 1 - 1, _, ⟨(K : Int), 0, 0, 0, 0, 0, 0, 0⟩, Nat.zero_le _, by omega, by omega, rfl, Lib.hid (byts_none w _ (by rw [List.length_drop, ← HN.out])), HI0, Lib.hid HW0.out.1, Lib.hid HW0.out.2.1, Lib.hid HW0.out.2.2, Lib.hid rfl⟩
  case round =>
    obtain ⟨k, a, r, rc, A', x, hk, hra, hrca, rfl, HY, HI, H1, H2, HB, HF⟩ := hrel
    have hpos : wr.iterPos (w.heap.size + 2) = k := iterPos_of HI.out
    by_cases hlt : k < m
    · have hszk : k < S.size := by rw [HSZ.out]; exact hlt
      have hgt := HGT.out k hszk
      have hlf := HLT.out k hlt
      have hkl : k < l.length := by rw [← HMM.out]; exact hlt
      have hdr : l.drop k = l.getD k 0 :: l.drop (k + 1) := by
        rw [List.drop_eq_getElem_cons hkl, List.getD_eq_getElem?_getD, List.getElem?_eq_getElem hkl]
        rfl
      rw [hdr] at HF
      generalize l.getD k 0 = f at *
      have hnx : ∀ ty, (Instr.next (.pointer (some ⟨w.heap.size + 2, 0, none⟩)) true ty).run Tryz.prog wr = .ok (.tuple #[.bool true, .int .i64 k, .int .i32 (f : Int)]) (wr.iterAt (w.heap.size + 2) S (k + 1)) := fun ty => by
        rw [Lib.run_next_ascii_at wr _ S k ty HI.out hszk (by rw [hgt]; exact lett_lt hlf), hgt]
      have HI2 := Lib.hid (Lib.iterAt_heap wr (w.heap.size + 2) S k (k + 1) HI.out)
      have J1 : Hid (EvAt (wr.iterAt (w.heap.size + 2) S (k + 1)) w.heap.size Ev.zero) := Lib.hid (Rec.touch H1.out (touch_iter wr (w.heap.size + 2) S (k + 1)) (iter_not_rec HI.out H1.out))
      have J2 : Hid (EvAt (wr.iterAt (w.heap.size + 2) S (k + 1)) (w.heap.size + 1) x) := Lib.hid (Rec.touch H2.out (touch_iter wr (w.heap.size + 2) S (k + 1)) (iter_not_rec HI.out H2.out))
      have HB3 := Lib.hid (Lib.below_iterAt HB.out (k := w.heap.size + 2) (by omega) S (k + 1))
      generalize wr.iterAt (w.heap.size + 2) S (k + 1) = wi at *
      have CN1 := Lib.hid (CN.out A' a r rc hra hrca HY.out wi HB3.out)
      have han : a ≤ b.length := by rw [← HN.out]; omega
      clear hdr hgt hszk H1 H2 HI HB
      cases hr : readN (b.drop a) 0 with
      | none =>
        rw [fnOut_none hr] at CN1
        have hr2 : readN b a = none := by rw [readN_shift han, hr]; rfl
        have HXN : Hid (X = (Ev.zero, 13)) := Lib.hid (by
          rw [HX.out]
          apply readOut_none
          rw [HRD.out, ← HF.out, rdFs_none hr2])
        obtain ⟨c0, c1, c2, c3, c4, c5, c6, c7⟩ := J1.out.reads
        have fz0 := Rec.frozen J1.out 0
        have fz1 := Rec.frozen J1.out 1
        have fz2 := Rec.frozen J1.out 2
        have fz3 := Rec.frozen J1.out 3
        have fz4 := Rec.frozen J1.out 4
        have fz5 := Rec.frozen J1.out 5
        have fz6 := Rec.frozen J1.out 6
        have fz7 := Rec.frozen J1.out 7
        have HPZ := Lib.hid (put_at J1.out Ev.zero)
        clear hr hr2 hkl HF CN hlf han
        go_wp2_with (go_at_call 85; (with_reducible refine CN1.out.mono ?_); rintro r' _ ⟨rfl, rfl⟩)
        obtain ⟨g0, g1, g2, g3, g4, g5, g6, g7⟩ := HPZ.out.reads
        simp only [putE, Ev.zero] at g0 g1 g2 g3 g4 g5 g6 g7
        refine bodyPost_ret (v := .tuple #[Ev.zero.v, .int .i64 13]) (by simp [results, Tryz.results64, go_sem, Ev.v, Ev.zero, g0, g1, g2, g3, g4, g5, g6, g7]) rfl ⟨by rw [HXN.out], ?_⟩
        exact put_below HB3.out (Nat.le_refl _) Ev.zero
      | some y =>
        obtain ⟨v, p⟩ := y
        rw [fnOut_some hr] at CN1
        have hr2 : readN b a = some (v, a + p) := by rw [readN_shift han, hr]; rfl
        have hpr : p ≤ r := by have := (readN_is (oct_drop HO.out a) hr).2.2.2; rw [List.length_drop, ← HN.out] at this; omega
        have hp0 : 0 < p := (readN_is (oct_drop HO.out a) hr).2.2.1
        have HF2 : Hid (rdFs b (l.drop (k + 1)) (x.with f v) (a + p) = rdFs b l ⟨(K : Int), 0, 0, 0, 0, 0, 0, 0⟩ 1) := Lib.hid (by rw [← HF.out, rdFs_some hr2])
        have CW := Lib.hid (fun W => pwith_any x f hlf v W)
        obtain ⟨y, hy⟩ : ∃ y, y = x.with f v := ⟨_, rfl⟩
        rw [← hy] at CW HF2
        unfold Ev.v at CW
        obtain ⟨d0, d1, d2, d3, d4, d5, d6, d7⟩ := J2.out.reads
        obtain ⟨ab, ao, rfl, _⟩ := HY.out (by rw [List.length_drop, ← HN.out]; omega)
        clear hr hr2 hkl HF hy CN hlf han HRD HX hc hblt
        by_cases hpc : p = rc
        · subst hpc
          obtain rfl : r = p := by omega
          go_wp2_with (first
            | (go_at_call 85; (with_reducible refine CN1.out.mono ?_); rintro r' _ ⟨rfl, rfl⟩)
            | (go_at_call 86; (with_reducible refine (CW.out _).mono ?_); rintro r' w3 ⟨rfl, hb3⟩; have HB4 := Lib.hid hb3; have H4 := Lib.hid (J2.out.keep hb3); obtain ⟨g0, g1, g2, g3, g4, g5, g6, g7⟩ := H4.out.reads; have gz0 := Rec.frozen H4.out 0; have gz1 := Rec.frozen H4.out 1; have gz2 := Rec.frozen H4.out 2; have gz3 := Rec.frozen H4.out 3; have gz4 := Rec.frozen H4.out 4; have gz5 := Rec.frozen H4.out 5; have gz6 := Rec.frozen H4.out 6; have gz7 := Rec.frozen H4.out 7; clear hb3))
          have HI4 := Lib.hid (iter_touch (iter_keep HI2.out HB4.out) (put_touch w3 (w.heap.size + 1) y) (by omega))
          go_roundw
          case rel => exact ⟨k + 1, a + r, 0, 0, _, y, by omega, by omega, by omega, by first | rfl | (congr 1 <;> omega) | simp, Lib.hid (byts_none w _ (by rw [List.length_drop, ← HN.out]; omega)), HI4, Lib.hid (put_other (J1.out.keep HB4.out) (by omega)), Lib.hid (put_at H4.out y), Lib.hid (put_below (HB3.out.trans (HB4.out.mono HB3.out.size)) (by omega) y), HF2⟩
          case measure => exact Nat.lt_of_le_of_lt (Nat.le_of_eq (congrArg (fun z => m - z) (iterPos_of HI4.out))) (by rw [hpos]; omega)
        · exfalso
          omega
    · obtain rfl : k = m := by omega
      have hnx : ∀ ty, (Instr.next (.pointer (some ⟨w.heap.size + 2, 0, none⟩)) true ty).run Tryz.prog wr = .ok (.tuple #[.bool false]) wr := fun ty => Lib.run_next_end_at wr _ S k ty HI.out (by rw [HSZ.out]; omega)
      have hdr : l.drop k = [] := List.drop_eq_nil_of_le (by rw [HMM.out]; exact Nat.le_refl _)
      rw [hdr] at HF
      have HRE : Hid (readE b = if a = b.length ∧ rightE x = true then some x else none) := Lib.hid (by
        rw [HRD.out, ← HF.out]
        rfl)
      rw [← HN.out] at HRE
      have CR := Lib.hid (fun W => pright_any x W)
      unfold Ev.v at CR
      obtain ⟨d0, d1, d2, d3, d4, d5, d6, d7⟩ := H2.out.reads
      clear hdr HF CN HRD
      by_cases han : a = 1
      · obtain rfl : r = 0 := by omega
        cases hrx : rightE x with
        | true =>
          have HXN : Hid (X = (x, 0)) := Lib.hid (by
            rw [HX.out]
            apply readOut_some
            rw [HRE.out, if_pos ⟨han, hrx⟩])
          rw [hrx] at CR
          clear HX HRE han hrx
          go_wp2_with (go_at_call 77; (with_reducible refine (CR.out _).mono ?_); rintro r' w2 ⟨rfl, hb2⟩; have HB2 := Lib.hid hb2; have K1 := Lib.hid (H1.out.keep hb2); have K2 := Lib.hid (H2.out.keep hb2); obtain ⟨c0, c1, c2, c3, c4, c5, c6, c7⟩ := K1.out.reads; obtain ⟨e0, e1, e2, e3, e4, e5, e6, e7⟩ := K2.out.reads; have hz0 := Rec.frozen K1.out 0; have hz1 := Rec.frozen K1.out 1; have hz2 := Rec.frozen K1.out 2; have hz3 := Rec.frozen K1.out 3; have hz4 := Rec.frozen K1.out 4; have hz5 := Rec.frozen K1.out 5; have hz6 := Rec.frozen K1.out 6; have hz7 := Rec.frozen K1.out 7; clear hb2 d0 d1 d2 d3 d4 d5 d6 d7)
          obtain ⟨g0, g1, g2, g3, g4, g5, g6, g7⟩ := (put_at K1.out x).reads
          simp only [putE] at g0 g1 g2 g3 g4 g5 g6 g7
          refine bodyPost_ret (v := .tuple #[x.v, .int .i64 0]) (by simp [results, Tryz.results64, go_sem, Ev.v, g0, g1, g2, g3, g4, g5, g6, g7]) rfl ⟨by rw [HXN.out], ?_⟩
          exact put_below (HB.out.trans (HB2.out.mono HB.out.size)) (Nat.le_refl _) x
        | false =>
          have HXN : Hid (X = (Ev.zero, 13)) := Lib.hid (by
            rw [HX.out]
            apply readOut_none
            rw [HRE.out, if_neg (by rw [hrx]; simp)])
          rw [hrx] at CR
          clear HX HRE han hrx
          go_wp2_with (go_at_call 77; (with_reducible refine (CR.out _).mono ?_); rintro r' w2 ⟨rfl, hb2⟩; have HB2 := Lib.hid hb2; have K1 := Lib.hid (H1.out.keep hb2); obtain ⟨c0, c1, c2, c3, c4, c5, c6, c7⟩ := K1.out.reads; have hz0 := Rec.frozen K1.out 0; have hz1 := Rec.frozen K1.out 1; have hz2 := Rec.frozen K1.out 2; have hz3 := Rec.frozen K1.out 3; have hz4 := Rec.frozen K1.out 4; have hz5 := Rec.frozen K1.out 5; have hz6 := Rec.frozen K1.out 6; have hz7 := Rec.frozen K1.out 7; clear hb2 d0 d1 d2 d3 d4 d5 d6 d7)
          obtain ⟨g0, g1, g2, g3, g4, g5, g6, g7⟩ := (put_at K1.out Ev.zero).reads
          simp only [putE, Ev.zero] at g0 g1 g2 g3 g4 g5 g6 g7
          refine bodyPost_ret (v := .tuple #[Ev.zero.v, .int .i64 13]) (by simp [results, Tryz.results64, go_sem, Ev.v, Ev.zero, g0, g1, g2, g3, g4, g5, g6, g7]) rfl ⟨by rw [HXN.out], ?_⟩
          exact put_below (HB.out.trans (HB2.out.mono HB.out.size)) (Nat.le_refl _) Ev.zero
      · have HXN : Hid (X = (Ev.zero, 13)) := Lib.hid (by
          rw [HX.out]
          apply readOut_none
          rw [HRE.out, if_neg (by omega)])
        have hr0 : 0 < r := by omega
        obtain ⟨c0, c1, c2, c3, c4, c5, c6, c7⟩ := H1.out.reads
        have fz0 := Rec.frozen H1.out 0
        have fz1 := Rec.frozen H1.out 1
        have fz2 := Rec.frozen H1.out 2
        have fz3 := Rec.frozen H1.out 3
        have fz4 := Rec.frozen H1.out 4
        have fz5 := Rec.frozen H1.out 5
        have fz6 := Rec.frozen H1.out 6
        have fz7 := Rec.frozen H1.out 7
        have HPZ := Lib.hid (put_at H1.out Ev.zero)
        clear HX HRE CR
        go_wp2
        obtain ⟨g0, g1, g2, g3, g4, g5, g6, g7⟩ := HPZ.out.reads
        simp only [putE, Ev.zero] at g0 g1 g2 g3 g4 g5 g6 g7
        refine bodyPost_ret (v := .tuple #[Ev.zero.v, .int .i64 13]) (by simp [results, Tryz.results64, go_sem, Ev.v, Ev.zero, g0, g1, g2, g3, g4, g5, g6, g7]) rfl ⟨by rw [HXN.out], ?_⟩
        exact put_below HB.out (Nat.le_refl _) Ev.zero
set_option maxRecDepth 8000 in
set_option maxHeartbeats 8000000 in
theorem pread_more (A : Option Addr) (b : List Nat) (c : Nat) (w : World) (hB : Byts w A b) (hO : Oct b) (hl : b.length ≤ 1000000000000) (h0 : 0 < b.length) (hcl : b.length ≤ c) (hC : c ≠ 1) : Calls Tryz.prog 64 #[.slice A b.length c] w (EvC w (readOut b)) := by
  obtain ⟨bb, off, rfl, hc⟩ := hB.zero h0
  have hblt := block_lt hc
  have hread := readE_eq h0
  obtain ⟨X, hX⟩ : ∃ X, X = readOut b := ⟨_, rfl⟩
  rw [← hX]
  have hK8 := oct_at hO 0
  obtain ⟨K, hK⟩ : ∃ K, K = b.getD 0 0 := ⟨_, rfl⟩
  rw [← hK] at hread hc hK8
  have CF := Lib.hid (fun W => pfields_any (K : Int) W)
  obtain ⟨l, hle⟩ : ∃ l, l = fieldsOf (K : Int) := ⟨_, rfl⟩
  have hOl : Oct l := by rw [hle]; exact fields_oct _
  have HLT : Hid (∀ j, j < l.length → lett (l.getD j 0)) := Lib.hid (by rw [hle]; exact fields_lett _)
  rw [← hle] at CF hread
  have HSZ : Hid ((bstr l).size = l.length) := Lib.hid (bstr_size l)
  have HGT : Hid (∀ k (h : k < (bstr l).size), ((bstr l)[k]'h).toNat = l.getD k 0) := Lib.hid (fun k h => bstr_get l hOl k h)
  obtain ⟨S, hS⟩ : ∃ S, S = bstr l := ⟨_, rfl⟩
  rw [← hS] at CF HSZ HGT
  obtain ⟨m, hm⟩ : ∃ m, m = l.length := ⟨_, rfl⟩
  rw [← hm] at HSZ HLT
  have HMM := Lib.hid hm
  obtain ⟨n, hn⟩ : ∃ n, n = b.length := ⟨_, rfl⟩
  have HN := Lib.hid hn
  have HX := Lib.hid hX
  have HRD := Lib.hid hread
  have HBY := Lib.hid hB
  have CN : Hid (∀ (A' : Option Addr) (a r rc : Nat), r + a = n → rc + a = c → Byts w A' (b.drop a) → ∀ W, Below w.heap.size w W → Calls Tryz.prog 85 #[.slice A' r rc] W fun e w' => e = .returned (.tuple (fnOut (rdn (b.drop a) 0 10 0 0))) ∧ W = w') := Lib.hid (fun A' a r rc hr hrc hB' W hW => by
    have hlen : (b.drop a).length = r := by rw [List.length_drop]; omega
    rw [← hlen]
    exact first_any A' (b.drop a) rc W (hB'.below hW) (oct_drop hO a) (by omega) (by omega))
  have HO := Lib.hid hO
  rw [← hn] at hl h0 hcl ⊢
  have HE0 : Hid (EvAt (w.alloc (.cells Ev.zero.cells.toArray 51)) w.heap.size Ev.zero) := Lib.hid (Rec.new w _ Ev.zero.cells _ rfl)
  have hn0 : ((n : Int) == 0) = false := beq_eq_false_iff_ne.2 (by omega)

  clear hread hX hK hle hOl hS hm hn hB hO
  go_enter Tryz.func64, Tryz.ntmps64
  go_wp2_with (go_at_call 78; (with_reducible refine (CF.out _).mono ?_); rintro r _ ⟨rfl, rfl⟩)
  have HW0 : Hid (EvAt (((w.alloc (.cells Ev.zero.cells.toArray 51)).alloc (.cells (⟨(K : Int), 0, 0, 0, 0, 0, 0, 0⟩ : Ev).cells.toArray 51)).iter S 0) w.heap.size Ev.zero ∧ EvAt (((w.alloc (.cells Ev.zero.cells.toArray 51)).alloc (.cells (⟨(K : Int), 0, 0, 0, 0, 0, 0, 0⟩ : Ev).cells.toArray 51)).iter S 0) (w.heap.size + 1) ⟨(K : Int), 0, 0, 0, 0, 0, 0, 0⟩ ∧ Below w.heap.size w (((w.alloc (.cells Ev.zero.cells.toArray 51)).alloc (.cells (⟨(K : Int), 0, 0, 0, 0, 0, 0, 0⟩ : Ev).cells.toArray 51)).iter S 0)) := Lib.hid ⟨HE0.out.keep (((Below.refl _ _).alloc (Nat.le_refl _) _).alloc (by simp) _), (show EvAt ((w.alloc (.cells Ev.zero.cells.toArray 51)).alloc (.cells (⟨(K : Int), 0, 0, 0, 0, 0, 0, 0⟩ : Ev).cells.toArray 51)) (w.heap.size + 1) ⟨(K : Int), 0, 0, 0, 0, 0, 0, 0⟩ from Rec.new _ _ _ _ (by simp)).keep ((Below.refl _ _).alloc (Nat.le_refl _) _), (((Below.refl _ _).alloc (Nat.le_refl _) _).alloc (by simp) _).alloc (by simp; omega) _⟩
  have HI0 : Hid ((((w.alloc (.cells Ev.zero.cells.toArray 51)).alloc (.cells (⟨(K : Int), 0, 0, 0, 0, 0, 0, 0⟩ : Ev).cells.toArray 51)).iter S 0).heap[w.heap.size + 2]? = some (.stringIter S 0)) := Lib.hid (by
    have := World.iter_heap ((w.alloc (.cells Ev.zero.cells.toArray 51)).alloc (.cells (⟨(K : Int), 0, 0, 0, 0, 0, 0, 0⟩ : Ev).cells.toArray 51)) S 0
    simpa using this)
  clear CF HE0
  go_loopw [5] (fun rest wr => ∃ (k a r rc : Nat) (A' : Option Addr) (x : Ev), k ≤ m ∧ r + a = n ∧ rc + a = c ∧ rest = .slice A' r rc ∧ Hid (Byts w A' (b.drop a)) ∧ Hid (wr.heap[w.heap.size + 2]? = some (.stringIter S k)) ∧ Hid (EvAt wr w.heap.size Ev.zero) ∧ Hid (EvAt wr (w.heap.size + 1) x) ∧ Hid (Below w.heap.size w wr) ∧ Hid (rdFs b (l.drop k) x a = rdFs b l ⟨(K : Int), 0, 0, 0, 0, 0, 0, 0⟩ 1)) (fun _ wr => m - wr.iterPos (w.heap.size + 2))
  case atStart => exact ⟨0, 1, n - 1, c - 1, _, ⟨(K : Int), 0, 0, 0, 0, 0, 0, 0⟩, Nat.zero_le _, by omega, by omega, rfl, Lib.hid (byts_drop HBY.out), HI0, Lib.hid HW0.out.1, Lib.hid HW0.out.2.1, Lib.hid HW0.out.2.2, Lib.hid rfl⟩
  case round =>
    obtain ⟨k, a, r, rc, A', x, hk, hra, hrca, rfl, HY, HI, H1, H2, HB, HF⟩ := hrel
    have hpos : wr.iterPos (w.heap.size + 2) = k := iterPos_of HI.out
    by_cases hlt : k < m
    · have hszk : k < S.size := by rw [HSZ.out]; exact hlt
      have hgt := HGT.out k hszk
      have hlf := HLT.out k hlt
      have hkl : k < l.length := by rw [← HMM.out]; exact hlt
      have hdr : l.drop k = l.getD k 0 :: l.drop (k + 1) := by
        rw [List.drop_eq_getElem_cons hkl, List.getD_eq_getElem?_getD, List.getElem?_eq_getElem hkl]
        rfl
      rw [hdr] at HF
      generalize l.getD k 0 = f at *
      have hnx : ∀ ty, (Instr.next (.pointer (some ⟨w.heap.size + 2, 0, none⟩)) true ty).run Tryz.prog wr = .ok (.tuple #[.bool true, .int .i64 k, .int .i32 (f : Int)]) (wr.iterAt (w.heap.size + 2) S (k + 1)) := fun ty => by
        rw [Lib.run_next_ascii_at wr _ S k ty HI.out hszk (by rw [hgt]; exact lett_lt hlf), hgt]
      have HI2 := Lib.hid (Lib.iterAt_heap wr (w.heap.size + 2) S k (k + 1) HI.out)
      have J1 : Hid (EvAt (wr.iterAt (w.heap.size + 2) S (k + 1)) w.heap.size Ev.zero) := Lib.hid (Rec.touch H1.out (touch_iter wr (w.heap.size + 2) S (k + 1)) (iter_not_rec HI.out H1.out))
      have J2 : Hid (EvAt (wr.iterAt (w.heap.size + 2) S (k + 1)) (w.heap.size + 1) x) := Lib.hid (Rec.touch H2.out (touch_iter wr (w.heap.size + 2) S (k + 1)) (iter_not_rec HI.out H2.out))
      have HB3 := Lib.hid (Lib.below_iterAt HB.out (k := w.heap.size + 2) (by omega) S (k + 1))
      generalize wr.iterAt (w.heap.size + 2) S (k + 1) = wi at *
      have CN1 := Lib.hid (CN.out A' a r rc hra hrca HY.out wi HB3.out)
      have han : a ≤ b.length := by rw [← HN.out]; omega
      clear hdr hgt hszk H1 H2 HI HB
      cases hr : readN (b.drop a) 0 with
      | none =>
        rw [fnOut_none hr] at CN1
        have hr2 : readN b a = none := by rw [readN_shift han, hr]; rfl
        have HXN : Hid (X = (Ev.zero, 13)) := Lib.hid (by
          rw [HX.out]
          apply readOut_none
          rw [HRD.out, ← HF.out, rdFs_none hr2])
        obtain ⟨c0, c1, c2, c3, c4, c5, c6, c7⟩ := J1.out.reads
        have fz0 := Rec.frozen J1.out 0
        have fz1 := Rec.frozen J1.out 1
        have fz2 := Rec.frozen J1.out 2
        have fz3 := Rec.frozen J1.out 3
        have fz4 := Rec.frozen J1.out 4
        have fz5 := Rec.frozen J1.out 5
        have fz6 := Rec.frozen J1.out 6
        have fz7 := Rec.frozen J1.out 7
        have HPZ := Lib.hid (put_at J1.out Ev.zero)
        clear hr hr2 hkl HF CN hlf han
        go_wp2_with (go_at_call 85; (with_reducible refine CN1.out.mono ?_); rintro r' _ ⟨rfl, rfl⟩)
        obtain ⟨g0, g1, g2, g3, g4, g5, g6, g7⟩ := HPZ.out.reads
        simp only [putE, Ev.zero] at g0 g1 g2 g3 g4 g5 g6 g7
        refine bodyPost_ret (v := .tuple #[Ev.zero.v, .int .i64 13]) (by simp [results, Tryz.results64, go_sem, Ev.v, Ev.zero, g0, g1, g2, g3, g4, g5, g6, g7]) rfl ⟨by rw [HXN.out], ?_⟩
        exact put_below HB3.out (Nat.le_refl _) Ev.zero
      | some y =>
        obtain ⟨v, p⟩ := y
        rw [fnOut_some hr] at CN1
        have hr2 : readN b a = some (v, a + p) := by rw [readN_shift han, hr]; rfl
        have hpr : p ≤ r := by have := (readN_is (oct_drop HO.out a) hr).2.2.2; rw [List.length_drop, ← HN.out] at this; omega
        have hp0 : 0 < p := (readN_is (oct_drop HO.out a) hr).2.2.1
        have HF2 : Hid (rdFs b (l.drop (k + 1)) (x.with f v) (a + p) = rdFs b l ⟨(K : Int), 0, 0, 0, 0, 0, 0, 0⟩ 1) := Lib.hid (by rw [← HF.out, rdFs_some hr2])
        have CW := Lib.hid (fun W => pwith_any x f hlf v W)
        obtain ⟨y, hy⟩ : ∃ y, y = x.with f v := ⟨_, rfl⟩
        rw [← hy] at CW HF2
        unfold Ev.v at CW
        obtain ⟨d0, d1, d2, d3, d4, d5, d6, d7⟩ := J2.out.reads
        obtain ⟨ab, ao, rfl, _⟩ := HY.out (by rw [List.length_drop, ← HN.out]; omega)
        clear hr hr2 hkl HF hy CN hlf han HRD HX hc hblt
        by_cases hpc : p = rc
        · subst hpc
          obtain rfl : r = p := by omega
          go_wp2_with (first
            | (go_at_call 85; (with_reducible refine CN1.out.mono ?_); rintro r' _ ⟨rfl, rfl⟩)
            | (go_at_call 86; (with_reducible refine (CW.out _).mono ?_); rintro r' w3 ⟨rfl, hb3⟩; have HB4 := Lib.hid hb3; have H4 := Lib.hid (J2.out.keep hb3); obtain ⟨g0, g1, g2, g3, g4, g5, g6, g7⟩ := H4.out.reads; have gz0 := Rec.frozen H4.out 0; have gz1 := Rec.frozen H4.out 1; have gz2 := Rec.frozen H4.out 2; have gz3 := Rec.frozen H4.out 3; have gz4 := Rec.frozen H4.out 4; have gz5 := Rec.frozen H4.out 5; have gz6 := Rec.frozen H4.out 6; have gz7 := Rec.frozen H4.out 7; clear hb3))
          have HI4 := Lib.hid (iter_touch (iter_keep HI2.out HB4.out) (put_touch w3 (w.heap.size + 1) y) (by omega))
          go_roundw
          case rel => exact ⟨k + 1, a + r, 0, 0, _, y, by omega, by omega, by omega, by first | rfl | (congr 1 <;> omega) | simp, Lib.hid (byts_none w _ (by rw [List.length_drop, ← HN.out]; omega)), HI4, Lib.hid (put_other (J1.out.keep HB4.out) (by omega)), Lib.hid (put_at H4.out y), Lib.hid (put_below (HB3.out.trans (HB4.out.mono HB3.out.size)) (by omega) y), HF2⟩
          case measure => exact Nat.lt_of_le_of_lt (Nat.le_of_eq (congrArg (fun z => m - z) (iterPos_of HI4.out))) (by rw [hpos]; omega)
        · go_wp2_with (first
            | (go_at_call 85; (with_reducible refine CN1.out.mono ?_); rintro r' _ ⟨rfl, rfl⟩)
            | (go_at_call 86; (with_reducible refine (CW.out _).mono ?_); rintro r' w3 ⟨rfl, hb3⟩; have HB4 := Lib.hid hb3; have H4 := Lib.hid (J2.out.keep hb3); obtain ⟨g0, g1, g2, g3, g4, g5, g6, g7⟩ := H4.out.reads; have gz0 := Rec.frozen H4.out 0; have gz1 := Rec.frozen H4.out 1; have gz2 := Rec.frozen H4.out 2; have gz3 := Rec.frozen H4.out 3; have gz4 := Rec.frozen H4.out 4; have gz5 := Rec.frozen H4.out 5; have gz6 := Rec.frozen H4.out 6; have gz7 := Rec.frozen H4.out 7; clear hb3))
          have HI4 := Lib.hid (iter_touch (iter_keep HI2.out HB4.out) (put_touch w3 (w.heap.size + 1) y) (by omega))
          go_roundw
          case rel => exact ⟨k + 1, a + p, r - p, rc - p, _, y, by omega, by omega, by omega, rfl, Lib.hid (by rw [← List.drop_drop]; exact byts_drop HY.out), HI4, Lib.hid (put_other (J1.out.keep HB4.out) (by omega)), Lib.hid (put_at H4.out y), Lib.hid (put_below (HB3.out.trans (HB4.out.mono HB3.out.size)) (by omega) y), HF2⟩
          case measure => exact Nat.lt_of_le_of_lt (Nat.le_of_eq (congrArg (fun z => m - z) (iterPos_of HI4.out))) (by rw [hpos]; omega)
    · obtain rfl : k = m := by omega
      have hnx : ∀ ty, (Instr.next (.pointer (some ⟨w.heap.size + 2, 0, none⟩)) true ty).run Tryz.prog wr = .ok (.tuple #[.bool false]) wr := fun ty => Lib.run_next_end_at wr _ S k ty HI.out (by rw [HSZ.out]; omega)
      have hdr : l.drop k = [] := List.drop_eq_nil_of_le (by rw [HMM.out]; exact Nat.le_refl _)
      rw [hdr] at HF
      have HRE : Hid (readE b = if a = b.length ∧ rightE x = true then some x else none) := Lib.hid (by
        rw [HRD.out, ← HF.out]
        rfl)
      rw [← HN.out] at HRE
      have CR := Lib.hid (fun W => pright_any x W)
      unfold Ev.v at CR
      obtain ⟨d0, d1, d2, d3, d4, d5, d6, d7⟩ := H2.out.reads
      clear hdr HF CN HRD
      by_cases han : a = n
      · obtain rfl : r = 0 := by omega
        cases hrx : rightE x with
        | true =>
          have HXN : Hid (X = (x, 0)) := Lib.hid (by
            rw [HX.out]
            apply readOut_some
            rw [HRE.out, if_pos ⟨han, hrx⟩])
          rw [hrx] at CR
          clear HX HRE han hrx
          go_wp2_with (go_at_call 77; (with_reducible refine (CR.out _).mono ?_); rintro r' w2 ⟨rfl, hb2⟩; have HB2 := Lib.hid hb2; have K1 := Lib.hid (H1.out.keep hb2); have K2 := Lib.hid (H2.out.keep hb2); obtain ⟨c0, c1, c2, c3, c4, c5, c6, c7⟩ := K1.out.reads; obtain ⟨e0, e1, e2, e3, e4, e5, e6, e7⟩ := K2.out.reads; have hz0 := Rec.frozen K1.out 0; have hz1 := Rec.frozen K1.out 1; have hz2 := Rec.frozen K1.out 2; have hz3 := Rec.frozen K1.out 3; have hz4 := Rec.frozen K1.out 4; have hz5 := Rec.frozen K1.out 5; have hz6 := Rec.frozen K1.out 6; have hz7 := Rec.frozen K1.out 7; clear hb2 d0 d1 d2 d3 d4 d5 d6 d7)
          obtain ⟨g0, g1, g2, g3, g4, g5, g6, g7⟩ := (put_at K1.out x).reads
          simp only [putE] at g0 g1 g2 g3 g4 g5 g6 g7
          refine bodyPost_ret (v := .tuple #[x.v, .int .i64 0]) (by simp [results, Tryz.results64, go_sem, Ev.v, g0, g1, g2, g3, g4, g5, g6, g7]) rfl ⟨by rw [HXN.out], ?_⟩
          exact put_below (HB.out.trans (HB2.out.mono HB.out.size)) (Nat.le_refl _) x
        | false =>
          have HXN : Hid (X = (Ev.zero, 13)) := Lib.hid (by
            rw [HX.out]
            apply readOut_none
            rw [HRE.out, if_neg (by rw [hrx]; simp)])
          rw [hrx] at CR
          clear HX HRE han hrx
          go_wp2_with (go_at_call 77; (with_reducible refine (CR.out _).mono ?_); rintro r' w2 ⟨rfl, hb2⟩; have HB2 := Lib.hid hb2; have K1 := Lib.hid (H1.out.keep hb2); obtain ⟨c0, c1, c2, c3, c4, c5, c6, c7⟩ := K1.out.reads; have hz0 := Rec.frozen K1.out 0; have hz1 := Rec.frozen K1.out 1; have hz2 := Rec.frozen K1.out 2; have hz3 := Rec.frozen K1.out 3; have hz4 := Rec.frozen K1.out 4; have hz5 := Rec.frozen K1.out 5; have hz6 := Rec.frozen K1.out 6; have hz7 := Rec.frozen K1.out 7; clear hb2 d0 d1 d2 d3 d4 d5 d6 d7)
          obtain ⟨g0, g1, g2, g3, g4, g5, g6, g7⟩ := (put_at K1.out Ev.zero).reads
          simp only [putE, Ev.zero] at g0 g1 g2 g3 g4 g5 g6 g7
          refine bodyPost_ret (v := .tuple #[Ev.zero.v, .int .i64 13]) (by simp [results, Tryz.results64, go_sem, Ev.v, Ev.zero, g0, g1, g2, g3, g4, g5, g6, g7]) rfl ⟨by rw [HXN.out], ?_⟩
          exact put_below (HB.out.trans (HB2.out.mono HB.out.size)) (Nat.le_refl _) Ev.zero
      · have HXN : Hid (X = (Ev.zero, 13)) := Lib.hid (by
          rw [HX.out]
          apply readOut_none
          rw [HRE.out, if_neg (by omega)])
        have hr0 : 0 < r := by omega
        obtain ⟨c0, c1, c2, c3, c4, c5, c6, c7⟩ := H1.out.reads
        have fz0 := Rec.frozen H1.out 0
        have fz1 := Rec.frozen H1.out 1
        have fz2 := Rec.frozen H1.out 2
        have fz3 := Rec.frozen H1.out 3
        have fz4 := Rec.frozen H1.out 4
        have fz5 := Rec.frozen H1.out 5
        have fz6 := Rec.frozen H1.out 6
        have fz7 := Rec.frozen H1.out 7
        have HPZ := Lib.hid (put_at H1.out Ev.zero)
        clear HX HRE CR
        go_wp2
        obtain ⟨g0, g1, g2, g3, g4, g5, g6, g7⟩ := HPZ.out.reads
        simp only [putE, Ev.zero] at g0 g1 g2 g3 g4 g5 g6 g7
        refine bodyPost_ret (v := .tuple #[Ev.zero.v, .int .i64 13]) (by simp [results, Tryz.results64, go_sem, Ev.v, Ev.zero, g0, g1, g2, g3, g4, g5, g6, g7]) rfl ⟨by rw [HXN.out], ?_⟩
        exact put_below HB.out (Nat.le_refl _) Ev.zero
theorem pread_any (A : Option Addr) (b : List Nat) (c : Nat) (w : World) (hB : Byts w A b) (hO : Oct b) (hl : b.length ≤ 1000000000000) (hcl : b.length ≤ c) : Calls Tryz.prog 64 #[.slice A b.length c] w (EvC w (readOut b)) := by
  by_cases h0 : 0 < b.length
  · by_cases hC : c = 1
    · exact pread_one A b c w hB hO hl h0 hcl hC
    · exact pread_more A b c w hB hO hl h0 hcl hC
  · have hb : b = [] := List.eq_nil_of_length_eq_zero (by omega)
    subst hb
    rw [readOut_none (by unfold readE; rw [if_neg (by simp)])]
    exact pread_empty A c w
end Go.Proofs.YtmpipjangbedkaaGreat
