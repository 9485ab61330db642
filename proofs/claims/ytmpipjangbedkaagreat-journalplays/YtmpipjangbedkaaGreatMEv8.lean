import Derived.Test.YtmpipjangbedkaaGreatMEv3
import Derived.Test.YtmpipjangbedkaaGreatMEv5
/-
  The walk of the reference's ReadEvent.
-/
namespace Go.Proofs.YtmpipjangbedkaaGreat
set_option maxRecDepth 8000
open Go Go.RowKit
set_option linter.unusedVariables false

/-- Reading the fields, one behind the other. -/
def rdFs (b : List Nat) : List Nat → Ev → Nat → Option (Ev × Nat)
  | [], e, a => some (e, a)
  | f :: l, e, a => match readN b a with
    | none => none
    | some (n, p) => rdFs b l (e.with f n) p
/-- The event that bytes are. -/
def readE (b : List Nat) : Option Ev :=
  if 0 < b.length ∧ 1 ≤ b.getD 0 0 ∧ b.getD 0 0 ≤ 22 then
    match rdFs b (fieldsOf (b.getD 0 0 : Nat)) ⟨(b.getD 0 0 : Nat), 0, 0, 0, 0, 0, 0, 0⟩ 1 with
    | none => none
    | some (e, a) => if a = b.length ∧ rightE e = true then some e else none
  else none
def readOut (b : List Nat) : Ev × Int := match readE b with
  | none => (Ev.zero, 13)
  | some e => (e, 0)
theorem rdFs_some {b : List Nat} {f : Nat} {l : List Nat} {x : Ev} {a p : Nat} {v : Int} (h : readN b a = some (v, p)) : rdFs b (f :: l) x a = rdFs b l (x.with f v) p := by
  rw [rdFs, h]
theorem rdFs_none {b : List Nat} {f : Nat} {l : List Nat} {x : Ev} {a : Nat} (h : readN b a = none) : rdFs b (f :: l) x a = none := by
  rw [rdFs, h]
theorem rdOut_some {b : List Nat} {a p : Nat} {v : Int} (h : readN b a = some (v, p)) : rdOut (rdn b a 10 0 0) = (v, (p : Int)) := by rw [rdOut_read, h]
theorem rdOut_none {b : List Nat} {a : Nat} (h : readN b a = none) : rdOut (rdn b a 10 0 0) = (0, -1) := by rw [rdOut_read, h]
/-- An event, and a code. -/
def EvC (w : World) (x : Ev × Int) (r : Ending) (w' : World) : Prop := r = .returned (.tuple #[x.1.v, .int .i64 x.2]) ∧ Below w.heap.size w w'
theorem readOut_none {b : List Nat} (h : readE b = none) : readOut b = (Ev.zero, 13) := by unfold readOut; rw [h]
theorem readOut_some {b : List Nat} {e : Ev} (h : readE b = some e) : readOut b = (e, 0) := by unfold readOut; rw [h]
set_option maxRecDepth 8000 in
set_option maxHeartbeats 4000000 in
theorem readev_empty (A : Option Addr) (c : Nat) (w : World) : Calls Tryz.prog 72 #[.slice A 0 c] w (EvC w (Ev.zero, 13)) := by
  go_enter Tryz.func72, Tryz.ntmps72
  go_wp2
  refine bodyPost_ret (v := .tuple #[Ev.zero.v, .int .i64 13]) (by simp [results, Tryz.results72, go_sem, Ev.v, Ev.zero]) rfl ⟨rfl, ?_⟩
  exact (Below.refl _ _).alloc (Nat.le_refl _) _
theorem Byts.zero {w : World} {A : Option Addr} {b : List Nat} (h : Byts w A b) (h0 : 0 < b.length) : ∃ bb off, A = some ⟨bb, off, none⟩ ∧ w.cell? ⟨bb, off, none⟩ = some (.int .u8 ((b.getD 0 0 : Nat) : Int)) := by
  obtain ⟨bb, off, e, hc⟩ := h h0
  have := hc 0 h0
  rw [Nat.add_zero] at this
  exact ⟨bb, off, e, this⟩
theorem oct_at {b : List Nat} (hO : Oct b) (i : Nat) : b.getD i 0 < 256 := by
  rcases Nat.lt_or_ge i b.length with h | h
  · have : b.getD i 0 ∈ b := by rw [List.getD_eq_getElem?_getD, List.getElem?_eq_getElem h]; exact List.getElem_mem _
    have := hO _ this; omega
  · rw [List.getD_eq_getElem?_getD, List.getElem?_eq_none h]; simp
set_option maxRecDepth 8000 in
set_option maxHeartbeats 4000000 in
theorem readev_kind (A : Option Addr) (b : List Nat) (c : Nat) (w : World) (hB : Byts w A b) (hO : Oct b) (hl : b.length ≤ 1000000000000) (h0 : 0 < b.length) (hk : ¬ (1 ≤ b.getD 0 0 ∧ b.getD 0 0 ≤ 22)) : Calls Tryz.prog 72 #[.slice A b.length c] w (EvC w (Ev.zero, 13)) := by
  obtain ⟨bb, off, rfl, hc⟩ := hB.zero h0
  have h256 := oct_at hO 0
  have CK := Lib.hid (fun W => kind_any ((b.getD 0 0 : Nat) : Int) W)
  have hlt := block_lt hc
  generalize b.getD 0 0 = K at *
  rw [show decide (1 ≤ (K : Int) ∧ (K : Int) ≤ 22) = false from by simp; omega] at CK
  have hn0 : ((b.length : Int) == 0) = false := beq_eq_false_iff_ne.2 (by omega)
  generalize b.length = n at *
  clear hB hO hk
  go_enter Tryz.func72, Tryz.ntmps72
  go_wp2_with (go_at_call 67; (with_reducible refine (CK.out _).mono ?_); rintro r _ ⟨rfl, rfl⟩)
  refine bodyPost_ret (v := .tuple #[Ev.zero.v, .int .i64 13]) (by simp [results, Tryz.results72, go_sem, Ev.v, Ev.zero]) rfl ⟨rfl, ?_⟩
  exact (Below.refl _ _).alloc (Nat.le_refl _) _
set_option maxRecDepth 8000 in
set_option maxHeartbeats 4000000 in
theorem readev_main (A : Option Addr) (b : List Nat) (c : Nat) (w : World) (hB : Byts w A b) (hO : Oct b) (hl : b.length ≤ 1000000000000) (h0 : 0 < b.length) (hk : 1 ≤ b.getD 0 0 ∧ b.getD 0 0 ≤ 22) : Calls Tryz.prog 72 #[.slice A b.length c] w (EvC w (readOut b)) := by
  obtain ⟨bb, off, rfl, hc⟩ := hB.zero h0
  have hblt := block_lt hc
  have hread : readE b = (match rdFs b (fieldsOf (b.getD 0 0 : Nat)) ⟨(b.getD 0 0 : Nat), 0, 0, 0, 0, 0, 0, 0⟩ 1 with | none => none | some (e, a) => if a = b.length ∧ rightE e = true then some e else none) := by
    unfold readE
    rw [if_pos ⟨h0, hk.1, hk.2⟩]
  obtain ⟨X, hX⟩ : ∃ X, X = readOut b := ⟨_, rfl⟩
  rw [← hX]
  obtain ⟨K, hK⟩ : ∃ K, K = b.getD 0 0 := ⟨_, rfl⟩
  rw [← hK] at hk hread hc
  have CK := Lib.hid (fun W => kind_any (K : Int) W)
  rw [show decide (1 ≤ (K : Int) ∧ (K : Int) ≤ 22) = true from by simp; omega] at CK
  have CF := Lib.hid (fun W => fields_any (K : Int) W)
  obtain ⟨l, hle⟩ : ∃ l, l = fieldsOf (K : Int) := ⟨_, rfl⟩
  have hOl : Oct l := by rw [hle]; exact fields_oct _
  have hlen : l.length ≤ 5 := by rw [hle]; exact fields_len _
  rw [← hle] at CF hread
  have HSZ : Hid ((bstr l).size = l.length) := Lib.hid (bstr_size l)
  have HGT : Hid (∀ k (h : k < (bstr l).size), ((bstr l)[k]'h).toNat = l.getD k 0) := Lib.hid (fun k h => bstr_get l hOl k h)
  obtain ⟨S, hS⟩ : ∃ S, S = bstr l := ⟨_, rfl⟩
  rw [← hS] at CF HSZ HGT
  obtain ⟨m, hm⟩ : ∃ m, m = l.length := ⟨_, rfl⟩
  rw [← hm] at HSZ hlen
  have HMM := Lib.hid hm
  have hsz := HSZ.out
  obtain ⟨n, hn⟩ : ∃ n, n = b.length := ⟨_, rfl⟩
  have HN := Lib.hid hn
  have HX := Lib.hid hX
  have HRD := Lib.hid hread
  have CN : Hid (∀ (a : Nat), a ≤ n → ∀ W, Below w.heap.size w W → Calls Tryz.prog 89 #[.slice (some ⟨bb, off, none⟩) n c, .int .i64 (a : Int)] W fun e w' => e = .returned (.tuple #[.int .i64 (rdOut (rdn b a 10 0 0)).1, .int .i64 (rdOut (rdn b a 10 0 0)).2]) ∧ W = w') := Lib.hid (fun a ha W hW => by rw [hn]; exact rnum_any _ b c a W (hB.below hW) hO hl (by omega))
  have HO := Lib.hid hO
  rw [← hn] at hl h0 ⊢
  have hn0 : ((n : Int) == 0) = false := beq_eq_false_iff_ne.2 (by omega)
  have hK22 : K ≤ 22 := hk.2
  have HE0 : Hid (EvAt (w.alloc (.cells Ev.zero.cells.toArray 51)) w.heap.size Ev.zero) := Lib.hid (Rec.new w _ Ev.zero.cells _ rfl)
  clear hread hX hK hle hOl hS hm hn hB hO hk
  go_enter Tryz.func72, Tryz.ntmps72
  go_wp2_with (first
    | (go_at_call 67; (with_reducible refine (CK.out _).mono ?_); rintro r _ ⟨rfl, rfl⟩)
    | (go_at_call 43; (with_reducible refine (CF.out _).mono ?_); rintro r _ ⟨rfl, rfl⟩))
  have HW0 : Hid (EvAt ((w.alloc (.cells Ev.zero.cells.toArray 51)).alloc (.cells (⟨(K : Int), 0, 0, 0, 0, 0, 0, 0⟩ : Ev).cells.toArray 51)) w.heap.size Ev.zero ∧ EvAt ((w.alloc (.cells Ev.zero.cells.toArray 51)).alloc (.cells (⟨(K : Int), 0, 0, 0, 0, 0, 0, 0⟩ : Ev).cells.toArray 51)) (w.heap.size + 1) ⟨(K : Int), 0, 0, 0, 0, 0, 0, 0⟩ ∧ Below w.heap.size w ((w.alloc (.cells Ev.zero.cells.toArray 51)).alloc (.cells (⟨(K : Int), 0, 0, 0, 0, 0, 0, 0⟩ : Ev).cells.toArray 51))) := Lib.hid ⟨HE0.out.keep ((Below.refl _ _).alloc (Nat.le_refl _) _), Rec.new _ _ _ _ (by simp), ((Below.refl _ _).alloc (Nat.le_refl _) _).alloc (by simp) _⟩
  clear CK CF HE0
  go_loopw [5, 7] (fun at' i wr => ∃ (k a : Nat) (x : Ev), k ≤ m ∧ a ≤ n ∧ i = .int .i64 (k : Int) ∧ at' = .int .i64 (a : Int) ∧ Hid (EvAt wr w.heap.size Ev.zero) ∧ Hid (EvAt wr (w.heap.size + 1) x) ∧ Hid (Below w.heap.size w wr) ∧ Hid (rdFs b (l.drop k) x a = rdFs b l ⟨(K : Int), 0, 0, 0, 0, 0, 0, 0⟩ 1)) (fun _ i _ => m - (intOf i).toNat)
  case atStart => exact ⟨0, 1, ⟨(K : Int), 0, 0, 0, 0, 0, 0, 0⟩, Nat.zero_le _, by omega, rfl, rfl, Lib.hid HW0.out.1, Lib.hid HW0.out.2.1, Lib.hid HW0.out.2.2, Lib.hid rfl⟩
  case round =>
    obtain ⟨k, a, x, hk, ha, rfl, rfl, H1, H2, HB, HF⟩ := hrel
    obtain ⟨c0, c1, c2, c3, c4, c5, c6, c7⟩ := H1.out.reads
    obtain ⟨d0, d1, d2, d3, d4, d5, d6, d7⟩ := H2.out.reads
    have fz0 := Rec.frozen H1.out 0
    have fz1 := Rec.frozen H1.out 1
    have fz2 := Rec.frozen H1.out 2
    have fz3 := Rec.frozen H1.out 3
    have fz4 := Rec.frozen H1.out 4
    have fz5 := Rec.frozen H1.out 5
    have fz6 := Rec.frozen H1.out 6
    have fz7 := Rec.frozen H1.out 7
    have HPZ := Lib.hid (put_at H1.out Ev.zero)
    by_cases hlt : k < m
    · have hgt := HGT.out k
      have hkl : k < l.length := by rw [← HMM.out]; exact hlt
      have hdr : l.drop k = l.getD k 0 :: l.drop (k + 1) := by
        rw [List.drop_eq_getElem_cons hkl, List.getD_eq_getElem?_getD, List.getElem?_eq_getElem hkl]
        rfl
      rw [hdr] at HF
      have CN1 := Lib.hid (CN.out a ha wr HB.out)
      generalize l.getD k 0 = f at *
      cases hr : readN b a with
      | none =>
        rw [rdOut_none hr] at CN1
        dsimp only at CN1
        have HXN : Hid (X = (Ev.zero, 13)) := Lib.hid (by
          rw [HX.out]
          apply readOut_none
          rw [HRD.out, ← HF.out, rdFs_none hr])
        clear hr hdr hkl HF
        go_wp2_with (go_at_call 89; (with_reducible refine CN1.out.mono ?_); rintro r _ ⟨rfl, rfl⟩)
        obtain ⟨g0, g1, g2, g3, g4, g5, g6, g7⟩ := HPZ.out.reads
        simp only [putE, Ev.zero] at g0 g1 g2 g3 g4 g5 g6 g7
        refine bodyPost_ret (v := .tuple #[Ev.zero.v, .int .i64 13]) (by simp [results, Tryz.results72, go_sem, Ev.v, Ev.zero, g0, g1, g2, g3, g4, g5, g6, g7]) rfl ⟨by rw [HXN.out], ?_⟩
        exact put_below HB.out (Nat.le_refl _) Ev.zero
      | some y =>
        obtain ⟨v, p⟩ := y
        rw [rdOut_some hr] at CN1
        dsimp only at CN1
        have hpn := (readN_is HO.out hr).2.2.2
        have hap := (readN_is HO.out hr).2.2.1
        have HF2 : Hid (rdFs b (l.drop (k + 1)) (x.with f v) p = rdFs b l ⟨(K : Int), 0, 0, 0, 0, 0, 0, 0⟩ 1) := Lib.hid (by rw [← HF.out, rdFs_some hr])
        rw [← HN.out] at hpn
        have CW := Lib.hid (fun W => with_any x f v W)
        obtain ⟨y, hy⟩ : ∃ y, y = x.with f v := ⟨_, rfl⟩
        rw [← hy] at CW HF2
        unfold Ev.v at CW
        have hpp : decide ((p : Int) < 0) = false := by simp
        clear hr hdr hkl HF hy hap
        have HZ1 := H1
        clear HPZ fz0 fz1 fz2 fz3 fz4 fz5 fz6 fz7 c0 c1 c2 c3 c4 c5 c6 c7 HRD HX CN hc hblt
        go_wp2_with (go_at_call 89; (with_reducible refine CN1.out.mono ?_); rintro r _ ⟨rfl, rfl⟩)
        go_region_with (go_at_call 69; (with_reducible refine (CW.out _).mono ?_); rintro r w3 ⟨rfl, hb3⟩; have HB3 : Hid (Below wr.heap.size wr w3) := Lib.hid ⟨hb3.os, hb3.tape, hb3.output, hb3.size, hb3.block⟩; have H4 := Lib.hid (H2.out.keep HB3.out); obtain ⟨g0, g1, g2, g3, g4, g5, g6, g7⟩ := H4.out.reads; have gz0 := Rec.frozen H4.out 0; have gz1 := Rec.frozen H4.out 1; have gz2 := Rec.frozen H4.out 2; have gz3 := Rec.frozen H4.out 3; have gz4 := Rec.frozen H4.out 4; have gz5 := Rec.frozen H4.out 5; have gz6 := Rec.frozen H4.out 6; have gz7 := Rec.frozen H4.out 7; clear hb3)
        all_goals go_wp2
        all_goals go_roundw
        all_goals first
          | exact ⟨k + 1, p, y, by omega, hpn, by go_num, rfl, Lib.hid (put_other (H1.out.keep HB3.out) (by omega)), Lib.hid (put_at H4.out y), Lib.hid (put_below (HB.out.trans (HB3.out.mono HB.out.size)) (by omega) y), HF2⟩
          | (simp [intOf]; omega)
    · obtain rfl : k = m := by omega
      have hdr : l.drop k = [] := List.drop_eq_nil_of_le (by rw [HMM.out]; exact Nat.le_refl _)
      rw [hdr] at HF
      have HRE : Hid (readE b = if a = b.length ∧ rightE x = true then some x else none) := Lib.hid (by
        rw [HRD.out, ← HF.out]
        rfl)
      rw [← HN.out] at HRE
      have CR := Lib.hid (fun W => right_any x W)
      unfold Ev.v at CR
      clear hdr HF
      by_cases han : a = n
      · cases hrx : rightE x with
        | true =>
          have HXN : Hid (X = (x, 0)) := Lib.hid (by
            rw [HX.out]
            apply readOut_some
            rw [HRE.out, if_pos ⟨han, hrx⟩])
          rw [hrx] at CR
          have hne : ((a : Int) != (n : Int)) = false := by rw [bne_eq_false_iff_eq]; omega
          clear c0 c1 c2 c3 c4 c5 c6 c7 fz0 fz1 fz2 fz3 fz4 fz5 fz6 fz7 HPZ HRD HX CN HRE han hrx
          go_wp2_with (go_at_call 42; (with_reducible refine (CR.out _).mono ?_); rintro r w2 ⟨rfl, hb2⟩; have HB2 := Lib.hid hb2; have K1 := Lib.hid (H1.out.keep hb2); have K2 := Lib.hid (H2.out.keep hb2); obtain ⟨c0, c1, c2, c3, c4, c5, c6, c7⟩ := K1.out.reads; obtain ⟨e0, e1, e2, e3, e4, e5, e6, e7⟩ := K2.out.reads; have hz0 := Rec.frozen K1.out 0; have hz1 := Rec.frozen K1.out 1; have hz2 := Rec.frozen K1.out 2; have hz3 := Rec.frozen K1.out 3; have hz4 := Rec.frozen K1.out 4; have hz5 := Rec.frozen K1.out 5; have hz6 := Rec.frozen K1.out 6; have hz7 := Rec.frozen K1.out 7; clear hb2 d0 d1 d2 d3 d4 d5 d6 d7)
          obtain ⟨g0, g1, g2, g3, g4, g5, g6, g7⟩ := (put_at K1.out x).reads
          simp only [putE] at g0 g1 g2 g3 g4 g5 g6 g7
          refine bodyPost_ret (v := .tuple #[x.v, .int .i64 0]) (by simp [results, Tryz.results72, go_sem, Ev.v, g0, g1, g2, g3, g4, g5, g6, g7]) rfl ⟨by rw [HXN.out], ?_⟩
          exact put_below (HB.out.trans (HB2.out.mono HB.out.size)) (Nat.le_refl _) x
        | false =>
          have HXN : Hid (X = (Ev.zero, 13)) := Lib.hid (by
            rw [HX.out]
            apply readOut_none
            rw [HRE.out, if_neg (by rw [hrx]; simp)])
          rw [hrx] at CR
          have hne : ((a : Int) != (n : Int)) = false := by rw [bne_eq_false_iff_eq]; omega
          clear c0 c1 c2 c3 c4 c5 c6 c7 fz0 fz1 fz2 fz3 fz4 fz5 fz6 fz7 HPZ HRD HX CN HRE han hrx
          go_wp2_with (go_at_call 42; (with_reducible refine (CR.out _).mono ?_); rintro r w2 ⟨rfl, hb2⟩; have HB2 := Lib.hid hb2; have K1 := Lib.hid (H1.out.keep hb2); obtain ⟨c0, c1, c2, c3, c4, c5, c6, c7⟩ := K1.out.reads; have hz0 := Rec.frozen K1.out 0; have hz1 := Rec.frozen K1.out 1; have hz2 := Rec.frozen K1.out 2; have hz3 := Rec.frozen K1.out 3; have hz4 := Rec.frozen K1.out 4; have hz5 := Rec.frozen K1.out 5; have hz6 := Rec.frozen K1.out 6; have hz7 := Rec.frozen K1.out 7; clear hb2 d0 d1 d2 d3 d4 d5 d6 d7)
          obtain ⟨g0, g1, g2, g3, g4, g5, g6, g7⟩ := (put_at K1.out Ev.zero).reads
          simp only [putE, Ev.zero] at g0 g1 g2 g3 g4 g5 g6 g7
          refine bodyPost_ret (v := .tuple #[Ev.zero.v, .int .i64 13]) (by simp [results, Tryz.results72, go_sem, Ev.v, Ev.zero, g0, g1, g2, g3, g4, g5, g6, g7]) rfl ⟨by rw [HXN.out], ?_⟩
          exact put_below (HB.out.trans (HB2.out.mono HB.out.size)) (Nat.le_refl _) Ev.zero
      · have HXN : Hid (X = (Ev.zero, 13)) := Lib.hid (by
          rw [HX.out]
          apply readOut_none
          rw [HRE.out, if_neg (by omega)])
        have hne : ((a : Int) != (n : Int)) = true := by rw [bne_iff_ne]; omega
        go_wp2
        obtain ⟨g0, g1, g2, g3, g4, g5, g6, g7⟩ := HPZ.out.reads
        simp only [putE, Ev.zero] at g0 g1 g2 g3 g4 g5 g6 g7
        refine bodyPost_ret (v := .tuple #[Ev.zero.v, .int .i64 13]) (by simp [results, Tryz.results72, go_sem, Ev.v, Ev.zero, g0, g1, g2, g3, g4, g5, g6, g7]) rfl ⟨by rw [HXN.out], ?_⟩
        exact put_below HB.out (Nat.le_refl _) Ev.zero
theorem readev_any (A : Option Addr) (b : List Nat) (c : Nat) (w : World) (hB : Byts w A b) (hO : Oct b) (hl : b.length ≤ 1000000000000) : Calls Tryz.prog 72 #[.slice A b.length c] w (EvC w (readOut b)) := by
  by_cases h0 : 0 < b.length
  · by_cases hk : 1 ≤ b.getD 0 0 ∧ b.getD 0 0 ≤ 22
    · exact readev_main A b c w hB hO hl h0 hk
    · rw [readOut_none (by unfold readE; rw [if_neg (by omega)])]
      exact readev_kind A b c w hB hO hl h0 hk
  · have hb : b = [] := List.eq_nil_of_length_eq_zero (by omega)
    subst hb
    rw [readOut_none (by unfold readE; rw [if_neg (by simp)])]
    exact readev_empty A c w
end Go.Proofs.YtmpipjangbedkaaGreat

/-
  What is put is read, and nothing else is. (No program is named here.)
-/
namespace Go.Proofs.YtmpipjangbedkaaGreat
set_option maxRecDepth 8000
open Go Go.RowKit
set_option linter.unusedVariables false

theorem rdFs_put {e : Ev} (ok : e.Ok) {b : List Nat} : ∀ (l : List Nat) (x : Ev) (a : Nat) (r : List Nat), b.drop a = (l.flatMap fun f => numB (e.val f)) ++ r → rdFs b l x a = some (l.foldl (fun y f => y.with f (e.val f)) x, a + (l.flatMap fun f => numB (e.val f)).length) := by
  intro l
  induction l with
  | nil => intro x a r h; simp [rdFs]
  | cons f l ih =>
    intro x a r h
    rw [List.flatMap_cons, List.append_assoc] at h
    have hr := readN_put (ok.val f) h
    have hd : b.drop (a + (numB (e.val f)).length) = (l.flatMap fun f => numB (e.val f)) ++ r := by
      rw [← List.drop_drop, h, List.drop_left]
    rw [rdFs_some hr, ih _ _ r hd, List.foldl_cons, List.flatMap_cons, List.length_append, Nat.add_assoc]
theorem readE_put {e : Ev} (ok : e.Ok) (h : rightE e = true) : readE (putB e (fieldsOf e.kind)) = some e := by
  have hk := right_is h
  have h0 : (putB e (fieldsOf e.kind)).getD 0 0 = e.kind.toNat := rfl
  have hkn : ((e.kind.toNat : Nat) : Int) = e.kind := by omega
  unfold readE
  rw [h0, if_pos ⟨by unfold putB; simp, by omega, by omega⟩, hkn]
  have hd : (putB e (fieldsOf e.kind)).drop 1 = ((fieldsOf e.kind).flatMap fun f => numB (e.val f)) ++ [] := by unfold putB; simp
  rw [rdFs_put ok _ _ 1 [] hd]
  have hb : (fieldsOf e.kind).foldl (fun y f => y.with f (e.val f)) ⟨e.kind, 0, 0, 0, 0, 0, 0, 0⟩ = e := by
    unfold rightE at h
    rw [Bool.and_eq_true, Bool.and_eq_true] at h
    exact of_decide_eq_true h.2.2
  rw [hb]
  simp only
  rw [if_pos ⟨by unfold putB; rw [List.length_cons]; omega, h⟩]
theorem rdFs_is {b : List Nat} (hO : Oct b) : ∀ (l : List Nat) (x e : Ev) (a p : Nat), (∀ f ∈ l, letter f) → l.Nodup → x.Ok → rdFs b l x a = some (e, p) → e.Ok ∧ e.kind = x.kind ∧ (∀ g, letter g → g ∉ l → e.val g = x.val g) ∧ b.drop a = (l.flatMap fun f => numB (e.val f)) ++ b.drop p ∧ (a ≤ b.length → p ≤ b.length) := by
  intro l
  induction l with
  | nil =>
    intro x e a p _ _ hx h
    rw [rdFs] at h
    injection h with h
    injection h with h1 h2
    subst h1; subst h2
    exact ⟨hx, rfl, fun _ _ _ => rfl, by simp, id⟩
  | cons f l ih =>
    intro x e a p hl hn hx h
    cases hr : readN b a with
    | none => rw [rdFs_none hr] at h; cases h
    | some y =>
      obtain ⟨v, q⟩ := y
      rw [rdFs_some hr] at h
      obtain ⟨hv, hd, _, hq⟩ := readN_is hO hr
      have hlf := hl f (List.mem_cons_self ..)
      obtain ⟨hnf, hnl⟩ := List.nodup_cons.1 hn
      obtain ⟨k1, k2, k3, k4, k5⟩ := ih (x.with f v) e q p (fun g hg => hl g (List.mem_cons_of_mem _ hg)) hnl (hx.with f v hv) h
      have hef : e.val f = v := by rw [k3 f hlf hnf, val_with_same x v hlf]
      refine ⟨k1, k2.trans (kind_with x f v), fun g hg hgl => ?_, ?_, fun _ => k5 hq⟩
      · rw [k3 g hg (fun hm => hgl (List.mem_cons_of_mem _ hm)), val_with_other x v hlf hg (fun e => hgl (by rw [e]; exact List.mem_cons_self ..))]
      · rw [List.flatMap_cons, List.append_assoc, ← k4, hef, hd]
theorem readE_is {b : List Nat} (hO : Oct b) {e : Ev} (h : readE b = some e) : e.Ok ∧ rightE e = true ∧ putB e (fieldsOf e.kind) = b := by
  unfold readE at h
  by_cases hc : 0 < b.length ∧ 1 ≤ b.getD 0 0 ∧ b.getD 0 0 ≤ 22
  · rw [if_pos hc] at h
    obtain ⟨h0, h1, h2⟩ := hc
    cases hr : rdFs b (fieldsOf (b.getD 0 0 : Nat)) ⟨(b.getD 0 0 : Nat), 0, 0, 0, 0, 0, 0, 0⟩ 1 with
    | none => rw [hr] at h; cases h
    | some y =>
      obtain ⟨x, a⟩ := y
      rw [hr] at h
      simp only at h
      by_cases hx : a = b.length ∧ rightE x = true
      · rw [if_pos hx] at h
        injection h with h
        subst h
        have hz : I64 0 := by unfold I64; omega
        obtain ⟨k1, k2, _, k4, _⟩ := rdFs_is hO _ _ x 1 a (fields_letters _) (fields_nodup _) ⟨by unfold I64; simp only; omega, hz, hz, hz, hz, hz, hz, hz⟩ hr
        refine ⟨k1, hx.2, ?_⟩
        unfold putB
        rw [k2]
        simp only [Int.toNat_natCast]
        rw [hx.1, List.drop_length, List.append_nil] at k4
        rw [← k4]
        obtain ⟨c, r, rfl⟩ : ∃ c r, b = c :: r := by
          cases b with
          | nil => simp at h0
          | cons c r => exact ⟨c, r, rfl⟩
        simp
      · rw [if_neg hx] at h; cases h
  · rw [if_neg hc] at h; cases h
end Go.Proofs.YtmpipjangbedkaaGreat
