/-
  The walk of wire's meant.
-/
import Derived.Test.YtjkbnljjmbfmiaaDoorWp4
import Derived.Test.YtjkbnljjmbfmiaaDoorWp5
namespace Go.Proofs.YtjkbnljjmbfmiaaDoor
open Go Go.RowKit
set_option linter.unusedVariables false

/-- Strings in memory, from a block's start on. -/
def StrsAt (w : World) (g : Nat) (ws : List (List Nat)) : Prop := g < w.heap.size ∧ ∀ i, i < ws.length → w.cell? ⟨g, i, none⟩ = some (.string (bstr (ws.getD i [])))
theorem StrsAt.cell {w W : World} {g : Nat} {ws : List (List Nat)} (h : StrsAt w g ws) (hb : Below w.heap.size w W) {i : Nat} (hi : i < ws.length) : W.cell? ⟨g, i, none⟩ = some (.string (bstr (ws.getD i []))) := (hb.cell h.1).trans (h.2 i hi)
theorem own_strs {w : World} {base : Nat} {v : Value} {ws : List (List Nat)} (h : OwnS w base v ws) (h0 : 0 < ws.length) : ∃ g c, v = .slice (some ⟨g, 0, none⟩) ws.length c ∧ ws.length ≤ c ∧ base ≤ g ∧ StrsAt w g ws := by
  obtain ⟨A, c, rfl, hc, _, _, hp⟩ := OwnL.form h lay_str
  obtain ⟨g, rfl, hg, hlt, hcell⟩ := hp h0
  refine ⟨g, c, rfl, hc, hg, hlt, fun i hi => ?_⟩
  have := (hcell i hi 0 (by omega)).1
  rw [Nat.mul_one, Nat.add_zero] at this
  rw [this, List.getD_eq_getElem?_getD, List.getElem?_eq_getElem hi]
  rfl
theorem zero_ok : Ev.zero.Ok := by
  unfold Ev.zero
  constructor <;> (unfold I64; simp)
/-- What meant answers. -/
def MeantK (ws : List (List Nat)) (w : World) (r : Ending) (w' : World) : Prop := ∃ x ok, r = .returned (.tuple #[x.v, .bool ok]) ∧ x.Ok ∧ (∀ y, IsLine ws y → ok = true ∧ x = y) ∧ Below w.heap.size w w'
set_option maxRecDepth 8000 in
set_option maxHeartbeats 8000000 in
theorem wmeant_any (ws : List (List Nat)) (g c L : Nat) (hL : L = ws.length) (h0 : 0 < L) (hLc : L ≤ c) (hl1 : L ≤ 100000) (hO : ∀ i, i < L → Oct (ws.getD i [])) (hl : ∀ i, i < L → (ws.getD i []).length ≤ 1000000) (w : World) (hs : StrsAt w g ws) (hw : Laid w) :
    Calls Tryd.prog 34 #[.slice (some ⟨g, 0, none⟩) L c] w (MeantK ws w) := by
  have HST := Lib.hid (show ∀ W, Below w.heap.size w W → ∀ i, i < L → W.cell? ⟨g, i, none⟩ = some (.string (bstr (ws.getD i []))) from fun W hW i hi => hs.cell hW (by omega))
  have hglt := hs.1
  have HB00 := Lib.hid ((Below.refl w.heap.size w).alloc (Nat.le_refl _) (.cells Ev.zero.cells.toArray 23))
  have HR0 : Hid (EvAt (w.alloc (.cells Ev.zero.cells.toArray 23)) w.heap.size Ev.zero) := Lib.hid (Rec.new w _ Ev.zero.cells _ rfl)
  have hc0 := HST.out _ HB00.out 0 h0
  have CK := Lib.hid (wkindof_any (ws.getD 0 []) (hO 0 h0) (w.alloc (.cells Ev.zero.cells.toArray 23)))
  have CV : Hid (∀ i f, i < L → ∀ W, Below w.heap.size w W → Calls Tryd.prog 48 #[.string (bstr (ws.getD i [])), .int .i32 ((f : Nat) : Int)] W fun r w' => ∃ x ok, r = .returned (.tuple #[.int .i64 x, .bool ok]) ∧ ValIs (ws.getD i []) f x ok ∧ Below W.heap.size W w') := Lib.hid (fun i f hi W hW => wvalueof_any _ f (hO i hi) (hl i hi) W (hw.keep hW))
  have HLL := Lib.hid hL
  have hK0 : ∀ y, IsLine ws y → wordOf y.kind = ws.getD 0 [] := fun y hy => hy.first.symm
  have HK0 := Lib.hid hK0
  generalize bstr (ws.getD 0 []) = S0 at *
  simp only [Ev.cells, Ev.zero] at hc0 CK
  clear hO hl hw hs hL hK0
  go_enter Tryd.func34, Tryd.ntmps34
  go_wp2_with (first
    | (go_at_call 47; (with_reducible refine CK.out.mono ?_); rintro r w1 ⟨K, rfl, hk, hb1⟩; have HKI := Lib.hid hk; have HB1 := Lib.hid (HB00.out.trans (hb1.mono HB00.out.size)); have HR1 := Lib.hid (HR0.out.keep hb1); have CF := Lib.hid (fun W => pfields_any K W); (obtain ⟨l, hle⟩ : ∃ l, l = fieldsOf K := ⟨_, rfl⟩); rw [← hle] at CF; have HLE := Lib.hid hle; (obtain ⟨S, hS⟩ : ∃ S, S = bstr l := ⟨_, rfl⟩); rw [← hS] at CF; have HSS := Lib.hid hS; have hsz : S.size = l.length := (by rw [hS]; exact bstr_size l); (obtain ⟨m, hm⟩ : ∃ m, m = l.length := ⟨_, rfl⟩); rw [← hm] at hsz; have HMM := Lib.hid hm; clear hk hb1 hle hS hm CK)
    | (go_at_call 26; (with_reducible refine (CF.out _).mono ?_); rintro r _ ⟨rfl, rfl⟩; have hm5 : m ≤ 5 := (by have := fields_len K; rw [HMM.out, HLE.out]; exact this); have HR2 := Lib.hid (HR1.out.keep ((Below.refl _ w1).alloc (Nat.le_refl _) (.cells (⟨K, 0, 0, 0, 0, 0, 0, 0⟩ : Ev).cells.toArray 23))); (obtain ⟨c0, c1, c2, c3, c4, c5, c6, c7⟩ := HR2.out.reads); have fz0 := Rec.frozen HR2.out 0; have fz1 := Rec.frozen HR2.out 1; have fz2 := Rec.frozen HR2.out 2; have fz3 := Rec.frozen HR2.out 3; have fz4 := Rec.frozen HR2.out 4; have fz5 := Rec.frozen HR2.out 5; have fz6 := Rec.frozen HR2.out 6; have fz7 := Rec.frozen HR2.out 7; simp only [Ev.cells, Ev.zero] at c0 c1 c2 c3 c4 c5 c6 c7 fz0 fz1 fz2 fz3 fz4 fz5 fz6 fz7; cases hq : ((L : Int) != 1 + (m : Int))))
  · have HLM : Hid (L = 1 + m) := Lib.hid (by have := bne_eq_false_iff_eq.1 hq; omega)
    have HBQ := Lib.hid (HB1.out.alloc HB1.out.size (.cells (⟨K, 0, 0, 0, 0, 0, 0, 0⟩ : Ev).cells.toArray 23))
    have HWE : Hid (EvAt (w1.alloc (.cells (⟨K, 0, 0, 0, 0, 0, 0, 0⟩ : Ev).cells.toArray 23)) w1.heap.size ⟨K, 0, 0, 0, 0, 0, 0, 0⟩) := Lib.hid (Rec.new w1 _ _ _ rfl)
    have HW0 : Hid (EvAt ((w1.alloc (.cells (⟨K, 0, 0, 0, 0, 0, 0, 0⟩ : Ev).cells.toArray 23)).iter S 0) w.heap.size Ev.zero ∧ EvAt ((w1.alloc (.cells (⟨K, 0, 0, 0, 0, 0, 0, 0⟩ : Ev).cells.toArray 23)).iter S 0) w1.heap.size ⟨K, 0, 0, 0, 0, 0, 0, 0⟩ ∧ Below w.heap.size w ((w1.alloc (.cells (⟨K, 0, 0, 0, 0, 0, 0, 0⟩ : Ev).cells.toArray 23)).iter S 0)) := Lib.hid ⟨HR2.out.keep ((Below.refl _ _).alloc (Nat.le_refl _) _), HWE.out.keep ((Below.refl _ _).alloc (Nat.le_refl _) _), HBQ.out.alloc HBQ.out.size _⟩
    have HI0 : Hid (((w1.alloc (.cells (⟨K, 0, 0, 0, 0, 0, 0, 0⟩ : Ev).cells.toArray 23)).iter S 0).heap[w1.heap.size + 1]? = some (.stringIter S 0)) := Lib.hid (by
      have := World.iter_heap (w1.alloc (.cells (⟨K, 0, 0, 0, 0, 0, 0, 0⟩ : Ev).cells.toArray 23)) S 0
      simpa using this)
    have HH0 : Hid (Half ws K 0 ⟨K, 0, 0, 0, 0, 0, 0, 0⟩) := Lib.hid ⟨by have := HKI.out.1; constructor <;> (unfold I64; simp) <;> omega, rfl, fun y hy => by
      have hk := HKI.out.2 y.kind (right_kinds hy.right).1 (right_kinds hy.right).2 (HK0.out y hy)
      exact ⟨hk.symm, by rw [List.take_zero]; unfold bareOf; rw [List.foldl_nil, hk]⟩⟩
    have HLT : Hid (∀ j, j < m → lett (l.getD j 0)) := Lib.hid (by rw [HMM.out, HLE.out]; exact fields_lett _)
    have HGT : Hid (∀ k (h : k < S.size), (S[k]'h).toNat = l.getD k 0) := Lib.hid (by
      have hS := HSS.out
      subst hS
      intro k h
      exact bstr_get l (by rw [HLE.out]; exact fields_oct _) k h)
    have hblt : w.heap.size < w1.heap.size := by have := HR1.out.lt; exact this
    clear c0 c1 c2 c3 c4 c5 c6 c7 fz0 fz1 fz2 fz3 fz4 fz5 fz6 fz7 HR1 HR2 HB00 HR0 hc0 HBQ HWE HK0 HKI hq CF HSS
    go_loopw [] (fun wr => ∃ (k : Nat) (x : Ev), k ≤ m ∧ Hid (wr.heap[w1.heap.size + 1]? = some (.stringIter S k)) ∧ Hid (EvAt wr w.heap.size Ev.zero) ∧ Hid (EvAt wr w1.heap.size x) ∧ Hid (Below w.heap.size w wr) ∧ Hid (Half ws K k x)) (fun wr => m - wr.iterPos (w1.heap.size + 1))
    case atStart => exact ⟨0, _, Nat.zero_le _, HI0, Lib.hid HW0.out.1, Lib.hid HW0.out.2.1, Lib.hid HW0.out.2.2, HH0⟩
    case round =>
      obtain ⟨k, x, hk, HI, H1, H2, HB, HF⟩ := hrel
      have hpos : wr.iterPos (w1.heap.size + 1) = k := iterPos_of HI.out
      by_cases hlt : k < m
      · have hszk : k < S.size := by rw [hsz]; exact hlt
        have hgt := HGT.out k hszk
        have hlf := HLT.out k hlt
        obtain ⟨f, hf⟩ : ∃ f, f = l.getD k 0 := ⟨_, rfl⟩
        rw [← hf] at hgt hlf
        have HFF : Hid (f = (fieldsOf K).getD k 0) := Lib.hid (by rw [hf, HLE.out])
        have HKL : Hid (k < (fieldsOf K).length) := Lib.hid (by rw [← HLE.out, ← HMM.out]; exact hlt)
        have hnx : ∀ ty, (Instr.next (.pointer (some ⟨w1.heap.size + 1, 0, none⟩)) true ty).run Tryd.prog wr = .ok (.tuple #[.bool true, .int .i64 k, .int .i32 (f : Int)]) (wr.iterAt (w1.heap.size + 1) S (k + 1)) := fun ty => by
          rw [Lib.run_next_ascii_at wr _ S k ty HI.out hszk (by rw [hgt]; exact lett_lt hlf), hgt]
        have HI2 := Lib.hid (Lib.iterAt_heap wr (w1.heap.size + 1) S k (k + 1) HI.out)
        have J1 : Hid (EvAt (wr.iterAt (w1.heap.size + 1) S (k + 1)) w.heap.size Ev.zero) := Lib.hid (Rec.touch H1.out (touch_iter wr (w1.heap.size + 1) S (k + 1)) (iter_not_rec HI.out H1.out))
        have J2 : Hid (EvAt (wr.iterAt (w1.heap.size + 1) S (k + 1)) w1.heap.size x) := Lib.hid (Rec.touch H2.out (touch_iter wr (w1.heap.size + 1) S (k + 1)) (iter_not_rec HI.out H2.out))
        have HB3 := Lib.hid (Lib.below_iterAt HB.out (k := w1.heap.size + 1) (by omega) S (k + 1))
        generalize wr.iterAt (w1.heap.size + 1) S (k + 1) = wi at *
        have hk1L : k + 1 < L := by have := HLM.out; omega
        have hck : wi.cell? ⟨g, 1 + k, none⟩ = some (.string (bstr (ws.getD (k + 1) []))) := by rw [Nat.add_comm 1 k]; exact HST.out wi HB3.out (k + 1) hk1L
        have CV1 := Lib.hid (CV.out (k + 1) f hk1L wi HB3.out)
        have HVV : Hid (∀ n ok, ValIs (ws.getD (k + 1) []) f n ok → ∀ y, IsLine ws y → ok = true ∧ n = y.val ((fieldsOf K).getD k 0)) := Lib.hid (fun n ok hv => HF.out.val HKL.out (by rw [← HFF.out]; exact hv))
        generalize bstr (ws.getD (k + 1) []) = Sk at *
        clear hf hgt hszk H1 H2 HI HB
        go_wp2_with (go_at_call 48; (with_reducible refine CV1.out.mono ?_); rintro r w4 ⟨n, ok, rfl, hv, hb4⟩; have HN64 := Lib.hid hv.1; have HV := Lib.hid (HVV.out n ok hv); have I3 := Lib.hid (iter_keep HI2.out hb4); have K1 := Lib.hid (J1.out.keep hb4); have K2 := Lib.hid (J2.out.keep hb4); have HB4 := Lib.hid (HB3.out.trans (hb4.mono HB3.out.size)); clear hv hb4 CV1; have CW := Lib.hid (fun W => wwith_any x f hlf n W); (obtain ⟨y, hy⟩ : ∃ y, y = x.with f n := ⟨_, rfl⟩); rw [← hy] at CW; have HY := Lib.hid hy; clear hy; (obtain ⟨d0, d1, d2, d3, d4, d5, d6, d7⟩ := K2.out.reads); (obtain ⟨c0, c1, c2, c3, c4, c5, c6, c7⟩ := K1.out.reads); have fz0 := Rec.frozen K1.out 0; have fz1 := Rec.frozen K1.out 1; have fz2 := Rec.frozen K1.out 2; have fz3 := Rec.frozen K1.out 3; have fz4 := Rec.frozen K1.out 4; have fz5 := Rec.frozen K1.out 5; have fz6 := Rec.frozen K1.out 6; have fz7 := Rec.frozen K1.out 7; unfold Ev.v at CW; cases ok)
        · have HPZ := Lib.hid (put_at K1.out Ev.zero)
          go_wp2
          obtain ⟨g0, g1, g2, g3, g4, g5, g6, g7⟩ := HPZ.out.reads
          simp only [putE, Ev.zero] at g0 g1 g2 g3 g4 g5 g6 g7
          refine bodyPost_ret (v := .tuple #[Ev.zero.v, .bool false]) (by simp [results, Tryd.results34, go_sem, Ev.v, Ev.zero, g0, g1, g2, g3, g4, g5, g6, g7]) rfl ⟨Ev.zero, false, rfl, zero_ok, fun y hy => absurd (HV.out y hy).1 (by simp), ?_⟩
          exact put_below HB4.out (Nat.le_refl _) Ev.zero
        · clear c0 c1 c2 c3 c4 c5 c6 c7 fz0 fz1 fz2 fz3 fz4 fz5 fz6 fz7
          go_wp2_with (go_at_call 49; (with_reducible refine (CW.out _).mono ?_); rintro r' w5 ⟨rfl, hb5⟩; have HB5 := Lib.hid hb5; have H4 := Lib.hid (K2.out.keep hb5); obtain ⟨g0, g1, g2, g3, g4, g5, g6, g7⟩ := H4.out.reads; have gz0 := Rec.frozen H4.out 0; have gz1 := Rec.frozen H4.out 1; have gz2 := Rec.frozen H4.out 2; have gz3 := Rec.frozen H4.out 3; have gz4 := Rec.frozen H4.out 4; have gz5 := Rec.frozen H4.out 5; have gz6 := Rec.frozen H4.out 6; have gz7 := Rec.frozen H4.out 7; clear hb5)
          have HI4 := Lib.hid (iter_touch (iter_keep I3.out HB5.out) (put_touch w5 w1.heap.size y) (by omega))
          go_roundw
          case rel => exact ⟨k + 1, y, by omega, HI4, Lib.hid (put_other (K1.out.keep HB5.out) (by omega)), Lib.hid (put_at H4.out y), Lib.hid (put_below (HB4.out.trans (HB5.out.mono HB4.out.size)) (by omega) y), Lib.hid (by rw [HY.out, HFF.out]; exact HF.out.more HKL.out HN64.out (fun z hz => (HV.out z hz).2))⟩
          case measure => exact Nat.lt_of_le_of_lt (Nat.le_of_eq (congrArg (fun z => m - z) (iterPos_of HI4.out))) (by rw [hpos]; omega)
      · obtain rfl : k = m := by omega
        have hnx : ∀ ty, (Instr.next (.pointer (some ⟨w1.heap.size + 1, 0, none⟩)) true ty).run Tryd.prog wr = .ok (.tuple #[.bool false]) wr := fun ty => Lib.run_next_end_at wr _ S k ty HI.out (by rw [hsz]; omega)
        have HFA : Hid (∀ y, IsLine ws y → x = y) := Lib.hid (fun y hy => Half.all (by rw [← HLE.out, ← HMM.out]; exact HF.out) y hy)
        obtain ⟨d0, d1, d2, d3, d4, d5, d6, d7⟩ := H2.out.reads
        obtain ⟨c0, c1, c2, c3, c4, c5, c6, c7⟩ := H1.out.reads
        have fz0 := Rec.frozen H1.out 0; have fz1 := Rec.frozen H1.out 1; have fz2 := Rec.frozen H1.out 2; have fz3 := Rec.frozen H1.out 3; have fz4 := Rec.frozen H1.out 4; have fz5 := Rec.frozen H1.out 5; have fz6 := Rec.frozen H1.out 6; have fz7 := Rec.frozen H1.out 7
        have HPX := Lib.hid (put_at H1.out x)
        go_wp2
        obtain ⟨g0, g1, g2, g3, g4, g5, g6, g7⟩ := HPX.out.reads
        simp only [putE] at g0 g1 g2 g3 g4 g5 g6 g7
        refine bodyPost_ret (v := .tuple #[x.v, .bool true]) (by simp [results, Tryd.results34, go_sem, Ev.v, g0, g1, g2, g3, g4, g5, g6, g7]) rfl ⟨x, true, rfl, HF.out.1, fun y hy => ⟨rfl, HFA.out y hy⟩, ?_⟩
        exact put_below HB.out (Nat.le_refl _) x
  · have HNO : Hid (∀ y, IsLine ws y → false = true ∧ Ev.zero = y) := Lib.hid (fun y hy => by
      have hk := HKI.out.2 y.kind (right_kinds hy.right).1 (right_kinds hy.right).2 (HK0.out y hy)
      have h1 := hy.count
      rw [← HLL.out, ← hk, ← HLE.out, ← HMM.out] at h1
      have h2 := bne_iff_ne.1 hq
      omega)
    have HPZ := Lib.hid (put_at HR2.out Ev.zero)
    have HBQ := Lib.hid (HB1.out.alloc HB1.out.size (.cells (⟨K, 0, 0, 0, 0, 0, 0, 0⟩ : Ev).cells.toArray 23))
    obtain ⟨g0, g1, g2, g3, g4, g5, g6, g7⟩ := HPZ.out.reads
    simp only [putE, Ev.zero, Ev.cells] at g0 g1 g2 g3 g4 g5 g6 g7
    refine bodyPost_ret (v := .tuple #[Ev.zero.v, .bool false]) (by simp [results, Tryd.results34, go_sem, Ev.v, Ev.zero, g0, g1, g2, g3, g4, g5, g6, g7]) rfl ⟨Ev.zero, false, rfl, zero_ok, HNO.out, ?_⟩
    exact put_below HBQ.out (Nat.le_refl _) Ev.zero
end Go.Proofs.YtjkbnljjmbfmiaaDoor
