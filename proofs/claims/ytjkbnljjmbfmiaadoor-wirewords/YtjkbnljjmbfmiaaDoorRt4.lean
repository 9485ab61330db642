/-
  The walk of the reference's Parse.
-/
import Derived.Test.YtjkbnljjmbfmiaaDoorRt1
import Derived.Test.YtjkbnljjmbfmiaaDoorRt2
import Derived.Test.YtjkbnljjmbfmiaaDoorRt3
import Derived.Laws.Strings
namespace Go.Proofs.YtjkbnljjmbfmiaaDoor
open Go Go.RowKit
set_option linter.unusedVariables false

theorem bstr_equal {a b : List Nat} (ha : Oct a) (hb : Oct b) (h : bstr a = bstr b) : a = b := by
  have h1 := congrArg (fun x : ByteArray => x.data.toList) h
  simp only [bstr_list] at h1
  have inj : ∀ (a b : List Nat), Oct a → Oct b → a.map UInt8.ofNat = b.map UInt8.ofNat → a = b := by
    intro a
    induction a with
    | nil => intro b _ _ h; cases b with
      | nil => rfl
      | cons y b => simp at h
    | cons x a ih =>
      intro b ha hb h
      cases b with
      | nil => simp at h
      | cons y b =>
        simp only [List.map_cons, List.cons.injEq] at h
        have hx := ha x (List.mem_cons_self ..)
        have hy := hb y (List.mem_cons_self ..)
        have h2 := congrArg UInt8.toNat h.1
        simp at h2
        rw [ih b (fun z hz => ha z (List.mem_cons_of_mem _ hz)) (fun z hz => hb z (List.mem_cons_of_mem _ hz)) h.2, show x = y by omega]
  exact inj a b ha hb h1
theorem beq_bytes {a b : List Nat} (ha : Oct a) (hb : Oct b) : ((bstr a).toList == (bstr b).toList) = decide (a = b) := by
  by_cases h : a = b
  · subst h; simp
  · rw [decide_eq_false h]
    exact beq_eq_false_iff_ne.2 (fun h1 => h (bstr_equal ha hb (by rw [ByteArray.toList_eq, ByteArray.toList_eq] at h1; exact Go.WideShapes.bytes_inj h1)))
/-- Strings in memory, from a block's start on. -/
def PartsAt (w : World) (g : Nat) (ws : List (List Nat)) : Prop := g < w.heap.size ∧ ∀ i, i < ws.length → w.cell? ⟨g, i, none⟩ = some (.string (bstr (ws.getD i [])))
theorem PartsAt.cell {w W : World} {g : Nat} {ws : List (List Nat)} (h : PartsAt w g ws) (hb : Below w.heap.size w W) {i : Nat} (hi : i < ws.length) : W.cell? ⟨g, i, none⟩ = some (.string (bstr (ws.getD i []))) := (hb.cell h.1).trans (h.2 i hi)
theorem own_parts {w : World} {base : Nat} {v : Value} {ws : List (List Nat)} (h : OwnS w base v ws) (h0 : 0 < ws.length) : ∃ g c, v = .slice (some ⟨g, 0, none⟩) ws.length c ∧ ws.length ≤ c ∧ base ≤ g ∧ PartsAt w g ws := by
  obtain ⟨A, c, rfl, hc, _, _, hp⟩ := OwnL.form h lay_str
  obtain ⟨g, rfl, hg, hlt, hcell⟩ := hp h0
  refine ⟨g, c, rfl, hc, hg, hlt, fun i hi => ?_⟩
  have := (hcell i hi 0 (by omega)).1
  rw [Nat.mul_one, Nat.add_zero] at this
  rw [this, List.getD_eq_getElem?_getD, List.getElem?_eq_getElem hi]
  rfl
/-- Which kind has this word, of those below k. -/
def KindTo (l : List Nat) (k : Nat) (K : Int) : Prop := (0 ≤ K ∧ K ≤ 22) ∧ ∀ j : Int, 1 ≤ j → j < k → wordOf j = l → K = j
theorem KindTo.hit {l : List Nat} {k : Nat} {K : Int} (h : KindTo l k K) (h1 : 1 ≤ k) (h2 : k ≤ 22) (he : wordOf (k : Int) = l) : KindTo l (k + 1) (k : Int) :=
  ⟨by omega, fun j g1 g2 g3 => word_inj ⟨by omega, by omega⟩ ⟨g1, by omega⟩ (he.trans g3.symm)⟩
theorem KindTo.miss {l : List Nat} {k : Nat} {K : Int} (h : KindTo l k K) (he : wordOf (k : Int) ≠ l) : KindTo l (k + 1) K :=
  ⟨h.1, fun j g1 g2 g3 => by
    by_cases hj : j = (k : Int)
    · exact absurd (by rw [← hj]; exact g3) he
    · exact h.2 j g1 (by omega) g3⟩
theorem zero_is_ok : Ev.zero.Ok := by
  unfold Ev.zero
  constructor <;> (unfold I64; simp)
theorem loF_big (k : Int) (f : Nat) : -1152921504606846976 ≤ loF k f := by
  unfold loF loQ loP
  repeat' split
  all_goals omega
/-- What Parse answers. -/
def RParseK (b : List Nat) (w : World) (r : Ending) (w' : World) : Prop := ∃ x c, r = .returned (.tuple #[x.v, .int .i64 c]) ∧ Parsed b x c ∧ Below w.heap.size w w'
theorem rparsed_none {b : List Nat} (h : ∀ y : Ev, y.Ok → rightE y = true → textL y ≠ b) : Parsed b Ev.zero 1 := Or.inr ⟨rfl, rfl, h⟩
/-- What is told of a field's word. -/
theorem Half.side {ws : List (List Nat)} {K : Int} {k : Nat} {x : Ev} (h : Half ws K k x) (hk : k < (fieldsOf K).length) (hf : (fieldsOf K).getD k 0 = 83) (n : Int) (hn : n = if sideOf K 2 = ws.getD (k + 1) [] then 2 else 1) : ∀ y, IsLine ws y → n = y.val ((fieldsOf K).getD k 0) := by
  intro y hy
  obtain ⟨h4, _⟩ := h.2.2 y hy
  have h83 : 83 ∈ fieldsOf y.kind := by
    rw [h4, ← hf, List.getD_eq_getElem?_getD, List.getElem?_eq_getElem hk]
    exact List.getElem_mem _
  have hs := right_side hy.right h83
  have hw := hy.field (k := k) (by rw [h4]; exact hk)
  rw [h4, hf] at hw
  rw [hf]
  have hv : y.val 83 = y.side := rfl
  have hfl : fieldL y 83 = sideOf K y.side := by unfold fieldL; rw [if_pos rfl, h4]
  rw [hfl] at hw
  rw [hv, hn]
  rcases hs with e | e
  · rw [if_neg ?_, e]
    intro h2
    rw [hw, e] at h2
    have := sideOf_inj (.inr rfl) (.inl rfl) h2
    omega
  · rw [if_pos (by rw [hw, e]), e]
theorem Half.num {ws : List (List Nat)} {K : Int} {k : Nat} {x : Ev} (h : Half ws K k x) (hk : k < (fieldsOf K).length) (hf : (fieldsOf K).getD k 0 ≠ 83) {n : Int} {ok : Bool} (hw : WholeIs (ws.getD (k + 1) []) n ok) : ∀ y, IsLine ws y → ok = true ∧ n = y.val ((fieldsOf K).getD k 0) := by
  intro y hy
  obtain ⟨h4, _⟩ := h.2.2 y hy
  have hm : (fieldsOf K).getD k 0 ∈ fieldsOf y.kind := by
    rw [h4, List.getD_eq_getElem?_getD, List.getElem?_eq_getElem hk]
    exact List.getElem_mem _
  have hb := right_inF hy.right hm
  have hlo := loF_big y.kind ((fieldsOf K).getD k 0)
  have ho := hy.ok.val ((fieldsOf K).getD k 0)
  unfold I64 at ho
  have hwd := hy.field (k := k) (by rw [h4]; exact hk)
  rw [h4] at hwd
  refine hw.2 _ (by omega) (by omega) ?_
  rw [hwd]
  unfold fieldL
  rw [if_neg hf]
set_option maxRecDepth 8000 in
set_option maxHeartbeats 8000000 in
theorem rparse_any (A : Option Addr) (b : List Nat) (n c : Nat) (w : World) (hn : n = b.length) (hB : Byts w A b) (hO : Oct b) (hl : n ≤ 1000000000000) : Calls Tryd.prog 33 #[.slice A n c] w (RParseK b w) := by
  have HB00 := Lib.hid ((Below.refl w.heap.size w).alloc (Nat.le_refl _) (.cells Ev.zero.cells.toArray 23))
  have HR0 : Hid (EvAt (w.alloc (.cells Ev.zero.cells.toArray 23)) w.heap.size Ev.zero) := Lib.hid (Rec.new w _ Ev.zero.cells _ rfl)
  by_cases h120 : n ≤ 120
  · have hd : decide (120 < (n : Int)) = false := decide_eq_false (by omega)
    have hst := run_bstr (w.alloc (.cells Ev.zero.cells.toArray 23)) A b n c hn (hB.below HB00.out)
    have HSTR : Hid (∀ W, Below w.heap.size w W → (convert 38 9 (.slice A n c)).run Tryd.prog W = .ok (.string (bstr b)) W) := Lib.hid (fun W hW => run_bstr W A b n c hn (hB.below hW))
    have CW := Lib.hid (rparts_any b hO (by omega) (w.alloc (.cells Ev.zero.cells.toArray 23)))
    have HBS := Lib.hid (fun x : Ev => beq_bytes (text_oct x) hO)
    obtain ⟨ws, hws⟩ : ∃ ws, ws = cutB b := ⟨_, rfl⟩
    have HG : Hid (∀ y : Ev, y.Ok → rightE y = true → textL y = b → IsLine ws y) := Lib.hid (fun y o r t => by rw [hws]; exact line_of o r t)
    have HWO : Hid (∀ i, i < ws.length → Oct (ws.getD i [])) := Lib.hid (fun i hi => by rw [List.getD_eq_getElem?_getD, List.getElem?_eq_getElem hi]; exact cut_oct hO _ (by rw [← hws]; exact List.getElem_mem hi))
    have HWL : Hid (∀ i, i < ws.length → (ws.getD i []).length ≤ 1000000) := Lib.hid (fun i hi => by
      have := (cut_bound b).1 (ws.getD i []) (by rw [← hws, List.getD_eq_getElem?_getD, List.getElem?_eq_getElem hi]; exact List.getElem_mem hi)
      omega)
    have HWC : Hid (0 < ws.length ∧ ws.length ≤ 121) := Lib.hid ⟨by rw [hws]; exact List.length_pos_iff.2 (cut_ne b), by rw [hws]; have := (cut_bound b).2; omega⟩
    rw [← hws] at CW
    obtain ⟨S, hS⟩ : ∃ S, S = bstr b := ⟨_, rfl⟩
    rw [← hS] at CW hst HBS HSTR
    clear hws hB hO hS hn
    simp only [Ev.cells, Ev.zero] at hst CW
    go_enter Tryd.func33, Tryd.ntmps33
    go_wp2_with (go_at_call 45; (with_reducible refine CW.out.mono ?_); rintro r w1 ⟨v, rfl, hv, hb1⟩; (obtain ⟨g, cg, rfl, hcg, _, hsg⟩ := own_parts hv HWC.out.1); have HB1 := Lib.hid (HB00.out.trans (hb1.mono HB00.out.size)); have HR1 := Lib.hid (HR0.out.keep hb1); (obtain ⟨L, hL⟩ : ∃ L, L = ws.length := ⟨_, rfl⟩); rw [← hL] at hcg HWO HWL HWC; have HST := Lib.hid (show ∀ W, Below w1.heap.size w1 W → ∀ i, i < L → W.cell? ⟨g, i, none⟩ = some (.string (bstr (ws.getD i []))) from fun W hW i hi => hsg.cell hW (by omega)); rw [← hL]; have HLL := Lib.hid hL; clear hv hb1 hsg CW hL)
    have hLp : 0 < L := HWC.out.1
    have hLm : L ≤ 121 := HWC.out.2
    have hblt : w.heap.size < w1.heap.size := HR1.out.lt
    have HQ0 := Lib.hid (fun k : Int => beq_bytes (word_octs k) (HWO.out 0 hLp))
    have HK0 : Hid (∀ y, IsLine ws y → wordOf y.kind = ws.getD 0 []) := Lib.hid (fun y hy => hy.first.symm)
    have HST0 : Hid (∀ W, Below w1.heap.size w1 W → W.cell? ⟨g, 0, none⟩ = some (.string (bstr (ws.getD 0 [])))) := Lib.hid (fun W hW => HST.out W hW 0 hLp)
    have HBE : Hid (Below w1.heap.size w1 (w1.alloc (.cells (⟨0, 0, 0, 0, 0, 0, 0, 0⟩ : Ev).cells.toArray 23))) := Lib.hid ((Below.refl _ _).alloc (Nat.le_refl _) _)
    have HEE : Hid (EvAt (w1.alloc (.cells (⟨0, 0, 0, 0, 0, 0, 0, 0⟩ : Ev).cells.toArray 23)) w1.heap.size ⟨0, 0, 0, 0, 0, 0, 0, 0⟩) := Lib.hid (Rec.new w1 _ _ _ rfl)
    have CWD := Lib.hid (fun k W => word_any k W)
    obtain ⟨q0, hq0⟩ : ∃ q, q = ws.getD 0 [] := ⟨_, rfl⟩
    rw [← hq0] at HQ0 HK0 HST0
    obtain ⟨S0, hS0⟩ : ∃ q, q = bstr q0 := ⟨_, rfl⟩
    rw [← hS0] at HQ0 HST0
    clear HB00 HR0 hst hS0 hq0
    go_loopw [6] (fun i wr => ∃ (k : Nat) (kd : Int), i = .int .i64 (k : Int) ∧ 1 ≤ k ∧ k ≤ 23 ∧ Hid (KindTo q0 k kd) ∧ Hid (EvAt wr w1.heap.size ⟨kd, 0, 0, 0, 0, 0, 0, 0⟩) ∧ Hid (Below w1.heap.size w1 wr)) (fun i _ => 23 - (intOf i).toNat)
    case atStart => exact ⟨1, 0, rfl, by omega, by omega, Lib.hid ⟨by omega, fun j h1 h2 => by omega⟩, HEE, HBE⟩
    case round =>
      obtain ⟨k, kd, rfl, hk1, hk2, HK, HE, HB⟩ := hrel
      by_cases hk : k ≤ 22
      · have hkk : (k : Int) ≤ 22 := by omega
        have hq := HQ0.out (k : Int)
        have CW1 := Lib.hid (fun W => CWD.out (k : Int) W)
        have hc0 := HST0.out wr HB.out
        generalize bstr (wordOf (k : Int)) = Sk at *
        by_cases he' : wordOf (k : Int) = q0
        · rw [decide_eq_true he'] at hq
          have HK2 := Lib.hid (HK.out.hit hk1 hk he')
          clear he'
          go_wp2
          go_region_with (go_at_call 16; (with_reducible refine (CW1.out _).mono ?_); rintro r w2 ⟨rfl, hb2⟩; have HB2 := Lib.hid (below_dr hb2); have HE2 := Lib.hid (HE.out.keep (below_dr hb2)); have HBB := Lib.hid (HB.out.trans ((below_dr hb2).mono HB.out.size)); have hc2 := HST0.out w2 HBB.out; have d0 := HE2.out.reads.1; have z0 := Rec.frozen HE2.out 0; clear hb2)
          all_goals go_wp2
          all_goals go_roundw
          all_goals first
            | exact ⟨k + 1, (k : Int), by go_num, by omega, by omega, HK2, Lib.hid (Rec.set HE2.out 0 _), Lib.hid (HBB.out.setCell (p := ⟨w1.heap.size, 0, none⟩) (Nat.le_refl _) _)⟩
            | (simp [intOf]; omega)
        · rw [decide_eq_false he'] at hq
          have HK2 := Lib.hid (HK.out.miss he')
          clear he'
          go_wp2
          go_region_with (go_at_call 16; (with_reducible refine (CW1.out _).mono ?_); rintro r w2 ⟨rfl, hb2⟩; have HE2 := Lib.hid (HE.out.keep (below_dr hb2)); have HBB := Lib.hid (HB.out.trans ((below_dr hb2).mono HB.out.size)); have hc2 := HST0.out w2 HBB.out; clear hb2)
          all_goals go_wp2
          all_goals go_roundw
          all_goals first
            | exact ⟨k + 1, kd, by go_num, by omega, by omega, HK2, HE2, HBB⟩
            | (simp [intOf]; omega)
      · obtain rfl : k = 23 := by omega
        have hkk : decide ((23 : Int) ≤ 22) = false := by decide
        have HKY : Hid (∀ y, IsLine ws y → kd = y.kind) := Lib.hid (fun y hy => HK.out.2 y.kind (right_kinds hy.right).1 (by have := (right_kinds hy.right).2; omega) (HK0.out y hy))
        have hKr := HK.out.1
        have CF := Lib.hid (fun W => fields_any kd W)
        have CK := Lib.hid (fun W => kind_any kd W)
        obtain ⟨l, hle⟩ : ∃ l, l = fieldsOf kd := ⟨_, rfl⟩
        rw [← hle] at CF
        have HLE := Lib.hid hle
        obtain ⟨Sf, hSf⟩ : ∃ S, S = bstr l := ⟨_, rfl⟩
        rw [← hSf] at CF
        have HSS := Lib.hid hSf
        have hszf : Sf.size = l.length := by rw [hSf]; exact bstr_size l
        obtain ⟨m, hm⟩ : ∃ m, m = l.length := ⟨_, rfl⟩
        rw [← hm] at hszf
        have HMM := Lib.hid hm
        have hm5 : m ≤ 5 := by have := fields_len kd; rw [hm, hle]; exact this
        clear hm hSf hle
        have HRW := Lib.hid (HR1.out.keep HB.out)
        have HBW := Lib.hid (HB1.out.trans (HB.out.mono HB1.out.size))
        have e0 := HE.out.reads.1
        simp only at e0
        by_cases hKK : 1 ≤ kd ∧ kd ≤ 22
        · have HKK := Lib.hid hKK
          rw [decide_eq_true hKK] at CK
          clear hKK
          cases hq : ((L : Int) != (m : Int) + 1)
          · have HLM : Hid (L = m + 1) := Lib.hid (by have := bne_eq_false_iff_eq.1 hq; omega)
            go_wp2_with (first
              | (go_at_call 29; (with_reducible refine (CF.out _).mono ?_); rintro r _ ⟨rfl, rfl⟩)
              | (go_at_call 32; (with_reducible refine (CK.out _).mono ?_); rintro r _ ⟨rfl, rfl⟩))
            have HE0 := HE
            have HBQ0 := HB
            have HH0 : Hid (Half ws kd 0 ⟨kd, 0, 0, 0, 0, 0, 0, 0⟩) := Lib.hid ⟨by constructor <;> (unfold I64; simp) <;> omega, rfl, fun y hy => ⟨(HKY.out y hy).symm, by rw [List.take_zero]; unfold bareOf; rw [List.foldl_nil, HKY.out y hy]⟩⟩
            have HGF : Hid (∀ k (h : k < Sf.size), (Sf[k]'h).toNat = l.getD k 0) := Lib.hid (by
              have hS := HSS.out
              subst hS
              intro k h
              exact bstr_get l (by rw [HLE.out]; exact fields_oct _) k h)
            clear HE HB HRW HBW hKr HK hq e0 CF CK HQ0 HST0 CWD HBE HEE HK0
            go_loopw [8] (fun i wq => ∃ (k : Nat) (x : Ev), i = .int .i64 (k : Int) ∧ k ≤ m ∧ Hid (Half ws kd k x) ∧ Hid (EvAt wq w1.heap.size x) ∧ Hid (Below w1.heap.size w1 wq)) (fun i _ => m - (intOf i).toNat)
            case atStart => exact ⟨0, ⟨kd, 0, 0, 0, 0, 0, 0, 0⟩, rfl, Nat.zero_le _, HH0, HE0, HBQ0⟩
            case round =>
              obtain ⟨k, x, rfl, hk, HF, HE, HB⟩ := hrel
              by_cases hlt : k < m
              · have hszk : k < Sf.size := by rw [hszf]; exact hlt
                have hgt := HGF.out k hszk
                obtain ⟨f, hf⟩ : ∃ f, f = l.getD k 0 := ⟨_, rfl⟩
                rw [← hf] at hgt
                have HFF : Hid (f = (fieldsOf kd).getD k 0) := Lib.hid (by rw [hf, HLE.out])
                have HKL : Hid (k < (fieldsOf kd).length) := Lib.hid (by rw [← HLE.out, ← HMM.out]; exact hlt)
                have hk1L : k + 1 < L := by have := HLM.out; omega
                have HCK : Hid (∀ W, Below w1.heap.size w1 W → W.cell? ⟨g, k + 1, none⟩ = some (.string (bstr (ws.getD (k + 1) [])))) := Lib.hid (fun W hW => HST.out W hW (k + 1) hk1L)
                have CWH := Lib.hid (fun W => rwhole_any (ws.getD (k + 1) []) (HWO.out _ hk1L) (HWL.out _ hk1L) W)
                have HXK : Hid (x.kind = kd) := Lib.hid HF.out.2.1
                have HQS := Lib.hid (beq_bytes (a := sideOf kd 2) (b := ws.getD (k + 1) []) (fun z hz => by have := side_oct _ _ z hz; omega) (HWO.out _ hk1L))
                obtain ⟨wk, hwk⟩ : ∃ z, z = ws.getD (k + 1) [] := ⟨_, rfl⟩
                rw [← hwk] at HCK CWH HQS
                have HWK := Lib.hid hwk
                obtain ⟨Sk, hSk⟩ : ∃ z, z = bstr wk := ⟨_, rfl⟩
                rw [← hSk] at HCK CWH HQS
                have hc0 := HCK.out _ HB.out
                have hkb : Hid ((k : Int) + 1 < (L : Int)) := Lib.hid (by omega)
                have hkw : Hid (wrap64 ((k : Int) + 1) = (k : Int) + 1 ∧ IntKind.i64.wrap ((k : Int) + 1) = (k : Int) + 1) := Lib.hid ⟨IntWalk.wrap64_in _ (by omega), by simp [IntKind.wrap, IntKind.bits, IntKind.signed]; omega⟩
                have HRQ := Lib.hid (HR1.out.keep HB.out)
                have HBQ := Lib.hid (HB1.out.trans (HB.out.mono HB1.out.size))
                obtain ⟨d0, d1, d2, d3, d4, d5, d6, d7⟩ := HE.out.reads
                clear hf hwk hSk
                by_cases h83 : f = 83
                · subst h83
                  have hgi : ((Sf[k]'hszk).toNat : Int) = 83 := by rw [hgt]; rfl
                  have CS := Lib.hid (fun W => side_any kd 2 (.inr rfl) W)
                  obtain ⟨T2, hT2⟩ : ∃ z, z = bstr (sideOf kd 2) := ⟨_, rfl⟩
                  rw [← hT2] at CS HQS
                  clear hgt hT2
                  go_wp2_with (go_at_call 46; (with_reducible refine (CWH.out _).mono ?_); rintro r wq ⟨n9, ok9, rfl, _, hwq⟩; obtain rfl : wr = wq := hwq.symm)
                  obtain ⟨B2, hB2⟩ : ∃ z, z = decide (sideOf kd 2 = wk) := ⟨_, rfl⟩
                  have HB2 := Lib.hid hB2
                  have hq2 := HQS.out
                  rw [← hB2] at hq2
                  clear hB2
                  refine wp_region_dag [67, 68, 69, 70, 71, 72, 73, 74, 75] (fun W W' => Below W.heap.size W W') (fun W => Below wr.heap.size wr W) (spAt [.val (.pointer (some ⟨w1.heap.size, 0, none⟩)), .val (.int .i64 kd), .val (.string T2), .val (.slice (some ⟨g, 0, none⟩) L cg), .val (.int .i64 (k : Int)), .val (.int .i64 ((k : Int) + 1)), .val (.pointer (some ⟨g, k + 1, none⟩)), .val (.string Sk), .val (.bool B2)]) rfl rfl rfl rfl (spAt_st _) ((Below.refl _ _).drew) ⟨?_, ?_, ?_, ?_, ?_, ?_, ?_, ?_, ?_, trivial⟩ ?_
                  · intro a W K ho hW hpre hK
                    rw [if_pos (wanted_none rfl)]
                    have e0 : a.tmps.getD 5 undef = .pointer (some ⟨w1.heap.size, 0, none⟩) := ho.slot 5 (by decide)
                    go_simp
                    exact hK _ _ (Below.refl _ _) hW rfl
                  · intro a W K ho hW hpre hK
                    rw [if_pos (wanted_none rfl)]
                    have e0 : a.tmps.getD 67 undef = .pointer (some ⟨w1.heap.size, 0, none⟩) := hpre ⟨0, .data⟩ (by simp) rfl _ rfl
                    have c0 := (HE.out.keep hW).reads.1
                    rw [HXK.out] at c0
                    go_simp
                    exact hK _ _ (Below.refl _ _) hW rfl
                  · intro a W K ho hW hpre hK
                    rw [if_pos (wanted_none rfl)]
                    have e0 : a.tmps.getD 68 undef = .int .i64 kd := hpre ⟨1, .data⟩ (by simp) rfl _ rfl
                    go_simp
                    (with_reducible refine (CS.out _).mono ?_)
                    rintro r w5 ⟨rfl, hb5⟩
                    exact hK _ _ hb5 (hW.trans (hb5.mono hW.size)) rfl
                  · intro a W K ho hW hpre hK
                    rw [if_pos (wanted_none rfl)]
                    have e0 : a.tmps.getD 4 undef = .slice (some ⟨g, 0, none⟩) L cg := ho.slot 4 (by decide)
                    go_simp
                    exact hK _ _ (Below.refl _ _) hW rfl
                  · intro a W K ho hW hpre hK
                    rw [if_pos (wanted_none rfl)]
                    have e0 : a.tmps.getD 8 undef = .int .i64 (k : Int) := ho.slot 8 (by decide)
                    go_simp
                    exact hK _ _ (Below.refl _ _) hW rfl
                  · intro a W K ho hW hpre hK
                    rw [if_pos (wanted_none rfl)]
                    have e0 : a.tmps.getD 71 undef = .int .i64 (k : Int) := hpre ⟨4, .data⟩ (by simp) rfl _ rfl
                    obtain ⟨hw, hw2⟩ := hkw.out
                    go_simp
                    exact hK _ _ (Below.refl _ _) hW rfl
                  · intro a W K ho hW hpre hK
                    rw [if_pos (wanted_none rfl)]
                    have e0 : a.tmps.getD 70 undef = .slice (some ⟨g, 0, none⟩) L cg := hpre ⟨3, .data⟩ (by simp) rfl _ rfl
                    have e1 : a.tmps.getD 72 undef = .int .i64 ((k : Int) + 1) := hpre ⟨5, .data⟩ (by simp) rfl _ rfl
                    have hi1 := hkb.out
                    go_simp
                    exact hK _ _ (Below.refl _ _) hW rfl
                  · intro a W K ho hW hpre hK
                    rw [if_pos (wanted_none rfl)]
                    have e0 : a.tmps.getD 73 undef = .pointer (some ⟨g, k + 1, none⟩) := hpre ⟨6, .data⟩ (by simp) rfl _ rfl
                    have hc := HCK.out W (HB.out.trans (hW.mono HB.out.size))
                    go_simp
                    exact hK _ _ (Below.refl _ _) hW rfl
                  · intro a W K ho hW hpre hK
                    rw [if_pos (wanted_none rfl)]
                    have e0 : a.tmps.getD 69 undef = .string T2 := hpre ⟨2, .data⟩ (by simp) rfl _ rfl
                    have e1 : a.tmps.getD 74 undef = .string Sk := hpre ⟨7, .data⟩ (by simp) rfl _ rfl
                    go_simp
                    exact hK _ _ (Below.refl _ _) hW rfl
                  · intro a W ho hW hall
                    have e75 : a.tmps.getD 75 undef = .bool B2 := hall 8 _ rfl
                    have heq := ho.eq
                    have HE3 := Lib.hid (HE.out.keep hW)
                    have HB3 := Lib.hid (HB.out.trans (hW.mono HB.out.size))
                    clear ho hW hall
                    simp only [putL, e75] at heq
                    clear e75
                    generalize a.tmps.getD 67 undef = u67 at heq
                    generalize a.tmps.getD 68 undef = u68 at heq
                    generalize a.tmps.getD 69 undef = u69 at heq
                    generalize a.tmps.getD 70 undef = u70 at heq
                    generalize a.tmps.getD 71 undef = u71 at heq
                    generalize a.tmps.getD 72 undef = u72 at heq
                    generalize a.tmps.getD 73 undef = u73 at heq
                    generalize a.tmps.getD 74 undef = u74 at heq
                    subst heq
                    rename_i hKK
                    refine hKK _ _ ?_
                    go_simp
                    have HNS : Hid (∀ n : Int, n = (if B2 = true then 2 else 1) → ∀ y, IsLine ws y → n = y.val ((fieldsOf kd).getD k 0)) := Lib.hid (fun n hn => HF.out.side HKL.out HFF.out.symm n (by
                      rw [hn, HB2.out, HWK.out]
                      by_cases h : sideOf kd 2 = ws.getD (k + 1) []
                      · rw [decide_eq_true h, if_pos rfl, if_pos h]
                      · rw [decide_eq_false h, if_neg Bool.false_ne_true, if_neg h]))
                    clear CS HQS hq2 HB2
                    cases B2
                    · have CWI0 := Lib.hid (fun W => with_any x 83 1 W)
                      obtain ⟨y, hy⟩ : ∃ y, y = x.with 83 1 := ⟨_, rfl⟩
                      have HY : Hid (y = x.with ((fieldsOf kd).getD k 0) 1) := Lib.hid (by rw [hy, ← HFF.out])
                      have CWI : Hid (∀ W, Calls Tryd.prog 44 #[x.v, .int .u8 83, .int .i64 1] W fun r w' => r = .returned y.v ∧ Below W.heap.size W w') := Lib.hid (by rw [hy]; exact CWI0.out)
                      clear CWI0 hy
                      unfold Ev.v at CWI
                      obtain ⟨m0, m1, m2, m3, m4, m5, m6, m7⟩ := HE3.out.reads
                      go_wp2
                      go_region_with (go_at_call 44; (with_reducible refine (CWI.out _).mono ?_); rintro r w5 ⟨rfl, hb5⟩; have H4 := Lib.hid (HE3.out.keep (below_dr hb5)); have HB5 := Lib.hid (HB3.out.trans ((below_dr hb5).mono HB3.out.size)); obtain ⟨g0, g1, g2, g3, g4, g5, g6, g7⟩ := H4.out.reads; have fz0 := Rec.frozen H4.out 0; have fz1 := Rec.frozen H4.out 1; have fz2 := Rec.frozen H4.out 2; have fz3 := Rec.frozen H4.out 3; have fz4 := Rec.frozen H4.out 4; have fz5 := Rec.frozen H4.out 5; have fz6 := Rec.frozen H4.out 6; have fz7 := Rec.frozen H4.out 7; clear hb5)
                      all_goals go_wp2
                      all_goals go_roundw
                      all_goals first
                        | exact ⟨k + 1, y, by go_num, by omega, Lib.hid (by rw [HY.out]; exact HF.out.more HKL.out (by unfold I64; omega) (HNS.out 1 (by simp))), Lib.hid (put_at H4.out y), Lib.hid (put_below HB5.out (Nat.le_refl _) y)⟩
                        | (simp [intOf]; omega)
                    · have CWI0 := Lib.hid (fun W => with_any x 83 2 W)
                      obtain ⟨y, hy⟩ : ∃ y, y = x.with 83 2 := ⟨_, rfl⟩
                      have HY : Hid (y = x.with ((fieldsOf kd).getD k 0) 2) := Lib.hid (by rw [hy, ← HFF.out])
                      have CWI : Hid (∀ W, Calls Tryd.prog 44 #[x.v, .int .u8 83, .int .i64 2] W fun r w' => r = .returned y.v ∧ Below W.heap.size W w') := Lib.hid (by rw [hy]; exact CWI0.out)
                      clear CWI0 hy
                      unfold Ev.v at CWI
                      obtain ⟨m0, m1, m2, m3, m4, m5, m6, m7⟩ := HE3.out.reads
                      go_wp2
                      go_region_with (go_at_call 44; (with_reducible refine (CWI.out _).mono ?_); rintro r w5 ⟨rfl, hb5⟩; have H4 := Lib.hid (HE3.out.keep (below_dr hb5)); have HB5 := Lib.hid (HB3.out.trans ((below_dr hb5).mono HB3.out.size)); obtain ⟨g0, g1, g2, g3, g4, g5, g6, g7⟩ := H4.out.reads; have fz0 := Rec.frozen H4.out 0; have fz1 := Rec.frozen H4.out 1; have fz2 := Rec.frozen H4.out 2; have fz3 := Rec.frozen H4.out 3; have fz4 := Rec.frozen H4.out 4; have fz5 := Rec.frozen H4.out 5; have fz6 := Rec.frozen H4.out 6; have fz7 := Rec.frozen H4.out 7; clear hb5)
                      all_goals go_wp2
                      all_goals go_roundw
                      all_goals first
                        | exact ⟨k + 1, y, by go_num, by omega, Lib.hid (by rw [HY.out]; exact HF.out.more HKL.out (by unfold I64; omega) (HNS.out 2 (by simp))), Lib.hid (put_at H4.out y), Lib.hid (put_below HB5.out (Nat.le_refl _) y)⟩
                        | (simp [intOf]; omega)
                · have hgi : ((Sf[k]'hszk).toNat : Int) = (f : Int) := by rw [hgt]
                  have hne : ((f : Int) == 83) = false := beq_eq_false_iff_ne.2 (by omega)
                  have HNU : Hid (∀ n ok, WholeIs wk n ok → ∀ y, IsLine ws y → ok = true ∧ n = y.val ((fieldsOf kd).getD k 0)) := Lib.hid (fun n ok hw => HF.out.num HKL.out (by rw [← HFF.out]; exact h83) (by rw [← HWK.out]; exact hw))
                  clear hgt h83 HQS
                  obtain ⟨c0, c1, c2, c3, c4, c5, c6, c7⟩ := HRQ.out.reads
                  have fz0 := Rec.frozen HRQ.out 0; have fz1 := Rec.frozen HRQ.out 1; have fz2 := Rec.frozen HRQ.out 2; have fz3 := Rec.frozen HRQ.out 3; have fz4 := Rec.frozen HRQ.out 4; have fz5 := Rec.frozen HRQ.out 5; have fz6 := Rec.frozen HRQ.out 6; have fz7 := Rec.frozen HRQ.out 7
                  have HPZ := Lib.hid (put_at HRQ.out Ev.zero)
                  go_wp2_with (go_at_call 46; (with_reducible refine (CWH.out _).mono ?_); rintro r wq ⟨n9, ok9, rfl, hw9, hwq⟩; obtain rfl : wr = wq := hwq.symm; have H64 := Lib.hid hw9.1; have HNV := Lib.hid (HNU.out n9 ok9 hw9); clear hw9; cases ok9)
                  · have HNO : Hid (∀ y : Ev, y.Ok → rightE y = true → textL y ≠ b) := Lib.hid (fun y o r t => absurd (HNV.out y (HG.out y o r t)).1 (by simp))
                    obtain ⟨g0, g1, g2, g3, g4, g5, g6, g7⟩ := HPZ.out.reads
                    simp only [putE, Ev.zero] at g0 g1 g2 g3 g4 g5 g6 g7
                    refine bodyPost_ret (v := .tuple #[Ev.zero.v, .int .i64 1]) (by simp [results, Tryd.results33, go_sem, Ev.v, Ev.zero, g0, g1, g2, g3, g4, g5, g6, g7]) rfl ⟨Ev.zero, 1, rfl, rparsed_none HNO.out, ?_⟩
                    exact put_below HBQ.out (Nat.le_refl _) Ev.zero
                  · clear c0 c1 c2 c3 c4 c5 c6 c7 fz0 fz1 fz2 fz3 fz4 fz5 fz6 fz7
                    have CWI := Lib.hid (fun W => with_any x f n9 W)
                    obtain ⟨y, hy⟩ : ∃ y, y = x.with f n9 := ⟨_, rfl⟩
                    have HY : Hid (y = x.with ((fieldsOf kd).getD k 0) n9) := Lib.hid (by rw [hy, ← HFF.out])
                    rw [← hy] at CWI
                    clear hy
                    unfold Ev.v at CWI
                    obtain ⟨m0, m1, m2, m3, m4, m5, m6, m7⟩ := HE.out.reads
                    skip
                    go_region_with (go_at_call 44; (with_reducible refine (CWI.out _).mono ?_); rintro r w5 ⟨rfl, hb5⟩; have H4 := Lib.hid (HE.out.keep (below_dr hb5)); have HB5 := Lib.hid (HB.out.trans ((below_dr hb5).mono HB.out.size)); obtain ⟨g0, g1, g2, g3, g4, g5, g6, g7⟩ := H4.out.reads; have fz0 := Rec.frozen H4.out 0; have fz1 := Rec.frozen H4.out 1; have fz2 := Rec.frozen H4.out 2; have fz3 := Rec.frozen H4.out 3; have fz4 := Rec.frozen H4.out 4; have fz5 := Rec.frozen H4.out 5; have fz6 := Rec.frozen H4.out 6; have fz7 := Rec.frozen H4.out 7; clear hb5)
                    all_goals go_wp2
                    all_goals go_roundw
                    all_goals first
                      | exact ⟨k + 1, y, by go_num, by omega, Lib.hid (by rw [HY.out]; exact HF.out.more HKL.out H64.out (fun z hz => (HNV.out z hz).2)), Lib.hid (put_at H4.out y), Lib.hid (put_below HB5.out (Nat.le_refl _) y)⟩
                      | (simp [intOf]; omega)
              · obtain rfl : k = m := by omega
                have HXY : Hid (∀ y, IsLine ws y → x = y) := Lib.hid (fun y hy => Half.all (by rw [← HLE.out, ← HMM.out]; exact HF.out) y hy)
                have HXO := Lib.hid HF.out.1
                have HRQ := Lib.hid (HR1.out.keep HB.out)
                have HBQ := Lib.hid (HB1.out.trans (HB.out.mono HB1.out.size))
                have hkm : decide ((k : Int) < (k : Int)) = false := decide_eq_false (by omega)
                obtain ⟨d0, d1, d2, d3, d4, d5, d6, d7⟩ := HE.out.reads
                cases hr : rightE x with
                | false =>
                  have CT := Lib.hid (fun W => rtext_no x hr W)
                  have HNO : Hid (∀ y : Ev, y.Ok → rightE y = true → textL y ≠ b) := Lib.hid (fun y o r t => by
                    have := HXY.out y (HG.out y o r t)
                    rw [this, r] at hr
                    cases hr)
                  unfold RTextK at CT
                  unfold Ev.v at CT
                  clear hr
                  go_wp2_with (go_at_call 14; (with_reducible refine (CT.out _).mono ?_); rintro r w4 ⟨rfl, hb4⟩; have HB4 := Lib.hid (HBQ.out.trans (hb4.mono HBQ.out.size)); have HR4 := Lib.hid (HRQ.out.keep hb4); (obtain ⟨c0, c1, c2, c3, c4, c5, c6, c7⟩ := HR4.out.reads); have fz0 := Rec.frozen HR4.out 0; have fz1 := Rec.frozen HR4.out 1; have fz2 := Rec.frozen HR4.out 2; have fz3 := Rec.frozen HR4.out 3; have fz4 := Rec.frozen HR4.out 4; have fz5 := Rec.frozen HR4.out 5; have fz6 := Rec.frozen HR4.out 6; have fz7 := Rec.frozen HR4.out 7; clear hb4)
                  have HPZ := Lib.hid (put_at HR4.out Ev.zero)
                  obtain ⟨g0, g1, g2, g3, g4, g5, g6, g7⟩ := HPZ.out.reads
                  simp only [putE, Ev.zero] at g0 g1 g2 g3 g4 g5 g6 g7
                  refine bodyPost_ret (v := .tuple #[Ev.zero.v, .int .i64 1]) (by simp [results, Tryd.results33, go_sem, Ev.v, Ev.zero, g0, g1, g2, g3, g4, g5, g6, g7]) rfl ⟨Ev.zero, 1, rfl, rparsed_none HNO.out, ?_⟩
                  exact put_below HB4.out (Nat.le_refl _) Ev.zero
                | true =>
                  have CT := Lib.hid (fun W => rtext_yes x HXO.out hr W)
                  have HR := Lib.hid hr
                  have hq := HBS.out x
                  unfold RTextK at CT
                  unfold Ev.v at CT
                  clear hr
                  by_cases ht : textL x = b
                  · rw [decide_eq_true ht] at hq
                    have HT := Lib.hid ht
                    generalize bstr (textL x) = T at *
                    clear ht
                    go_wp2_with (go_at_call 14; (with_reducible refine (CT.out _).mono ?_); rintro r w4 ⟨rfl, hb4⟩; have HB4 := Lib.hid (HBQ.out.trans (hb4.mono HBQ.out.size)); have HR4 := Lib.hid (HRQ.out.keep hb4); have HE4 := Lib.hid (HE.out.keep hb4); (obtain ⟨c0, c1, c2, c3, c4, c5, c6, c7⟩ := HR4.out.reads); (obtain ⟨e0, e1, e2, e3, e4, e5, e6, e7⟩ := HE4.out.reads); have hst4 := HSTR.out w4 HB4.out; have fz0 := Rec.frozen HR4.out 0; have fz1 := Rec.frozen HR4.out 1; have fz2 := Rec.frozen HR4.out 2; have fz3 := Rec.frozen HR4.out 3; have fz4 := Rec.frozen HR4.out 4; have fz5 := Rec.frozen HR4.out 5; have fz6 := Rec.frozen HR4.out 6; have fz7 := Rec.frozen HR4.out 7; clear hb4)
                    have HPX := Lib.hid (put_at HR4.out x)
                    obtain ⟨g0, g1, g2, g3, g4, g5, g6, g7⟩ := HPX.out.reads
                    simp only [putE] at g0 g1 g2 g3 g4 g5 g6 g7
                    refine bodyPost_ret (v := .tuple #[x.v, .int .i64 0]) (by simp [results, Tryd.results33, go_sem, Ev.v, g0, g1, g2, g3, g4, g5, g6, g7]) rfl ⟨x, 0, rfl, Or.inl ⟨HXO.out, HR.out, HT.out, rfl⟩, ?_⟩
                    exact put_below HB4.out (Nat.le_refl _) x
                  · rw [decide_eq_false ht] at hq
                    have HNO : Hid (∀ y : Ev, y.Ok → rightE y = true → textL y ≠ b) := Lib.hid (fun y o r t => by
                      have := HXY.out y (HG.out y o r t)
                      rw [this] at ht
                      exact ht t)
                    generalize bstr (textL x) = T at *
                    clear ht
                    go_wp2_with (go_at_call 14; (with_reducible refine (CT.out _).mono ?_); rintro r w4 ⟨rfl, hb4⟩; have HB4 := Lib.hid (HBQ.out.trans (hb4.mono HBQ.out.size)); have HR4 := Lib.hid (HRQ.out.keep hb4); (obtain ⟨c0, c1, c2, c3, c4, c5, c6, c7⟩ := HR4.out.reads); have hst4 := HSTR.out w4 HB4.out; have fz0 := Rec.frozen HR4.out 0; have fz1 := Rec.frozen HR4.out 1; have fz2 := Rec.frozen HR4.out 2; have fz3 := Rec.frozen HR4.out 3; have fz4 := Rec.frozen HR4.out 4; have fz5 := Rec.frozen HR4.out 5; have fz6 := Rec.frozen HR4.out 6; have fz7 := Rec.frozen HR4.out 7; clear hb4)
                    have HPZ := Lib.hid (put_at HR4.out Ev.zero)
                    obtain ⟨g0, g1, g2, g3, g4, g5, g6, g7⟩ := HPZ.out.reads
                    simp only [putE, Ev.zero] at g0 g1 g2 g3 g4 g5 g6 g7
                    refine bodyPost_ret (v := .tuple #[Ev.zero.v, .int .i64 1]) (by simp [results, Tryd.results33, go_sem, Ev.v, Ev.zero, g0, g1, g2, g3, g4, g5, g6, g7]) rfl ⟨Ev.zero, 1, rfl, rparsed_none HNO.out, ?_⟩
                    exact put_below HB4.out (Nat.le_refl _) Ev.zero
          · have HNO : Hid (∀ y : Ev, y.Ok → rightE y = true → textL y ≠ b) := Lib.hid (fun y o r t => by
              have hy := HG.out y o r t
              have h1 := hy.count
              rw [← HLL.out, ← HKY.out y hy, ← HLE.out, ← HMM.out] at h1
              have h2 := bne_iff_ne.1 hq
              omega)
            obtain ⟨c0, c1, c2, c3, c4, c5, c6, c7⟩ := HRW.out.reads
            have fz0 := Rec.frozen HRW.out 0; have fz1 := Rec.frozen HRW.out 1; have fz2 := Rec.frozen HRW.out 2; have fz3 := Rec.frozen HRW.out 3; have fz4 := Rec.frozen HRW.out 4; have fz5 := Rec.frozen HRW.out 5; have fz6 := Rec.frozen HRW.out 6; have fz7 := Rec.frozen HRW.out 7
            have HPZ := Lib.hid (put_at HRW.out Ev.zero)
            go_wp2_with (first
              | (go_at_call 29; (with_reducible refine (CF.out _).mono ?_); rintro r _ ⟨rfl, rfl⟩)
              | (go_at_call 32; (with_reducible refine (CK.out _).mono ?_); rintro r _ ⟨rfl, rfl⟩))
            obtain ⟨g0, g1, g2, g3, g4, g5, g6, g7⟩ := HPZ.out.reads
            simp only [putE, Ev.zero] at g0 g1 g2 g3 g4 g5 g6 g7
            refine bodyPost_ret (v := .tuple #[Ev.zero.v, .int .i64 1]) (by simp [results, Tryd.results33, go_sem, Ev.v, Ev.zero, g0, g1, g2, g3, g4, g5, g6, g7]) rfl ⟨Ev.zero, 1, rfl, rparsed_none HNO.out, ?_⟩
            exact put_below HBW.out (Nat.le_refl _) Ev.zero
        · have HNO : Hid (∀ y : Ev, y.Ok → rightE y = true → textL y ≠ b) := Lib.hid (fun y o r t => by
            have hy := HG.out y o r t
            have h1 := right_kinds hy.right
            rw [← HKY.out y hy] at h1
            exact hKK h1)
          rw [decide_eq_false hKK] at CK
          clear hKK
          obtain ⟨c0, c1, c2, c3, c4, c5, c6, c7⟩ := HRW.out.reads
          have fz0 := Rec.frozen HRW.out 0; have fz1 := Rec.frozen HRW.out 1; have fz2 := Rec.frozen HRW.out 2; have fz3 := Rec.frozen HRW.out 3; have fz4 := Rec.frozen HRW.out 4; have fz5 := Rec.frozen HRW.out 5; have fz6 := Rec.frozen HRW.out 6; have fz7 := Rec.frozen HRW.out 7
          have HPZ := Lib.hid (put_at HRW.out Ev.zero)
          go_wp2_with (first
            | (go_at_call 29; (with_reducible refine (CF.out _).mono ?_); rintro r _ ⟨rfl, rfl⟩)
            | (go_at_call 32; (with_reducible refine (CK.out _).mono ?_); rintro r _ ⟨rfl, rfl⟩))
          obtain ⟨g0, g1, g2, g3, g4, g5, g6, g7⟩ := HPZ.out.reads
          simp only [putE, Ev.zero] at g0 g1 g2 g3 g4 g5 g6 g7
          refine bodyPost_ret (v := .tuple #[Ev.zero.v, .int .i64 1]) (by simp [results, Tryd.results33, go_sem, Ev.v, Ev.zero, g0, g1, g2, g3, g4, g5, g6, g7]) rfl ⟨Ev.zero, 1, rfl, rparsed_none HNO.out, ?_⟩
          exact put_below HBW.out (Nat.le_refl _) Ev.zero
  · have hd : decide (120 < (n : Int)) = true := decide_eq_true (by omega)
    have HNO : Hid (∀ y : Ev, y.Ok → rightE y = true → textL y ≠ b) := Lib.hid (fun y o r t => by
      have := text_len o
      rw [t] at this
      omega)
    clear hn hB hO
    go_enter Tryd.func33, Tryd.ntmps33
    go_wp2
    refine bodyPost_ret (v := .tuple #[Ev.zero.v, .int .i64 1]) (by simp [results, Tryd.results33, go_sem, Ev.v, Ev.zero]) rfl ⟨Ev.zero, 1, rfl, rparsed_none HNO.out, HB00.out⟩
end Go.Proofs.YtjkbnljjmbfmiaaDoor
