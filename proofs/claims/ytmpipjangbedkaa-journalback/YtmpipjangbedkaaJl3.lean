/-
  The walk of novationlaw9.JournalTorn.
-/
import Derived.Test.YtmpipjangbedkaaJl2
namespace Go.Proofs.Ytmpipjangbedkaa
set_option maxRecDepth 8000
open Go Go.RowKit
set_option linter.unusedVariables false

/-- Where the records of the first so many events end. -/
def endJ (cf : Cfg) (es : List Ev) (k : Nat) : Nat := (catJ (jls cf (es.take k))).length
def endsJ (cf : Cfg) (es : List Ev) (k : Nat) : List Nat := (List.range (k + 1)).map (endJ cf es)
theorem endsJ_len (cf : Cfg) (es : List Ev) (k : Nat) : (endsJ cf es k).length = k + 1 := by simp [endsJ]
theorem endsJ_succ (cf : Cfg) (es : List Ev) (k : Nat) : endsJ cf es (k + 1) = endsJ cf es k ++ [endJ cf es (k + 1)] := by
  unfold endsJ
  rw [List.range_succ, List.map_append]
  rfl
theorem endsJ_at (cf : Cfg) (es : List Ev) (k i : Nat) (h : i < k + 1) : (endsJ cf es k).getD i 0 = endJ cf es i := by
  unfold endsJ
  rw [List.getD_eq_getElem?_getD, List.getElem?_map, List.getElem?_range h]
  rfl
theorem endJ_next {cf : Cfg} {es : List Ev} {k : Nat} (h : k < es.length) : endJ cf es (k + 1) = endJ cf es k + (textE (es.getD k Ev.zero)).length + 6 := by
  unfold endJ
  rw [take_next h, jls_add, List.length_append, recL_length]
  omega
theorem jls_at (cf : Cfg) (es : List Ev) (k : Nat) (h : k < es.length) : (jls cf es).getD (k + 1) [] = textE (es.getD k Ev.zero) := by
  unfold jls
  rw [List.getD_eq_getElem?_getD, List.getElem?_cons_succ, List.getElem?_map, List.getD_eq_getElem?_getD, List.getElem?_eq_getElem h]
  rfl
theorem torn_some {cf : Cfg} {es : List Ev} (ok : CfgI cf) (hp : planOk cf = true) (hg : ∀ x ∈ es, Good x) {k m : Nat} (hk : k ≤ es.length) (hm : m ≤ (catJ (jls cf es)).length) (h1 : endJ cf es k ≤ m) (h2 : k < es.length → m < endJ cf es (k + 1)) : ∃ r, (catJ (jls cf es)).take m = catJ (jls cf (es.take k)) ++ r ∧ ¬ (nextL r).2.2 = 0 := by
  have hl : (jls cf es).length = es.length + 1 := by simp [jls]
  obtain ⟨r, h3, _, _, h4⟩ := cut_catJ (jls cf es) (jls_len ok hp hg) m (k + 1) hm (by omega) (by rw [jls_take]; exact h1) (fun h => by
    have h5 := h2 (by omega)
    rw [jls_take, jls_at cf es k (by omega)]
    rw [endJ_next (by omega)] at h5
    unfold endJ at h5
    exact h5)
  rw [jls_take] at h3
  exact ⟨r, h3, by omega⟩
theorem torn_none {cf : Cfg} {es : List Ev} (ok : CfgI cf) (hp : planOk cf = true) (hg : ∀ x ∈ es, Good x) {m : Nat} (hm : m ≤ (catJ (jls cf es)).length) (h2 : m < endJ cf es 0) : ¬ (nextL ((catJ (jls cf es)).take m)).2.2 = 0 := by
  have he : endJ cf es 0 = (planB cf 6).length + 6 := by unfold endJ; rw [List.take_zero, jls_one, recL_length]
  obtain ⟨r, h3, _, _, h4⟩ := cut_catJ (jls cf es) (jls_len ok hp hg) m 0 hm (by omega) (by simp [catJ]) (fun h => by
    rw [show (jls cf es).getD 0 [] = planB cf 6 from rfl, List.take_zero, show (catJ []).length = 0 from rfl]
    omega)
  rw [h3, List.take_zero, show catJ [] = [] from rfl, List.nil_append]
  omega
theorem ownN_cell {w : World} {base n c : Nat} {A : Option Addr} {l : List Nat} (h : OwnN w base (.slice A n c) l) (h0 : 0 < l.length) : ∃ g, A = some ⟨g, 0, none⟩ ∧ ∀ i, i < l.length → w.cell? ⟨g, i, none⟩ = some (.int .i64 ((l.getD i 0 : Nat) : Int)) := by
  obtain ⟨A', c', e, _, _, _, hc⟩ := OwnL.form h lay_nat
  injection e with e1 e2 e3
  subst e1
  obtain ⟨g, rfl, _, _, hcell⟩ := hc h0
  refine ⟨g, rfl, fun i hi => ?_⟩
  have := (hcell i hi 0 (by omega)).1
  rw [Nat.mul_one, Nat.add_zero] at this
  rw [this, List.getD_eq_getElem?_getD, List.getElem?_eq_getElem hi]
  rfl
section
variable {w W W' : World} {B : Nat} {t : Tp} {C : List (Nat × Cfg × Value)} {O : List (Value × List Ev)}
/-- The list of numbers has grown. -/
theorem JW.growN {V V' : Value} {l l' : List Nat} (h : JW w B t [] C O [(V, l)] W) (ho : OwnN W' w.heap.size V' l') (hg : W.grownBy W' V.ownBlock) : JW w B t [] C O [(V', l')] W' := by
  have hn := h.num _ List.mem_cons_self
  have ht := Touch.grown hg
  have hrow : ∀ k, V.ownBlock = some k → ∃ cs, Rec W k 3 cs := fun k hk => by
    rcases hn.2 with ⟨e, _⟩ | ⟨g, cap, cur, e, _, hgb, _⟩
    · simp only at e; subst e; simp [Value.ownBlock] at hk
    · simp only at e; subst e
      obtain rfl : g = k := by simpa [Value.ownBlock] using hk
      exact ⟨cur.toList, by simpa [Rec] using hgb⟩
  refine ⟨?_, fun x hx => (by cases hx), fun x hx => ?_, fun x hx => ?_, fun x hx => ?_, h.below.trans (OwnL.below (OwnL.lower hn (Nat.le_refl _)) hg h.below.size), h.low⟩
  · obtain ⟨v, htp⟩ := h.tape
    refine ⟨v, htp.touch ht (fun k hk hv => ?_)⟩
    obtain ⟨cs, hr⟩ := hrow k hv
    exact foot_rec htp hr (by decide) (by decide) hk
  · obtain ⟨h1, h2⟩ := h.cfg x hx
    refine ⟨Rec.touch h1 ht (fun hv => ?_), OwnL.touch h2 ht (fun k hk hv => ?_)⟩
    · obtain ⟨cs, hr⟩ := hrow _ hv
      exact Rec.ne h1 hr (by decide) rfl
    · obtain ⟨cs, hr⟩ := hrow _ hv
      exact Rec.not_rowL hr (by decide) h2 hk
  · refine OwnL.touch (h.evs x hx) ht (fun k hk hv => ?_)
    obtain ⟨cs, hr⟩ := hrow _ hv
    exact Rec.not_rowL hr (by decide) (h.evs x hx) hk
  · obtain rfl := List.mem_singleton.1 hx
    exact ho
end
set_option maxRecDepth 100000 in
set_option maxHeartbeats 32000000 in
theorem jtorn_walk (A : Option Addr) (l : List Int) (c n x : Nat) (hk : n = l.length) (hx : x ≤ 65535) (w : World) (hn : Nums w A l) :
    Calls Try.prog 4 #[.slice A n c, .int .u16 (x : Int)] w fun r w' => r = .returned (.bool true) ∧ Below w.heap.size w w' := by
  have CK := Lib.hid (known9_any w)
  have CO := Lib.hid (fun W (h : Below w.heap.size w W) => deck_of w W A l c n hk hn h)
  have HB0 := Lib.hid (Below.refl w.heap.size w)
  clear hn hk
  go_enter Try.func4, Try.ntmps4
  go_wp2_with (first
    | (go_at_call 18; (with_reducible refine CLN.out.mono ?_); rintro r wq ⟨rfl, hwq⟩; obtain rfl : w6 = wq := hwq)
    | (go_at_call 11; (with_reducible refine CST.out.mono ?_); rintro r w6 ⟨rfl, h6⟩; have HJ6 := Lib.hid h6; have CLN := Lib.hid (h6.len); rw [show (tat 100000 (catJ (jls cf []))).all.length = endJ cf es 0 from rfl] at CLN; clear h6)
    | (go_at_call 10; (with_reducible refine CN.out.mono ?_); rintro r w5 ⟨rfl, ht5, hb5⟩; have HJ5 := Lib.hid (HJF.out w5 ht5 hb5); obtain ⟨d0, d1, d2, d3, d4, d5, d6⟩ := (HJ5.out.cfg _ List.mem_cons_self).1.reads; have CST := Lib.hid (HJ5.out.start w3.heap.size cf AI cI List.mem_cons_self (ok_cfgI HOK.out)); rw [tat_start (ok_cfgI HOK.out) (ok_plan HOK.out)] at CST; unfold Cfg.v at CST; clear ht5 hb5)
    | (go_at_call 9; (with_reducible refine CE.out.mono ?_); rintro r w4 ⟨vE, es, rfl, hoe, hg, hle, hd4, ht4⟩; obtain ⟨AE, cE, rfl, _⟩ := OwnL.form hoe lay_ev; have HG := Lib.hid hg; have HLE := Lib.hid hle; have HB4 := Lib.hid hd4.below; have CN := Lib.hid (new_any 100000 w4); have HJF : Hid (∀ w5, TapeAt false w5 w4.heap.size w4.heap.size (.slice none 0 0) (newTp 100000) → Below w4.heap.size w4 w5 → JW w w4.heap.size (newTp 100000) [] [(w3.heap.size, cf, .slice AI cf.insts.length cI)] [(.slice AE es.length cE, es)] [] w5) := Lib.hid (fun w5 ht5 hb5 => jw_new (cf := cf) (vI := .slice AI cf.insts.length cI) hlt2 hsw2 HO3.out ht4 hsz3 hoe hd4.below ht5 hb5); clear hg hoe hd4 ht4)
    | (go_at_call 8; (with_reducible refine (deck_config w _ A l c _ 0 HD2.out (by omega)).mono ?_); rintro r w3 ⟨cf, v, rfl, hcf, ho3, hd3, ht3⟩; obtain ⟨AI, cI, rfl, _⟩ := OwnL.form ho3 lay_ins; have HOK := Lib.hid hcf; have CE := Lib.hid (devents_any w _ A l c _ (0 + 60) (hd3.keep (alloc_below w3 (.cells #[.slice AI cf.insts.length cI, .int .i64 cf.skin, .int .i64 cf.times, .int .i64 cf.port, .int .i64 cf.bid, .int .i64 cf.lot, .int .i64 cf.hedge] 28))) (by omega) cf (.slice AI cf.insts.length cI) ((CfgIn.of hcf ho3 hd3).keep (alloc_below w3 (.cells #[.slice AI cf.insts.length cI, .int .i64 cf.skin, .int .i64 cf.times, .int .i64 cf.port, .int .i64 cf.bid, .int .i64 cf.lot, .int .i64 cf.hedge] 28)))); unfold Cfg.v at CE; simp only [Cfg.v]; have HO3 := Lib.hid ho3; have hsz3 := ht3.size; have hsw2 := HD2.out.below.size; clear hcf ho3 hd3 ht3)
    | (go_at_call 7; (with_reducible refine (CO.out _ HB1.out).mono ?_); rintro r w2 ⟨rfl, hd2⟩; have HD2 := Lib.hid hd2; have hlt2 : w1.heap.size < w2.heap.size := (by obtain ⟨_, _, hr2⟩ := hd2.box; exact Rec.lt hr2); clear hd2)
    | (go_at_call 6; (with_reducible refine CK.out.mono ?_); rintro r w1 ⟨rfl, hb1⟩; have HB1 := Lib.hid (HB0.out.trans (hb1.mono HB0.out.size)); clear hb1))
  have HJ7 : Hid (JW w w4.heap.size (tat 100000 (catJ (jls cf (es.take 0)))) [] [(w3.heap.size, cf, .slice AI cf.insts.length cI)] [(.slice AE es.length cE, es)] [(.slice (some ⟨w6.heap.size, 0, none⟩) 1 1, endsJ cf es 0)] (w6.alloc (.cells #[.int .i64 ((endJ cf es 0 : Nat) : Int)] 3))) := Lib.hid ((HJ6.out.keep (alloc_below _ _)).setN (fun y hy => by
    obtain rfl := List.mem_singleton.1 hy
    exact ownL_lit lay_nat w6 w.heap.size #[.int .i64 ((endJ cf es 0 : Nat) : Int)] [endJ cf es 0] HJ6.out.below.size (by simp) rfl _ rfl _ rfl))
  go_loopw [9, 10] (fun V i wr => ∃ (k : Nat) (X : Value), X = V ∧ i = .int .i64 (k : Int) ∧ k ≤ es.length ∧ Hid (JW w w4.heap.size (tat 100000 (catJ (jls cf (es.take k)))) [] [(w3.heap.size, cf, .slice AI cf.insts.length cI)] [(.slice AE es.length cE, es)] [(X, endsJ cf es k)] wr)) (fun _ i _ => es.length - (intOf i).toNat)
  case atStart => exact ⟨0, _, rfl, rfl, Nat.zero_le _, HJ7⟩
  case round =>
    obtain ⟨k, X, rfl, rfl, hke, HJ⟩ := hrel
    have hevs : OwnE wr w.heap.size (.slice AE es.length cE) es := HJ.out.evs _ List.mem_cons_self
    obtain ⟨hcE, hEM⟩ := ownE_at hevs
    clear hevs
    have hle := HLE.out
    by_cases hlt : k < es.length
    · obtain ⟨bE, oE, rfl, hcells⟩ := hEM (by omega)
      obtain ⟨g0, g1, g2, g3, g4, g5, g6, g7⟩ := hcells k hlt
      obtain ⟨ev, hev⟩ : ∃ e, e = es.getD k Ev.zero := ⟨_, rfl⟩
      rw [← hev] at g0 g1 g2 g3 g4 g5 g6 g7
      have HGE : Hid (Good ev) := Lib.hid (by rw [hev]; exact good_at HG.out hlt)
      have HTN : Hid (es.take k ++ [ev] = es.take (k + 1)) := Lib.hid (by rw [hev]; exact (take_next hlt).symm)
      have hroom : (catJ (jls cf (es.take k ++ [ev]))).length ≤ 100000 := by
        rw [HTN.out]
        have := jls_room (ok_cfgI HOK.out) (ok_plan HOK.out) (good_take HG.out (k + 1)) (by rw [List.length_take]; omega)
        omega
      have hcad := HJ.out.add ev HGE.out.1
      rw [tat_add HGE.out.2 hroom, HTN.out] at hcad
      have CAD := Lib.hid hcad
      unfold Ev.v at CAD
      clear hcells hEM hev hcad hroom
      go_wp2_with (first
        | (go_at_call 12; (with_reducible refine CAD.out.mono ?_); rintro r w8 ⟨rfl, h8⟩; have HJ8 := Lib.hid h8; have CL8 := Lib.hid (h8.len); rw [show (tat 100000 (catJ (jls cf (es.take (k + 1))))).all.length = endJ cf es (k + 1) from rfl] at CL8; clear h8)
        | (go_at_call 18; (with_reducible refine CL8.out.mono ?_); rintro r wq ⟨rfl, hwq⟩; obtain rfl : w8 = wq := hwq)
        | (at_builtin; refine wpList_appL lay_nat rfl (.tmp 53) (.tmp 56) rfl w.heap.size _ (endsJ cf es k) rfl (OwnL.alloc (HJ8.out.num _ List.mem_cons_self) _) _ 1 (endJ cf es (k + 1)) rfl (lit_one _ _ _ (encN (endJ cf es (k + 1))) rfl _ (by simp)) (by rw [endsJ_len]; omega) (by rw [endsJ_len]; omega) (by have := HJ8.out.below.size; simp; omega) ?_; rintro v' w' ho hg _; have HO5 := Lib.hid ho; have HG5 := Lib.hid hg; clear ho hg))
      go_roundw
      case rel => exact ⟨k + 1, _, rfl, by go_num, by omega, Lib.hid (by rw [endsJ_succ]; exact (HJ8.out.keep (alloc_below _ _)).growN HO5.out HG5.out)⟩
      case measure => simp [intOf]; omega
    · obtain rfl : k = es.length := by omega
      rw [List.take_length] at HJ
      have hnum : OwnN wr w.heap.size X (endsJ cf es es.length) := HJ.out.num _ List.mem_cons_self
      obtain ⟨AN, cN, rfl, _⟩ := OwnL.form hnum lay_nat
      clear hnum
      simp only [endsJ_len] at HJ ⊢
      obtain ⟨LL, hLe⟩ : ∃ LL, (catJ (jls cf es)).length = LL := ⟨_, rfl⟩
      have hLL := Lib.hid hLe
      have HLN := Lib.hid (HJ.out.len)
      rw [show ((tat 100000 (catJ (jls cf es))).all.length : Int) = (LL : Int) from by rw [← hLe]; rfl] at HLN
      have hL4 : LL ≤ 4872 := by rw [← hLe]; exact jls_room (ok_cfgI HOK.out) (ok_plan HOK.out) HG.out hle
      obtain ⟨m, hm1, hm2, hml⟩ : ∃ m : Nat, (x : Int) % ((LL : Int) + 1) = (m : Int) ∧ (x : Int).tmod ((LL : Int) + 1) = (m : Int) ∧ m ≤ LL := by
        refine ⟨x % (LL + 1), by rw [show (LL : Int) + 1 = ((LL + 1 : Nat) : Int) from by omega]; rfl, ?_, by have := Nat.mod_lt x (show 0 < LL + 1 by omega); omega⟩
        rw [show (LL : Int) + 1 = ((LL + 1 : Nat) : Int) from by omega]
        rfl
      have hct := HJ.out.cut (m : Int)
      rw [tat_cut m (by rw [hLe]; exact hml)] at hct
      have CCT := Lib.hid hct
      clear hct hLe
      go_wp2_with (first
        | (go_at_call 18; (with_reducible refine HLN.out.mono ?_); rintro r wq ⟨rfl, hwq⟩; obtain rfl : wr = wq := hwq)
        | (go_at_call 19; (with_reducible refine CCT.out.mono ?_); rintro r w9 ⟨rfl, h9⟩; have HJC := Lib.hid h9; clear h9))
      have hnm := HJC.out.num _ List.mem_cons_self
      obtain ⟨gN, rfl, hcN⟩ := ownN_cell hnm (by rw [endsJ_len]; omega)
      have HCN : Hid (∀ i, i < es.length + 1 → w9.cell? ⟨gN, i, none⟩ = some (.int .i64 ((endJ cf es i : Nat) : Int))) := Lib.hid (fun i hi => by rw [hcN i (by rw [endsJ_len]; exact hi), endsJ_at _ _ _ _ hi])
      clear hnm hcN
      go_loopw [12] (fun i wr2 => ∃ k : Nat, i = .int .i64 ((k : Int) - 1) ∧ k ≤ es.length + 1 ∧ wr2 = w9 ∧ Hid (∀ j, j < k → endJ cf es j ≤ m)) (fun i _ => es.length + 1 - (intOf i + 1).toNat)
      case atStart => exact ⟨0, rfl, Nat.zero_le _, rfl, Lib.hid (fun j hj => absurd hj (Nat.not_lt_zero j))⟩
      case round =>
        obtain ⟨k, rfl, hk2, rfl, HM⟩ := hrel
        obtain ⟨z, hz⟩ : ∃ z, (k : Int) - 1 = z := ⟨_, rfl⟩
        rw [hz]
        have hz1 : z + 1 = (k : Int) := by omega
        have hw1 : IntKind.i64.wrap (z + 1) = (k : Int) := by rw [hz1]; exact wrap_id (by unfold I64; omega)
        have HZ := Lib.hid hz
        clear hz
        by_cases hk3 : k < es.length + 1
        · have hcell := HCN.out k hk3
          by_cases hem : endJ cf es k ≤ m
          · have hd1 : decide (((endJ cf es k : Nat) : Int) ≤ (m : Int)) = true := decide_eq_true (by omega)
            have HEM := Lib.hid hem
            go_wp2
            go_roundw
            case rel => exact ⟨k + 1, by go_num, by omega, trivial, Lib.hid (fun j hj => by
              rcases Nat.lt_or_ge j k with h | h
              · exact HM.out j h
              · obtain rfl : j = k := by omega
                exact HEM.out)⟩
            case measure => simp [intOf]; omega
          · have hd1 : decide (((endJ cf es k : Nat) : Int) ≤ (m : Int)) = false := decide_eq_false (by omega)
            by_cases hk0 : k = 0
            · have hen0 : m < endJ cf es 0 := by rw [← hk0]; omega
              have hzn : decide (z < 0) = true := decide_eq_true (by omega)
              clear hk0
              have hop := HJC.out.open
              rw [tat_none (torn_none (ok_cfgI HOK.out) (ok_plan HOK.out) HG.out (by rw [hLL.out]; exact hml) hen0)] at hop
              dsimp only at hop
              have HOP := Lib.hid hop
              clear hop hen0
              go_wp2_with (first
                | (go_at_call 18; (with_reducible refine HLZ.out.mono ?_); rintro r wz ⟨rfl, hwz⟩; have HWZ := Lib.hid hwz; clear hwz)
                | (go_at_call 13; (with_reducible refine HOP.out.mono ?_); rintro r w10 ⟨A9, c9, A8, c8, rfl, hoi, hoe, h10⟩; simp only [Cfg.v, Cfg.zero, List.length_nil]; have h11 := h10.keep (alloc_below w10 (.cells #[.slice A9 0 c9, .int .i64 0, .int .i64 0, .int .i64 0, .int .i64 0, .int .i64 0, .int .i64 0] 28)); have HJF := Lib.hid h11; have HLZ := Lib.hid (h11.len); rw [show ((tat 100000 []).all.length : Int) = 0 from rfl] at HLZ; clear hoi hoe h10 h11))
              go_ret
              exact ⟨rfl, by rw [← HWZ.out]; exact HJF.out.below⟩
            · obtain ⟨kk, hkk1⟩ : ∃ kk, k = kk + 1 := ⟨k - 1, by omega⟩
              have hen1 : endJ cf es kk ≤ m := HM.out kk (by omega)
              have hen2 : kk < es.length → m < endJ cf es (kk + 1) := fun _ => by rw [← hkk1]; omega
              have hkk : kk ≤ es.length := by omega
              have hzk : z = (kk : Int) := by omega
              have HZK := Lib.hid hzk
              clear hzk hkk1 hk0
              obtain ⟨r, hr1, hr2⟩ := torn_some (ok_cfgI HOK.out) (ok_plan HOK.out) HG.out (k := kk) (m := m) hkk (by rw [hLL.out]; exact hml) hen1 hen2
              have hop := HJC.out.open
              rw [hr1, tat_open (ok_cfgI HOK.out) (ok_plan HOK.out) (good_take HG.out kk) hr2] at hop
              dsimp only at hop
              have hlk : (es.take kk).length = kk := by rw [List.length_take]; omega
              rw [hlk] at hop
              have HLK := Lib.hid hlk
              have HOP := Lib.hid hop
              have hnn : decide (z < 0) = false := decide_eq_false (by have := HZK.out; omega)
              clear hop hr1 hr2 hlk hen1 hen2
              go_wp2_with (first
                | (go_at_call 13; (with_reducible refine HOQ.out.mono ?_); rintro r w12 ⟨A11, c11, A10, c10, rfl, hoi, hoe, h12⟩; simp only [Cfg.v]; have HJF := Lib.hid (((h12.keep (alloc_below w12 (.cells #[.slice A11 cf.insts.length c11, .int .i64 cf.skin, .int .i64 cf.times, .int .i64 cf.port, .int .i64 cf.bid, .int .i64 cf.lot, .int .i64 cf.hedge] 28))).moreC (b := w12.heap.size) (cf := cf) (u := .slice A11 cf.insts.length c11) (Rec.new w12 _ (cf.cells (.slice A11 cf.insts.length c11)) _ rfl) (OwnL.keep hoi (alloc_below w12 (.cells #[.slice A11 cf.insts.length c11, .int .i64 cf.skin, .int .i64 cf.times, .int .i64 cf.port, .int .i64 cf.bid, .int .i64 cf.lot, .int .i64 cf.hedge] 28)))).moreO (OwnL.keep hoe (alloc_below w12 (.cells #[.slice A11 cf.insts.length c11, .int .i64 cf.skin, .int .i64 cf.times, .int .i64 cf.port, .int .i64 cf.bid, .int .i64 cf.lot, .int .i64 cf.hedge] 28)))); clear hoi hoe h12)
                | (go_at_call 13; (with_reducible refine HOP.out.mono ?_); rintro r w10 ⟨A9, c9, A8, c8, rfl, hoi, hoe, h10⟩; simp only [Cfg.v]; have h11 := ((h10.keep (alloc_below w10 (.cells #[.slice A9 cf.insts.length c9, .int .i64 cf.skin, .int .i64 cf.times, .int .i64 cf.port, .int .i64 cf.bid, .int .i64 cf.lot, .int .i64 cf.hedge] 28))).moreC (b := w10.heap.size) (cf := cf) (u := .slice A9 cf.insts.length c9) (Rec.new w10 _ (cf.cells (.slice A9 cf.insts.length c9)) _ rfl) (OwnL.keep hoi (alloc_below w10 (.cells #[.slice A9 cf.insts.length c9, .int .i64 cf.skin, .int .i64 cf.times, .int .i64 cf.port, .int .i64 cf.bid, .int .i64 cf.lot, .int .i64 cf.hedge] 28)))).moreO (OwnL.keep hoe (alloc_below w10 (.cells #[.slice A9 cf.insts.length c9, .int .i64 cf.skin, .int .i64 cf.times, .int .i64 cf.port, .int .i64 cf.bid, .int .i64 cf.lot, .int .i64 cf.hedge] 28))); have HOQ := Lib.hid (h11.open); rw [tat_whole (ok_cfgI HOK.out) (ok_plan HOK.out) (good_take HG.out kk)] at HOQ; dsimp only at HOQ; rw [HLK.out] at HOQ; clear hoi hoe h10 h11))
              rw [HZK.out]
              obtain ⟨Wd, hWd⟩ : ∃ Wd, Wd = w12.alloc (.cells #[.slice A11 cf.insts.length c11, .int .i64 cf.skin, .int .i64 cf.times, .int .i64 cf.port, .int .i64 cf.bid, .int .i64 cf.lot, .int .i64 cf.hedge] 28) := ⟨_, rfl⟩
              rw [← hWd] at HJF ⊢
              clear hWd HOP
              have FC0 : Hid (∀ W, Below Wd.heap.size Wd W → CfAt W w3.heap.size cf (.slice AI cf.insts.length cI) ∧ InsM W AI cf.insts) := Lib.hid (fun W hW => by have := (HJF.out.keep hW).cfg (w3.heap.size, cf, .slice AI cf.insts.length cI) (by simp); exact ⟨this.1, own_insM this.2⟩)
              have FC1 : Hid (∀ W, Below Wd.heap.size Wd W → CfAt W w10.heap.size cf (.slice A9 cf.insts.length c9) ∧ InsM W A9 cf.insts) := Lib.hid (fun W hW => by have := (HJF.out.keep hW).cfg (w10.heap.size, cf, .slice A9 cf.insts.length c9) (by simp); exact ⟨this.1, own_insM this.2⟩)
              have FC2 : Hid (∀ W, Below Wd.heap.size Wd W → CfAt W w12.heap.size cf (.slice A11 cf.insts.length c11) ∧ InsM W A11 cf.insts) := Lib.hid (fun W hW => by have := (HJF.out.keep hW).cfg (w12.heap.size, cf, .slice A11 cf.insts.length c11) (by simp); exact ⟨this.1, own_insM this.2⟩)
              have FE0 : Hid (∀ W, Below Wd.heap.size Wd W → EvM W AE es) := Lib.hid (fun W hW => evm_of (n := es.length) (c := cE) ((HJF.out.keep hW).evs (.slice AE es.length cE, es) (by simp)))
              have FE1 : Hid (∀ W, Below Wd.heap.size Wd W → EvM W A8 (es.take kk)) := Lib.hid (fun W hW => evm_of (n := kk) (c := c8) ((HJF.out.keep hW).evs (.slice A8 kk c8, es.take kk) (by simp)))
              have FE2 : Hid (∀ W, Below Wd.heap.size Wd W → EvM W A10 (es.take kk)) := Lib.hid (fun W hW => evm_of (n := kk) (c := c10) ((HJF.out.keep hW).evs (.slice A10 kk c10, es.take kk) (by simp)))
              have FN0 : Hid (∀ W, Below Wd.heap.size Wd W → OwnN W w.heap.size (.slice (some ⟨gN, 0, none⟩) (es.length + 1) cN) (endsJ cf es es.length)) := Lib.hid (fun W hW => (HJF.out.keep hW).num _ List.mem_cons_self)
              have FNC : Hid (∀ W, Below Wd.heap.size Wd W → W.cell? ⟨gN, kk, none⟩ = some (.int .i64 ((endJ cf es kk : Nat) : Int))) := Lib.hid (fun W hW => by
                obtain ⟨g, e, hc⟩ := ownN_cell (FN0.out W hW) (by rw [endsJ_len]; omega)
                injection e with e; injection e with e; subst e
                rw [hc kk (by rw [endsJ_len]; omega), endsJ_at _ _ _ _ (by omega)])
              have FLN : Hid (∀ W, Below Wd.heap.size Wd W → Calls Try.prog 18 #[.pointer (some ⟨w4.heap.size, 0, none⟩)] W fun r w' => r = .returned (.int .i64 ((endJ cf es kk : Nat) : Int)) ∧ W = w') := Lib.hid (fun W hW => (HJF.out.keep hW).len)
              refine wp_region_dag [105, 106, 107, 108, 109, 110, 111, 112, 113, 114, 115, 116, 117, 118, 119, 120, 121, 122, 123, 124, 125, 126, 127, 128, 129, 130, 131, 132, 133, 134, 135, 136, 137, 138, 139, 140, 141, 4] (fun W W' => Below W.heap.size W W') (fun W => Below Wd.heap.size Wd W) (spAt [.val (.int .i64 0), .val (.bool true), .val (.bool true), .val (.int .i64 0), .val (.bool true), .val (.bool true), .val (.bool true), .val (.agg #[.slice A9 cf.insts.length c9, .int .i64 cf.skin, .int .i64 cf.times, .int .i64 cf.port, .int .i64 cf.bid, .int .i64 cf.lot, .int .i64 cf.hedge]), .val (.agg #[.slice AI cf.insts.length cI, .int .i64 cf.skin, .int .i64 cf.times, .int .i64 cf.port, .int .i64 cf.bid, .int .i64 cf.lot, .int .i64 cf.hedge]), .val (.bool true), .val (.bool true), .val (.bool true), .val (.agg #[.slice A11 cf.insts.length c11, .int .i64 cf.skin, .int .i64 cf.times, .int .i64 cf.port, .int .i64 cf.bid, .int .i64 cf.lot, .int .i64 cf.hedge]), .val (.agg #[.slice AI cf.insts.length cI, .int .i64 cf.skin, .int .i64 cf.times, .int .i64 cf.port, .int .i64 cf.bid, .int .i64 cf.lot, .int .i64 cf.hedge]), .val (.bool true), .val (.bool true), .val (.bool true), .val (.slice A8 kk c8), .val (.slice AE es.length cE), .val (.int .i64 (kk : Int)), .val (.slice AE kk cE), .val (.bool true), .val (.bool true), .val (.bool true), .val (.slice A10 kk c10), .val (.slice A8 kk c8), .val (.bool true), .val (.bool true), .val (.bool true), .val (.pointer (some ⟨w4.heap.size, 0, none⟩)), .val (.int .i64 ((endJ cf es kk : Nat) : Int)), .val (.slice (some ⟨gN, 0, none⟩) (es.length + 1) cN), .val (.int .i64 (kk : Int)), .val (.pointer (some ⟨gN, kk, none⟩)), .val (.int .i64 ((endJ cf es kk : Nat) : Int)), .val (.bool true), .val (.bool true), .val (.bool true)]) rfl rfl rfl rfl (spAt_st _) ((Below.refl _ _).drew) ⟨?_, ?_, ?_, ?_, ?_, ?_, ?_, ?_, ?_, ?_, ?_, ?_, ?_, ?_, ?_, ?_, ?_, ?_, ?_, ?_, ?_, ?_, ?_, ?_, ?_, ?_, ?_, ?_, ?_, ?_, ?_, ?_, ?_, ?_, ?_, ?_, ?_, ?_, trivial⟩ ?_
              · intro a W K ho hW hpre hK
                rw [if_pos (wanted_none rfl)]
                have e0 : a.tmps.getD 15 undef = .int .i64 0 := ho.slot 15 (by decide)
                go_simp
                exact hK _ _ (Below.refl _ _) hW rfl
              · intro a W K ho hW hpre hK
                rw [if_pos (wanted_none rfl)]
                have e0 : a.tmps.getD 105 undef = .int .i64 0 := hpre ⟨0, .data⟩ (by simp) rfl _ rfl
                go_simp
                exact hK _ _ (Below.refl _ _) hW rfl
              · intro a W K ho hW hpre hK
                rw [if_pos (wanted_none rfl)]
                have e0 : a.tmps.getD 106 undef = .bool true := hpre ⟨1, .data⟩ (by simp) rfl _ rfl
                go_simp
                exact hK _ _ (Below.refl _ _) hW rfl
              · intro a W K ho hW hpre hK
                have eg : a.tmps.getD 107 undef = .bool true := hpre ⟨2, .guard⟩ (by simp) rfl _ rfl
                rw [if_pos (wanted_at ho rfl rfl rfl (Nat.le_of_ble_eq_true rfl) eg)]
                clear eg
                have e0 : a.tmps.getD 18 undef = .int .i64 0 := ho.slot 18 (by decide)
                go_simp
                exact hK _ _ (Below.refl _ _) hW rfl
              · intro a W K ho hW hpre hK
                have eg : a.tmps.getD 107 undef = .bool true := hpre ⟨2, .guard⟩ (by simp) rfl _ rfl
                rw [if_pos (wanted_at ho rfl rfl rfl (Nat.le_of_ble_eq_true rfl) eg)]
                clear eg
                have e0 : a.tmps.getD 108 undef = .int .i64 0 := hpre ⟨3, .data⟩ (by simp) rfl _ rfl
                go_simp
                exact hK _ _ (Below.refl _ _) hW rfl
              · intro a W K ho hW hpre hK
                rw [if_pos (wanted_none rfl)]
                have e0 : a.tmps.getD 107 undef = .bool true := hpre ⟨2, .data⟩ (by simp) rfl _ rfl
                have e1 : a.tmps.getD 109 undef = .bool true := hpre ⟨4, .data⟩ (by simp) rfl _ rfl
                go_simp
                exact hK _ _ (Below.refl _ _) hW rfl
              · intro a W K ho hW hpre hK
                rw [if_pos (wanted_none rfl)]
                have e0 : a.tmps.getD 110 undef = .bool true := hpre ⟨5, .data⟩ (by simp) rfl _ rfl
                go_simp
                exact hK _ _ (Below.refl _ _) hW rfl
              · intro a W K ho hW hpre hK
                have eg : a.tmps.getD 111 undef = .bool true := hpre ⟨6, .guard⟩ (by simp) rfl _ rfl
                rw [if_pos (wanted_at ho rfl rfl rfl (Nat.le_of_ble_eq_true rfl) eg)]
                clear eg
                have e0 : a.tmps.getD 13 undef = .pointer (some ⟨w10.heap.size, 0, none⟩) := ho.slot 13 (by decide)
                obtain ⟨q0, q1, q2, q3, q4, q5, q6⟩ := (FC1.out W hW).1.reads
                go_simp
                exact hK _ _ (Below.refl _ _) hW rfl
              · intro a W K ho hW hpre hK
                have eg : a.tmps.getD 111 undef = .bool true := hpre ⟨6, .guard⟩ (by simp) rfl _ rfl
                rw [if_pos (wanted_at ho rfl rfl rfl (Nat.le_of_ble_eq_true rfl) eg)]
                clear eg
                have e0 : a.tmps.getD 6 undef = .pointer (some ⟨w3.heap.size, 0, none⟩) := ho.slot 6 (by decide)
                obtain ⟨q0, q1, q2, q3, q4, q5, q6⟩ := (FC0.out W hW).1.reads
                go_simp
                exact hK _ _ (Below.refl _ _) hW rfl
              · intro a W K ho hW hpre hK
                have eg : a.tmps.getD 111 undef = .bool true := hpre ⟨6, .guard⟩ (by simp) rfl _ rfl
                rw [if_pos (wanted_at ho rfl rfl rfl (Nat.le_of_ble_eq_true rfl) eg)]
                clear eg
                have e0 : a.tmps.getD 112 undef = .agg #[.slice A9 cf.insts.length c9, .int .i64 cf.skin, .int .i64 cf.times, .int .i64 cf.port, .int .i64 cf.bid, .int .i64 cf.lot, .int .i64 cf.hedge] := hpre ⟨7, .data⟩ (by simp) rfl _ rfl
                have e1 : a.tmps.getD 113 undef = .agg #[.slice AI cf.insts.length cI, .int .i64 cf.skin, .int .i64 cf.times, .int .i64 cf.port, .int .i64 cf.bid, .int .i64 cf.lot, .int .i64 cf.hedge] := hpre ⟨8, .data⟩ (by simp) rfl _ rfl
                have CSP := Lib.hid (rsame_any cf cf A9 AI cf.insts.length cf.insts.length c9 cI W rfl rfl (FC1.out W hW).2 (FC0.out W hW).2 (by have := plan_small (ok_plan HOK.out); omega))
                rw [decide_eq_true rfl] at CSP
                unfold Cfg.v at CSP
                go_simp
                refine CSP.out.mono ?_
                rintro e w5 ⟨rfl, hb5⟩
                exact hK _ _ hb5 (hW.trans (hb5.mono hW.size)) rfl
              · intro a W K ho hW hpre hK
                rw [if_pos (wanted_none rfl)]
                have e0 : a.tmps.getD 111 undef = .bool true := hpre ⟨6, .data⟩ (by simp) rfl _ rfl
                have e1 : a.tmps.getD 114 undef = .bool true := hpre ⟨9, .data⟩ (by simp) rfl _ rfl
                go_simp
                exact hK _ _ (Below.refl _ _) hW rfl
              · intro a W K ho hW hpre hK
                rw [if_pos (wanted_none rfl)]
                have e0 : a.tmps.getD 115 undef = .bool true := hpre ⟨10, .data⟩ (by simp) rfl _ rfl
                go_simp
                exact hK _ _ (Below.refl _ _) hW rfl
              · intro a W K ho hW hpre hK
                have eg : a.tmps.getD 116 undef = .bool true := hpre ⟨11, .guard⟩ (by simp) rfl _ rfl
                rw [if_pos (wanted_at ho rfl rfl rfl (Nat.le_of_ble_eq_true rfl) eg)]
                clear eg
                have e0 : a.tmps.getD 16 undef = .pointer (some ⟨w12.heap.size, 0, none⟩) := ho.slot 16 (by decide)
                obtain ⟨q0, q1, q2, q3, q4, q5, q6⟩ := (FC2.out W hW).1.reads
                go_simp
                exact hK _ _ (Below.refl _ _) hW rfl
              · intro a W K ho hW hpre hK
                have eg : a.tmps.getD 116 undef = .bool true := hpre ⟨11, .guard⟩ (by simp) rfl _ rfl
                rw [if_pos (wanted_at ho rfl rfl rfl (Nat.le_of_ble_eq_true rfl) eg)]
                clear eg
                have e0 : a.tmps.getD 6 undef = .pointer (some ⟨w3.heap.size, 0, none⟩) := ho.slot 6 (by decide)
                obtain ⟨q0, q1, q2, q3, q4, q5, q6⟩ := (FC0.out W hW).1.reads
                go_simp
                exact hK _ _ (Below.refl _ _) hW rfl
              · intro a W K ho hW hpre hK
                have eg : a.tmps.getD 116 undef = .bool true := hpre ⟨11, .guard⟩ (by simp) rfl _ rfl
                rw [if_pos (wanted_at ho rfl rfl rfl (Nat.le_of_ble_eq_true rfl) eg)]
                clear eg
                have e0 : a.tmps.getD 117 undef = .agg #[.slice A11 cf.insts.length c11, .int .i64 cf.skin, .int .i64 cf.times, .int .i64 cf.port, .int .i64 cf.bid, .int .i64 cf.lot, .int .i64 cf.hedge] := hpre ⟨12, .data⟩ (by simp) rfl _ rfl
                have e1 : a.tmps.getD 118 undef = .agg #[.slice AI cf.insts.length cI, .int .i64 cf.skin, .int .i64 cf.times, .int .i64 cf.port, .int .i64 cf.bid, .int .i64 cf.lot, .int .i64 cf.hedge] := hpre ⟨13, .data⟩ (by simp) rfl _ rfl
                have CSP := Lib.hid (rsame_any cf cf A11 AI cf.insts.length cf.insts.length c11 cI W rfl rfl (FC2.out W hW).2 (FC0.out W hW).2 (by have := plan_small (ok_plan HOK.out); omega))
                rw [decide_eq_true rfl] at CSP
                unfold Cfg.v at CSP
                go_simp
                refine CSP.out.mono ?_
                rintro e w5 ⟨rfl, hb5⟩
                exact hK _ _ hb5 (hW.trans (hb5.mono hW.size)) rfl
              · intro a W K ho hW hpre hK
                rw [if_pos (wanted_none rfl)]
                have e0 : a.tmps.getD 116 undef = .bool true := hpre ⟨11, .data⟩ (by simp) rfl _ rfl
                have e1 : a.tmps.getD 119 undef = .bool true := hpre ⟨14, .data⟩ (by simp) rfl _ rfl
                go_simp
                exact hK _ _ (Below.refl _ _) hW rfl
              · intro a W K ho hW hpre hK
                rw [if_pos (wanted_none rfl)]
                have e0 : a.tmps.getD 120 undef = .bool true := hpre ⟨15, .data⟩ (by simp) rfl _ rfl
                go_simp
                exact hK _ _ (Below.refl _ _) hW rfl
              · intro a W K ho hW hpre hK
                have eg : a.tmps.getD 121 undef = .bool true := hpre ⟨16, .guard⟩ (by simp) rfl _ rfl
                rw [if_pos (wanted_at ho rfl rfl rfl (Nat.le_of_ble_eq_true rfl) eg)]
                clear eg
                have e0 : a.tmps.getD 14 undef = .slice A8 kk c8 := ho.slot 14 (by decide)
                go_simp
                exact hK _ _ (Below.refl _ _) hW rfl
              · intro a W K ho hW hpre hK
                have eg : a.tmps.getD 121 undef = .bool true := hpre ⟨16, .guard⟩ (by simp) rfl _ rfl
                rw [if_pos (wanted_at ho rfl rfl rfl (Nat.le_of_ble_eq_true rfl) eg)]
                clear eg
                have e0 : a.tmps.getD 7 undef = .slice AE es.length cE := ho.slot 7 (by decide)
                go_simp
                exact hK _ _ (Below.refl _ _) hW rfl
              · intro a W K ho hW hpre hK
                have eg : a.tmps.getD 121 undef = .bool true := hpre ⟨16, .guard⟩ (by simp) rfl _ rfl
                rw [if_pos (wanted_at ho rfl rfl rfl (Nat.le_of_ble_eq_true rfl) eg)]
                clear eg
                have e0 : a.tmps.getD 12 undef = .int .i64 (kk : Int) := ho.slot 12 (by decide)
                go_simp
                exact hK _ _ (Below.refl _ _) hW rfl
              · intro a W K ho hW hpre hK
                have eg : a.tmps.getD 121 undef = .bool true := hpre ⟨16, .guard⟩ (by simp) rfl _ rfl
                rw [if_pos (wanted_at ho rfl rfl rfl (Nat.le_of_ble_eq_true rfl) eg)]
                clear eg
                have e0 : a.tmps.getD 123 undef = .slice AE es.length cE := hpre ⟨18, .data⟩ (by simp) rfl _ rfl
                have e1 : a.tmps.getD 124 undef = .int .i64 (kk : Int) := hpre ⟨19, .data⟩ (by simp) rfl _ rfl
                have hkc : kk ≤ cE := by omega
                go_simp
                exact hK _ _ (Below.refl _ _) hW rfl
              · intro a W K ho hW hpre hK
                have eg : a.tmps.getD 121 undef = .bool true := hpre ⟨16, .guard⟩ (by simp) rfl _ rfl
                rw [if_pos (wanted_at ho rfl rfl rfl (Nat.le_of_ble_eq_true rfl) eg)]
                clear eg
                have e0 : a.tmps.getD 122 undef = .slice A8 kk c8 := hpre ⟨17, .data⟩ (by simp) rfl _ rfl
                have e1 : a.tmps.getD 125 undef = .slice AE kk cE := hpre ⟨20, .data⟩ (by simp) rfl _ rfl
                have CSP := Lib.hid (events_any A8 AE (es.take kk) (es.take kk) kk kk c8 cE W HLK.out.symm HLK.out.symm (FE1.out W hW) ((FE0.out W hW).take kk) (by omega))
                rw [decide_eq_true rfl] at CSP
                go_simp
                refine CSP.out.mono ?_
                rintro e w5 ⟨rfl, hb5⟩
                exact hK _ _ hb5 (hW.trans (hb5.mono hW.size)) rfl
              · intro a W K ho hW hpre hK
                rw [if_pos (wanted_none rfl)]
                have e0 : a.tmps.getD 121 undef = .bool true := hpre ⟨16, .data⟩ (by simp) rfl _ rfl
                have e1 : a.tmps.getD 126 undef = .bool true := hpre ⟨21, .data⟩ (by simp) rfl _ rfl
                go_simp
                exact hK _ _ (Below.refl _ _) hW rfl
              · intro a W K ho hW hpre hK
                rw [if_pos (wanted_none rfl)]
                have e0 : a.tmps.getD 127 undef = .bool true := hpre ⟨22, .data⟩ (by simp) rfl _ rfl
                go_simp
                exact hK _ _ (Below.refl _ _) hW rfl
              · intro a W K ho hW hpre hK
                have eg : a.tmps.getD 128 undef = .bool true := hpre ⟨23, .guard⟩ (by simp) rfl _ rfl
                rw [if_pos (wanted_at ho rfl rfl rfl (Nat.le_of_ble_eq_true rfl) eg)]
                clear eg
                have e0 : a.tmps.getD 17 undef = .slice A10 kk c10 := ho.slot 17 (by decide)
                go_simp
                exact hK _ _ (Below.refl _ _) hW rfl
              · intro a W K ho hW hpre hK
                have eg : a.tmps.getD 128 undef = .bool true := hpre ⟨23, .guard⟩ (by simp) rfl _ rfl
                rw [if_pos (wanted_at ho rfl rfl rfl (Nat.le_of_ble_eq_true rfl) eg)]
                clear eg
                have e0 : a.tmps.getD 14 undef = .slice A8 kk c8 := ho.slot 14 (by decide)
                go_simp
                exact hK _ _ (Below.refl _ _) hW rfl
              · intro a W K ho hW hpre hK
                have eg : a.tmps.getD 128 undef = .bool true := hpre ⟨23, .guard⟩ (by simp) rfl _ rfl
                rw [if_pos (wanted_at ho rfl rfl rfl (Nat.le_of_ble_eq_true rfl) eg)]
                clear eg
                have e0 : a.tmps.getD 129 undef = .slice A10 kk c10 := hpre ⟨24, .data⟩ (by simp) rfl _ rfl
                have e1 : a.tmps.getD 130 undef = .slice A8 kk c8 := hpre ⟨25, .data⟩ (by simp) rfl _ rfl
                have CSP := Lib.hid (events_any A10 A8 (es.take kk) (es.take kk) kk kk c10 c8 W HLK.out.symm HLK.out.symm (FE2.out W hW) (FE1.out W hW) (by omega))
                rw [decide_eq_true rfl] at CSP
                go_simp
                refine CSP.out.mono ?_
                rintro e w5 ⟨rfl, hb5⟩
                exact hK _ _ hb5 (hW.trans (hb5.mono hW.size)) rfl
              · intro a W K ho hW hpre hK
                rw [if_pos (wanted_none rfl)]
                have e0 : a.tmps.getD 128 undef = .bool true := hpre ⟨23, .data⟩ (by simp) rfl _ rfl
                have e1 : a.tmps.getD 131 undef = .bool true := hpre ⟨26, .data⟩ (by simp) rfl _ rfl
                go_simp
                exact hK _ _ (Below.refl _ _) hW rfl
              · intro a W K ho hW hpre hK
                rw [if_pos (wanted_none rfl)]
                have e0 : a.tmps.getD 132 undef = .bool true := hpre ⟨27, .data⟩ (by simp) rfl _ rfl
                go_simp
                exact hK _ _ (Below.refl _ _) hW rfl
              · intro a W K ho hW hpre hK
                have eg : a.tmps.getD 133 undef = .bool true := hpre ⟨28, .guard⟩ (by simp) rfl _ rfl
                rw [if_pos (wanted_at ho rfl rfl rfl (Nat.le_of_ble_eq_true rfl) eg)]
                clear eg
                have e0 : a.tmps.getD 8 undef = .pointer (some ⟨w4.heap.size, 0, none⟩) := ho.slot 8 (by decide)
                go_simp
                exact hK _ _ (Below.refl _ _) hW rfl
              · intro a W K ho hW hpre hK
                have eg : a.tmps.getD 133 undef = .bool true := hpre ⟨28, .guard⟩ (by simp) rfl _ rfl
                rw [if_pos (wanted_at ho rfl rfl rfl (Nat.le_of_ble_eq_true rfl) eg)]
                clear eg
                have e0 : a.tmps.getD 134 undef = .pointer (some ⟨w4.heap.size, 0, none⟩) := hpre ⟨29, .data⟩ (by simp) rfl _ rfl
                go_simp
                refine (FLN.out W hW).mono ?_
                rintro e wq ⟨rfl, hwq⟩
                obtain rfl : W = wq := hwq
                exact hK _ _ (Below.refl _ _) hW rfl
              · intro a W K ho hW hpre hK
                have eg : a.tmps.getD 133 undef = .bool true := hpre ⟨28, .guard⟩ (by simp) rfl _ rfl
                rw [if_pos (wanted_at ho rfl rfl rfl (Nat.le_of_ble_eq_true rfl) eg)]
                clear eg
                have e0 : a.tmps.getD 9 undef = .slice (some ⟨gN, 0, none⟩) (es.length + 1) cN := ho.slot 9 (by decide)
                go_simp
                exact hK _ _ (Below.refl _ _) hW rfl
              · intro a W K ho hW hpre hK
                have eg : a.tmps.getD 133 undef = .bool true := hpre ⟨28, .guard⟩ (by simp) rfl _ rfl
                rw [if_pos (wanted_at ho rfl rfl rfl (Nat.le_of_ble_eq_true rfl) eg)]
                clear eg
                have e0 : a.tmps.getD 12 undef = .int .i64 (kk : Int) := ho.slot 12 (by decide)
                go_simp
                exact hK _ _ (Below.refl _ _) hW rfl
              · intro a W K ho hW hpre hK
                have eg : a.tmps.getD 133 undef = .bool true := hpre ⟨28, .guard⟩ (by simp) rfl _ rfl
                rw [if_pos (wanted_at ho rfl rfl rfl (Nat.le_of_ble_eq_true rfl) eg)]
                clear eg
                have e0 : a.tmps.getD 136 undef = .slice (some ⟨gN, 0, none⟩) (es.length + 1) cN := hpre ⟨31, .data⟩ (by simp) rfl _ rfl
                have e1 : a.tmps.getD 137 undef = .int .i64 (kk : Int) := hpre ⟨32, .data⟩ (by simp) rfl _ rfl
                have hkc : (kk : Int) < (es.length : Int) + 1 := by omega
                go_simp
                exact hK _ _ (Below.refl _ _) hW rfl
              · intro a W K ho hW hpre hK
                have eg : a.tmps.getD 133 undef = .bool true := hpre ⟨28, .guard⟩ (by simp) rfl _ rfl
                rw [if_pos (wanted_at ho rfl rfl rfl (Nat.le_of_ble_eq_true rfl) eg)]
                clear eg
                have e0 : a.tmps.getD 138 undef = .pointer (some ⟨gN, kk, none⟩) := hpre ⟨33, .data⟩ (by simp) rfl _ rfl
                have hc := FNC.out W hW
                go_simp
                exact hK _ _ (Below.refl _ _) hW rfl
              · intro a W K ho hW hpre hK
                have eg : a.tmps.getD 133 undef = .bool true := hpre ⟨28, .guard⟩ (by simp) rfl _ rfl
                rw [if_pos (wanted_at ho rfl rfl rfl (Nat.le_of_ble_eq_true rfl) eg)]
                clear eg
                have e0 : a.tmps.getD 135 undef = .int .i64 ((endJ cf es kk : Nat) : Int) := hpre ⟨30, .data⟩ (by simp) rfl _ rfl
                have e1 : a.tmps.getD 139 undef = .int .i64 ((endJ cf es kk : Nat) : Int) := hpre ⟨34, .data⟩ (by simp) rfl _ rfl
                go_simp
                exact hK _ _ (Below.refl _ _) hW rfl
              · intro a W K ho hW hpre hK
                rw [if_pos (wanted_none rfl)]
                have e0 : a.tmps.getD 133 undef = .bool true := hpre ⟨28, .data⟩ (by simp) rfl _ rfl
                have e1 : a.tmps.getD 140 undef = .bool true := hpre ⟨35, .data⟩ (by simp) rfl _ rfl
                go_simp
                exact hK _ _ (Below.refl _ _) hW rfl
              · intro a W K ho hW hpre hK
                rw [if_pos (wanted_none rfl)]
                have e0 : a.tmps.getD 141 undef = .bool true := hpre ⟨36, .data⟩ (by simp) rfl _ rfl
                go_simp
                exact hK _ _ (Below.refl _ _) hW rfl
              · intro a W ho hW hall
                have e8 : a.tmps.getD 4 undef = .bool true := hall 37 _ rfl
                have hdf : a.defers = [] := ho.defers
                have HW := Lib.hid (HJF.out.below.trans (hW.mono HJF.out.below.size))
                clear hall hW ho
                first
                  | (rename_i hKK; refine hKK _ _ ?_)
                  | (rename_i hKK _; refine hKK _ _ ?_)
                  | (rename_i hKK _ _; refine hKK _ _ ?_)
                refine wp_ret ?_
                refine bodyPost_ret (v := .bool true) ?_ hdf ⟨rfl, HW.out⟩
                rw [results_tmp rfl, e8]
        · have hkl : k = es.length + 1 := by omega
          obtain ⟨kk, hkk1⟩ : ∃ kk, kk = es.length := ⟨_, rfl⟩
          have hen1 : endJ cf es kk ≤ m := HM.out kk (by omega)
          have hen2 : kk < es.length → m < endJ cf es (kk + 1) := fun h => absurd h (by omega)
          have hkk : kk ≤ es.length := by omega
          have hzk : z = (kk : Int) := by omega
          have HZK := Lib.hid hzk
          clear hzk hkk1 hkl
          obtain ⟨r, hr1, hr2⟩ := torn_some (ok_cfgI HOK.out) (ok_plan HOK.out) HG.out (k := kk) (m := m) hkk (by rw [hLL.out]; exact hml) hen1 hen2
          have hop := HJC.out.open
          rw [hr1, tat_open (ok_cfgI HOK.out) (ok_plan HOK.out) (good_take HG.out kk) hr2] at hop
          dsimp only at hop
          have hlk : (es.take kk).length = kk := by rw [List.length_take]; omega
          rw [hlk] at hop
          have HLK := Lib.hid hlk
          have HOP := Lib.hid hop
          have hnn : decide (z < 0) = false := decide_eq_false (by have := HZK.out; omega)
          clear hop hr1 hr2 hlk hen1 hen2
          go_wp2_with (first
            | (go_at_call 13; (with_reducible refine HOQ.out.mono ?_); rintro r w12 ⟨A11, c11, A10, c10, rfl, hoi, hoe, h12⟩; simp only [Cfg.v]; have HJF := Lib.hid (((h12.keep (alloc_below w12 (.cells #[.slice A11 cf.insts.length c11, .int .i64 cf.skin, .int .i64 cf.times, .int .i64 cf.port, .int .i64 cf.bid, .int .i64 cf.lot, .int .i64 cf.hedge] 28))).moreC (b := w12.heap.size) (cf := cf) (u := .slice A11 cf.insts.length c11) (Rec.new w12 _ (cf.cells (.slice A11 cf.insts.length c11)) _ rfl) (OwnL.keep hoi (alloc_below w12 (.cells #[.slice A11 cf.insts.length c11, .int .i64 cf.skin, .int .i64 cf.times, .int .i64 cf.port, .int .i64 cf.bid, .int .i64 cf.lot, .int .i64 cf.hedge] 28)))).moreO (OwnL.keep hoe (alloc_below w12 (.cells #[.slice A11 cf.insts.length c11, .int .i64 cf.skin, .int .i64 cf.times, .int .i64 cf.port, .int .i64 cf.bid, .int .i64 cf.lot, .int .i64 cf.hedge] 28)))); clear hoi hoe h12)
            | (go_at_call 13; (with_reducible refine HOP.out.mono ?_); rintro r w10 ⟨A9, c9, A8, c8, rfl, hoi, hoe, h10⟩; simp only [Cfg.v]; have h11 := ((h10.keep (alloc_below w10 (.cells #[.slice A9 cf.insts.length c9, .int .i64 cf.skin, .int .i64 cf.times, .int .i64 cf.port, .int .i64 cf.bid, .int .i64 cf.lot, .int .i64 cf.hedge] 28))).moreC (b := w10.heap.size) (cf := cf) (u := .slice A9 cf.insts.length c9) (Rec.new w10 _ (cf.cells (.slice A9 cf.insts.length c9)) _ rfl) (OwnL.keep hoi (alloc_below w10 (.cells #[.slice A9 cf.insts.length c9, .int .i64 cf.skin, .int .i64 cf.times, .int .i64 cf.port, .int .i64 cf.bid, .int .i64 cf.lot, .int .i64 cf.hedge] 28)))).moreO (OwnL.keep hoe (alloc_below w10 (.cells #[.slice A9 cf.insts.length c9, .int .i64 cf.skin, .int .i64 cf.times, .int .i64 cf.port, .int .i64 cf.bid, .int .i64 cf.lot, .int .i64 cf.hedge] 28))); have HOQ := Lib.hid (h11.open); rw [tat_whole (ok_cfgI HOK.out) (ok_plan HOK.out) (good_take HG.out kk)] at HOQ; dsimp only at HOQ; rw [HLK.out] at HOQ; clear hoi hoe h10 h11))
          rw [HZK.out]
          obtain ⟨Wd, hWd⟩ : ∃ Wd, Wd = w12.alloc (.cells #[.slice A11 cf.insts.length c11, .int .i64 cf.skin, .int .i64 cf.times, .int .i64 cf.port, .int .i64 cf.bid, .int .i64 cf.lot, .int .i64 cf.hedge] 28) := ⟨_, rfl⟩
          rw [← hWd] at HJF ⊢
          clear hWd HOP
          have FC0 : Hid (∀ W, Below Wd.heap.size Wd W → CfAt W w3.heap.size cf (.slice AI cf.insts.length cI) ∧ InsM W AI cf.insts) := Lib.hid (fun W hW => by have := (HJF.out.keep hW).cfg (w3.heap.size, cf, .slice AI cf.insts.length cI) (by simp); exact ⟨this.1, own_insM this.2⟩)
          have FC1 : Hid (∀ W, Below Wd.heap.size Wd W → CfAt W w10.heap.size cf (.slice A9 cf.insts.length c9) ∧ InsM W A9 cf.insts) := Lib.hid (fun W hW => by have := (HJF.out.keep hW).cfg (w10.heap.size, cf, .slice A9 cf.insts.length c9) (by simp); exact ⟨this.1, own_insM this.2⟩)
          have FC2 : Hid (∀ W, Below Wd.heap.size Wd W → CfAt W w12.heap.size cf (.slice A11 cf.insts.length c11) ∧ InsM W A11 cf.insts) := Lib.hid (fun W hW => by have := (HJF.out.keep hW).cfg (w12.heap.size, cf, .slice A11 cf.insts.length c11) (by simp); exact ⟨this.1, own_insM this.2⟩)
          have FE0 : Hid (∀ W, Below Wd.heap.size Wd W → EvM W AE es) := Lib.hid (fun W hW => evm_of (n := es.length) (c := cE) ((HJF.out.keep hW).evs (.slice AE es.length cE, es) (by simp)))
          have FE1 : Hid (∀ W, Below Wd.heap.size Wd W → EvM W A8 (es.take kk)) := Lib.hid (fun W hW => evm_of (n := kk) (c := c8) ((HJF.out.keep hW).evs (.slice A8 kk c8, es.take kk) (by simp)))
          have FE2 : Hid (∀ W, Below Wd.heap.size Wd W → EvM W A10 (es.take kk)) := Lib.hid (fun W hW => evm_of (n := kk) (c := c10) ((HJF.out.keep hW).evs (.slice A10 kk c10, es.take kk) (by simp)))
          have FN0 : Hid (∀ W, Below Wd.heap.size Wd W → OwnN W w.heap.size (.slice (some ⟨gN, 0, none⟩) (es.length + 1) cN) (endsJ cf es es.length)) := Lib.hid (fun W hW => (HJF.out.keep hW).num _ List.mem_cons_self)
          have FNC : Hid (∀ W, Below Wd.heap.size Wd W → W.cell? ⟨gN, kk, none⟩ = some (.int .i64 ((endJ cf es kk : Nat) : Int))) := Lib.hid (fun W hW => by
            obtain ⟨g, e, hc⟩ := ownN_cell (FN0.out W hW) (by rw [endsJ_len]; omega)
            injection e with e; injection e with e; subst e
            rw [hc kk (by rw [endsJ_len]; omega), endsJ_at _ _ _ _ (by omega)])
          have FLN : Hid (∀ W, Below Wd.heap.size Wd W → Calls Try.prog 18 #[.pointer (some ⟨w4.heap.size, 0, none⟩)] W fun r w' => r = .returned (.int .i64 ((endJ cf es kk : Nat) : Int)) ∧ W = w') := Lib.hid (fun W hW => (HJF.out.keep hW).len)
          refine wp_region_dag [105, 106, 107, 108, 109, 110, 111, 112, 113, 114, 115, 116, 117, 118, 119, 120, 121, 122, 123, 124, 125, 126, 127, 128, 129, 130, 131, 132, 133, 134, 135, 136, 137, 138, 139, 140, 141, 4] (fun W W' => Below W.heap.size W W') (fun W => Below Wd.heap.size Wd W) (spAt [.val (.int .i64 0), .val (.bool true), .val (.bool true), .val (.int .i64 0), .val (.bool true), .val (.bool true), .val (.bool true), .val (.agg #[.slice A9 cf.insts.length c9, .int .i64 cf.skin, .int .i64 cf.times, .int .i64 cf.port, .int .i64 cf.bid, .int .i64 cf.lot, .int .i64 cf.hedge]), .val (.agg #[.slice AI cf.insts.length cI, .int .i64 cf.skin, .int .i64 cf.times, .int .i64 cf.port, .int .i64 cf.bid, .int .i64 cf.lot, .int .i64 cf.hedge]), .val (.bool true), .val (.bool true), .val (.bool true), .val (.agg #[.slice A11 cf.insts.length c11, .int .i64 cf.skin, .int .i64 cf.times, .int .i64 cf.port, .int .i64 cf.bid, .int .i64 cf.lot, .int .i64 cf.hedge]), .val (.agg #[.slice AI cf.insts.length cI, .int .i64 cf.skin, .int .i64 cf.times, .int .i64 cf.port, .int .i64 cf.bid, .int .i64 cf.lot, .int .i64 cf.hedge]), .val (.bool true), .val (.bool true), .val (.bool true), .val (.slice A8 kk c8), .val (.slice AE es.length cE), .val (.int .i64 (kk : Int)), .val (.slice AE kk cE), .val (.bool true), .val (.bool true), .val (.bool true), .val (.slice A10 kk c10), .val (.slice A8 kk c8), .val (.bool true), .val (.bool true), .val (.bool true), .val (.pointer (some ⟨w4.heap.size, 0, none⟩)), .val (.int .i64 ((endJ cf es kk : Nat) : Int)), .val (.slice (some ⟨gN, 0, none⟩) (es.length + 1) cN), .val (.int .i64 (kk : Int)), .val (.pointer (some ⟨gN, kk, none⟩)), .val (.int .i64 ((endJ cf es kk : Nat) : Int)), .val (.bool true), .val (.bool true), .val (.bool true)]) rfl rfl rfl rfl (spAt_st _) ((Below.refl _ _).drew) ⟨?_, ?_, ?_, ?_, ?_, ?_, ?_, ?_, ?_, ?_, ?_, ?_, ?_, ?_, ?_, ?_, ?_, ?_, ?_, ?_, ?_, ?_, ?_, ?_, ?_, ?_, ?_, ?_, ?_, ?_, ?_, ?_, ?_, ?_, ?_, ?_, ?_, ?_, trivial⟩ ?_
          · intro a W K ho hW hpre hK
            rw [if_pos (wanted_none rfl)]
            have e0 : a.tmps.getD 15 undef = .int .i64 0 := ho.slot 15 (by decide)
            go_simp
            exact hK _ _ (Below.refl _ _) hW rfl
          · intro a W K ho hW hpre hK
            rw [if_pos (wanted_none rfl)]
            have e0 : a.tmps.getD 105 undef = .int .i64 0 := hpre ⟨0, .data⟩ (by simp) rfl _ rfl
            go_simp
            exact hK _ _ (Below.refl _ _) hW rfl
          · intro a W K ho hW hpre hK
            rw [if_pos (wanted_none rfl)]
            have e0 : a.tmps.getD 106 undef = .bool true := hpre ⟨1, .data⟩ (by simp) rfl _ rfl
            go_simp
            exact hK _ _ (Below.refl _ _) hW rfl
          · intro a W K ho hW hpre hK
            have eg : a.tmps.getD 107 undef = .bool true := hpre ⟨2, .guard⟩ (by simp) rfl _ rfl
            rw [if_pos (wanted_at ho rfl rfl rfl (Nat.le_of_ble_eq_true rfl) eg)]
            clear eg
            have e0 : a.tmps.getD 18 undef = .int .i64 0 := ho.slot 18 (by decide)
            go_simp
            exact hK _ _ (Below.refl _ _) hW rfl
          · intro a W K ho hW hpre hK
            have eg : a.tmps.getD 107 undef = .bool true := hpre ⟨2, .guard⟩ (by simp) rfl _ rfl
            rw [if_pos (wanted_at ho rfl rfl rfl (Nat.le_of_ble_eq_true rfl) eg)]
            clear eg
            have e0 : a.tmps.getD 108 undef = .int .i64 0 := hpre ⟨3, .data⟩ (by simp) rfl _ rfl
            go_simp
            exact hK _ _ (Below.refl _ _) hW rfl
          · intro a W K ho hW hpre hK
            rw [if_pos (wanted_none rfl)]
            have e0 : a.tmps.getD 107 undef = .bool true := hpre ⟨2, .data⟩ (by simp) rfl _ rfl
            have e1 : a.tmps.getD 109 undef = .bool true := hpre ⟨4, .data⟩ (by simp) rfl _ rfl
            go_simp
            exact hK _ _ (Below.refl _ _) hW rfl
          · intro a W K ho hW hpre hK
            rw [if_pos (wanted_none rfl)]
            have e0 : a.tmps.getD 110 undef = .bool true := hpre ⟨5, .data⟩ (by simp) rfl _ rfl
            go_simp
            exact hK _ _ (Below.refl _ _) hW rfl
          · intro a W K ho hW hpre hK
            have eg : a.tmps.getD 111 undef = .bool true := hpre ⟨6, .guard⟩ (by simp) rfl _ rfl
            rw [if_pos (wanted_at ho rfl rfl rfl (Nat.le_of_ble_eq_true rfl) eg)]
            clear eg
            have e0 : a.tmps.getD 13 undef = .pointer (some ⟨w10.heap.size, 0, none⟩) := ho.slot 13 (by decide)
            obtain ⟨q0, q1, q2, q3, q4, q5, q6⟩ := (FC1.out W hW).1.reads
            go_simp
            exact hK _ _ (Below.refl _ _) hW rfl
          · intro a W K ho hW hpre hK
            have eg : a.tmps.getD 111 undef = .bool true := hpre ⟨6, .guard⟩ (by simp) rfl _ rfl
            rw [if_pos (wanted_at ho rfl rfl rfl (Nat.le_of_ble_eq_true rfl) eg)]
            clear eg
            have e0 : a.tmps.getD 6 undef = .pointer (some ⟨w3.heap.size, 0, none⟩) := ho.slot 6 (by decide)
            obtain ⟨q0, q1, q2, q3, q4, q5, q6⟩ := (FC0.out W hW).1.reads
            go_simp
            exact hK _ _ (Below.refl _ _) hW rfl
          · intro a W K ho hW hpre hK
            have eg : a.tmps.getD 111 undef = .bool true := hpre ⟨6, .guard⟩ (by simp) rfl _ rfl
            rw [if_pos (wanted_at ho rfl rfl rfl (Nat.le_of_ble_eq_true rfl) eg)]
            clear eg
            have e0 : a.tmps.getD 112 undef = .agg #[.slice A9 cf.insts.length c9, .int .i64 cf.skin, .int .i64 cf.times, .int .i64 cf.port, .int .i64 cf.bid, .int .i64 cf.lot, .int .i64 cf.hedge] := hpre ⟨7, .data⟩ (by simp) rfl _ rfl
            have e1 : a.tmps.getD 113 undef = .agg #[.slice AI cf.insts.length cI, .int .i64 cf.skin, .int .i64 cf.times, .int .i64 cf.port, .int .i64 cf.bid, .int .i64 cf.lot, .int .i64 cf.hedge] := hpre ⟨8, .data⟩ (by simp) rfl _ rfl
            have CSP := Lib.hid (rsame_any cf cf A9 AI cf.insts.length cf.insts.length c9 cI W rfl rfl (FC1.out W hW).2 (FC0.out W hW).2 (by have := plan_small (ok_plan HOK.out); omega))
            rw [decide_eq_true rfl] at CSP
            unfold Cfg.v at CSP
            go_simp
            refine CSP.out.mono ?_
            rintro e w5 ⟨rfl, hb5⟩
            exact hK _ _ hb5 (hW.trans (hb5.mono hW.size)) rfl
          · intro a W K ho hW hpre hK
            rw [if_pos (wanted_none rfl)]
            have e0 : a.tmps.getD 111 undef = .bool true := hpre ⟨6, .data⟩ (by simp) rfl _ rfl
            have e1 : a.tmps.getD 114 undef = .bool true := hpre ⟨9, .data⟩ (by simp) rfl _ rfl
            go_simp
            exact hK _ _ (Below.refl _ _) hW rfl
          · intro a W K ho hW hpre hK
            rw [if_pos (wanted_none rfl)]
            have e0 : a.tmps.getD 115 undef = .bool true := hpre ⟨10, .data⟩ (by simp) rfl _ rfl
            go_simp
            exact hK _ _ (Below.refl _ _) hW rfl
          · intro a W K ho hW hpre hK
            have eg : a.tmps.getD 116 undef = .bool true := hpre ⟨11, .guard⟩ (by simp) rfl _ rfl
            rw [if_pos (wanted_at ho rfl rfl rfl (Nat.le_of_ble_eq_true rfl) eg)]
            clear eg
            have e0 : a.tmps.getD 16 undef = .pointer (some ⟨w12.heap.size, 0, none⟩) := ho.slot 16 (by decide)
            obtain ⟨q0, q1, q2, q3, q4, q5, q6⟩ := (FC2.out W hW).1.reads
            go_simp
            exact hK _ _ (Below.refl _ _) hW rfl
          · intro a W K ho hW hpre hK
            have eg : a.tmps.getD 116 undef = .bool true := hpre ⟨11, .guard⟩ (by simp) rfl _ rfl
            rw [if_pos (wanted_at ho rfl rfl rfl (Nat.le_of_ble_eq_true rfl) eg)]
            clear eg
            have e0 : a.tmps.getD 6 undef = .pointer (some ⟨w3.heap.size, 0, none⟩) := ho.slot 6 (by decide)
            obtain ⟨q0, q1, q2, q3, q4, q5, q6⟩ := (FC0.out W hW).1.reads
            go_simp
            exact hK _ _ (Below.refl _ _) hW rfl
          · intro a W K ho hW hpre hK
            have eg : a.tmps.getD 116 undef = .bool true := hpre ⟨11, .guard⟩ (by simp) rfl _ rfl
            rw [if_pos (wanted_at ho rfl rfl rfl (Nat.le_of_ble_eq_true rfl) eg)]
            clear eg
            have e0 : a.tmps.getD 117 undef = .agg #[.slice A11 cf.insts.length c11, .int .i64 cf.skin, .int .i64 cf.times, .int .i64 cf.port, .int .i64 cf.bid, .int .i64 cf.lot, .int .i64 cf.hedge] := hpre ⟨12, .data⟩ (by simp) rfl _ rfl
            have e1 : a.tmps.getD 118 undef = .agg #[.slice AI cf.insts.length cI, .int .i64 cf.skin, .int .i64 cf.times, .int .i64 cf.port, .int .i64 cf.bid, .int .i64 cf.lot, .int .i64 cf.hedge] := hpre ⟨13, .data⟩ (by simp) rfl _ rfl
            have CSP := Lib.hid (rsame_any cf cf A11 AI cf.insts.length cf.insts.length c11 cI W rfl rfl (FC2.out W hW).2 (FC0.out W hW).2 (by have := plan_small (ok_plan HOK.out); omega))
            rw [decide_eq_true rfl] at CSP
            unfold Cfg.v at CSP
            go_simp
            refine CSP.out.mono ?_
            rintro e w5 ⟨rfl, hb5⟩
            exact hK _ _ hb5 (hW.trans (hb5.mono hW.size)) rfl
          · intro a W K ho hW hpre hK
            rw [if_pos (wanted_none rfl)]
            have e0 : a.tmps.getD 116 undef = .bool true := hpre ⟨11, .data⟩ (by simp) rfl _ rfl
            have e1 : a.tmps.getD 119 undef = .bool true := hpre ⟨14, .data⟩ (by simp) rfl _ rfl
            go_simp
            exact hK _ _ (Below.refl _ _) hW rfl
          · intro a W K ho hW hpre hK
            rw [if_pos (wanted_none rfl)]
            have e0 : a.tmps.getD 120 undef = .bool true := hpre ⟨15, .data⟩ (by simp) rfl _ rfl
            go_simp
            exact hK _ _ (Below.refl _ _) hW rfl
          · intro a W K ho hW hpre hK
            have eg : a.tmps.getD 121 undef = .bool true := hpre ⟨16, .guard⟩ (by simp) rfl _ rfl
            rw [if_pos (wanted_at ho rfl rfl rfl (Nat.le_of_ble_eq_true rfl) eg)]
            clear eg
            have e0 : a.tmps.getD 14 undef = .slice A8 kk c8 := ho.slot 14 (by decide)
            go_simp
            exact hK _ _ (Below.refl _ _) hW rfl
          · intro a W K ho hW hpre hK
            have eg : a.tmps.getD 121 undef = .bool true := hpre ⟨16, .guard⟩ (by simp) rfl _ rfl
            rw [if_pos (wanted_at ho rfl rfl rfl (Nat.le_of_ble_eq_true rfl) eg)]
            clear eg
            have e0 : a.tmps.getD 7 undef = .slice AE es.length cE := ho.slot 7 (by decide)
            go_simp
            exact hK _ _ (Below.refl _ _) hW rfl
          · intro a W K ho hW hpre hK
            have eg : a.tmps.getD 121 undef = .bool true := hpre ⟨16, .guard⟩ (by simp) rfl _ rfl
            rw [if_pos (wanted_at ho rfl rfl rfl (Nat.le_of_ble_eq_true rfl) eg)]
            clear eg
            have e0 : a.tmps.getD 12 undef = .int .i64 (kk : Int) := ho.slot 12 (by decide)
            go_simp
            exact hK _ _ (Below.refl _ _) hW rfl
          · intro a W K ho hW hpre hK
            have eg : a.tmps.getD 121 undef = .bool true := hpre ⟨16, .guard⟩ (by simp) rfl _ rfl
            rw [if_pos (wanted_at ho rfl rfl rfl (Nat.le_of_ble_eq_true rfl) eg)]
            clear eg
            have e0 : a.tmps.getD 123 undef = .slice AE es.length cE := hpre ⟨18, .data⟩ (by simp) rfl _ rfl
            have e1 : a.tmps.getD 124 undef = .int .i64 (kk : Int) := hpre ⟨19, .data⟩ (by simp) rfl _ rfl
            have hkc : kk ≤ cE := by omega
            go_simp
            exact hK _ _ (Below.refl _ _) hW rfl
          · intro a W K ho hW hpre hK
            have eg : a.tmps.getD 121 undef = .bool true := hpre ⟨16, .guard⟩ (by simp) rfl _ rfl
            rw [if_pos (wanted_at ho rfl rfl rfl (Nat.le_of_ble_eq_true rfl) eg)]
            clear eg
            have e0 : a.tmps.getD 122 undef = .slice A8 kk c8 := hpre ⟨17, .data⟩ (by simp) rfl _ rfl
            have e1 : a.tmps.getD 125 undef = .slice AE kk cE := hpre ⟨20, .data⟩ (by simp) rfl _ rfl
            have CSP := Lib.hid (events_any A8 AE (es.take kk) (es.take kk) kk kk c8 cE W HLK.out.symm HLK.out.symm (FE1.out W hW) ((FE0.out W hW).take kk) (by omega))
            rw [decide_eq_true rfl] at CSP
            go_simp
            refine CSP.out.mono ?_
            rintro e w5 ⟨rfl, hb5⟩
            exact hK _ _ hb5 (hW.trans (hb5.mono hW.size)) rfl
          · intro a W K ho hW hpre hK
            rw [if_pos (wanted_none rfl)]
            have e0 : a.tmps.getD 121 undef = .bool true := hpre ⟨16, .data⟩ (by simp) rfl _ rfl
            have e1 : a.tmps.getD 126 undef = .bool true := hpre ⟨21, .data⟩ (by simp) rfl _ rfl
            go_simp
            exact hK _ _ (Below.refl _ _) hW rfl
          · intro a W K ho hW hpre hK
            rw [if_pos (wanted_none rfl)]
            have e0 : a.tmps.getD 127 undef = .bool true := hpre ⟨22, .data⟩ (by simp) rfl _ rfl
            go_simp
            exact hK _ _ (Below.refl _ _) hW rfl
          · intro a W K ho hW hpre hK
            have eg : a.tmps.getD 128 undef = .bool true := hpre ⟨23, .guard⟩ (by simp) rfl _ rfl
            rw [if_pos (wanted_at ho rfl rfl rfl (Nat.le_of_ble_eq_true rfl) eg)]
            clear eg
            have e0 : a.tmps.getD 17 undef = .slice A10 kk c10 := ho.slot 17 (by decide)
            go_simp
            exact hK _ _ (Below.refl _ _) hW rfl
          · intro a W K ho hW hpre hK
            have eg : a.tmps.getD 128 undef = .bool true := hpre ⟨23, .guard⟩ (by simp) rfl _ rfl
            rw [if_pos (wanted_at ho rfl rfl rfl (Nat.le_of_ble_eq_true rfl) eg)]
            clear eg
            have e0 : a.tmps.getD 14 undef = .slice A8 kk c8 := ho.slot 14 (by decide)
            go_simp
            exact hK _ _ (Below.refl _ _) hW rfl
          · intro a W K ho hW hpre hK
            have eg : a.tmps.getD 128 undef = .bool true := hpre ⟨23, .guard⟩ (by simp) rfl _ rfl
            rw [if_pos (wanted_at ho rfl rfl rfl (Nat.le_of_ble_eq_true rfl) eg)]
            clear eg
            have e0 : a.tmps.getD 129 undef = .slice A10 kk c10 := hpre ⟨24, .data⟩ (by simp) rfl _ rfl
            have e1 : a.tmps.getD 130 undef = .slice A8 kk c8 := hpre ⟨25, .data⟩ (by simp) rfl _ rfl
            have CSP := Lib.hid (events_any A10 A8 (es.take kk) (es.take kk) kk kk c10 c8 W HLK.out.symm HLK.out.symm (FE2.out W hW) (FE1.out W hW) (by omega))
            rw [decide_eq_true rfl] at CSP
            go_simp
            refine CSP.out.mono ?_
            rintro e w5 ⟨rfl, hb5⟩
            exact hK _ _ hb5 (hW.trans (hb5.mono hW.size)) rfl
          · intro a W K ho hW hpre hK
            rw [if_pos (wanted_none rfl)]
            have e0 : a.tmps.getD 128 undef = .bool true := hpre ⟨23, .data⟩ (by simp) rfl _ rfl
            have e1 : a.tmps.getD 131 undef = .bool true := hpre ⟨26, .data⟩ (by simp) rfl _ rfl
            go_simp
            exact hK _ _ (Below.refl _ _) hW rfl
          · intro a W K ho hW hpre hK
            rw [if_pos (wanted_none rfl)]
            have e0 : a.tmps.getD 132 undef = .bool true := hpre ⟨27, .data⟩ (by simp) rfl _ rfl
            go_simp
            exact hK _ _ (Below.refl _ _) hW rfl
          · intro a W K ho hW hpre hK
            have eg : a.tmps.getD 133 undef = .bool true := hpre ⟨28, .guard⟩ (by simp) rfl _ rfl
            rw [if_pos (wanted_at ho rfl rfl rfl (Nat.le_of_ble_eq_true rfl) eg)]
            clear eg
            have e0 : a.tmps.getD 8 undef = .pointer (some ⟨w4.heap.size, 0, none⟩) := ho.slot 8 (by decide)
            go_simp
            exact hK _ _ (Below.refl _ _) hW rfl
          · intro a W K ho hW hpre hK
            have eg : a.tmps.getD 133 undef = .bool true := hpre ⟨28, .guard⟩ (by simp) rfl _ rfl
            rw [if_pos (wanted_at ho rfl rfl rfl (Nat.le_of_ble_eq_true rfl) eg)]
            clear eg
            have e0 : a.tmps.getD 134 undef = .pointer (some ⟨w4.heap.size, 0, none⟩) := hpre ⟨29, .data⟩ (by simp) rfl _ rfl
            go_simp
            refine (FLN.out W hW).mono ?_
            rintro e wq ⟨rfl, hwq⟩
            obtain rfl : W = wq := hwq
            exact hK _ _ (Below.refl _ _) hW rfl
          · intro a W K ho hW hpre hK
            have eg : a.tmps.getD 133 undef = .bool true := hpre ⟨28, .guard⟩ (by simp) rfl _ rfl
            rw [if_pos (wanted_at ho rfl rfl rfl (Nat.le_of_ble_eq_true rfl) eg)]
            clear eg
            have e0 : a.tmps.getD 9 undef = .slice (some ⟨gN, 0, none⟩) (es.length + 1) cN := ho.slot 9 (by decide)
            go_simp
            exact hK _ _ (Below.refl _ _) hW rfl
          · intro a W K ho hW hpre hK
            have eg : a.tmps.getD 133 undef = .bool true := hpre ⟨28, .guard⟩ (by simp) rfl _ rfl
            rw [if_pos (wanted_at ho rfl rfl rfl (Nat.le_of_ble_eq_true rfl) eg)]
            clear eg
            have e0 : a.tmps.getD 12 undef = .int .i64 (kk : Int) := ho.slot 12 (by decide)
            go_simp
            exact hK _ _ (Below.refl _ _) hW rfl
          · intro a W K ho hW hpre hK
            have eg : a.tmps.getD 133 undef = .bool true := hpre ⟨28, .guard⟩ (by simp) rfl _ rfl
            rw [if_pos (wanted_at ho rfl rfl rfl (Nat.le_of_ble_eq_true rfl) eg)]
            clear eg
            have e0 : a.tmps.getD 136 undef = .slice (some ⟨gN, 0, none⟩) (es.length + 1) cN := hpre ⟨31, .data⟩ (by simp) rfl _ rfl
            have e1 : a.tmps.getD 137 undef = .int .i64 (kk : Int) := hpre ⟨32, .data⟩ (by simp) rfl _ rfl
            have hkc : (kk : Int) < (es.length : Int) + 1 := by omega
            go_simp
            exact hK _ _ (Below.refl _ _) hW rfl
          · intro a W K ho hW hpre hK
            have eg : a.tmps.getD 133 undef = .bool true := hpre ⟨28, .guard⟩ (by simp) rfl _ rfl
            rw [if_pos (wanted_at ho rfl rfl rfl (Nat.le_of_ble_eq_true rfl) eg)]
            clear eg
            have e0 : a.tmps.getD 138 undef = .pointer (some ⟨gN, kk, none⟩) := hpre ⟨33, .data⟩ (by simp) rfl _ rfl
            have hc := FNC.out W hW
            go_simp
            exact hK _ _ (Below.refl _ _) hW rfl
          · intro a W K ho hW hpre hK
            have eg : a.tmps.getD 133 undef = .bool true := hpre ⟨28, .guard⟩ (by simp) rfl _ rfl
            rw [if_pos (wanted_at ho rfl rfl rfl (Nat.le_of_ble_eq_true rfl) eg)]
            clear eg
            have e0 : a.tmps.getD 135 undef = .int .i64 ((endJ cf es kk : Nat) : Int) := hpre ⟨30, .data⟩ (by simp) rfl _ rfl
            have e1 : a.tmps.getD 139 undef = .int .i64 ((endJ cf es kk : Nat) : Int) := hpre ⟨34, .data⟩ (by simp) rfl _ rfl
            go_simp
            exact hK _ _ (Below.refl _ _) hW rfl
          · intro a W K ho hW hpre hK
            rw [if_pos (wanted_none rfl)]
            have e0 : a.tmps.getD 133 undef = .bool true := hpre ⟨28, .data⟩ (by simp) rfl _ rfl
            have e1 : a.tmps.getD 140 undef = .bool true := hpre ⟨35, .data⟩ (by simp) rfl _ rfl
            go_simp
            exact hK _ _ (Below.refl _ _) hW rfl
          · intro a W K ho hW hpre hK
            rw [if_pos (wanted_none rfl)]
            have e0 : a.tmps.getD 141 undef = .bool true := hpre ⟨36, .data⟩ (by simp) rfl _ rfl
            go_simp
            exact hK _ _ (Below.refl _ _) hW rfl
          · intro a W ho hW hall
            have e8 : a.tmps.getD 4 undef = .bool true := hall 37 _ rfl
            have hdf : a.defers = [] := ho.defers
            have HW := Lib.hid (HJF.out.below.trans (hW.mono HJF.out.below.size))
            clear hall hW ho
            first
              | (rename_i hKK; refine hKK _ _ ?_)
              | (rename_i hKK _; refine hKK _ _ ?_)
              | (rename_i hKK _ _; refine hKK _ _ ?_)
            refine wp_ret ?_
            refine bodyPost_ret (v := .bool true) ?_ hdf ⟨rfl, HW.out⟩
            rw [results_tmp rfl, e8]
theorem jtorn_top (A : Option Addr) (l : List Int) (c n : Nat) (hk : n = l.length) (a1 : Int) (w1 : (Lit.int .u16 a1).wf = true) (w : World) (hn : Nums w A l) :
    Calls Try.prog 4 #[.slice A n c, .int .u16 a1] w fun r w' => r = .returned (.bool true) ∧ Below w.heap.size w w' := by
  have h : 0 ≤ a1 ∧ a1 ≤ 65535 := by simp [Lit.wf, IntKind.min, IntKind.max, IntKind.bits, IntKind.signed] at w1; omega
  have := jtorn_walk A l c n a1.toNat hk (by omega) w hn
  rwa [show (a1.toNat : Int) = a1 from by omega] at this
end Go.Proofs.Ytmpipjangbedkaa
