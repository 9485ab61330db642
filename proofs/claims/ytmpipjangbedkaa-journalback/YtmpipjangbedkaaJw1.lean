/-
  A journal's bytes, whole or cut off, as lists. No program is named here.
-/
import Derived.Test.YtmpipjangbedkaaMTp7
namespace Go.Proofs.Ytmpipjangbedkaa
set_option maxRecDepth 8000
open Go Go.RowKit
set_option linter.unusedVariables false

/-- All records, one behind the other. -/
def catJ (ls : List (List Nat)) : List Nat := (ls.map recL).flatten
theorem catJ_take (ls : List (List Nat)) (k : Nat) (h : k < ls.length) : catJ (ls.take (k + 1)) = catJ (ls.take k) ++ recL (ls.getD k []) := by
  unfold catJ
  rw [List.take_succ_eq_append_getElem h, List.map_append, List.flatten_append, List.getD_eq_getElem?_getD, List.getElem?_eq_getElem h]
  simp
theorem stored_app (s : Nat) (r : List Nat) (h : s < 4294967296) : stored (le4 s ++ r) = s := by simp [stored, le4]; omega
theorem size_app (x r : List Nat) : sizeL (recL x ++ r) = x.length := by
  unfold sizeL recL headL
  simp
  omega
theorem size_rec (x : List Nat) : sizeL (recL x) = x.length := by have := size_app x []; rwa [List.append_nil] at this
theorem next_rec (x r : List Nat) (h : x.length ≤ 400) : nextL (recL x ++ r) = (x, x.length + 6, 0) := by
  have hs := size_app x r
  have hl : (recL x ++ r).length = x.length + 6 + r.length := by rw [List.length_append, recL_length]
  have hd : (recL x ++ r).drop 2 = x ++ (le4 (crc (headL x)) ++ r) := by simp [recL, headL]
  have h3 : crc ((recL x ++ r).take (sizeL (recL x ++ r) + 2)) = stored ((recL x ++ r).drop (sizeL (recL x ++ r) + 2)) := by
    rw [hs]
    unfold recL
    rw [List.append_assoc, ← headL_length x, List.take_left, List.drop_left, stored_app _ _ (crc_lt _)]
  rw [next_ok (by omega) (by omega) (by omega) h3, hs, hd, List.take_left]
theorem next_cut (x : List Nat) (h : x.length ≤ 400) (m : Nat) (hm : m < x.length + 6) : nextL ((recL x).take m) = ([], 0, 12) := by
  have hl : ((recL x).take m).length = m := by rw [List.length_take, recL_length]; omega
  by_cases h2 : m < 2
  · exact next_short0 (by omega)
  · have hs : sizeL ((recL x).take m) = x.length := by
      rw [← size_rec x]
      unfold sizeL
      rw [List.getD_eq_getElem?_getD, List.getD_eq_getElem?_getD, List.getElem?_take_of_lt (by omega), List.getElem?_take_of_lt (by omega), List.getD_eq_getElem?_getD, List.getD_eq_getElem?_getD]
    exact next_short1 (by omega) (by omega) (by omega)
/-- Where texts stand as records, and they. -/
def placesJ : Nat → List (List Nat) → List (Nat × List Nat)
  | _, [] => []
  | p, x :: xs => (p, x) :: placesJ (p + (x.length + 6)) xs
theorem catJ_cons (x : List Nat) (xs : List (List Nat)) : catJ (x :: xs) = recL x ++ catJ xs := by simp [catJ]
theorem catJ_append (a b : List (List Nat)) : catJ (a ++ b) = catJ a ++ catJ b := by simp [catJ]
theorem placesJ_append (p : Nat) (a b : List (List Nat)) : placesJ p (a ++ b) = placesJ p a ++ placesJ (p + (catJ a).length) b := by
  induction a generalizing p with
  | nil => simp [placesJ, catJ]
  | cons x a ih =>
    simp only [List.cons_append, placesJ, ih, catJ_cons, List.length_append, recL_length]
    rw [Nat.add_assoc]
theorem placesJ_length (p : Nat) (a : List (List Nat)) : (placesJ p a).length = a.length := by
  induction a generalizing p with
  | nil => rfl
  | cons x a ih => simp [placesJ, ih]
theorem placesJ_get (ls : List (List Nat)) (i : Nat) (hi : i < ls.length) : (placesJ 0 ls)[i]? = some ((catJ (ls.take i)).length, ls.getD i []) := by
  have h : ls = ls.take i ++ (ls.getD i [] :: ls.drop (i + 1)) := by
    rw [List.getD_eq_getElem?_getD, List.getElem?_eq_getElem hi]
    simp
  have hlen : (placesJ 0 (ls.take i)).length = i := by rw [placesJ_length, List.length_take]; omega
  generalize ls.getD i [] = x at *
  generalize hr : ls.drop (i + 1) = r at *
  generalize ht : ls.take i = t at *
  rw [h, placesJ_append, Nat.zero_add, placesJ, List.getElem?_append_right (by omega), hlen, Nat.sub_self]
  rfl
theorem recF_catJ (ls : List (List Nat)) (hF : ∀ x ∈ ls, x.length ≤ 400) (r : List Nat) (f p : Nat) (hf : ls.length ≤ f) : recF f p (catJ ls ++ r) = placesJ p ls ++ recF (f - ls.length) (p + (catJ ls).length) r := by
  induction ls generalizing f p with
  | nil => simp [placesJ, catJ]
  | cons x ls ih =>
    obtain ⟨f', rfl⟩ : ∃ f', f = f' + 1 := ⟨f - 1, by simp at hf; omega⟩
    have hn := next_rec x (catJ ls ++ r) (hF x List.mem_cons_self)
    rw [catJ_cons, List.append_assoc, recF_more (by rw [hn]), hn]
    simp only
    have hd : (recL x ++ (catJ ls ++ r)).drop (x.length + 6) = catJ ls ++ r := by rw [← recL_length x, List.drop_left]
    rw [hd, ih (fun y hy => hF y (List.mem_cons_of_mem _ hy)) f' _ (by simp at hf; omega)]
    simp only [placesJ, List.cons_append, List.length_append, recL_length, List.length_cons, Nat.add_sub_add_right]
    rw [Nat.add_assoc p]
theorem recF_short (f p : Nat) (r : List Nat) (h : ¬ (nextL r).2.2 = 0) : recF f p r = [] := by
  cases f with
  | zero => rfl
  | succ f => exact recF_end h
theorem catJ_long (ls : List (List Nat)) : 6 * ls.length ≤ (catJ ls).length := by
  induction ls with
  | nil => simp
  | cons x ls ih => rw [catJ_cons, List.length_append, recL_length, List.length_cons]; omega
theorem recs_catJ (ls : List (List Nat)) (hF : ∀ x ∈ ls, x.length ≤ 400) (r : List Nat) (h : ¬ (nextL r).2.2 = 0) : recs (catJ ls ++ r) = placesJ 0 ls := by
  unfold recs
  rw [recF_catJ ls hF r _ 0 (by have := catJ_long ls; rw [List.length_append]; omega), recF_short _ _ r h, List.append_nil]
theorem whole_catJ (ls : List (List Nat)) : wholeOf (placesJ 0 ls) = (catJ ls).length := by
  rcases List.eq_nil_or_concat ls with rfl | ⟨a, x, rfl⟩
  · rfl
  · rw [List.concat_eq_append, placesJ_append, Nat.zero_add]
    simp only [placesJ]
    rw [wholeOf_snoc, catJ_append, List.length_append, catJ_cons, List.length_append, recL_length]
    simp [catJ]
    omega
theorem next_nil : ¬ (nextL []).2.2 = 0 := by rw [next_short0 (by simp)]; simp
/-- What is left of records that are cut off: the whole ones, and a front of one. -/
theorem cut_catJ (ls : List (List Nat)) (h : ∀ x ∈ ls, x.length ≤ 400) (n k : Nat) (hn : n ≤ (catJ ls).length) (hk : k ≤ ls.length) (h1 : (catJ (ls.take k)).length ≤ n) (h2 : k < ls.length → n < (catJ (ls.take k)).length + (ls.getD k []).length + 6) :
    ∃ r, (catJ ls).take n = catJ (ls.take k) ++ r ∧ ((catJ ls).take n).drop (catJ (ls.take k)).length = r ∧ r.length = n - (catJ (ls.take k)).length ∧ (nextL r).2.2 = 12 := by
  have e : catJ ls = catJ (ls.take k) ++ catJ (ls.drop k) := by rw [← catJ_append, List.take_append_drop]
  have e2 : (catJ ls).take n = catJ (ls.take k) ++ (catJ (ls.drop k)).take (n - (catJ (ls.take k)).length) := by
    rw [e, List.take_append, List.take_of_length_le h1]
  have hlen : (catJ ls).length = (catJ (ls.take k)).length + (catJ (ls.drop k)).length := by rw [e, List.length_append]
  refine ⟨_, e2, by rw [e2, List.drop_left], by rw [List.length_take]; omega, ?_⟩
  by_cases hlt : k < ls.length
  · have hd : ls.drop k = ls.getD k [] :: ls.drop (k + 1) := by
      rw [List.getD_eq_getElem?_getD, List.getElem?_eq_getElem hlt]
      simp
    have h3 := h2 hlt
    have h4 : (ls.getD k []).length ≤ 400 := by
      rw [List.getD_eq_getElem?_getD, List.getElem?_eq_getElem hlt]; exact h _ (List.getElem_mem hlt)
    generalize ls.getD k [] = x at *
    rw [hd, catJ_cons, List.take_append_of_le_length (by rw [recL_length]; omega), next_cut x h4 _ (by omega)]
  · have h0 : ls.drop k = [] := List.drop_eq_nil_of_le (by omega)
    rw [h0, show catJ [] = [] from rfl, List.take_nil, next_short0 (by simp)]

/-- An event's text, a journal's texts. -/
def textE (e : Ev) : List Nat := putB e (fieldsOf e.kind)
def jls (cf : Cfg) (es : List Ev) : List (List Nat) := planB cf 6 :: es.map textE
theorem textE_len {e : Ev} (h : Good e) : (textE e).length ≤ 400 := by
  have h1 := putB_len h.1 (fieldsOf e.kind)
  have h2 := fields_len e.kind
  unfold textE; omega
theorem textE_oct {e : Ev} (h : Good e) : Oct (textE e) := putB_oct (right_is h.2) _
theorem plan_small {cf : Cfg} (hp : planOk cf = true) : cf.insts.length ≤ 6 := by
  unfold planOk at hp
  rw [Bool.and_eq_true, Bool.and_eq_true] at hp
  exact of_decide_eq_true hp.1.2
theorem planB_400 {cf : Cfg} (ok : CfgI cf) (hp : planOk cf = true) : (planB cf 6).length ≤ 400 := by
  have h1 := plan_small hp
  have := planB_len ok (by omega) 6; omega
theorem jls_len {cf : Cfg} {es : List Ev} (ok : CfgI cf) (hp : planOk cf = true) (hg : ∀ x ∈ es, Good x) : ∀ x ∈ jls cf es, x.length ≤ 400 := by
  intro x hx
  rcases List.mem_cons.1 hx with rfl | hx
  · exact planB_400 ok hp
  · obtain ⟨e, he, rfl⟩ := List.mem_map.1 hx
    exact textE_len (hg e he)
theorem evs_text {es : List Ev} (hg : ∀ x ∈ es, Good x) : evs (es.map textE) = (es, 0) := by
  induction es with
  | nil => rfl
  | cons e es ih =>
    have h := hg e List.mem_cons_self
    rw [List.map_cons, evs_some (show readE (textE e) = some e from readE_put h.1 h.2), ih (fun x hx => hg x (List.mem_cons_of_mem _ hx))]
theorem jourL_jls {cf : Cfg} {es : List Ev} (ok : CfgI cf) (hp : planOk cf = true) (hg : ∀ x ∈ es, Good x) : jourL (jls cf es) = some (cf, es, 0) := by
  show (readP (planB cf 6)).map _ = _
  rw [readP_put ok hp, evs_text hg]
  rfl
theorem placesJ_snd (p : Nat) (ls : List (List Nat)) : (placesJ p ls).map (·.2) = ls := by
  induction ls generalizing p with
  | nil => rfl
  | cons x ls ih => simp [placesJ, ih]
/-- What a journal's bytes are, with something behind that is no record. -/
theorem jour_jls {cf : Cfg} {es : List Ev} (ok : CfgI cf) (hp : planOk cf = true) (hg : ∀ x ∈ es, Good x) (r : List Nat) (h : ¬ (nextL r).2.2 = 0) :
    jour (catJ (jls cf es) ++ r) = some (cf, es, 0) ∧ wholeOf (recs (catJ (jls cf es) ++ r)) = (catJ (jls cf es)).length ∧ recs (catJ (jls cf es) ++ r) ≠ [] := by
  have e := recs_catJ (jls cf es) (jls_len ok hp hg) r h
  refine ⟨?_, ?_, ?_⟩
  · unfold jour; rw [e, placesJ_snd, jourL_jls ok hp hg]
  · rw [e, whole_catJ]
  · rw [e]; simp [jls, placesJ]
theorem jls_add (cf : Cfg) (es : List Ev) (e : Ev) : catJ (jls cf (es ++ [e])) = catJ (jls cf es) ++ recL (textE e) := by
  unfold jls
  rw [List.map_append, ← List.cons_append, catJ_append]
  simp [catJ]
theorem jls_one (cf : Cfg) : catJ (jls cf []) = recL (planB cf 6) := by simp [jls, catJ]
theorem catJ_bound (ls : List (List Nat)) (h : ∀ x ∈ ls, x.length ≤ 400) : (catJ ls).length ≤ 406 * ls.length := by
  induction ls with
  | nil => simp [catJ]
  | cons x ls ih =>
    rw [catJ_cons, List.length_append, recL_length, List.length_cons]
    have := ih (fun y hy => h y (List.mem_cons_of_mem _ hy))
    have := h x List.mem_cons_self
    omega
theorem jls_long {cf : Cfg} {es : List Ev} (ok : CfgI cf) (hp : planOk cf = true) (hg : ∀ x ∈ es, Good x) : (catJ (jls cf es)).length ≤ 406 * (es.length + 1) := by
  have := catJ_bound _ (jls_len ok hp hg)
  simpa [jls] using this
/-- What Next finds is a record. -/
theorem next_is {L : List Nat} (hO : Oct L) (h : (nextL L).2.2 = 0) : ∃ r, L = recL (nextL L).1 ++ r ∧ (nextL L).1.length ≤ 400 := by
  have hf := (next_fact L h).2.2
  unfold nextL at h
  split at h
  · simp at h
  rename_i h1
  split at h
  · simp at h
  rename_i h2
  split at h
  · simp at h
  rename_i h3
  split at h
  · rename_i h4
    rw [next_ok h1 h2 h3 h4] at hf ⊢
    clear h
    match L, h1, h2, h3, h4, hO, hf with
    | [], h1, _, _, _, _, _ => exact absurd (by simp) h1
    | [_], h1, _, _, _, _, _ => exact absurd (by simp) h1
    | a :: b :: T, h1, h2, h3, h4, hO, hf =>
      have ha := hO a (by simp)
      have hb := hO b (by simp)
      have hs : sizeL (a :: b :: T) = 256 * a + b := rfl
      generalize hS : sizeL (a :: b :: T) = S at *
      have hT : S + 4 ≤ T.length := by simp at h3; omega
      have hd : (a :: b :: T).drop (S + 2) = T.drop S := rfl
      have htk : (a :: b :: T).take (S + 2) = a :: b :: T.take S := rfl
      rw [hd, htk] at h4
      have hlen : (T.take S).length = S := by rw [List.length_take]; omega
      have hd2 : (a :: b :: T).drop 2 = T := rfl
      rw [hd2] at hf ⊢
      have h5 : headL (T.take S) = a :: b :: T.take S := by
        unfold headL
        rw [hlen, show S / 256 = a by omega, show S % 256 = b by omega]
        rfl
      obtain ⟨c0, c1, c2, c3, r, hr⟩ : ∃ c0 c1 c2 c3 r, T.drop S = c0 :: c1 :: c2 :: c3 :: r := by
        have : 4 ≤ (T.drop S).length := by rw [List.length_drop]; omega
        match hq : T.drop S, this with
        | c0 :: c1 :: c2 :: c3 :: r, _ => exact ⟨c0, c1, c2, c3, r, rfl⟩
      have hO2 : Oct (T.drop S) := fun x hx => hO x (by simp [List.mem_of_mem_drop hx])
      rw [hr] at h4 hO2
      have g0 := hO2 c0 (by simp)
      have g1 := hO2 c1 (by simp)
      have g2 := hO2 c2 (by simp)
      have g3 := hO2 c3 (by simp)
      refine ⟨r, ?_, hf⟩
      unfold recL
      rw [h5, h4]
      have hst : stored (c0 :: c1 :: c2 :: c3 :: r) = c0 + 256 * c1 + 65536 * c2 + 16777216 * c3 := rfl
      rw [hst]
      unfold le4
      rw [show (c0 + 256 * c1 + 65536 * c2 + 16777216 * c3) % 256 = c0 by omega, show (c0 + 256 * c1 + 65536 * c2 + 16777216 * c3) / 256 % 256 = c1 by omega, show (c0 + 256 * c1 + 65536 * c2 + 16777216 * c3) / 65536 % 256 = c2 by omega, show (c0 + 256 * c1 + 65536 * c2 + 16777216 * c3) / 16777216 % 256 = c3 by omega]
      have : T = T.take S ++ (c0 :: c1 :: c2 :: c3 :: r) := by rw [← hr, List.take_append_drop]
      simp only [List.cons_append, List.append_assoc, List.nil_append]
      rw [← this]
  · simp at h
/-- Any bytes are records, and something behind that begins with none. -/
theorem split_recs (n : Nat) : ∀ L : List Nat, L.length ≤ n → Oct L → ∃ ls r, L = catJ ls ++ r ∧ (∀ x ∈ ls, x.length ≤ 400) ∧ ¬ (nextL r).2.2 = 0 := by
  induction n with
  | zero =>
    intro L hL _
    obtain rfl := List.eq_nil_of_length_eq_zero (Nat.le_zero.1 hL)
    exact ⟨[], [], rfl, fun x hx => (List.not_mem_nil hx).elim, next_nil⟩
  | succ n ih =>
    intro L hL hO
    by_cases h : (nextL L).2.2 = 0
    · obtain ⟨r, e, hx⟩ := next_is hO h
      generalize (nextL L).1 = x at *
      have hl : L.length = x.length + 6 + r.length := by rw [e, List.length_append, recL_length]
      obtain ⟨ls, q, e2, h2, h3⟩ := ih r (by omega) (fun y hy => hO y (by rw [e]; exact List.mem_append_right _ hy))
      refine ⟨x :: ls, q, by rw [e, e2, catJ_cons, List.append_assoc], fun y hy => ?_, h3⟩
      rcases List.mem_cons.1 hy with rfl | hy
      · exact hx
      · exact h2 y hy
    · exact ⟨[], L, rfl, fun x hx => (List.not_mem_nil hx).elim, h⟩
/-- The bytes of whole records alone are those records. -/
theorem recs_whole {L : List Nat} (hO : Oct L) : recs (L.take (wholeOf (recs L))) = recs L ∧ wholeOf (recs L) ≤ L.length := by
  obtain ⟨ls, r, e, h2, h3⟩ := split_recs L.length L (Nat.le_refl _) hO
  have h4 := recs_catJ ls h2 r h3
  have h5 := recs_catJ ls h2 [] next_nil
  rw [List.append_nil] at h5
  rw [e, h4, whole_catJ, List.take_left, h5]
  exact ⟨rfl, by rw [List.length_append]; omega⟩
theorem whole_zero {L : List Nat} : wholeOf (recs L) = 0 ↔ recs L = [] := by
  constructor
  · intro h
    unfold wholeOf at h
    split at h
    · rename_i h1; exact List.getLast?_eq_none_iff.1 h1
    · omega
  · intro h; rw [h]; rfl
end Go.Proofs.Ytmpipjangbedkaa
