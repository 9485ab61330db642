/-
  The walk of the reference's parts.
-/
import Derived.Test.YtjkbnljjmbfmiaaDoorWt2
import Derived.Test.YtjkbnljjmbfmiaaDoorWr5
import Derived.Lib.Hide
import Derived.Deep.LoopGhost
namespace Go.Proofs.YtjkbnljjmbfmiaaDoor
open Go Go.RowKit
set_option linter.unusedVariables false

theorem getD_drop (l : List Nat) (a j : Nat) : (l.drop a).getD j 0 = l.getD (a + j) 0 := by
  rw [List.getD_eq_getElem?_getD, List.getD_eq_getElem?_getD, List.getElem?_drop]
theorem cut_from {l : List Nat} {a k : Nat} (ha : a ≤ k) (hk : k < l.length) (h : ∀ j, a ≤ j → j < k → l.getD j 0 ≠ 32) (h0 : l.getD k 0 = 32) : cutB (l.drop a) = (l.take k).drop a :: cutB (l.drop (k + 1)) := by
  have h1 := cut_find (l := l.drop a) (i := k - a) (by rw [List.length_drop]; omega) (fun j hj _ => by rw [getD_drop]; exact h (a + j) (by omega) (by omega)) (by rw [getD_drop, show a + (k - a) = k by omega]; exact h0)
  rw [h1, List.drop_take, List.drop_drop, show a + (k - a + 1) = k + 1 by omega]
theorem cut_rest {l : List Nat} {a : Nat} (ha : a ≤ l.length) (h : ∀ j, a ≤ j → j < l.length → l.getD j 0 ≠ 32) : cutB (l.drop a) = [(l.take l.length).drop a] := by
  rw [List.take_length]
  exact cut_none (fun j hj => by rw [List.length_drop] at hj; rw [getD_drop]; exact h (a + j) (by omega) (by omega))
/-- What a call answers that makes a slice of strings. -/
def PartsK (w : World) (ws : List (List Nat)) (r : Ending) (w' : World) : Prop := ∃ v, r = .returned v ∧ OwnS w' w.heap.size v ws ∧ Below w.heap.size w w'
set_option maxRecDepth 8000 in
set_option maxHeartbeats 4000000 in
theorem rparts_any (l : List Nat) (hO : Oct l) (hl0 : l.length ≤ 100000) (w : World) : Calls Tryd.prog 45 #[.string (bstr l)] w (PartsK w (cutB l)) := by
  have hsz : (bstr l).size = l.length := bstr_size l
  obtain ⟨n, hn⟩ : ∃ n, n = l.length := ⟨_, rfl⟩
  rw [← hn] at hsz hl0
  have HN := Lib.hid hn
  have HGT := Lib.hid (fun k h => bstr_at l hO k h)
  have HX := Lib.hid (fun a b => bstr_extract l a b)
  have HLC := Lib.hid ((cut_bound l).2)
  obtain ⟨S, hS⟩ : ∃ S, S = bstr l := ⟨_, rfl⟩
  rw [← hS] at hsz HGT HX ⊢
  clear hn hS hO
  go_enter Tryd.func45, Tryd.ntmps45
  go_wp2
  go_loopg [3, 4, 5] (n + 1) (fun g v f i wr => ∃ (ws D : List (List Nat)) (a k : Nat), g = n + 1 - k ∧ k ≤ n + 1 ∧ f = .int .i64 (a : Int) ∧ i = .int .i64 (k : Int) ∧ Hid (ws ++ D = cutB l) ∧ Hid (OwnS wr w.heap.size v ws) ∧ Hid (Below w.heap.size w wr) ∧ Hid (k ≤ n → a ≤ k ∧ D = cutB (l.drop a) ∧ ∀ j, a ≤ j → j < k → l.getD j 0 ≠ 32) ∧ Hid (k = n + 1 → D = []))
  case atStart => exact ⟨[], cutB l, 0, 0, by omega, by omega, rfl, rfl, Lib.hid rfl, Lib.hid (ownL_nil _ _), Lib.hid (Below.refl _ _), Lib.hid (fun _ => ⟨Nat.le_refl _, rfl, fun j _ h => by omega⟩), Lib.hid (fun h => by omega)⟩
  case round =>
    obtain ⟨ws, D, a, k, rfl, hk1, rfl, rfl, HC, HW, HB, HD, HE⟩ := hrel
    obtain ⟨AV, cV, hV, _⟩ := OwnL.form HW.out lay_str
    subst hV
    have hwl : ws.length ≤ 100001 := by
      have h1 := congrArg List.length HC.out
      have h2 := HLC.out
      rw [← HN.out] at h2
      rw [List.length_append] at h1
      omega
    by_cases hk : k ≤ n
    · obtain ⟨hak, hD, hnb⟩ := HD.out hk
      have HDD := Lib.hid hD
      have HNB := Lib.hid hnb
      clear hD hnb
      obtain ⟨Y, hY⟩ : ∃ Y, Y = (l.take k).drop a := ⟨_, rfl⟩
      have hex : S.extract a k = bstr Y := by rw [hY]; exact HX.out a k
      by_cases hkn : k = n
      · subst hkn
        have HF : Hid (D = [Y]) := Lib.hid (by rw [HDD.out, cut_rest (by rw [← HN.out]; exact hak) (fun j h1 h2 => HNB.out j h1 (by rw [HN.out]; exact h2)), ← HN.out, hY])
        clear hY
        go_wp2_with (at_builtin; refine wpList_appL lay_str rfl (.tmp 22) (.tmp 27) rfl w.heap.size _ ws rfl (HW.out.alloc _) _ 1 Y rfl (lit_one wr _ _ _ rfl _ rfl) (by omega) (by omega) (by have := HB.out.size; simp; omega) ?_; rintro v' w' ho hg _; have HO2 := Lib.hid ho; have HB2 := Lib.hid ((HB.out.alloc HB.out.size _).trans ((HW.out.alloc _).below hg (by have := HB.out.size; simp; omega))); clear ho hg)
        go_roundg (k + 1 - (k + 1))
        case measure => omega
        case rel => exact ⟨ws ++ [Y], [], k + 1, k + 1, rfl, by omega, by go_num, by go_num, Lib.hid (by rw [← HC.out, HF.out]; simp), HO2, HB2, Lib.hid (fun h => by omega), Lib.hid (fun _ => rfl)⟩
      · have hszk : k < S.size := by rw [hsz]; omega
        have hgt := HGT.out k hszk
        have hq : ((k : Int) == (n : Int)) = false := beq_eq_false_iff_ne.2 (by omega)
        obtain ⟨ck, hck⟩ : ∃ ck, ck = l.getD k 0 := ⟨_, rfl⟩
        rw [← hck] at hgt
        have HCK := Lib.hid hck
        clear hck
        by_cases h32 : ck = 32
        · subst h32
          have hgi : ((S[k]'hszk).toNat : Int) = 32 := by rw [hgt]; rfl
          have HF : Hid (D = Y :: cutB (l.drop (k + 1))) := Lib.hid (by rw [HDD.out, cut_from hak (by rw [← HN.out]; omega) HNB.out HCK.out.symm, hY])
          clear hY hgt
          go_wp2_with (at_builtin; refine wpList_appL lay_str rfl (.tmp 22) (.tmp 27) rfl w.heap.size _ ws rfl (HW.out.alloc _) _ 1 Y rfl (lit_one wr _ _ _ rfl _ rfl) (by omega) (by omega) (by have := HB.out.size; simp; omega) ?_; rintro v' w' ho hg _; have HO2 := Lib.hid ho; have HB2 := Lib.hid ((HB.out.alloc HB.out.size _).trans ((HW.out.alloc _).below hg (by have := HB.out.size; simp; omega))); clear ho hg)
          go_roundg (n + 1 - (k + 1))
          case measure => omega
          case rel => exact ⟨ws ++ [Y], cutB (l.drop (k + 1)), k + 1, k + 1, rfl, by omega, by go_num, by go_num, Lib.hid (by rw [← HC.out, HF.out]; simp), HO2, HB2, Lib.hid (fun _ => ⟨Nat.le_refl _, rfl, fun j h1 h2 => by omega⟩), Lib.hid (fun h => by omega)⟩
        · have hgi : ((S[k]'hszk).toNat : Int) = (ck : Int) := by rw [hgt]
          have hne : ((ck : Int) == 32) = false := beq_eq_false_iff_ne.2 (by omega)
          have HNE : Hid (∀ j, a ≤ j → j < k + 1 → l.getD j 0 ≠ 32) := Lib.hid (fun j h1 h2 => by
            by_cases hj : j = k
            · rw [hj, ← HCK.out]; exact h32
            · exact HNB.out j h1 (by omega))
          clear hY hgt h32
          go_wp2
          go_roundg (n + 1 - (k + 1))
          case measure => omega
          case rel => exact ⟨ws, D, a, k + 1, rfl, by omega, rfl, by go_num, HC, HW, HB, Lib.hid (fun _ => ⟨by omega, HDD.out, HNE.out⟩), Lib.hid (fun h => by omega)⟩
    · obtain rfl : k = n + 1 := by omega
      have hdk : decide (((n : Int) + 1) ≤ (n : Int)) = false := decide_eq_false (by omega)
      have HWS : Hid (ws = cutB l) := Lib.hid (by have := HC.out; rw [HE.out rfl, List.append_nil] at this; exact this)
      go_wp2
      go_ret
      exact ⟨_, rfl, by rw [← HWS.out]; exact HW.out, HB.out⟩
end Go.Proofs.YtjkbnljjmbfmiaaDoor
