/-
  The walk of wire's wordsOf.
-/
import Derived.Test.YtjkbnljjmbfmiaaDoorWt2
import Derived.Test.YtjkbnljjmbfmiaaDoorWr5
import Derived.Lib.Hide
import Derived.WalkMore
import Derived.Deep.LoopGhost
namespace Go.Proofs.YtjkbnljjmbfmiaaDoor
open Go Go.RowKit
set_option linter.unusedVariables false

/-- What a call answers that makes a slice of strings. -/
def WordsK (w : World) (ws : List (List Nat)) (r : Ending) (w' : World) : Prop := ∃ v, r = .returned v ∧ OwnS w' w.heap.size v ws ∧ Below w.heap.size w w'
set_option maxRecDepth 8000 in
set_option maxHeartbeats 4000000 in
theorem wwords_any (l0 : List Nat) (hO0 : Oct l0) (hl0 : l0.length ≤ 100000) (w : World) : Calls Tryd.prog 35 #[.string (bstr l0)] w (WordsK w (cutB l0)) := by
  have HO0 := Lib.hid hO0
  clear hO0
  go_enter Tryd.func35, Tryd.ntmps35
  go_wp2
  go_step3
  go_wp2
  go_step3
  go_wp2
  go_loopg [0, 3] l0.length (fun g s v wr => ∃ (l : List Nat) (ws : List (List Nat)), g = l.length ∧ s = .string (bstr l) ∧ l.length ≤ l0.length ∧ Hid (Oct l) ∧ Hid (ws ++ cutB l = cutB l0) ∧ Hid (OwnS wr w.heap.size v ws) ∧ Hid (Below w.heap.size w wr))
  case atStart => exact ⟨l0, [], rfl, rfl, Nat.le_refl _, HO0, Lib.hid rfl, Lib.hid (ownL_nil _ _), Lib.hid (Below.refl _ _)⟩
  case round =>
    obtain ⟨l, ws, rfl, rfl, hll, HO, HC, HW, HB⟩ := hrel
    obtain ⟨AV, cV, hV, _⟩ := OwnL.form HW.out lay_str
    subst hV
    have hsz : (bstr l).size = l.length := bstr_size l
    obtain ⟨n, hn⟩ : ∃ n, n = l.length := ⟨_, rfl⟩
    rw [← hn] at hsz hll
    have HN := Lib.hid hn
    have hwl : ws.length ≤ 100001 := by
      have h1 := congrArg List.length HC.out
      have h2 := (cut_bound l0).2
      rw [List.length_append] at h1
      omega
    clear hn
    go_wp2
    go_loopg [0, 3, 7] n (fun g sl sv i wq => ∃ k : Nat, g = n - k ∧ k ≤ n ∧ i = .int .i64 (k : Int) ∧ sl = .string (bstr l) ∧ sv = .slice AV ws.length cV ∧ wq = wr ∧ Hid (∀ j, j < k → j < l.length → l.getD j 0 ≠ 32))
    case atStart => exact ⟨0, by omega, by omega, rfl, rfl, rfl, rfl, Lib.hid (fun j h _ => by omega)⟩
    case round =>
      obtain ⟨k, rfl, hk, rfl, rfl, rfl, rfl, HS⟩ := hrel
      by_cases hlt : k < n
      · have hszk : k < (bstr l).size := by rw [hsz]; exact hlt
        have hgt := bstr_at l HO.out k hszk
        obtain ⟨ck, hck⟩ : ∃ ck, ck = l.getD k 0 := ⟨_, rfl⟩
        rw [← hck] at hgt
        have HCK := Lib.hid hck
        clear hck
        by_cases h32 : ck = 32
        · subst h32
          have hex1 : (bstr l).extract 0 k = bstr (l.take k) := by rw [bstr_extract, List.drop_zero]
          have hex2 : (bstr l).extract (k + 1) n = bstr (l.drop (k + 1)) := by rw [bstr_extract, HN.out, List.take_length]
          have hgi : (((bstr l)[k]'hszk).toNat : Int) = 32 := by rw [hgt]; rfl
          have HF : Hid (cutB l = l.take k :: cutB (l.drop (k + 1))) := Lib.hid (cut_find (by rw [← HN.out]; exact hlt) HS.out HCK.out.symm)
          have HLD : Hid ((l.drop (k + 1)).length = n - (k + 1)) := Lib.hid (by rw [List.length_drop, ← HN.out])
          clear hgt
          go_wp2_with (at_builtin; refine wpList_appL lay_str rfl (.tmp 14) (.tmp 18) rfl w.heap.size _ ws rfl (HW.out.alloc _) _ 1 (l.take k) rfl (lit_one wr _ _ _ rfl _ rfl) (by omega) (by omega) (by have := HB.out.size; simp; omega) ?_; rintro v' w' ho hg _; have HO2 := Lib.hid ho; have HB2 := Lib.hid ((HB.out.alloc HB.out.size _).trans ((HW.out.alloc _).below hg (by have := HB.out.size; simp; omega))); clear ho hg)
          go_roundg (n - (k + 1))
          case measure => have := HN.out; omega
          case rel => exact ⟨l.drop (k + 1), ws ++ [l.take k], HLD.out.symm, rfl, by have := HLD.out; omega, Lib.hid (fun x hx => HO.out x (List.mem_of_mem_drop hx)), Lib.hid (by rw [← HC.out, HF.out]; simp), HO2, HB2⟩
        · have hgi : (((bstr l)[k]'hszk).toNat : Int) = (ck : Int) := by rw [hgt]
          have hne : ((ck : Int) == 32) = false := beq_eq_false_iff_ne.2 (by omega)
          have HNE : Hid (∀ j, j < k + 1 → j < l.length → l.getD j 0 ≠ 32) := Lib.hid (fun j h1 h2 => by
            by_cases hj : j = k
            · rw [hj, ← HCK.out]; exact h32
            · exact HS.out j (by omega) h2)
          clear hgt h32
          go_wp2
          go_roundg (n - (k + 1))
          case measure => omega
          case rel => exact ⟨k + 1, rfl, by omega, by go_num, rfl, rfl, rfl, HNE⟩
      · obtain rfl : k = n := by omega
        have HF : Hid (cutB l = [l]) := Lib.hid (cut_none (fun j hj => HS.out j (by rw [HN.out]; exact hj) hj))
        go_wp2_with (at_builtin; refine wpList_appL lay_str rfl (.tmp 25) (.tmp 27) rfl w.heap.size _ ws rfl (HW.out.alloc _) _ 1 l rfl (lit_one wr _ _ _ rfl _ rfl) (by omega) (by omega) (by have := HB.out.size; simp; omega) ?_; rintro v' w' ho hg _; have HO2 := Lib.hid ho; have HB2 := Lib.hid ((HB.out.alloc HB.out.size _).trans ((HW.out.alloc _).below hg (by have := HB.out.size; simp; omega))); clear ho hg)
        try rw [Exit.noGoto_ret]
        go_ret
        exact ⟨_, rfl, by rw [← HC.out, HF.out]; exact HO2.out, HB2.out⟩
end Go.Proofs.YtjkbnljjmbfmiaaDoor
