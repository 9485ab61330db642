/-
  The walks of frame.Next and of the reference's Next.
-/
import Derived.Test.YtmopipclheohcaaFr3
import Derived.WalkSmall
namespace Go.Proofs.Ytmopipclheohcaa
open Go.RowKit

/-- How many bytes the record at the beginning has. -/
def sizeL (l : List Nat) : Nat := 256 * l.getD 0 0 + l.getD 1 0
/-- What stands at the beginning: its bytes, its length, the code. -/
def nextL (l : List Nat) : List Nat × Nat × Nat :=
  if l.length < 2 then ([], 0, 12) else if 400 < sizeL l then ([], 0, 13) else if l.length < sizeL l + 6 then ([], 0, 12)
  else if crc (l.take (sizeL l + 2)) = stored (l.drop (sizeL l + 2)) then ((l.drop 2).take (sizeL l), sizeL l + 6, 0) else ([], 0, 13)
/-- New bytes, a length and a code. -/
def NextC (w : World) (l : List Nat) (e : Ending) (w' : World) : Prop :=
  ∃ v, e = .returned (.tuple #[v, .int .i64 (((nextL l).2.1 : Nat) : Int), .int .i64 (((nextL l).2.2 : Nat) : Int)]) ∧ OwnB w' w.heap.size v (nextL l).1 ∧ Below w.heap.size w w'
theorem nextC_nil (w w' : World) (l : List Nat) (code : Nat) (h : nextL l = ([], 0, code)) (hb : Below w.heap.size w w') : NextC w l (.returned (.tuple #[.slice none 0 0, .int .i64 0, .int .i64 (code : Int)])) w' := by
  unfold NextC
  rw [h]
  exact ⟨_, rfl, ownB_nil w' _, hb⟩
theorem next_short0 {l : List Nat} (h : l.length < 2) : nextL l = ([], 0, 12) := by unfold nextL; rw [if_pos h]
theorem next_bad0 {l : List Nat} (h : ¬ l.length < 2) (h1 : 400 < sizeL l) : nextL l = ([], 0, 13) := by unfold nextL; rw [if_neg h, if_pos h1]
theorem next_short1 {l : List Nat} (h : ¬ l.length < 2) (h1 : ¬ 400 < sizeL l) (h2 : l.length < sizeL l + 6) : nextL l = ([], 0, 12) := by unfold nextL; rw [if_neg h, if_neg h1, if_pos h2]
theorem next_ok {l : List Nat} (h : ¬ l.length < 2) (h1 : ¬ 400 < sizeL l) (h2 : ¬ l.length < sizeL l + 6) (h3 : crc (l.take (sizeL l + 2)) = stored (l.drop (sizeL l + 2))) : nextL l = ((l.drop 2).take (sizeL l), sizeL l + 6, 0) := by
  unfold nextL; rw [if_neg h, if_neg h1, if_neg h2, if_pos h3]
theorem next_bad1 {l : List Nat} (h : ¬ l.length < 2) (h1 : ¬ 400 < sizeL l) (h2 : ¬ l.length < sizeL l + 6) (h3 : ¬ crc (l.take (sizeL l + 2)) = stored (l.drop (sizeL l + 2))) : nextL l = ([], 0, 13) := by
  unfold nextL; rw [if_neg h, if_neg h1, if_neg h2, if_neg h3]

set_option maxRecDepth 8000 in
set_option maxHeartbeats 1000000 in
theorem next_tiny (A : Option Addr) (l : List Nat) (c : Nat) (w : World) (h : l.length < 2) :
    Calls Try.prog 18 #[.slice A l.length c] w (NextC w l) := by
  have F := Lib.hid (nextC_nil w w l 12 (next_short0 h) (Below.refl _ _))
  go_enter Try.func18, Try.ntmps18
  go_wp2
  exact bodyPost_ret (v := .tuple #[.slice none 0 0, .int .i64 0, .int .i64 12]) (by simp [results, Try.results18, go_sem]) rfl F.out
theorem i64w (x : Int) (h0 : 0 ≤ x) (h : x < 9223372036854775808) : IntKind.i64.wrap x = x := by rw [IntKind.wrap_i64]; omega
theorem join2 (x0 x1 : Nat) (h0 : x0 < 256) (h1 : x1 < 256) : bits .or .i64 ((x0 : Int) * 256) (x1 : Int) = ((256 * x0 + x1 : Nat) : Int) := by
  rw [bits_join .i64 63 (by decide) (fun n a b => i64w n a (by omega)) 8 _ _ (by omega) (by omega) (by omega) (by omega) (by omega) (by omega)]
  omega
/-- What lies in a world lies there behind draws. -/
theorem Byts.drewN {w : World} {A : Option Addr} {l : List Nat} (h : Byts w A l) (n : Nat) : Byts (w.drewN n) A l := h.below (below_drewN (Below.refl _ _) n)
theorem sum_quiet (A : Option Addr) (l : List Nat) (m c : Nat) (hm : m = l.length) (w : World) (hr : Byts w A l) (hl : Oct l) (hn : l.length ≤ 9223372036854775807) (n : Nat) :
    Calls Try.prog 11 #[.slice A m c] (w.drewN n) fun e w' => e = .returned (.int .u32 ((crc l : Nat) : Int)) ∧ w' = w.drewN n := by
  subst hm
  exact (sum_any A l c (w.drewN n) (hr.drewN n) hl hn).mono fun e w' ⟨he, hw⟩ => ⟨he, hw.symm⟩
theorem stored_quiet (b off : Nat) (r : List Nat) (m c : Nat) (hm : m = r.length) (w : World) (hr : Byts w (some ⟨b, off, none⟩) r) (hl : Oct r) (hn : 4 ≤ r.length) (hn2 : r.length ≤ 9223372036854775807) (n : Nat) :
    Calls Try.prog 23 #[.slice (some ⟨b, off, none⟩) m c] (w.drewN n) fun e w' => e = .returned (.int .u32 ((stored r : Nat) : Int)) ∧ ∃ m, w' = (w.drewN n).drewN m := by
  subst hm
  exact stored_any b off r c (w.drewN n) (hr.drewN n) hl hn hn2
set_option maxRecDepth 8000 in
set_option maxHeartbeats 1000000 in
theorem next_bad (b off : Nat) (l : List Nat) (c : Nat) (w : World) (hr : Byts w (some ⟨b, off, none⟩) l) (hl : Oct l) (h2 : ¬ l.length < 2) (hn2 : l.length ≤ 1000000000000) (h : 400 < sizeL l ∨ (¬ 400 < sizeL l ∧ l.length < sizeL l + 6)) :
    Calls Try.prog 18 #[.slice (some ⟨b, off, none⟩) l.length c] w (NextC w l) := by
  obtain ⟨b', off', e, hc⟩ := hr (by omega)
  injection e with e; injection e with e1 e2; subst e1; subst e2
  have c0 := hc 0 (by omega)
  have c1 := hc 1 (by omega)
  have g0 := getD_oct hl 0
  have g1 := getD_oct hl 1
  rw [Nat.add_zero] at c0
  obtain ⟨N, hN⟩ : ∃ N, N = sizeL l := ⟨_, rfl⟩
  have hJ := join2 (l.getD 0 0) (l.getD 1 0) g0 g1
  rw [show 256 * l.getD 0 0 + l.getD 1 0 = sizeL l from rfl, ← hN] at hJ
  have j1 := i64w ((l.getD 0 0 : Int)) (by omega) (by omega)
  have j2 := i64w ((l.getD 1 0 : Int)) (by omega) (by omega)
  have j3 := i64w ((l.getD 0 0 : Int) * 256) (by omega) (by omega)
  rw [← hN] at h
  by_cases h4 : 400 < N
  · have F := Lib.hid (fun nq => nextC_nil w (w.drewN nq) l 13 (next_bad0 h2 (by rw [← hN]; exact h4)) (below_drewN (Below.refl _ _) nq))
    generalize l.getD 0 0 = x0 at *
    generalize l.getD 1 0 = x1 at *
    clear hN hc hr hl h
    go_enter Try.func18, Try.ntmps18
    go_wp2
    go_quiet (fail)
    go_wp2
    go_ret3
    exact F.out _
  · have h5 : l.length < N + 6 := by omega
    have F := Lib.hid (fun nq => nextC_nil w (w.drewN nq) l 12 (next_short1 h2 (by rw [← hN]; exact h4) (by rw [← hN]; exact h5)) (below_drewN (Below.refl _ _) nq))
    generalize l.getD 0 0 = x0 at *
    generalize l.getD 1 0 = x1 at *
    clear hN hc hr hl h
    go_enter Try.func18, Try.ntmps18
    go_wp2
    go_quiet (fail)
    go_wp2
    go_ret3
    exact F.out _
theorem ownB_base {w : World} {b b' : Nat} {v : Value} {l : List Nat} (h : OwnB w b v l) (hb : b' ≤ b) : OwnB w b' v l := by
  refine ⟨h.1, ?_⟩
  rcases h.2 with e | ⟨g, cap, cur, e, h1, h2⟩
  · exact .inl e
  · exact .inr ⟨g, cap, cur, e, Nat.le_trans hb h1, h2⟩
set_option maxRecDepth 8000 in
set_option maxHeartbeats 2000000 in
theorem next_full (b off : Nat) (l : List Nat) (c : Nat) (w : World) (hr : Byts w (some ⟨b, off, none⟩) l) (hl : Oct l) (h2 : ¬ l.length < 2) (hn2 : l.length ≤ 1000000000000) (hcap : l.length ≤ c) (h4 : ¬ 400 < sizeL l) (h5 : ¬ l.length < sizeL l + 6) :
    Calls Try.prog 18 #[.slice (some ⟨b, off, none⟩) l.length c] w (NextC w l) := by
  obtain ⟨b', off', e, hc⟩ := hr (by omega)
  injection e with e; injection e with e1 e2; subst e1; subst e2
  have c0 := hc 0 (by omega)
  have c1 := hc 1 (by omega)
  have g0 := getD_oct hl 0
  have g1 := getD_oct hl 1
  rw [Nat.add_zero] at c0
  obtain ⟨N, hN⟩ : ∃ N, N = sizeL l := ⟨_, rfl⟩
  have hJ := join2 (l.getD 0 0) (l.getD 1 0) g0 g1
  rw [show 256 * l.getD 0 0 + l.getD 1 0 = sizeL l from rfl, ← hN] at hJ
  have j1 := i64w ((l.getD 0 0 : Int)) (by omega) (by omega)
  have j2 := i64w ((l.getD 1 0 : Int)) (by omega) (by omega)
  have j3 := i64w ((l.getD 0 0 : Int) * 256) (by omega) (by omega)
  have hp1 : Byts w (some ⟨b, off, none⟩) (l.take (N + 2)) := by have := hr.part 0 (N + 2) (by omega); simpa using this
  have hp2 : Byts w (some ⟨b, off + (N + 2), none⟩) (l.drop (N + 2)) := by
    have := hr.part (N + 2) (l.length - (N + 2)) (by omega)
    rwa [List.take_of_length_le (by simp)] at this
  have hp3 : Byts w (some ⟨b, off + 2, none⟩) ((l.drop 2).take N) := hr.part 2 N (by omega)
  have HC1 := Lib.hid (fun (w' : World) (hb : Below w.heap.size w w') c => sum_quiet (some ⟨b, off, none⟩) (l.take (N + 2)) (N + 2) c (by rw [List.length_take]; omega) w' (hp1.below hb) (hl.take _) (by rw [List.length_take]; omega))
  have HC2 := Lib.hid (fun (w' : World) (hb : Below w.heap.size w w') c => stored_quiet b (off + (N + 2)) (l.drop (N + 2)) (l.length - (N + 2)) c (by rw [List.length_drop]) w' (hp2.below hb) (hl.drop _) (by rw [List.length_drop]; omega) (by rw [List.length_drop]; omega))
  have hlen : ((l.drop 2).take N).length = N := by rw [List.length_take, List.length_drop]; omega
  have HC3 := Lib.hid (fun (w' : World) (hb : Below w.heap.size w w') c => by have := clone_any (some ⟨b, off + 2, none⟩) ((l.drop 2).take N) c w' (hp3.below hb) (by omega); rw [hlen] at this; exact this)
  by_cases h6 : crc (l.take (N + 2)) = stored (l.drop (N + 2))
  · have hX : nextL l = ((l.drop 2).take N, N + 6, 0) := by rw [hN] at h6 ⊢; exact next_ok h2 h4 h5 h6
    rw [h6] at HC1
    rw [← hN] at h4 h5
    have HX := Lib.hid hX
    generalize l.getD 0 0 = x0 at *
    generalize l.getD 1 0 = x1 at *
    generalize stored (l.drop (N + 2)) = S at *
    clear hN hc hr hl hp1 hp2 hp3 h6 hX hlen
    go_enter Try.func18, Try.ntmps18
    go_wp2
    go_quiet (fail)
    have q2 : Below w.heap.size w (w.drewN nq) := below_drewN (Below.refl _ _) nq
    clear c0 c1
    generalize w.drewN nq = wq at *
    have C1 := Lib.hid (HC1.out wq q2)
    have C2 := Lib.hid (HC2.out wq q2)
    clear HC1 HC2
    have t1 : (2 + (N : Int)).toNat = N + 2 := by omega
    have t2 : ¬ c = N + 2 := by omega
    go_wp2
    go_quiet (first | (go_at_call 11; exact Calls.quiet_of_same (C1.out _ _)) | (go_at_call 23; exact Calls.quiet_of (C2.out _ _)))
    have q3 : Below w.heap.size w (wq.drewN nq) := below_drewN q2 nq
    clear q2 C1 C2
    generalize wq.drewN nq = wz at *
    have C3 := Lib.hid (HC3.out wz q3)
    clear HC3
    have t3 : N + 2 - 2 = N := by omega
    go_wp2_with (go_at_call 21; refine (C3.out _).mono ?_; rintro e w' ⟨v, rfl, hv, hb⟩)
    go_ret3
    refine ⟨v, ?_, ?_, q3.trans (hb.mono q3.size)⟩
    · rw [HX.out]
      have : (2 : Int) + N + 4 = ((N + 6 : Nat) : Int) := by omega
      rw [this]
      rfl
    · rw [HX.out]; exact ownB_base hv q3.size
  · have hX : nextL l = ([], 0, 13) := by rw [hN] at h6; exact next_bad1 h2 h4 h5 h6
    rw [← hN] at h4 h5
    have HX := Lib.hid hX
    have h7 : (((crc (l.take (N + 2)) : Nat) : Int) == ((stored (l.drop (N + 2)) : Nat) : Int)) = false := by rw [beq_eq_false_iff_ne]; exact fun e => h6 (by exact_mod_cast e)
    have h8 : (((crc (l.take (N + 2)) : Nat) : Int) != ((stored (l.drop (N + 2)) : Nat) : Int)) = true := by rw [bne_iff_ne]; exact fun e => h6 (by exact_mod_cast e)
    generalize l.getD 0 0 = x0 at *
    generalize l.getD 1 0 = x1 at *
    generalize stored (l.drop (N + 2)) = S at *
    generalize crc (l.take (N + 2)) = T at *
    clear hN hc hr hl hp1 hp2 hp3 hX hlen HC3
    go_enter Try.func18, Try.ntmps18
    go_wp2
    go_quiet (fail)
    have q2 : Below w.heap.size w (w.drewN nq) := below_drewN (Below.refl _ _) nq
    clear c0 c1
    generalize w.drewN nq = wq at *
    have C1 := Lib.hid (HC1.out wq q2)
    have C2 := Lib.hid (HC2.out wq q2)
    clear HC1 HC2
    have t1 : (2 + (N : Int)).toNat = N + 2 := by omega
    have t2 : ¬ c = N + 2 := by omega
    go_wp2
    go_quiet (first | (go_at_call 11; exact Calls.quiet_of_same (C1.out _ _)) | (go_at_call 23; exact Calls.quiet_of (C2.out _ _)))
    have q3 : Below w.heap.size w (wq.drewN nq) := below_drewN q2 nq
    clear q2 C1 C2
    generalize wq.drewN nq = wz at *
    go_wp2
    go_ret3
    exact nextC_nil w wz l 13 HX.out q3
theorem next_any (A : Option Addr) (l : List Nat) (c : Nat) (w : World) (hr : Byts w A l) (hl : Oct l) (hn2 : l.length ≤ 1000000000000) (hcap : l.length ≤ c) :
    Calls Try.prog 18 #[.slice A l.length c] w (NextC w l) := by
  by_cases h2 : l.length < 2
  · exact next_tiny A l c w h2
  · obtain ⟨b, off, rfl, _⟩ := hr (by omega)
    by_cases h4 : 400 < sizeL l
    · exact next_bad b off l c w hr hl h2 hn2 (.inl h4)
    · by_cases h5 : l.length < sizeL l + 6
      · exact next_bad b off l c w hr hl h2 hn2 (.inr ⟨h4, h5⟩)
      · exact next_full b off l c w hr hl h2 hn2 hcap h4 h5
end Go.Proofs.Ytmopipclheohcaa
