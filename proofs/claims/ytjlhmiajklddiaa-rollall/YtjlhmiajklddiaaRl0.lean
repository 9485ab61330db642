/-
  The walks of novationlaw11's told and RollAll.
-/
import Derived.Test.YtjlhmiajklddiaaRp9
import Derived.Test.YtjlhmiajklddiaaHnum
namespace Go.Proofs.Ytjlhmiajklddiaa
set_option maxRecDepth 8000
open Go Go.RowKit
set_option linter.unusedVariables false

/-- What the law keeps in memory: its arguments, boxes of accounts, lists of members and of accounts. -/
structure TB (w : World) (B : Option Addr) (m : List SMember) (A : Option Addr) (l : List SAcc) (LX : List (Nat × SAcc)) (LM : List (Value × List SMember)) (LA : List (Value × List SAcc)) (W : World) : Prop where
  ext : Below w.heap.size w W
  m0 : MemL SMember.cells 2 W B m
  a0 : MemL SAcc.cells 4 W A l
  xs : ∀ y ∈ LX, Rec W y.1 25 y.2.cells
  ms : ∀ y ∈ LM, LstV SMember.cells 2 W y.1 y.2
  ac : ∀ y ∈ LA, LstV SAcc.cells 4 W y.1 y.2
section
variable {w W W' : World} {A B : Option Addr} {m : List SMember} {l : List SAcc} {LX : List (Nat × SAcc)} {LM : List (Value × List SMember)} {LA : List (Value × List SAcc)}
theorem TB.keep (h : TB w B m A l LX LM LA W) (hb : Below W.heap.size W W') : TB w B m A l LX LM LA W' :=
  ⟨h.ext.trans (hb.mono h.ext.size), h.m0.below hb (fun _ => rfl), h.a0.below hb (fun _ => rfl), fun y hy => (h.xs y hy).keep hb, fun y hy => (h.ms y hy).below hb (fun _ => rfl), fun y hy => (h.ac y hy).below hb (fun _ => rfl)⟩
theorem TB.addM (h : TB w B m A l LX LM LA W) {v : Value} {L : List SMember} (hv : LstV SMember.cells 2 W v L) : TB w B m A l LX ((v, L) :: LM) LA W :=
  ⟨h.ext, h.m0, h.a0, h.xs, fun y hy => by rcases List.mem_cons.1 hy with rfl | hy; exact hv; exact h.ms y hy, h.ac⟩
theorem TB.addA (h : TB w B m A l LX LM LA W) {v : Value} {L : List SAcc} (hv : LstV SAcc.cells 4 W v L) : TB w B m A l LX LM ((v, L) :: LA) W :=
  ⟨h.ext, h.m0, h.a0, h.xs, h.ms, fun y hy => by rcases List.mem_cons.1 hy with rfl | hy; exact hv; exact h.ac y hy⟩
theorem TB.addX (h : TB w B m A l LX LM LA W) {b : Nat} {x : SAcc} (hv : Rec W b 25 x.cells) : TB w B m A l ((b, x) :: LX) LM LA W :=
  ⟨h.ext, h.m0, h.a0, fun y hy => by rcases List.mem_cons.1 hy with rfl | hy; exact hv; exact h.xs y hy, h.ms, h.ac⟩
theorem TB.mem (h : TB w B m A l LX LM LA W) {a : Option Addr} {n c : Nat} {L : List SMember} (hv : (Value.slice a n c, L) ∈ LM) : n = L.length ∧ MemL SMember.cells 2 W a L ∧ c ≤ 9223372036854775807 ∧ n ≤ c := by
  obtain ⟨A', c', e, h1, _, h3, h4, _⟩ := h.ms _ hv
  dsimp only at e h1 h3 h4
  injection e with e1 e2 e3
  rw [e1, e2, e3]
  exact ⟨rfl, h1, h4, h3⟩
theorem TB.acc (h : TB w B m A l LX LM LA W) {a : Option Addr} {n c : Nat} {L : List SAcc} (hv : (Value.slice a n c, L) ∈ LA) : n = L.length ∧ MemL SAcc.cells 4 W a L ∧ c ≤ 9223372036854775807 ∧ n ≤ c := by
  obtain ⟨A', c', e, h1, _, h3, h4, _⟩ := h.ac _ hv
  dsimp only at e h1 h3 h4
  injection e with e1 e2 e3
  rw [e1, e2, e3]
  exact ⟨rfl, h1, h4, h3⟩
end
theorem ownV_len (l : List SAcc) (id : Int) : (ownV l id).length ≤ l.length := by
  unfold ownV
  split
  · have := ownF_len l id l.length; rw [List.take_length] at this; exact this
  · exact Nat.zero_le _
set_option maxRecDepth 100000 in
set_option maxHeartbeats 64000000 in
theorem told11_any (B A : Option Addr) (m : List SMember) (l : List SAcc) (x : SAcc) (n' c' n c : Nat) (id kind q : Int) (w : World) (hm : n' = m.length) (hn : n = l.length) (hM0 : MemL SMember.cells 2 w B m) (hI0 : MemL SAcc.cells 4 w A l)
    (hB : c' = 0 ∨ ∃ b off, B = some ⟨b, off, none⟩) (hB0 : B = none → c' = 0) (hcB : n' ≤ c') (hcB2 : c' ≤ 9223372036854775807) (hml : n' ≤ 1000000000000) (hA : c = 0 ∨ ∃ b off, A = some ⟨b, off, none⟩) (hA0 : A = none → c = 0) (hcA : n ≤ c) (hcA2 : c ≤ 9223372036854775807) (hl : n ≤ 1000000000000) :
    Calls Try.prog 5 #[.slice B n' c', .slice A n c, x.v, .int .i64 id, .int .i64 kind, .int .i64 q] w fun r w' => r = .returned (.bool true) ∧ Below w.heap.size w w' := by
  have C0 := Lib.hid (fun W (hM : MemL SMember.cells 2 W B m) (hI : MemL SAcc.cells 4 W A l) => penrol_any B m n' c' id W hm hM hB hB0 hcB hcB2 hml)
  have C1 := Lib.hid (fun W (hM : MemL SMember.cells 2 W B m) (hI : MemL SAcc.cells 4 W A l) => renrol_any B m n' c' id W hm hM hB hcB hcB2 hml)
  have C2 := Lib.hid (fun W (hM : MemL SMember.cells 2 W B m) (hI : MemL SAcc.cells 4 W A l) => pturn_any B m n' c' id kind W hm hM hB hB0 hcB hcB2 hml)
  have C3 := Lib.hid (fun W (hM : MemL SMember.cells 2 W B m) (hI : MemL SAcc.cells 4 W A l) => rturn_any B m n' c' id kind W hm hM hB0 hml)
  have C4 := Lib.hid (fun W (hM : MemL SMember.cells 2 W B m) (hI : MemL SAcc.cells 4 W A l) => popen_any B A m l x n' c' n c W hm hn hM hI hA hA0 hcA hcA2 hml hl)
  have C5 := Lib.hid (fun W (hM : MemL SMember.cells 2 W B m) (hI : MemL SAcc.cells 4 W A l) => ropen_any B A m l x n' c' n c W hm hn hM hI hA hcA hcA2 hml hl)
  have C6 := Lib.hid (fun W (hM : MemL SMember.cells 2 W B m) (hI : MemL SAcc.cells 4 W A l) => plimit_any A l n c id q W hn hI hA hA0 hcA hcA2 hl)
  have C7 := Lib.hid (fun W (hM : MemL SMember.cells 2 W B m) (hI : MemL SAcc.cells 4 W A l) => rlimit_any A l n c id q W hn hI hA0 hl)
  have C8 := Lib.hid (fun W (hM : MemL SMember.cells 2 W B m) (hI : MemL SAcc.cells 4 W A l) => pport_any B A m l n' c' n c id kind W hm hn hM hI hA hA0 hcA hcA2 hml hl)
  have C9 := Lib.hid (fun W (hM : MemL SMember.cells 2 W B m) (hI : MemL SAcc.cells 4 W A l) => rport_any B A m l n' c' n c id kind W hm hn hM hI hA0 hml hl)
  obtain ⟨EE, hEE⟩ : ∃ EE, EE = enrolV m id := ⟨_, rfl⟩
  rw [← hEE] at C0 C1
  obtain ⟨TT, hTT⟩ : ∃ TT, TT = turnV m id kind := ⟨_, rfl⟩
  rw [← hTT] at C2 C3
  obtain ⟨OO, hOO⟩ : ∃ OO, OO = openV m l x := ⟨_, rfl⟩
  rw [← hOO] at C4 C5
  obtain ⟨LL, hLL⟩ : ∃ LL, LL = limV l id q := ⟨_, rfl⟩
  rw [← hLL] at C6 C7
  obtain ⟨PP, hPP⟩ : ∃ PP, PP = portV m l id kind := ⟨_, rfl⟩
  rw [← hPP] at C8 C9
  have CF := Lib.hid (fun W (hI : MemL SAcc.cells 4 W A l) => pfind_any A l n c id W hn hI (by omega))
  have CG := Lib.hid (fun W (hI : MemL SAcc.cells 4 W A l) => rfindV_any A l n c id W hn hI (by omega))
  obtain ⟨y, hy⟩ : ∃ y, y = (accV l id).getD SAcc.zero := ⟨_, rfl⟩
  obtain ⟨yb, hyb⟩ : ∃ b, b = (accV l id).isSome := ⟨_, rfl⟩
  rw [← hy, ← hyb] at CF CG
  unfold SAcc.v at CF CG
  have D0 := Lib.hid (fun W (hM : MemL SMember.cells 2 W B m) => pmembers_any B m n' c' W hm hM (by omega))
  have D1 := Lib.hid (fun W (hM : MemL SMember.cells 2 W B m) => rmembers_any B m n' c' W hm hM (by omega))
  have D2 := Lib.hid (fun W (hI : MemL SAcc.cells 4 W A l) => paccs_any A l n c W hn hI (by omega))
  have D3 := Lib.hid (fun W (hI : MemL SAcc.cells 4 W A l) => raccs_any A l n c W hn hI (by omega))
  have D4 := Lib.hid (fun W (hM : MemL SMember.cells 2 W B m) (hI : MemL SAcc.cells 4 W A l) => proll_any B A m l n' c' n c W hm hn hM hI (by omega) (by omega))
  have D5 := Lib.hid (fun W (hM : MemL SMember.cells 2 W B m) (hI : MemL SAcc.cells 4 W A l) => rroll_any B A m l n' c' n c W hm hn hM hI (by omega) (by omega))
  have D6 := Lib.hid (fun W (hM : MemL SMember.cells 2 W B m) => pstatus_any B m n' c' id W hm hM (by omega))
  have D7 := Lib.hid (fun W (hM : MemL SMember.cells 2 W B m) => rstatus_any B m n' c' id W hm hM (by omega))
  have D8 := Lib.hid (fun W (hI : MemL SAcc.cells 4 W A l) => phouse_any A l n c id W hn hI (by omega))
  have D9 := Lib.hid (fun W (hI : MemL SAcc.cells 4 W A l) => rhouse_any A l n c id W hn hI (by omega))
  have DA := Lib.hid (fun W (hI : MemL SAcc.cells 4 W A l) => powned_any A l n c id W hn hI hl)
  have DB := Lib.hid (fun W (hI : MemL SAcc.cells 4 W A l) => rowned_any A l n c id W hn hI hl)
  obtain ⟨d0, hd0⟩ : ∃ b, b = membersOk m := ⟨_, rfl⟩
  obtain ⟨d2, hd2⟩ : ∃ b, b = accsOk l := ⟨_, rfl⟩
  obtain ⟨d4, hd4⟩ : ∃ b, b = rollOk m l := ⟨_, rfl⟩
  obtain ⟨d6, hd6⟩ : ∃ b, b = statV m id := ⟨_, rfl⟩
  obtain ⟨d8, hd8⟩ : ∃ b, b = houV l id := ⟨_, rfl⟩
  obtain ⟨dA, hdA⟩ : ∃ b, b = ownV l id := ⟨_, rfl⟩
  rw [← hd0] at D0 D1
  rw [← hd2] at D2 D3
  rw [← hd4] at D4 D5
  rw [← hd6] at D6 D7
  rw [← hd8] at D8 D9
  rw [← hdA] at DA DB
  have HDL : Hid (dA.length ≤ 1000000000000) := Lib.hid (by rw [hdA]; have := ownV_len l id; omega)
  have G0 : Hid (TB w B m A l [(w.heap.size, x)] [] [] (w.alloc (.cells x.cells.toArray 25))) := Lib.hid (by
    have hb : Below w.heap.size w (w.alloc (.cells x.cells.toArray 25)) := (Below.refl _ _).alloc (Nat.le_refl _) _
    refine ⟨hb, hM0.below hb (fun _ => rfl), hI0.below hb (fun _ => rfl), fun y hy => ?_, fun y hy => absurd hy List.not_mem_nil, fun y hy => absurd hy List.not_mem_nil⟩
    obtain rfl := List.mem_singleton.1 hy
    exact Rec.new _ _ _ _ rfl)
  obtain ⟨⟨x0, x1, x2, x3⟩, _⟩ := SAcc.recs (G0.out.xs _ List.mem_cons_self)
  dsimp only [SAcc.cells] at G0 x0 x1 x2 x3
  clear hm hn hM0 hI0 hB hB0 hcB hcB2 hml hA hA0 hcA hcA2 hl hy hyb hd0 hd2 hd4 hd6 hd8 hdA hEE hTT hOO hLL hPP
  unfold SAcc.v
  unfold SAcc.v at C4 C5
  go_enter Try.func5, Try.ntmps5
  go_wp2_with (first
    | (go_at_call 6; (with_reducible refine (C0.out _ G0.out.m0 G0.out.a0).mono ?_); rintro r w1 ⟨v1, rfl, ho1, hb1⟩; obtain ⟨a1, c1, rfl, _⟩ := OwnL.form ho1 lay_Member; have G1 := Lib.hid ((G0.out.keep hb1).addM (ho1.mem lay_Member)); clear ho1 hb1; clear x0 x1 x2 x3; obtain ⟨⟨x0, x1, x2, x3⟩, _⟩ := SAcc.recs (G1.out.xs _ List.mem_cons_self))
    | (go_at_call 19; (with_reducible refine (C1.out _ G1.out.m0 G1.out.a0).mono ?_); rintro r w2 ⟨v2, rfl, ho2, hb2⟩; obtain ⟨a2, c2, rfl, _⟩ := OwnL.form ho2 lay_Member; have G2 := Lib.hid ((G1.out.keep hb2).addM (ho2.mem lay_Member)); clear ho2 hb2; clear x0 x1 x2 x3; obtain ⟨⟨x0, x1, x2, x3⟩, _⟩ := SAcc.recs (G2.out.xs _ List.mem_cons_self))
    | (go_at_call 10; (with_reducible refine (C2.out _ G2.out.m0 G2.out.a0).mono ?_); rintro r w3 ⟨v3, rfl, ho3, hb3⟩; obtain ⟨a3, c3, rfl, _⟩ := OwnL.form ho3 lay_Member; have G3 := Lib.hid ((G2.out.keep hb3).addM (ho3.mem lay_Member)); clear ho3 hb3; clear x0 x1 x2 x3; obtain ⟨⟨x0, x1, x2, x3⟩, _⟩ := SAcc.recs (G3.out.xs _ List.mem_cons_self))
    | (go_at_call 20; (with_reducible refine (C3.out _ G3.out.m0 G3.out.a0).mono ?_); rintro r w4 ⟨v4, rfl, ho4, hb4⟩; obtain ⟨a4, c4, rfl, _⟩ := OwnL.form ho4 lay_Member; have G4 := Lib.hid ((G3.out.keep hb4).addM (ho4.mem lay_Member)); clear ho4 hb4; clear x0 x1 x2 x3; obtain ⟨⟨x0, x1, x2, x3⟩, _⟩ := SAcc.recs (G4.out.xs _ List.mem_cons_self))
    | (go_at_call 7; (with_reducible refine (C4.out _ G4.out.m0 G4.out.a0).mono ?_); rintro r w5 ⟨v5, rfl, ho5, hb5⟩; obtain ⟨a5, c5, rfl, _⟩ := OwnL.form ho5 lay_Acc; have G5 := Lib.hid ((G4.out.keep hb5).addA (ho5.mem lay_Acc)); clear ho5 hb5; clear x0 x1 x2 x3; obtain ⟨⟨x0, x1, x2, x3⟩, _⟩ := SAcc.recs (G5.out.xs _ List.mem_cons_self))
    | (go_at_call 21; (with_reducible refine (C5.out _ G5.out.m0 G5.out.a0).mono ?_); rintro r w6 ⟨v6, rfl, ho6, hb6⟩; obtain ⟨a6, c6, rfl, _⟩ := OwnL.form ho6 lay_Acc; have G6 := Lib.hid ((G5.out.keep hb6).addA (ho6.mem lay_Acc)); clear ho6 hb6; skip)
    | (go_at_call 8; (with_reducible refine (C6.out _ G6.out.m0 G6.out.a0).mono ?_); rintro r w7 ⟨v7, rfl, ho7, hb7⟩; obtain ⟨a7, c7, rfl, _⟩ := OwnL.form ho7 lay_Acc; have G7 := Lib.hid ((G6.out.keep hb7).addA (ho7.mem lay_Acc)); clear ho7 hb7; skip)
    | (go_at_call 22; (with_reducible refine (C7.out _ G7.out.m0 G7.out.a0).mono ?_); rintro r w8 ⟨v8, rfl, ho8, hb8⟩; obtain ⟨a8, c8, rfl, _⟩ := OwnL.form ho8 lay_Acc; have G8 := Lib.hid ((G7.out.keep hb8).addA (ho8.mem lay_Acc)); clear ho8 hb8; skip)
    | (go_at_call 9; (with_reducible refine (C8.out _ G8.out.m0 G8.out.a0).mono ?_); rintro r w9 ⟨v9, rfl, ho9, hb9⟩; obtain ⟨a9, c9, rfl, _⟩ := OwnL.form ho9 lay_Acc; have G9 := Lib.hid ((G8.out.keep hb9).addA (ho9.mem lay_Acc)); clear ho9 hb9; skip)
    | (go_at_call 23; (with_reducible refine (C9.out _ G9.out.m0 G9.out.a0).mono ?_); rintro r w10 ⟨v10, rfl, ho10, hb10⟩; obtain ⟨a10, c10, rfl, _⟩ := OwnL.form ho10 lay_Acc; have G10 := Lib.hid ((G9.out.keep hb10).addA (ho10.mem lay_Acc)); clear ho10 hb10; skip)
    | (go_at_call 11; (with_reducible refine (CF.out _ G10.out.a0).mono ?_); rintro r w11 ⟨rfl, hb11⟩; have G11 := Lib.hid (((G10.out.keep hb11).keep (alloc_b (Below.refl _ _) (Nat.le_refl _) (.cells #[.int .i64 y.id, .int .i64 y.member, .int .i64 y.kind, .int .i64 y.limit] 25))).addX (b := w11.heap.size) (x := y) (Rec.new _ _ _ _ rfl)); clear hb11; skip)
    | (go_at_call 24; (with_reducible refine (CG.out _ G11.out.a0).mono ?_); rintro r w12 ⟨rfl, hb12⟩; have G12 := Lib.hid (((G11.out.keep hb12).keep (alloc_b (Below.refl _ _) (Nat.le_refl _) (.cells #[.int .i64 y.id, .int .i64 y.member, .int .i64 y.kind, .int .i64 y.limit] 25))).addX (b := w12.heap.size) (x := y) (Rec.new _ _ _ _ rfl)); clear hb12; obtain ⟨⟨y0, y1, y2, y3⟩, _⟩ := SAcc.recs (G12.out.xs _ List.mem_cons_self); obtain ⟨⟨z0, z1, z2, z3⟩, _⟩ := SAcc.recs (G12.out.xs _ (List.mem_cons_of_mem _ List.mem_cons_self)))
    | (go_at_call 25; first | fail | (obtain ⟨e1, e2, e3, e4⟩ := G12.out.mem (List.mem_cons_of_mem _ (List.mem_cons_of_mem _ (List.mem_cons_of_mem _ List.mem_cons_self))); obtain ⟨f1, f2, f3, f4⟩ := G12.out.mem (List.mem_cons_of_mem _ (List.mem_cons_of_mem _ List.mem_cons_self)); (with_reducible refine (alike_Member _ _ _ _ _ _ _ _ _ e1 f1 e2 f2 (by omega)).mono ?_); rintro r w13 ⟨rfl, hb13⟩; rw [show decide (EE.1 = EE.1) = true from decide_eq_true rfl]; have G13 := Lib.hid (G12.out.keep hb13); clear hb13 e1 e2 e3 e4 f1 f2 f3 f4))
    | (go_at_call 25; first | fail | (obtain ⟨e1, e2, e3, e4⟩ := G13.out.mem (List.mem_cons_of_mem _ List.mem_cons_self); obtain ⟨f1, f2, f3, f4⟩ := G13.out.mem List.mem_cons_self; (with_reducible refine (alike_Member _ _ _ _ _ _ _ _ _ e1 f1 e2 f2 (by omega)).mono ?_); rintro r w14 ⟨rfl, hb14⟩; rw [show decide (TT.1 = TT.1) = true from decide_eq_true rfl]; have G14 := Lib.hid (G13.out.keep hb14); clear hb14 e1 e2 e3 e4 f1 f2 f3 f4))
    | (go_at_call 26; first | fail | (obtain ⟨e1, e2, e3, e4⟩ := G14.out.acc (List.mem_cons_of_mem _ (List.mem_cons_of_mem _ (List.mem_cons_of_mem _ (List.mem_cons_of_mem _ (List.mem_cons_of_mem _ List.mem_cons_self))))); obtain ⟨f1, f2, f3, f4⟩ := G14.out.acc (List.mem_cons_of_mem _ (List.mem_cons_of_mem _ (List.mem_cons_of_mem _ (List.mem_cons_of_mem _ List.mem_cons_self)))); (with_reducible refine (alike_Acc _ _ _ _ _ _ _ _ _ e1 f1 e2 f2 (by omega)).mono ?_); rintro r w15 ⟨rfl, hb15⟩; rw [show decide (OO.1 = OO.1) = true from decide_eq_true rfl]; have G15 := Lib.hid (G14.out.keep hb15); clear hb15 e1 e2 e3 e4 f1 f2 f3 f4))
    | (go_at_call 26; first | fail | (obtain ⟨e1, e2, e3, e4⟩ := G15.out.acc (List.mem_cons_of_mem _ (List.mem_cons_of_mem _ (List.mem_cons_of_mem _ List.mem_cons_self))); obtain ⟨f1, f2, f3, f4⟩ := G15.out.acc (List.mem_cons_of_mem _ (List.mem_cons_of_mem _ List.mem_cons_self)); (with_reducible refine (alike_Acc _ _ _ _ _ _ _ _ _ e1 f1 e2 f2 (by omega)).mono ?_); rintro r w16 ⟨rfl, hb16⟩; rw [show decide (LL.1 = LL.1) = true from decide_eq_true rfl]; have G16 := Lib.hid (G15.out.keep hb16); clear hb16 e1 e2 e3 e4 f1 f2 f3 f4))
    | (go_at_call 26; first | fail | (obtain ⟨e1, e2, e3, e4⟩ := G16.out.acc (List.mem_cons_of_mem _ List.mem_cons_self); obtain ⟨f1, f2, f3, f4⟩ := G16.out.acc List.mem_cons_self; (with_reducible refine (alike_Acc _ _ _ _ _ _ _ _ _ e1 f1 e2 f2 (by omega)).mono ?_); rintro r w17 ⟨rfl, hb17⟩; rw [show decide (PP.1 = PP.1) = true from decide_eq_true rfl]; have G17 := Lib.hid (G16.out.keep hb17); clear hb17 e1 e2 e3 e4 f1 f2 f3 f4))
    | (go_at_call 17; (with_reducible refine (D0.out _ G17.out.m0).mono ?_); rintro r w18 ⟨rfl, hb18⟩; have G18 := Lib.hid (G17.out.keep hb18); clear hb18)
    | (go_at_call 27; (with_reducible refine (D1.out _ G18.out.m0).mono ?_); rintro r w19 ⟨rfl, hb19⟩; have G19 := Lib.hid (G18.out.keep hb19); clear hb19)
    | (go_at_call 18; (with_reducible refine (D2.out _ G19.out.a0).mono ?_); rintro r w20 ⟨rfl, hb20⟩; have G20 := Lib.hid (G19.out.keep hb20); clear hb20)
    | (go_at_call 28; (with_reducible refine (D3.out _ G20.out.a0).mono ?_); rintro r w21 ⟨rfl, hb21⟩; have G21 := Lib.hid (G20.out.keep hb21); clear hb21)
    | (go_at_call 16; (with_reducible refine (D4.out _ G21.out.m0 G21.out.a0).mono ?_); rintro r w22 ⟨rfl, hb22⟩; have G22 := Lib.hid (G21.out.keep hb22); clear hb22)
    | (go_at_call 29; (with_reducible refine (D5.out _ G22.out.m0 G22.out.a0).mono ?_); rintro r w23 ⟨rfl, hb23⟩; have G23 := Lib.hid (G22.out.keep hb23); clear hb23)
    | (go_at_call 15; (with_reducible refine (D6.out _ G23.out.m0).mono ?_); rintro r w24 ⟨rfl, hb24⟩; have G24 := Lib.hid (G23.out.keep hb24); clear hb24)
    | (go_at_call 30; (with_reducible refine (D7.out _ G24.out.m0).mono ?_); rintro r w25 ⟨rfl, hb25⟩; have G25 := Lib.hid (G24.out.keep hb25); clear hb25)
    | (go_at_call 12; (with_reducible refine (D8.out _ G25.out.a0).mono ?_); rintro r w26 ⟨rfl, hb26⟩; have G26 := Lib.hid (G25.out.keep hb26); clear hb26)
    | (go_at_call 31; (with_reducible refine (D9.out _ G26.out.a0).mono ?_); rintro r w27 ⟨rfl, hb27⟩; have G27 := Lib.hid (G26.out.keep hb27); clear hb27)
    | (go_at_call 14; (with_reducible refine (DA.out _ G27.out.a0).mono ?_); rintro r w28 ⟨vP, rfl, hoP, hb28⟩; obtain ⟨aP, cP, rfl, hIP, _, _⟩ := ownI_form hoP; have HIP := Lib.hid hIP; have G28 := Lib.hid (G27.out.keep hb28); clear hb28 hIP hoP)
    | (go_at_call 32; (with_reducible refine (DB.out _ G28.out.a0).mono ?_); rintro r w29 ⟨vQ, rfl, hoQ, hb29⟩; obtain ⟨aQ, cQ, rfl, hIQ, _, hcq⟩ := ownI_form hoQ; have hIP2 := HIP.out.below hb29; have CN := Lib.hid (alike_nums aP aQ dA dA dA.length dA.length cP cQ w29 rfl rfl hIP2 hIQ (by have := hoQ.1; have := HDL.out; omega)); rw [show decide (dA = dA) = true from decide_eq_true rfl] at CN; have G29 := Lib.hid (G28.out.keep hb29); clear hb29 hIQ hoQ hIP2 hcq)
    | (go_at_call 13; (with_reducible refine CN.out.mono ?_); rintro r w30 ⟨rfl, hb30⟩; have G30 := Lib.hid (G29.out.keep hb30); clear hb30))
  go_ret
  exact ⟨rfl, G30.out.ext⟩
end Go.Proofs.Ytjlhmiajklddiaa
