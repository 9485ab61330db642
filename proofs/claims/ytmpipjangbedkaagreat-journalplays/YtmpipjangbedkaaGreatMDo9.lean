import Derived.Test.YtmpipjangbedkaaGreatMAct9
/-
  The walk of novationlaw9's do, but for the adding of an event.
-/
namespace Go.Proofs.YtmpipjangbedkaaGreat
set_option maxRecDepth 8000
open Go Go.RowKit
set_option linter.unusedVariables false

/-- An act by value. -/
def actJ (a : JAct) (A : Option Addr) (c : Nat) : Value := .agg #[.int .u8 (a.kind : Int), .int .u64 (a.seed : Int), .slice A a.b.length c, .int .i64 a.n, .int .i64 a.keep]
/-- The boxes that do lays both into. -/
def boxJ (w : World) (cf : Cfg) (AI : Option Addr) (cI : Nat) (a : JAct) (A : Option Addr) (c : Nat) : World := (w.alloc (.cells #[.slice AI cf.insts.length cI, .int .i64 cf.skin, .int .i64 cf.times, .int .i64 cf.port, .int .i64 cf.bid, .int .i64 cf.lot, .int .i64 cf.hedge] 31)).alloc (.cells #[.int .u8 (a.kind : Int), .int .u64 (a.seed : Int), .slice A a.b.length c, .int .i64 a.n, .int .i64 a.keep] 28)
/-- What is known ahead of an act. -/
structure DoP (w : World) (B b b' : Nat) (t s : Tp) (v v' : Value) (cf : Cfg) (AI : Option Addr) (cI base : Nat) (a : JAct) (A : Option Addr) (c : Nat) : Prop where
  two : Two B b b' t s w v v'
  same : Same t s
  ok : cf.Ok
  ins : OwnI w base (.slice AI cf.insts.length cI) cf.insts
  insLt : ∀ k, (Value.slice AI cf.insts.length cI).ownBlock = some k → k < B
  act : a.Ok c A
  byts : Byts w A a.b
  low : ∀ bb o, A = some ⟨bb, o, none⟩ → 0 < a.b.length → bb < B
section
variable {w W : World} {B b b' : Nat} {t s t1 s1 : Tp} {v v' : Value} {cf : Cfg} {AI : Option Addr} {cI base : Nat} {a : JAct} {A : Option Addr} {c : Nat}
theorem boxJ_below (w : World) (cf : Cfg) (AI : Option Addr) (cI : Nat) (a : JAct) (A : Option Addr) (c : Nat) : Below w.heap.size w (boxJ w cf AI cI a A c) := ((Below.refl _ _).alloc (Nat.le_refl _) _).alloc (by simp) _
theorem DoP.boxed (h : DoP w B b b' t s v v' cf AI cI base a A c) : On (boxJ w cf AI cI a A c) B b b' v v' t s (boxJ w cf AI cI a A c) :=
  On.start ⟨h.two.1.keep (boxJ_below _ _ _ _ _ _ _), h.two.2.1.keep (boxJ_below _ _ _ _ _ _ _), h.two.2.2⟩
theorem On.back9 (h : On (boxJ w cf AI cI a A c) B b b' v v' t1 s1 W) : On w B b b' v v' t1 s1 W := by
  have hb := boxJ_below w cf AI cI a A c
  obtain ⟨⟨v1, v1', h2, n1, n2⟩, ht⟩ := h
  refine ⟨⟨v1, v1', h2, fun k hk => ?_, fun k hk => ?_⟩, (Touch.of_below _ hb).trans ht (fun _ _ h => h)⟩
  · exact (n1 k hk).imp id (fun h => Nat.le_trans hb.size h)
  · exact (n2 k hk).imp id (fun h => Nat.le_trans hb.size h)
theorem DoP.out (h0 : DoP w B b b' t s v v' cf AI cI base a A c) {k : Nat} (hk : k < B ∨ w.heap.size ≤ k) : ¬ (foot b v k ∨ foot b' v' k) := by
  intro hf
  rcases hf with hf | hf
  · have := h0.two.1.lt hf; omega
  · have := h0.two.2.1.lt hf; omega
theorem DoP.boxes (h0 : DoP w B b b' t s v v' cf AI cI base a A c) (h : On (boxJ w cf AI cI a A c) B b b' v v' t1 s1 W) : CfAt W w.heap.size cf (.slice AI cf.insts.length cI) ∧ Rec W (w.heap.size + 1) 28 [.int .u8 (a.kind : Int), .int .u64 (a.seed : Int), .slice A a.b.length c, .int .i64 a.n, .int .i64 a.keep] := by
  have r0 : CfAt (boxJ w cf AI cI a A c) w.heap.size cf (.slice AI cf.insts.length cI) := Rec.keep (Rec.new w _ (cf.cells (.slice AI cf.insts.length cI)) _ rfl) (alloc_below _ _)
  have r1 : Rec (boxJ w cf AI cI a A c) (w.heap.size + 1) 28 [.int .u8 (a.kind : Int), .int .u64 (a.seed : Int), .slice A a.b.length c, .int .i64 a.n, .int .i64 a.keep] := Rec.new (w.alloc (.cells #[.slice AI cf.insts.length cI, .int .i64 cf.skin, .int .i64 cf.times, .int .i64 cf.port, .int .i64 cf.bid, .int .i64 cf.lot, .int .i64 cf.hedge] 31)) _ [.int .u8 (a.kind : Int), .int .u64 (a.seed : Int), .slice A a.b.length c, .int .i64 a.n, .int .i64 a.keep] _ (by simp)
  exact ⟨Rec.touch r0 h.touch (h0.out (.inr (Nat.le_refl _))), Rec.touch r1 h.touch (h0.out (.inr (Nat.le_succ _)))⟩
theorem DoP.bytes (h0 : DoP w B b b' t s v v' cf AI cI base a A c) (h : On (boxJ w cf AI cI a A c) B b b' v v' t1 s1 W) : Byts W A a.b :=
  h0.byts.touch h.back9.touch (fun bb o e h1 => h0.out (.inl (h0.low bb o e h1)))
theorem DoP.insts (h0 : DoP w B b b' t s v v' cf AI cI base a A c) (h : On (boxJ w cf AI cI a A c) B b b' v v' t1 s1 W) : OwnI W base (.slice AI cf.insts.length cI) cf.insts :=
  OwnL.touch h0.ins h.back9.touch (fun k hk => h0.out (.inl (h0.insLt k hk)))
end
/-- What do answers. -/
def DoJ (w : World) (B b b' : Nat) (v v' : Value) (e : Ending) (w' : World) : Prop := e = .returned (.bool true) ∧ ∃ t1 s1, Same t1 s1 ∧ On w B b b' v v' t1 s1 w'
set_option maxRecDepth 100000 in
set_option maxHeartbeats 4000000 in
theorem do9_wake (w : World) (B b b' : Nat) (t s : Tp) (v v' : Value) (cf : Cfg) (AI : Option Addr) (cI base : Nat) (a : JAct) (A : Option Addr) (c : Nat) (h : DoP w B b b' t s v v' cf AI cI base a A c) (hk : a.kind % 8 = 5) :
    Calls Tryz.prog 10 #[.pointer (some ⟨b, 0, none⟩), .pointer (some ⟨b', 0, none⟩), cf.v (.slice AI cf.insts.length cI), actJ a A c] w (DoJ w B b b' v v') := by
  have H0 := Lib.hid h.boxed
  have HH := Lib.hid h
  have hkd := h.act.kind
  have hrem : (a.kind : Int) % 8 = 5 := by omega
  have CW := Lib.hid (H0.out.wake)
  unfold boxJ at CW
  unfold actJ
  unfold Cfg.v
  clear h hk
  go_enter Tryz.func10, Tryz.ntmps10
  go_wp2_with (first
    | (go_at_call 32; (with_reducible refine CW.out.mono ?_); rintro e w1 ⟨rfl, h1⟩; have CR := Lib.hid h1.rwake; clear h1)
    | (go_at_call 33; (with_reducible refine CR.out.mono ?_); rintro e w2 ⟨rfl, h2⟩; have H2 := Lib.hid h2; clear h2))
  go_ret
  exact ⟨rfl, _, _, HH.out.same.wake, On.back9 (cf := cf) (AI := AI) (cI := cI) (a := a) (A := A) (c := c) H2.out⟩
set_option maxRecDepth 100000 in
set_option maxHeartbeats 4000000 in
theorem do9_arm (w : World) (B b b' : Nat) (t s : Tp) (v v' : Value) (cf : Cfg) (AI : Option Addr) (cI base : Nat) (a : JAct) (A : Option Addr) (c : Nat) (h : DoP w B b b' t s v v' cf AI cI base a A c) (hk : a.kind % 8 = 4) :
    Calls Tryz.prog 10 #[.pointer (some ⟨b, 0, none⟩), .pointer (some ⟨b', 0, none⟩), cf.v (.slice AI cf.insts.length cI), actJ a A c] w (DoJ w B b b' v v') := by
  have H0 := Lib.hid h.boxed
  have HH := Lib.hid h
  have hkd := h.act.kind
  have hrem : (a.kind : Int) % 8 = 4 := by omega
  have CW := Lib.hid (H0.out.arm a.n a.keep h.act.n h.act.keep)
  have HC : Hid (∀ W, On (boxJ w cf AI cI a A c) B b b' v v' (t.arm a.n a.keep) s W → (W.cell? ⟨w.heap.size + 1, 3, none⟩ = some (.int .i64 a.n) ∧ W.cell? ⟨w.heap.size + 1, 4, none⟩ = some (.int .i64 a.keep)) ∧ Calls Tryz.prog 31 #[.pointer (some ⟨b', 0, none⟩), .int .i64 a.n, .int .i64 a.keep] W fun e w' => e = .returned (.tuple #[]) ∧ On (boxJ w cf AI cI a A c) B b b' v v' (t.arm a.n a.keep) (s.rarm a.n a.keep) w') := Lib.hid (fun W hW => ⟨⟨(HH.out.boxes hW).2.cell 3 rfl, (HH.out.boxes hW).2.cell 4 rfl⟩, hW.rarm a.n a.keep HH.out.act.n HH.out.act.keep⟩)
  unfold boxJ at CW HC
  unfold actJ
  unfold Cfg.v
  clear h hk
  go_enter Tryz.func10, Tryz.ntmps10
  go_wp2_with (first
    | (go_at_call 30; (with_reducible refine CW.out.mono ?_); rintro e w1 ⟨rfl, h1⟩; obtain ⟨⟨x2, x3⟩, cr⟩ := HC.out w1 h1; have CR := Lib.hid cr; clear cr h1)
    | (go_at_call 31; (with_reducible refine CR.out.mono ?_); rintro e w2 ⟨rfl, h2⟩; have H2 := Lib.hid h2; clear h2))
  go_ret
  exact ⟨rfl, _, _, HH.out.same.harm a.n a.keep, On.back9 (cf := cf) (AI := AI) (cI := cI) (a := a) (A := A) (c := c) H2.out⟩
set_option maxRecDepth 100000 in
set_option maxHeartbeats 4000000 in
theorem do9_append (w : World) (B b b' : Nat) (t s : Tp) (v v' : Value) (cf : Cfg) (AI : Option Addr) (cI base : Nat) (a : JAct) (A : Option Addr) (c : Nat) (h : DoP w B b b' t s v v' cf AI cI base a A c) (hk : a.kind % 8 = 6) :
    Calls Tryz.prog 10 #[.pointer (some ⟨b, 0, none⟩), .pointer (some ⟨b', 0, none⟩), cf.v (.slice AI cf.insts.length cI), actJ a A c] w (DoJ w B b b' v v') := by
  have H0 := Lib.hid h.boxed
  have HH := Lib.hid h
  have hkd := h.act.kind
  have hrem : (a.kind : Int) % 8 = 6 := by omega
  have HD : Hid (On (boxJ w cf AI cI a A c) B b b' v v' t s (boxJ w cf AI cI a A c).drew) := Lib.hid (H0.out.keep ⟨rfl, rfl, rfl, Nat.le_refl _, fun _ _ => rfl⟩)
  obtain ⟨hs1, hs2⟩ := h.same.append a.b
  have HS1 := Lib.hid hs1
  obtain ⟨code, hc0⟩ : ∃ code, code = (s.rappend a.b).2 := ⟨_, rfl⟩
  rw [← hc0] at hs2
  have CP1 : Hid (∀ s1 W, On (boxJ w cf AI cI a A c) B b b' v v' t s1 W → Calls Tryz.prog 18 #[.pointer (some ⟨b, 0, none⟩), .slice A a.b.length c] W fun e w' => e = .returned (.int .i64 code) ∧ On (boxJ w cf AI cI a A c) B b b' v v' (t.append a.b).1 s1 w') := Lib.hid (fun s1 W hW => by rw [← hs2]; exact hW.append A _ c a.b rfl (HH.out.bytes hW) HH.out.act.oct HH.out.act.nil HH.out.act.len HH.out.act.cap HH.out.low)
  have CR1 : Hid (∀ t1 W, On (boxJ w cf AI cI a A c) B b b' v v' t1 s W → Calls Tryz.prog 19 #[.pointer (some ⟨b', 0, none⟩), .slice A a.b.length c] W fun e w' => e = .returned (.int .i64 code) ∧ On (boxJ w cf AI cI a A c) B b b' v v' t1 (s.rappend a.b).1 w') := Lib.hid (fun t1 W hW => by rw [hc0]; exact hW.rappend A _ c a.b rfl (HH.out.bytes hW) HH.out.act.oct HH.out.act.nil HH.out.act.len HH.out.act.cap HH.out.low)
  have HX : Hid (∀ t1 s1 W, On (boxJ w cf AI cI a A c) B b b' v v' t1 s1 W → W.cell? ⟨w.heap.size + 1, 2, none⟩ = some (.slice A a.b.length c) ∧ True) := Lib.hid (fun t1 s1 W hW => ⟨(HH.out.boxes hW).2.cell 2 rfl, trivial⟩)
  have CP0 := Lib.hid (CP1.out s _ HD.out)
  have CR0 := Lib.hid (CR1.out t _ HD.out)
  unfold boxJ at CP0 CR0
  clear hs1 hs2 hc0 HD
  unfold actJ
  unfold Cfg.v
  clear h hk
  go_enter Tryz.func10, Tryz.ntmps10
  go_wp2
  go_region_with (first
    | (go_at_call 18; (with_reducible refine CP0.out.mono ?_); rintro e w1 ⟨rfl, h1⟩; obtain ⟨x1, _⟩ := HX.out _ _ w1 h1; have CR2 := Lib.hid (CR1.out _ w1 h1); clear h1)
    | (go_at_call 19; (with_reducible refine CR2.out.mono ?_); rintro e w2 ⟨rfl, h2⟩; have HF := Lib.hid h2; clear h2)
    | (go_at_call 19; (with_reducible refine CR0.out.mono ?_); rintro e w1 ⟨rfl, h1⟩; obtain ⟨x1, _⟩ := HX.out _ _ w1 h1; have CP2 := Lib.hid (CP1.out _ w1 h1); clear h1)
    | (go_at_call 18; (with_reducible refine CP2.out.mono ?_); rintro e w2 ⟨rfl, h2⟩; have HF := Lib.hid h2; clear h2))
  all_goals go_wp2
  all_goals go_ret
  all_goals exact ⟨rfl, _, _, HS1.out, On.back9 (cf := cf) (AI := AI) (cI := cI) (a := a) (A := A) (c := c) HF.out⟩
set_option maxRecDepth 100000 in
set_option maxHeartbeats 4000000 in
theorem do9_start (w : World) (B b b' : Nat) (t s : Tp) (v v' : Value) (cf : Cfg) (AI : Option Addr) (cI base : Nat) (a : JAct) (A : Option Addr) (c : Nat) (h : DoP w B b b' t s v v' cf AI cI base a A c) (hk : a.kind % 8 = 7) :
    Calls Tryz.prog 10 #[.pointer (some ⟨b, 0, none⟩), .pointer (some ⟨b', 0, none⟩), cf.v (.slice AI cf.insts.length cI), actJ a A c] w (DoJ w B b b' v v') := by
  have H0 := Lib.hid h.boxed
  have HH := Lib.hid h
  have hkd := h.act.kind
  have hrem : (a.kind : Int) % 8 = 7 := by omega
  have HD : Hid (On (boxJ w cf AI cI a A c) B b b' v v' t s (boxJ w cf AI cI a A c).drew) := Lib.hid (H0.out.keep ⟨rfl, rfl, rfl, Nat.le_refl _, fun _ _ => rfl⟩)
  obtain ⟨hs1, hs2⟩ := h.same.jstart cf
  have HS1 := Lib.hid hs1
  obtain ⟨code, hc0⟩ : ∃ code, code = (s.rjstart cf).2 := ⟨_, rfl⟩
  rw [← hc0] at hs2
  have CP1 : Hid (∀ s1 W, On (boxJ w cf AI cI a A c) B b b' v v' t s1 W → Calls Tryz.prog 24 #[.pointer (some ⟨b, 0, none⟩), cf.v (.slice AI cf.insts.length cI)] W fun e w' => e = .returned (.int .i64 code) ∧ On (boxJ w cf AI cI a A c) B b b' v v' (t.jstart cf).1 s1 w') := Lib.hid (fun s1 W hW => by rw [← hs2]; exact hW.jstart cf (ok_cfgI HH.out.ok) AI _ cI rfl (own_insM (HH.out.insts hW)))
  have CR1 : Hid (∀ t1 W, On (boxJ w cf AI cI a A c) B b b' v v' t1 s W → Calls Tryz.prog 34 #[.pointer (some ⟨b', 0, none⟩), cf.v (.slice AI cf.insts.length cI)] W fun e w' => e = .returned (.int .i64 code) ∧ On (boxJ w cf AI cI a A c) B b b' v v' t1 (s.rjstart cf).1 w') := Lib.hid (fun t1 W hW => by rw [hc0]; exact hW.rjstart cf (ok_cfgI HH.out.ok) AI _ cI rfl (own_insM (HH.out.insts hW)))
  have HX : Hid (∀ t1 s1 W, On (boxJ w cf AI cI a A c) B b b' v v' t1 s1 W → W.cell? ⟨w.heap.size, 0, none⟩ = some (.slice AI cf.insts.length cI) ∧ W.cell? ⟨w.heap.size, 1, none⟩ = some (.int .i64 cf.skin) ∧ W.cell? ⟨w.heap.size, 2, none⟩ = some (.int .i64 cf.times) ∧ W.cell? ⟨w.heap.size, 3, none⟩ = some (.int .i64 cf.port) ∧ W.cell? ⟨w.heap.size, 4, none⟩ = some (.int .i64 cf.bid) ∧ W.cell? ⟨w.heap.size, 5, none⟩ = some (.int .i64 cf.lot) ∧ W.cell? ⟨w.heap.size, 6, none⟩ = some (.int .i64 cf.hedge)) := Lib.hid (fun t1 s1 W hW => (HH.out.boxes hW).1.reads)
  have CP0 := Lib.hid (CP1.out s _ HD.out)
  have CR0 := Lib.hid (CR1.out t _ HD.out)
  unfold boxJ at CP0 CR0
  unfold Cfg.v at CP1 CR1 CP0 CR0
  clear hs1 hs2 hc0 HD
  unfold actJ
  unfold Cfg.v
  clear h hk
  go_enter Tryz.func10, Tryz.ntmps10
  go_wp2
  go_region_with (first
    | (go_at_call 24; (with_reducible refine CP0.out.mono ?_); rintro e w1 ⟨rfl, h1⟩; obtain ⟨x0, x1, x2, x3, x4, x5, x6⟩ := HX.out _ _ w1 h1; have CR2 := Lib.hid (CR1.out _ w1 h1); clear h1)
    | (go_at_call 34; (with_reducible refine CR2.out.mono ?_); rintro e w2 ⟨rfl, h2⟩; have HF := Lib.hid h2; clear h2)
    | (go_at_call 34; (with_reducible refine CR0.out.mono ?_); rintro e w1 ⟨rfl, h1⟩; obtain ⟨x0, x1, x2, x3, x4, x5, x6⟩ := HX.out _ _ w1 h1; have CP2 := Lib.hid (CP1.out _ w1 h1); clear h1)
    | (go_at_call 24; (with_reducible refine CP2.out.mono ?_); rintro e w2 ⟨rfl, h2⟩; have HF := Lib.hid h2; clear h2))
  all_goals go_wp2
  all_goals go_ret
  all_goals exact ⟨rfl, _, _, HS1.out, On.back9 (cf := cf) (AI := AI) (cI := cI) (a := a) (A := A) (c := c) HF.out⟩
set_option maxRecDepth 100000 in
set_option maxHeartbeats 4000000 in
theorem do9_open (w : World) (B b b' : Nat) (t s : Tp) (v v' : Value) (cf : Cfg) (AI : Option Addr) (cI base : Nat) (a : JAct) (A : Option Addr) (c : Nat) (h : DoP w B b b' t s v v' cf AI cI base a A c) (hk : a.kind % 8 = 3) :
    Calls Tryz.prog 10 #[.pointer (some ⟨b, 0, none⟩), .pointer (some ⟨b', 0, none⟩), cf.v (.slice AI cf.insts.length cI), actJ a A c] w (DoJ w B b b' v v') := by
  have H0 := Lib.hid h.boxed
  have HH := Lib.hid h
  have hkd := h.act.kind
  have hrem : (a.kind : Int) % 8 = 3 := by omega
  obtain ⟨cfx, esx, kx, hjx⟩ : ∃ a b c, t.jopen.2 = (a, b, c) := ⟨_, _, _, rfl⟩
  have hjs := h.same.jopen.2
  have hln := H0.out.opened
  have CJO := H0.out.jopen
  rw [hjx] at hjs hln CJO
  have HLN := Lib.hid hln
  have HJS := Lib.hid hjs.symm
  have HSJ := Lib.hid h.same.jopen.1
  have CJO := Lib.hid CJO
  unfold OpenO at CJO
  dsimp only at CJO
  unfold boxJ at CJO
  clear hjx hjs hln
  unfold actJ
  unfold Cfg.v
  clear h hk
  go_enter Tryz.func10, Tryz.ntmps10
  go_wp2_with (first
    | (go_at_call 23; (with_reducible refine CEV.out.mono ?_); rintro r wf ⟨rfl, hbf⟩; have HOG := Lib.hid (HOF.out.keep hbf); clear hbf)
    | (go_at_call 22; (with_reducible refine CSP.out.mono ?_); rintro r we ⟨rfl, hbe⟩; have CEV := Lib.hid (events_any A6 A8 esx esx esx.length esx.length c6 c8 we rfl rfl (evmO (OwnL.keep HOE6.out hbe)) (evmO (OwnL.keep HOE7.out hbe)) (by have := HLN.out.2; (try dsimp only at this); omega)); rw [decide_eq_true rfl] at CEV; have HOF := Lib.hid (HOD.out.keep hbe); clear hbe)
    | (go_at_call 21; (with_reducible refine CRO.out.mono ?_); rintro r wd ⟨⟨A7, c7, A8, c8, rfl, hoi, hoe⟩, hOd, vd, hTd, hWd⟩; (try simp only [Cfg.v]); have hal := alloc_below wd (.cells #[.slice A7 cfx.insts.length c7, .int .i64 cfx.skin, .int .i64 cfx.times, .int .i64 cfx.port, .int .i64 cfx.bid, .int .i64 cfx.lot, .int .i64 cfx.hedge] 31); have HOD := Lib.hid (hOd.keep hal); have HOI7 := Lib.hid (OwnL.keep hoi hal); have HOE7 := Lib.hid (OwnL.keep hoe hal); have HOI6 := Lib.hid (OwnL.keep (went_own hTd HOI5.out (by decide) (by decide) hWd) hal); have HOE6 := Lib.hid (OwnL.keep (went_own hTd HOE5.out (by decide) (by decide) hWd) hal); have HRX2 := CfAt.keep (went_rec hTd HRX.out (by decide) (by decide) hWd) hal; obtain ⟨d0, d1, d2, d3, d4, d5, d6⟩ := HRX2.reads; have HRY : CfAt (wd.alloc (.cells #[.slice A7 cfx.insts.length c7, .int .i64 cfx.skin, .int .i64 cfx.times, .int .i64 cfx.port, .int .i64 cfx.bid, .int .i64 cfx.lot, .int .i64 cfx.hedge] 31)) wd.heap.size cfx (.slice A7 cfx.insts.length c7) := Rec.new wd _ (cfx.cells (.slice A7 cfx.insts.length c7)) _ rfl; obtain ⟨f0, f1, f2, f3, f4, f5, f6⟩ := HRY.reads; have CSP := Lib.hid (rsame_any cfx cfx A5 A7 cfx.insts.length cfx.insts.length c5 c7 (wd.alloc (.cells #[.slice A7 cfx.insts.length c7, .int .i64 cfx.skin, .int .i64 cfx.times, .int .i64 cfx.port, .int .i64 cfx.bid, .int .i64 cfx.lot, .int .i64 cfx.hedge] 31)) rfl rfl (own_insM HOI6.out) (own_insM HOI7.out) (by have := HLN.out.1; (try dsimp only at this); omega)); rw [decide_eq_true rfl] at CSP; unfold Cfg.v at CSP; clear hoi hoe hOd hTd hWd hal HRX2 HRY)
    | (go_at_call 20; (with_reducible refine CJO.out.mono ?_); rintro r wc ⟨⟨A5, c5, A6, c6, rfl, hoi, hoe⟩, hOc⟩; (try simp only [Cfg.v]); have HOI5 := Lib.hid (OwnL.keep hoi (alloc_below wc (.cells #[.slice A5 cfx.insts.length c5, .int .i64 cfx.skin, .int .i64 cfx.times, .int .i64 cfx.port, .int .i64 cfx.bid, .int .i64 cfx.lot, .int .i64 cfx.hedge] 31))); have HOE5 := Lib.hid (OwnL.keep hoe (alloc_below wc (.cells #[.slice A5 cfx.insts.length c5, .int .i64 cfx.skin, .int .i64 cfx.times, .int .i64 cfx.port, .int .i64 cfx.bid, .int .i64 cfx.lot, .int .i64 cfx.hedge] 31))); have HRX : Hid (CfAt (wc.alloc (.cells #[.slice A5 cfx.insts.length c5, .int .i64 cfx.skin, .int .i64 cfx.times, .int .i64 cfx.port, .int .i64 cfx.bid, .int .i64 cfx.lot, .int .i64 cfx.hedge] 31)) wc.heap.size cfx (.slice A5 cfx.insts.length c5)) := Lib.hid (Rec.new wc _ (cfx.cells (.slice A5 cfx.insts.length c5)) _ rfl); have CRO := (hOc.keep (alloc_below wc (.cells #[.slice A5 cfx.insts.length c5, .int .i64 cfx.skin, .int .i64 cfx.times, .int .i64 cfx.port, .int .i64 cfx.bid, .int .i64 cfx.lot, .int .i64 cfx.hedge] 31))).ropen2; rw [HJS.out] at CRO; have CRO := Lib.hid CRO; unfold OpenO at CRO; dsimp only at CRO; clear hoi hoe hOc))
  go_ret
  exact ⟨rfl, _, _, HSJ.out, On.back9 (cf := cf) (AI := AI) (cI := cI) (a := a) (A := A) (c := c) HOG.out⟩
end Go.Proofs.YtmpipjangbedkaaGreat

/-
  The walk of novationlaw9's do where it adds an event.
-/
namespace Go.Proofs.YtmpipjangbedkaaGreat
set_option maxRecDepth 8000
open Go Go.RowKit
set_option linter.unusedVariables false

/-- Only decks have turned. -/
def DkT (W W' : World) : Prop := Touch (fun k => ∃ cs, Rec W k 68 cs) W W'
/-- What is told of a value ahead of the call of Event, and behind it. -/
structure SpG where
  p : Bool → Value → World → Prop
  st : ∀ β v W W', Below W.heap.size W W' → p β v W → p β v W'
  st1 : ∀ v W W', DkT W W' → p false v W → p true v W'
def SpG.val (u : Value) : SpG := ⟨fun _ v _ => v = u, fun _ _ _ _ _ h => h, fun _ _ _ _ h => h⟩
def SpG.such (Q : Value → Prop) : SpG := ⟨fun _ v _ => Q v, fun _ _ _ _ _ h => h, fun _ _ _ _ h => h⟩
/-- A new struct, which is no deck. -/
def SpG.box (base : Nat) (T : TypeId) (hT : T ≠ 68) (cs : List Value) : SpG :=
  ⟨fun _ v W => ∃ d, v = .pointer (some ⟨d, 0, none⟩) ∧ base ≤ d ∧ Rec W d T cs,
   fun _ _ _ _ hb h => by obtain ⟨d, e, h1, h2⟩ := h; exact ⟨d, e, h1, h2.keep hb⟩,
   fun _ _ _ ht h => by obtain ⟨d, e, h1, h2⟩ := h; exact ⟨d, e, h1, h2.touch ht (fun ⟨cs', h3⟩ => Rec.ne h2 h3 hT rfl)⟩⟩
/-- A new row of six numbers. -/
def SpG.row (base : Nat) : SpG :=
  ⟨fun _ v W => ∃ (g : Nat) (l : List Int), v = .slice (some ⟨g, 0, none⟩) 6 6 ∧ base ≤ g ∧ l.length = 6 ∧ (∀ i, i < 6 → 0 ≤ l.getD i 0 ∧ l.getD i 0 < 18446744073709551616) ∧ Rec W g 25 (l.map fun n => .int .u64 n),
   fun _ _ _ _ hb h => by obtain ⟨g, l, e, h1, h2, h3, h4⟩ := h; exact ⟨g, l, e, h1, h2, h3, h4.keep hb⟩,
   fun _ _ _ ht h => by obtain ⟨g, l, e, h1, h2, h3, h4⟩ := h; exact ⟨g, l, e, h1, h2, h3, h4.touch ht (fun ⟨cs', h5⟩ => Rec.ne h4 h5 (by decide) rfl)⟩⟩
/-- A new deck, ahead of the call. -/
def SpG.deck (base : Nat) : SpG :=
  ⟨fun β v W => β = false → ∃ (d : Nat) (W0 : World) (A : Option Addr) (l : List Int) (c : Nat), v = .pointer (some ⟨d, 0, none⟩) ∧ base ≤ d ∧ Deck W0 A l c d 0 W,
   fun _ _ _ _ hb h e => by obtain ⟨d, W0, A, l, c, e, h1, h2⟩ := h e; exact ⟨d, W0, A, l, c, e, h1, h2.keep hb⟩,
   fun _ _ _ _ _ e => by cases e⟩
def spG (l : List SpG) (β : Bool) (i : Nat) (v : Value) (W : World) : Prop := (l.getD i (.val undef)).p β v W
theorem spG_st (l : List SpG) (β : Bool) (i : Nat) (v : Value) (W W' : World) (hb : Below W.heap.size W W') (h : spG l β i v W) : spG l β i v W' := (l.getD i (.val undef)).st β v W W' hb h
theorem spG_st1 (l : List SpG) (i : Nat) (v : Value) (W W' : World) (hb : DkT W W') (h : spG l false i v W) : spG l true i v W' := (l.getD i (.val undef)).st1 v W W' hb h
theorem isU64_of {x : Int} (h : 0 ≤ x) (h2 : x < 18446744073709551616) : isU64 (.int .u64 x) := by
  obtain ⟨n, rfl⟩ := Int.eq_ofNat_of_zero_le h
  exact ⟨n, rfl, by omega⟩
theorem row_num {W : World} {g : Nat} {l : List Int} (hl : l.length = 6) (hu : ∀ i, i < 6 → 0 ≤ l.getD i 0 ∧ l.getD i 0 < 18446744073709551616) (hr : Rec W g 25 (l.map fun n => .int .u64 n)) : Nums W (some ⟨g, 0, none⟩) l := by
  refine ⟨fun _ => ⟨g, 0, rfl, fun i hi => ?_⟩, fun i hi => hu i (by omega), by omega⟩
  rw [Nat.zero_add]
  refine hr.cell i ?_
  rw [List.getElem?_map, List.getElem?_eq_getElem hi, List.getD_eq_getElem?_getD, List.getElem?_eq_getElem hi]
  rfl
section
variable {w0 W w2 : World} {B b b' : Nat} {t s t1 s1 : Tp} {v0 v0' v v' : Value}
/-- A store into a struct that is newer than all. -/
theorem On.poke (h : On w0 B b b' v0 v0' t s W) {k i : Nat} {cs : List Value} (hr : Rec W k 51 cs) (hk : w0.heap.size ≤ k) (u : Value) : On w0 B b b' v0 v0' t s (W.setCell ⟨k, i, none⟩ u) := by
  obtain ⟨⟨v, v', ⟨h1, h2, h3⟩, n1, n2⟩, ht⟩ := h
  have hs := Touch.setCell W ⟨k, i, none⟩ u
  exact ⟨⟨v, v', ⟨h1.touch hs (fun j hj e => foot_rec h1 hr (by decide) (by decide) (by rw [← show j = k from e]; exact hj)), h2.touch hs (fun j hj e => foot_rec h2 hr (by decide) (by decide) (by rw [← show j = k from e]; exact hj)), h3⟩, n1, n2⟩, ht.trans hs (fun j hj e => by have e' : j = k := e; omega)⟩
theorem On.from (ht : Touch (fun k => foot b v0 k ∨ foot b' v0' k) w0 W) (n1 : Near w0 v0 v) (n2 : Near w0 v0' v') (h : On W B b b' v v' t1 s1 w2) : On w0 B b b' v0 v0' t1 s1 w2 := by
  obtain ⟨⟨v2, v2', h2, m1, m2⟩, ht2⟩ := h
  exact ⟨⟨v2, v2', h2, n1.next ht.size m1, n2.next ht.size m2⟩, ht.trans ht2 (fun i hi hf => hf.imp (foot_near n1 hi) (foot_near n2 hi))⟩
/-- An event's block outlives both adds. -/
theorem Two.event (h : Two B b b' t s W v v') {k : Nat} {e : Ev} (he : EvAt W k e) (ho : On W B b b' v v' t1 s1 w2) : EvAt w2 k e :=
  Rec.touch he ho.touch (fun hf => hf.elim (foot_rec h.1 he (by decide) (by decide)) (foot_rec h.2.1 he (by decide) (by decide)))
end
set_option maxRecDepth 100000 in
set_option maxHeartbeats 16000000 in
theorem do9_add (w : World) (B b b' : Nat) (t s : Tp) (v v' : Value) (cf : Cfg) (AI : Option Addr) (cI base : Nat) (a : JAct) (A : Option Addr) (c : Nat) (h : DoP w B b b' t s v v' cf AI cI base a A c) (hk : a.kind % 8 < 3) :
    Calls Tryz.prog 10 #[.pointer (some ⟨b, 0, none⟩), .pointer (some ⟨b', 0, none⟩), cf.v (.slice AI cf.insts.length cI), actJ a A c] w (DoJ w B b b' v v') := by
  have H0 := Lib.hid h.boxed
  have HH := Lib.hid h
  have hkd := h.act.kind
  have hsd := h.act.seed
  obtain ⟨q, hq⟩ : ∃ q, q = a.kind % 8 := ⟨_, rfl⟩
  have hrem : (a.kind : Int) % 8 = (q : Int) := by omega
  have hq3 : ((q : Int) == 3) = false := by rw [beq_eq_false_iff_ne]; omega
  have hq4 : ((q : Int) == 4) = false := by rw [beq_eq_false_iff_ne]; omega
  have hq5 : ((q : Int) == 5) = false := by rw [beq_eq_false_iff_ne]; omega
  have hq6 : ((q : Int) == 6) = false := by rw [beq_eq_false_iff_ne]; omega
  have hq7 : ((q : Int) == 7) = false := by rw [beq_eq_false_iff_ne]; omega
  have HC1 := Lib.hid (h.boxes h.boxed).1
  have HR1 := Lib.hid (h.boxes h.boxed).2
  have HI1 := Lib.hid (h.insts h.boxed)
  unfold actJ
  unfold Cfg.v
  clear h hk hq
  go_enter Tryz.func10, Tryz.ntmps10
  go_wp2
  refine wp_region_one [86, 87, 88, 89, 90, 91, 92, 93, 94, 95, 96, 97, 98, 99, 100, 101, 102, 103, 104, 105, 106, 15] 20 (fun W W' => Below W.heap.size W W') DkT (fun W => Below (boxJ w cf AI cI a A c).heap.size (boxJ w cf AI cI a A c) W) (spG [(.val (.pointer (some ⟨w.heap.size + 1, 1, none⟩))), (.such isU64), (.val (.pointer (some ⟨w.heap.size + 1, 1, none⟩))), (.val (.int .u64 (a.seed : Int))), (.such isU64), (.val (.pointer (some ⟨w.heap.size + 1, 1, none⟩))), (.val (.int .u64 (a.seed : Int))), (.such isU64), (.val (.pointer (some ⟨w.heap.size + 1, 1, none⟩))), (.val (.int .u64 (a.seed : Int))), (.such isU64), (.val (.pointer (some ⟨w.heap.size + 1, 1, none⟩))), (.val (.int .u64 (a.seed : Int))), (.such isU64), (.val (.pointer (some ⟨w.heap.size + 1, 1, none⟩))), (.val (.int .u64 (a.seed : Int))), (.such isU64), (.row (boxJ w cf AI cI a A c).heap.size), (.deck (boxJ w cf AI cI a A c).heap.size), (.val (.agg #[.slice AI cf.insts.length cI, .int .i64 cf.skin, .int .i64 cf.times, .int .i64 cf.port, .int .i64 cf.bid, .int .i64 cf.lot, .int .i64 cf.hedge])), (.such (fun u => ∃ e : Ev, u = e.v ∧ Good e)), (.box (boxJ w cf AI cI a A c).heap.size 51 (by decide) Ev.zero.cells)]) (fun a1 W => ∃ (bX : Nat) (ev : Ev), a1.tmps.getD 15 undef = .pointer (some ⟨bX, 0, none⟩) ∧ (boxJ w cf AI cI a A c).heap.size ≤ bX ∧ Good ev ∧ EvAt W bX ev ∧ Below (boxJ w cf AI cI a A c).heap.size (boxJ w cf AI cI a A c) W) rfl rfl rfl rfl rfl rfl rfl rfl (spG_st _) (spG_st1 _) (Below.refl _ _).drew (by decide) ⟨?_, ?_, ?_, ?_, ?_, ?_, ?_, ?_, ?_, ?_, ?_, ?_, ?_, ?_, ?_, ?_, ?_, ?_, ?_, ?_, ?_, ?_, trivial⟩ ?_ ?_
  · intro a1 W K β hβ ho hW hpre hK
    rw [if_pos (wanted_none rfl)]
    have e0 : a1.tmps.getD 7 undef = .pointer (some ⟨w.heap.size + 1, 0, none⟩) := ho.slot 7 (by decide)
    go_simp
    exact hK _ _ (Below.refl _ _) hW rfl
  · intro a1 W K β hβ ho hW hpre hK
    rw [if_pos (wanted_none rfl)]
    have e0 : a1.tmps.getD 86 undef = (.pointer (some ⟨w.heap.size + 1, 1, none⟩)) := hpre ⟨0, .data⟩ (by simp) rfl _ rfl
    have hc := (HR1.out.keep hW).cell 1 rfl
    go_simp
    exact hK _ _ (Below.refl _ _) hW (isU64_of (by omega) (by omega))
  · intro a1 W K β hβ ho hW hpre hK
    rw [if_pos (wanted_none rfl)]
    have e0 : a1.tmps.getD 7 undef = .pointer (some ⟨w.heap.size + 1, 0, none⟩) := ho.slot 7 (by decide)
    go_simp
    exact hK _ _ (Below.refl _ _) hW rfl
  · intro a1 W K β hβ ho hW hpre hK
    rw [if_pos (wanted_none rfl)]
    have e0 : a1.tmps.getD 88 undef = (.pointer (some ⟨w.heap.size + 1, 1, none⟩)) := hpre ⟨2, .data⟩ (by simp) rfl _ rfl
    have hc := (HR1.out.keep hW).cell 1 rfl
    go_simp
    exact hK _ _ (Below.refl _ _) hW rfl
  · intro a1 W K β hβ ho hW hpre hK
    rw [if_pos (wanted_none rfl)]
    have e0 : a1.tmps.getD 89 undef = (.int .u64 (a.seed : Int)) := hpre ⟨3, .data⟩ (by simp) rfl _ rfl
    go_simp
    exact hK _ _ (Below.refl _ _) hW (isU64_of (by omega) (by omega))
  · intro a1 W K β hβ ho hW hpre hK
    rw [if_pos (wanted_none rfl)]
    have e0 : a1.tmps.getD 7 undef = .pointer (some ⟨w.heap.size + 1, 0, none⟩) := ho.slot 7 (by decide)
    go_simp
    exact hK _ _ (Below.refl _ _) hW rfl
  · intro a1 W K β hβ ho hW hpre hK
    rw [if_pos (wanted_none rfl)]
    have e0 : a1.tmps.getD 91 undef = (.pointer (some ⟨w.heap.size + 1, 1, none⟩)) := hpre ⟨5, .data⟩ (by simp) rfl _ rfl
    have hc := (HR1.out.keep hW).cell 1 rfl
    go_simp
    exact hK _ _ (Below.refl _ _) hW rfl
  · intro a1 W K β hβ ho hW hpre hK
    rw [if_pos (wanted_none rfl)]
    have e0 : a1.tmps.getD 92 undef = (.int .u64 (a.seed : Int)) := hpre ⟨6, .data⟩ (by simp) rfl _ rfl
    go_simp
    exact hK _ _ (Below.refl _ _) hW (isU64_of (by omega) (by omega))
  · intro a1 W K β hβ ho hW hpre hK
    rw [if_pos (wanted_none rfl)]
    have e0 : a1.tmps.getD 7 undef = .pointer (some ⟨w.heap.size + 1, 0, none⟩) := ho.slot 7 (by decide)
    go_simp
    exact hK _ _ (Below.refl _ _) hW rfl
  · intro a1 W K β hβ ho hW hpre hK
    rw [if_pos (wanted_none rfl)]
    have e0 : a1.tmps.getD 94 undef = (.pointer (some ⟨w.heap.size + 1, 1, none⟩)) := hpre ⟨8, .data⟩ (by simp) rfl _ rfl
    have hc := (HR1.out.keep hW).cell 1 rfl
    go_simp
    exact hK _ _ (Below.refl _ _) hW rfl
  · intro a1 W K β hβ ho hW hpre hK
    rw [if_pos (wanted_none rfl)]
    have e0 : a1.tmps.getD 95 undef = (.int .u64 (a.seed : Int)) := hpre ⟨9, .data⟩ (by simp) rfl _ rfl
    go_simp
    exact hK _ _ (Below.refl _ _) hW (isU64_of (by omega) (by omega))
  · intro a1 W K β hβ ho hW hpre hK
    rw [if_pos (wanted_none rfl)]
    have e0 : a1.tmps.getD 7 undef = .pointer (some ⟨w.heap.size + 1, 0, none⟩) := ho.slot 7 (by decide)
    go_simp
    exact hK _ _ (Below.refl _ _) hW rfl
  · intro a1 W K β hβ ho hW hpre hK
    rw [if_pos (wanted_none rfl)]
    have e0 : a1.tmps.getD 97 undef = (.pointer (some ⟨w.heap.size + 1, 1, none⟩)) := hpre ⟨11, .data⟩ (by simp) rfl _ rfl
    have hc := (HR1.out.keep hW).cell 1 rfl
    go_simp
    exact hK _ _ (Below.refl _ _) hW rfl
  · intro a1 W K β hβ ho hW hpre hK
    rw [if_pos (wanted_none rfl)]
    have e0 : a1.tmps.getD 98 undef = (.int .u64 (a.seed : Int)) := hpre ⟨12, .data⟩ (by simp) rfl _ rfl
    go_simp
    exact hK _ _ (Below.refl _ _) hW (isU64_of (by omega) (by omega))
  · intro a1 W K β hβ ho hW hpre hK
    rw [if_pos (wanted_none rfl)]
    have e0 : a1.tmps.getD 7 undef = .pointer (some ⟨w.heap.size + 1, 0, none⟩) := ho.slot 7 (by decide)
    go_simp
    exact hK _ _ (Below.refl _ _) hW rfl
  · intro a1 W K β hβ ho hW hpre hK
    rw [if_pos (wanted_none rfl)]
    have e0 : a1.tmps.getD 100 undef = (.pointer (some ⟨w.heap.size + 1, 1, none⟩)) := hpre ⟨14, .data⟩ (by simp) rfl _ rfl
    have hc := (HR1.out.keep hW).cell 1 rfl
    go_simp
    exact hK _ _ (Below.refl _ _) hW rfl
  · intro a1 W K β hβ ho hW hpre hK
    rw [if_pos (wanted_none rfl)]
    have e0 : a1.tmps.getD 101 undef = (.int .u64 (a.seed : Int)) := hpre ⟨15, .data⟩ (by simp) rfl _ rfl
    go_simp
    exact hK _ _ (Below.refl _ _) hW (isU64_of (by omega) (by omega))
  · intro a1 W K β hβ ho hW hpre hK
    rw [if_pos (wanted_none rfl)]
    have e0 : (SpG.such isU64).p β (a1.tmps.getD 87 undef) W := hpre ⟨1, .data⟩ (by simp) rfl _ rfl
    have e1 : (SpG.such isU64).p β (a1.tmps.getD 90 undef) W := hpre ⟨4, .data⟩ (by simp) rfl _ rfl
    have e2 : (SpG.such isU64).p β (a1.tmps.getD 93 undef) W := hpre ⟨7, .data⟩ (by simp) rfl _ rfl
    have e3 : (SpG.such isU64).p β (a1.tmps.getD 96 undef) W := hpre ⟨10, .data⟩ (by simp) rfl _ rfl
    have e4 : (SpG.such isU64).p β (a1.tmps.getD 99 undef) W := hpre ⟨13, .data⟩ (by simp) rfl _ rfl
    have e5 : (SpG.such isU64).p β (a1.tmps.getD 102 undef) W := hpre ⟨16, .data⟩ (by simp) rfl _ rfl
    obtain ⟨n0, e0, h0⟩ := e0
    obtain ⟨n1, e1, h1⟩ := e1
    obtain ⟨n2, e2, h2⟩ := e2
    obtain ⟨n3, e3, h3⟩ := e3
    obtain ⟨n4, e4, h4⟩ := e4
    obtain ⟨n5, e5, h5⟩ := e5
    rw [Array.getD_eq_getD_getElem?] at e0 e1 e2 e3 e4 e5
    go_simp
    exact hK _ _ (alloc_below _ _) (hW.alloc hW.size _) ⟨W.heap.size, [(n0 : Int), n1, n2, n3, n4, n5], rfl, hW.size, rfl, fun i hi => by rcases i with _ | _ | _ | _ | _ | _ | i <;> simp <;> omega, Rec.new W _ [.int .u64 (n0 : Int), .int .u64 (n1 : Int), .int .u64 (n2 : Int), .int .u64 (n3 : Int), .int .u64 (n4 : Int), .int .u64 (n5 : Int)] _ rfl⟩
  · intro a1 W K β hβ ho hW hpre hK
    rw [if_pos (wanted_none rfl)]
    have e0 : (SpG.row (boxJ w cf AI cI a A c).heap.size).p β (a1.tmps.getD 103 undef) W := hpre ⟨17, .data⟩ (by simp) rfl _ rfl
    obtain ⟨g, l, e0, hg, hl, hu, hr⟩ := e0
    have CO := Lib.hid (deck_of W W (some ⟨g, 0, none⟩) l 6 6 hl.symm (row_num hl hu hr) (Below.refl _ _))
    clear hr
    go_simp
    refine CO.out.mono ?_
    rintro r w2 ⟨rfl, hd⟩
    exact hK _ _ hd.below (hW.trans (hd.below.mono hW.size)) (fun _ => ⟨W.heap.size, W, _, l, 6, rfl, hW.size, hd⟩)
  · intro a1 W K β hβ ho hW hpre hK
    rw [if_pos (wanted_none rfl)]
    have e0 : a1.tmps.getD 6 undef = .pointer (some ⟨w.heap.size, 0, none⟩) := ho.slot 6 (by decide)
    obtain ⟨c0, c1, c2, c3, c4, c5, c6⟩ := (CfAt.keep HC1.out hW).reads
    go_simp
    exact hK _ _ (Below.refl _ _) hW rfl
  · intro a1 W K β hβ ho hW hpre hK
    rw [if_pos (wanted_none rfl)]
    have e0 : (SpG.deck (boxJ w cf AI cI a A c).heap.size).p β (a1.tmps.getD 104 undef) W := hpre ⟨18, .data⟩ (by simp) rfl _ rfl
    have e1 : a1.tmps.getD 105 undef = (.agg #[.slice AI cf.insts.length cI, .int .i64 cf.skin, .int .i64 cf.times, .int .i64 cf.port, .int .i64 cf.bid, .int .i64 cf.lot, .int .i64 cf.hedge]) := hpre ⟨19, .data⟩ (by simp) rfl _ rfl
    obtain ⟨d, W0, A1, l1, c1, e0, hd, hdk⟩ := e0 (hβ rfl)
    have CE := Lib.hid (deck_event W0 W A1 l1 c1 d 0 hdk (by omega) cf (.slice AI cf.insts.length cI) (CfgIn.of HH.out.ok (OwnL.keep HI1.out hW) hdk))
    unfold Cfg.v at CE
    have HDK := Lib.hid hdk.box
    clear hdk
    go_simp
    refine CE.out.mono ?_
    rintro r w2 ⟨ev, rfl, hok, hri, _, ht⟩
    exact hK _ _ (ht.mono (fun k e => by subst e; obtain ⟨i, _, hr⟩ := HDK.out; exact ⟨_, hr⟩)) (hW.trans (ht.below hW.size (fun k e => by rw [e]; exact hd))) ⟨ev, rfl, hok, hri⟩
  · intro a1 W K β hβ ho hW hpre hK
    rw [if_pos (wanted_none rfl)]
    go_simp
    exact hK _ _ (alloc_below _ _) (hW.alloc hW.size _) ⟨W.heap.size, rfl, hW.size, Rec.new W _ Ev.zero.cells _ rfl⟩
  · intro a1 W K ho hW hall hF
    have e0 : (SpG.box (boxJ w cf AI cI a A c).heap.size 51 (by decide) Ev.zero.cells).p true (a1.tmps.getD 15 undef) W := hall 21 _ rfl
    have e1 : (SpG.such (fun u => ∃ e : Ev, u = e.v ∧ Good e)).p true (a1.tmps.getD 106 undef) W := hall 20 _ rfl
    obtain ⟨bX, e0, hbX, hE0⟩ := e0
    obtain ⟨ev, e1, hg⟩ := e1
    have hE : EvAt W bX Ev.zero := hE0
    obtain ⟨c0, c1, c2, c3, c4, c5, c6, c7⟩ := hE.reads
    have fz0 := Rec.frozen hE 0
    have fz1 := Rec.frozen hE 1
    have fz2 := Rec.frozen hE 2
    have fz3 := Rec.frozen hE 3
    have fz4 := Rec.frozen hE 4
    have fz5 := Rec.frozen hE 5
    have fz6 := Rec.frozen hE 6
    have fz7 := Rec.frozen hE 7
    unfold Ev.v at e1
    have F := Lib.hid (hF (putE W bX ev) ⟨bX, ev, e0, hbX, hg, put_at hE _, hW.trans ((put_touch W bX ev).below hW.size (fun k e => by rw [e]; exact hbX))⟩)
    unfold putE at F
    clear hF hall hW hE0 hE
    go_simp
    exact F.out
  · intro a1 W ho hF
    obtain ⟨bX, ev, e15, hbX, hg, hE, hB⟩ := hF
    have heq := ho.eq
    clear ho
    simp only [putL, e15] at heq
    generalize a1.tmps.getD 86 undef = u86 at heq
    generalize a1.tmps.getD 87 undef = u87 at heq
    generalize a1.tmps.getD 88 undef = u88 at heq
    generalize a1.tmps.getD 89 undef = u89 at heq
    generalize a1.tmps.getD 90 undef = u90 at heq
    generalize a1.tmps.getD 91 undef = u91 at heq
    generalize a1.tmps.getD 92 undef = u92 at heq
    generalize a1.tmps.getD 93 undef = u93 at heq
    generalize a1.tmps.getD 94 undef = u94 at heq
    generalize a1.tmps.getD 95 undef = u95 at heq
    generalize a1.tmps.getD 96 undef = u96 at heq
    generalize a1.tmps.getD 97 undef = u97 at heq
    generalize a1.tmps.getD 98 undef = u98 at heq
    generalize a1.tmps.getD 99 undef = u99 at heq
    generalize a1.tmps.getD 100 undef = u100 at heq
    generalize a1.tmps.getD 101 undef = u101 at heq
    generalize a1.tmps.getD 102 undef = u102 at heq
    generalize a1.tmps.getD 103 undef = u103 at heq
    generalize a1.tmps.getD 104 undef = u104 at heq
    generalize a1.tmps.getD 105 undef = u105 at heq
    generalize a1.tmps.getD 106 undef = u106 at heq
    clear e15
    subst heq
    rename_i hKK
    refine hKK _ _ ?_
    go_simp
    have HE := Lib.hid hE
    have HG := Lib.hid hg
    have HBX := Lib.hid hbX
    have hck := (HR1.out.keep hB).cell 0 rfl
    by_cases h240 : 240 < a.kind
    · have hgt : decide ((a.kind : Int) > 240) = true := decide_eq_true (by omega)
      have HON : Hid (On (boxJ w cf AI cI a A c) B b b' v v' t s (W.setCell ⟨bX, 6, none⟩ (.int .i64 (-1)))) := Lib.hid ((H0.out.keep hB).poke hE hbX _)
      have hcb := hE.reads.2.2.2.2.2.2.1
      have fz6 := Rec.frozen hE 6
      have HE2 : Hid (EvAt (W.setCell ⟨bX, 6, none⟩ (.int .i64 (-1))) bX ⟨ev.kind, ev.member, ev.acc, ev.inst, ev.side, ev.id, -1, ev.p⟩) := Lib.hid (Rec.set hE 6 (.int .i64 (-1)))
      clear hE hB hg hbX
      go_wp2
      obtain ⟨⟨v1, v1', hTwo, n1, n2⟩, ht1⟩ := HON.out
      have HT := Lib.hid hTwo
      have HN1 := Lib.hid n1
      have HN2 := Lib.hid n2
      have HTT := Lib.hid ht1
      have HEV : Hid (EvAt (W.setCell ⟨bX, 6, none⟩ (.int .i64 (-1))) bX (⟨ev.kind, ev.member, ev.acc, ev.inst, ev.side, ev.id, -1, ev.p⟩ : Ev)) := Lib.hid HE2.out
      have HOKE : Hid ((⟨ev.kind, ev.member, ev.acc, ev.inst, ev.side, ev.id, -1, ev.p⟩ : Ev).Ok) := Lib.hid ⟨HG.out.1.kind, HG.out.1.member, HG.out.1.acc, HG.out.1.inst, HG.out.1.side, HG.out.1.id, (show I64 (-1) from (by unfold I64; omega)), HG.out.1.p⟩
      obtain ⟨hs1, hs2⟩ := HH.out.same.jadd (⟨ev.kind, ev.member, ev.acc, ev.inst, ev.side, ev.id, -1, ev.p⟩ : Ev)
      have HS1 := Lib.hid hs1
      obtain ⟨code, hc0⟩ : ∃ code, code = (s.rjadd (⟨ev.kind, ev.member, ev.acc, ev.inst, ev.side, ev.id, -1, ev.p⟩ : Ev)).2 := ⟨_, rfl⟩
      rw [← hc0] at hs2
      have HD : Hid (On (W.setCell ⟨bX, 6, none⟩ (.int .i64 (-1))) B b b' v1 v1' t s (W.setCell ⟨bX, 6, none⟩ (.int .i64 (-1))).drew) := Lib.hid ((On.start hTwo).keep ⟨rfl, rfl, rfl, Nat.le_refl _, fun _ _ => rfl⟩)
      have CP1 : Hid (∀ s1 W', On (W.setCell ⟨bX, 6, none⟩ (.int .i64 (-1))) B b b' v1 v1' t s1 W' → Calls Tryz.prog 26 #[.pointer (some ⟨b, 0, none⟩), (⟨ev.kind, ev.member, ev.acc, ev.inst, ev.side, ev.id, -1, ev.p⟩ : Ev).v] W' fun e w' => e = .returned (.int .i64 code) ∧ On (W.setCell ⟨bX, 6, none⟩ (.int .i64 (-1))) B b b' v1 v1' (t.jadd (⟨ev.kind, ev.member, ev.acc, ev.inst, ev.side, ev.id, -1, ev.p⟩ : Ev)).1 s1 w') := Lib.hid (fun s1 W' hW => by rw [← hs2]; exact hW.jadd (⟨ev.kind, ev.member, ev.acc, ev.inst, ev.side, ev.id, -1, ev.p⟩ : Ev) HOKE.out)
      have CR1 : Hid (∀ t1 W', On (W.setCell ⟨bX, 6, none⟩ (.int .i64 (-1))) B b b' v1 v1' t1 s W' → Calls Tryz.prog 35 #[.pointer (some ⟨b', 0, none⟩), (⟨ev.kind, ev.member, ev.acc, ev.inst, ev.side, ev.id, -1, ev.p⟩ : Ev).v] W' fun e w' => e = .returned (.int .i64 code) ∧ On (W.setCell ⟨bX, 6, none⟩ (.int .i64 (-1))) B b b' v1 v1' t1 (s.rjadd (⟨ev.kind, ev.member, ev.acc, ev.inst, ev.side, ev.id, -1, ev.p⟩ : Ev)).1 w') := Lib.hid (fun t1 W' hW => by rw [hc0]; exact hW.rjadd (⟨ev.kind, ev.member, ev.acc, ev.inst, ev.side, ev.id, -1, ev.p⟩ : Ev) HOKE.out)
      have HX : Hid (∀ t1 s1 W', On (W.setCell ⟨bX, 6, none⟩ (.int .i64 (-1))) B b b' v1 v1' t1 s1 W' → EvAt W' bX (⟨ev.kind, ev.member, ev.acc, ev.inst, ev.side, ev.id, -1, ev.p⟩ : Ev)) := Lib.hid (fun t1 s1 W' hW => HT.out.event HEV.out hW)
      have CP0 := Lib.hid (CP1.out s _ HD.out)
      have CR0 := Lib.hid (CR1.out t _ HD.out)
      obtain ⟨c0, c1, c2, c3, c4, c5, c6, c7⟩ := HEV.out.reads
      unfold Ev.v at CP1 CR1 CP0 CR0
      (try dsimp only at c0 c1 c2 c3 c4 c5 c6 c7 CP1 CR1 CP0 CR0)
      clear hs1 hs2 hc0 HD hTwo n1 n2 ht1
      go_region_with (first
        | (go_at_call 26; (with_reducible refine CP0.out.mono ?_); rintro e w1 ⟨rfl, h1⟩; have hx := (HX.out _ _ w1 h1).reads; (try dsimp only at hx); obtain ⟨x0, x1, x2, x3, x4, x5, x6, x7⟩ := hx; have CR2 := Lib.hid (CR1.out _ w1 h1); clear h1)
        | (go_at_call 35; (with_reducible refine CR2.out.mono ?_); rintro e w2 ⟨rfl, h2⟩; have HF := Lib.hid h2; clear h2)
        | (go_at_call 35; (with_reducible refine CR0.out.mono ?_); rintro e w1 ⟨rfl, h1⟩; have hx := (HX.out _ _ w1 h1).reads; (try dsimp only at hx); obtain ⟨x0, x1, x2, x3, x4, x5, x6, x7⟩ := hx; have CP2 := Lib.hid (CP1.out _ w1 h1); clear h1)
        | (go_at_call 26; (with_reducible refine CP2.out.mono ?_); rintro e w2 ⟨rfl, h2⟩; have HF := Lib.hid h2; clear h2))
      all_goals go_wp2
      all_goals go_ret
      all_goals exact ⟨rfl, _, _, HS1.out, On.back9 (cf := cf) (AI := AI) (cI := cI) (a := a) (A := A) (c := c) (On.from HTT.out HN1.out HN2.out HF.out)⟩
    · have hgt : decide ((a.kind : Int) > 240) = false := decide_eq_false (by omega)
      have HON : Hid (On (boxJ w cf AI cI a A c) B b b' v v' t s W) := Lib.hid (H0.out.keep hB)
      clear hE hB hg hbX
      go_wp2
      obtain ⟨⟨v1, v1', hTwo, n1, n2⟩, ht1⟩ := HON.out
      have HT := Lib.hid hTwo
      have HN1 := Lib.hid n1
      have HN2 := Lib.hid n2
      have HTT := Lib.hid ht1
      have HEV : Hid (EvAt W bX ev) := Lib.hid HE.out
      have HOKE : Hid (ev.Ok) := Lib.hid HG.out.1
      obtain ⟨hs1, hs2⟩ := HH.out.same.jadd ev
      have HS1 := Lib.hid hs1
      obtain ⟨code, hc0⟩ : ∃ code, code = (s.rjadd ev).2 := ⟨_, rfl⟩
      rw [← hc0] at hs2
      have HD : Hid (On W B b b' v1 v1' t s W.drew) := Lib.hid ((On.start hTwo).keep ⟨rfl, rfl, rfl, Nat.le_refl _, fun _ _ => rfl⟩)
      have CP1 : Hid (∀ s1 W', On W B b b' v1 v1' t s1 W' → Calls Tryz.prog 26 #[.pointer (some ⟨b, 0, none⟩), ev.v] W' fun e w' => e = .returned (.int .i64 code) ∧ On W B b b' v1 v1' (t.jadd ev).1 s1 w') := Lib.hid (fun s1 W' hW => by rw [← hs2]; exact hW.jadd ev HOKE.out)
      have CR1 : Hid (∀ t1 W', On W B b b' v1 v1' t1 s W' → Calls Tryz.prog 35 #[.pointer (some ⟨b', 0, none⟩), ev.v] W' fun e w' => e = .returned (.int .i64 code) ∧ On W B b b' v1 v1' t1 (s.rjadd ev).1 w') := Lib.hid (fun t1 W' hW => by rw [hc0]; exact hW.rjadd ev HOKE.out)
      have HX : Hid (∀ t1 s1 W', On W B b b' v1 v1' t1 s1 W' → EvAt W' bX ev) := Lib.hid (fun t1 s1 W' hW => HT.out.event HEV.out hW)
      have CP0 := Lib.hid (CP1.out s _ HD.out)
      have CR0 := Lib.hid (CR1.out t _ HD.out)
      obtain ⟨c0, c1, c2, c3, c4, c5, c6, c7⟩ := HEV.out.reads
      unfold Ev.v at CP1 CR1 CP0 CR0
      (try dsimp only at c0 c1 c2 c3 c4 c5 c6 c7 CP1 CR1 CP0 CR0)
      clear hs1 hs2 hc0 HD hTwo n1 n2 ht1
      go_region_with (first
        | (go_at_call 26; (with_reducible refine CP0.out.mono ?_); rintro e w1 ⟨rfl, h1⟩; have hx := (HX.out _ _ w1 h1).reads; (try dsimp only at hx); obtain ⟨x0, x1, x2, x3, x4, x5, x6, x7⟩ := hx; have CR2 := Lib.hid (CR1.out _ w1 h1); clear h1)
        | (go_at_call 35; (with_reducible refine CR2.out.mono ?_); rintro e w2 ⟨rfl, h2⟩; have HF := Lib.hid h2; clear h2)
        | (go_at_call 35; (with_reducible refine CR0.out.mono ?_); rintro e w1 ⟨rfl, h1⟩; have hx := (HX.out _ _ w1 h1).reads; (try dsimp only at hx); obtain ⟨x0, x1, x2, x3, x4, x5, x6, x7⟩ := hx; have CP2 := Lib.hid (CP1.out _ w1 h1); clear h1)
        | (go_at_call 26; (with_reducible refine CP2.out.mono ?_); rintro e w2 ⟨rfl, h2⟩; have HF := Lib.hid h2; clear h2))
      all_goals go_wp2
      all_goals go_ret
      all_goals exact ⟨rfl, _, _, HS1.out, On.back9 (cf := cf) (AI := AI) (cI := cI) (a := a) (A := A) (c := c) (On.from HTT.out HN1.out HN2.out HF.out)⟩
theorem do9_any (w : World) (B b b' : Nat) (t s : Tp) (v v' : Value) (cf : Cfg) (AI : Option Addr) (cI base : Nat) (a : JAct) (A : Option Addr) (c : Nat) (h : DoP w B b b' t s v v' cf AI cI base a A c) :
    Calls Tryz.prog 10 #[.pointer (some ⟨b, 0, none⟩), .pointer (some ⟨b', 0, none⟩), cf.v (.slice AI cf.insts.length cI), actJ a A c] w (DoJ w B b b' v v') := by
  by_cases h3 : a.kind % 8 = 3
  · exact do9_open w B b b' t s v v' cf AI cI base a A c h h3
  by_cases h4 : a.kind % 8 = 4
  · exact do9_arm w B b b' t s v v' cf AI cI base a A c h h4
  by_cases h5 : a.kind % 8 = 5
  · exact do9_wake w B b b' t s v v' cf AI cI base a A c h h5
  by_cases h6 : a.kind % 8 = 6
  · exact do9_append w B b b' t s v v' cf AI cI base a A c h h6
  by_cases h7 : a.kind % 8 = 7
  · exact do9_start w B b b' t s v v' cf AI cI base a A c h h7
  exact do9_add w B b b' t s v v' cf AI cI base a A c h (by omega)
end Go.Proofs.YtmpipjangbedkaaGreat
