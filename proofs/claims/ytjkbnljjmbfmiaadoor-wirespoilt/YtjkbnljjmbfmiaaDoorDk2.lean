/-
  Configs as plain data, in memory; the walk of novationseat's Config.
-/
import Derived.Test.YtjkbnljjmbfmiaaDoorDk1
import Derived.Test.YtjkbnljjmbfmiaaDoorOwnL
namespace Go.Proofs.YtjkbnljjmbfmiaaDoor
open Go Go.RowKit
set_option linter.unusedVariables false

/-- An instrument; a config. -/
structure Ins where
  bucket : Int
  price : Int
  rate : Int
  slip : Int
  deriving DecidableEq
structure Cfg where
  insts : List Ins
  skin : Int
  times : Int
  port : Int
  bid : Int
  lot : Int
  hedge : Int
  deriving DecidableEq
def Ins.cells (x : Ins) : List Value := [.int .i64 x.bucket, .int .i64 x.price, .int .i64 x.rate, .int .i64 x.slip]
def Cfg.cells (c : Cfg) (v : Value) : List Value := [v, .int .i64 c.skin, .int .i64 c.times, .int .i64 c.port, .int .i64 c.bid, .int .i64 c.lot, .int .i64 c.hedge]
def Cfg.v (c : Cfg) (v : Value) : Value := .agg #[v, .int .i64 c.skin, .int .i64 c.times, .int .i64 c.port, .int .i64 c.bid, .int .i64 c.lot, .int .i64 c.hedge]
/-- What holds of drawn ones. -/
structure Ins.Ok (x : Ins) : Prop where
  bucket : 0 ≤ x.bucket ∧ x.bucket ≤ 2
  price : 1 ≤ x.price ∧ x.price ≤ 1000000000000
  rate : 0 ≤ x.rate ∧ x.rate ≤ 1000000000
  slip : 0 ≤ x.slip ∧ x.slip ≤ 1000000000
theorem lay_ins : Lay Ins.cells 29 58 4 32 := by
  refine ⟨Tryd.underlying29, ?_, by omega, fun _ => rfl, fun x u hu => ?_⟩
  · have h : (Tryd.prog.info? 58).map (fun i => (i.zero, i.size, i.bytes)) = some (some (.agg #[.int .i64 0, .int .i64 0, .int .i64 0, .int .i64 0]), 4, 32) := by kernel_rfl
    obtain ⟨i, h1, h2, h3, h4⟩ := parts_of h
    exact ⟨i, _, h1, h2, h3, h4, rfl⟩
  · simp [Ins.cells] at hu
    rcases hu with rfl | rfl | rfl | rfl <;> rfl
def OwnI (w : World) (base : Nat) (v : Value) (l : List Ins) : Prop := OwnL Ins.cells 58 4 w base v l
theorem deck_nI (n : Nat) (N : Int) (hN : N = (n : Int)) (W0 W : World) (A : Option Addr) (l : List Int) (c b m : Nat) (h : Deck W0 A l c b m W) (hm : m < 1000000000) (hn : 0 < n) (hn2 : n ≤ 1000000000000) :
    Calls Tryd.prog 21 #[.pointer (some ⟨b, 0, none⟩), .int .i64 N] W (DrawC (isN n) W0 A l c b (m + 1) W) := by
  subst hN; exact deck_n W0 W A l c b m n h hm hn hn2
theorem deck_yesI (n : Nat) (N : Int) (hN : N = (n : Int)) (W0 W : World) (A : Option Addr) (l : List Int) (c b m : Nat) (h : Deck W0 A l c b m W) (hm : m < 1000000000) (hn : 0 < n) (hn2 : n ≤ 1000000000000) :
    Calls Tryd.prog 25 #[.pointer (some ⟨b, 0, none⟩), .int .i64 N] W (DrawC (fun v => v = .bool true ∨ v = .bool false) W0 A l c b (m + 1) W) := by
  subst hN; exact deck_yes W0 W A l c b m n h hm hn hn2
def Cfg.zero : Cfg := ⟨[], 0, 0, 0, 0, 0, 0⟩
end Go.Proofs.YtjkbnljjmbfmiaaDoor
