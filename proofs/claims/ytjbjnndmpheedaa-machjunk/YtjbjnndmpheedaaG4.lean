/-
  What the outputs of MachJunk, MovesTurn and MachFirst do (plain; decided case by case).
-/
import Derived.Test.YtjbjnndmpheedaaQ14
import Derived.Test.YtjbjnndmpheedaaG3
namespace Go.Proofs.Ytjbjnndmpheedaa
open Go.RowKit
set_option linter.unusedVariables false

def mjBlk (op : Int) (os : List Opr) (sp : List Rg) : Blk := ⟨[], [⟨1, [dOp], []⟩, ⟨op, os, sp⟩, ⟨3, [uOp], []⟩], []⟩
def mjF (sp : List Rg) : Fn := ⟨[0], [mjBlk 2 [] sp]⟩
def mjP (p q : Pl) : List (List (List Pl)) := [[[p], [], [q]]]
def rgP (n : Int) : Pl := ⟨1, 0, n⟩
def slP (n : Int) : Pl := ⟨2, 0, n⟩
def junkL (b : Int) (n : Nat) : List Int := (List.range n).map fun (i : Nat) => b + (i : Int)
def readsOf (s : Ms) : List (List Int) := s.evs.map fun e => e.read
set_option maxRecDepth 100000 in
theorem mj_junkE : ∀ k : Nat, k < 5 → machE (mjF [⟨0, (k : Int)⟩]) 10 10 (mjP (rgP k) (rgP k)) [] 0 (1 * 1 + 1) = 0 := by decide +kernel
set_option maxRecDepth 100000 in
theorem mj_junkR (seed : Int) (k : Nat) (hk : k < 5) : readsOf (mrunM (mjF [⟨0, (k : Int)⟩]).blocks (mjP (rgP k) (rgP k)) [] seed (junkL 1000 30) (fillM (junkL 1000 30) 10 10 0) 9) = [[], [], [1022]] := by
  match k, hk with
  | 0, _ => exact (by show readsOf _ = _; kernel_rfl)
  | 1, _ => exact (by show readsOf _ = _; kernel_rfl)
  | 2, _ => exact (by show readsOf _ = _; kernel_rfl)
  | 3, _ => exact (by show readsOf _ = _; kernel_rfl)
  | 4, _ => exact (by show readsOf _ = _; kernel_rfl)
def mtE (a b : Nat) : List Ed := [⟨0, 1, [⟨rgP a, slP b⟩, ⟨slP b, rgP 5⟩]⟩]
set_option maxRecDepth 100000 in
theorem mt_E : ∀ a b : Nat, a < 4 → b < 3 → machE (mjF []) 10 10 (mjP (rgP a) (rgP 5)) (mtE a b) 3 (1 * 1 + 1) = 0 := by
  have h : ∀ a : Nat, a < 4 → ∀ b : Nat, b < 3 → machE (mjF []) 10 10 (mjP (rgP a) (rgP 5)) (mtE a b) 3 (1 * 1 + 1) = 0 := by decide +kernel
  exact fun a b ha hb => h a ha b hb
theorem mt_R (seed : Int) (jl : List Int) (a b : Nat) (ha : a < 4) (hb : b < 3) : readsOf (mrunM (mjF []).blocks (mjP (rgP a) (rgP 5)) (mtE a b) seed jl (fillM jl 10 10 3) 9) = [[], [], [mixL 7 [seed, 1, 0]]] := by
  generalize fillM jl 10 10 3 = s0
  match a, ha, b, hb with
  | 0, _, 0, _ => rfl
  | 0, _, 1, _ => rfl
  | 0, _, 2, _ => rfl
  | 1, _, 0, _ => rfl
  | 1, _, 1, _ => rfl
  | 1, _, 2, _ => rfl
  | 2, _, 0, _ => rfl
  | 2, _, 1, _ => rfl
  | 2, _, 2, _ => rfl
  | 3, _, 0, _ => rfl
  | 3, _, 1, _ => rfl
  | 3, _, 2, _ => rfl
def mfAt (k : Nat) : Pl := if k < 10 then rgP k else slP ((k : Int) - 10)
def mfW (k : Nat) : Int := if k = 0 then mixL 7 [3, 1, 0] else if k < 10 then 500 + (k : Int) else 512 + (k : Int)
set_option maxRecDepth 100000 in
theorem mf_E : ∀ k : Nat, k < 13 → machE (mjF []) 10 10 (mjP (rgP 0) (mfAt k)) [] 3 (1 * 1 + 1) = 0 := by decide +kernel
set_option maxRecDepth 100000 in
theorem mf_R : ∀ k : Nat, k < 13 → readsOf (mrunM (mjF []).blocks (mjP (rgP 0) (mfAt k)) [] 3 (junkL 500 40) (fillM (junkL 500 40) 10 10 3) 9) = [[], [], [mfW k]] := by decide +kernel
end Go.Proofs.Ytjbjnndmpheedaa
