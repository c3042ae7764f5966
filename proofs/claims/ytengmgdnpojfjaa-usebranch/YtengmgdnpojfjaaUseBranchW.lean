/-
  The walk through 'UseBranch': it answers true, and writes to nothing that was there.
-/
import Derived.Test.YtengmgdnpojfjaaFlowT
import Derived.Test.YtengmgdnpojfjaaRingU
namespace Go.Proofs.Ytengmgdnpojfjaa
open Go.RowKit
set_option linter.unusedVariables false

/-- A row of four numbers that has just been laid. -/
theorem four_sl (w : World) (x0 x1 x2 x3 : Int) (t : Nat) : SlOf (w.alloc (.cells #[.int .i64 x0, .int .i64 x1, .int .i64 x2, .int .i64 x3] t)) 1 RInt (.slice (some ⟨w.heap.size, 0, none⟩) 4 4) [x0, x1, x2, x3] := by
  have r : (w.alloc (.cells #[.int .i64 x0, .int .i64 x1, .int .i64 x2, .int .i64 x3] t)).rowIs w.heap.size t 4 (fun i => .int .i64 ([x0, x1, x2, x3].getD i 0)) := World.rowIs_alloc _ _ _ _ fun i hi => by
    simp at hi
    match i, hi with | 0, _ => rfl | 1, _ => rfl | 2, _ => rfl | 3, _ => rfl
  refine ⟨_, 4, rfl, by unfold longest; simp, Or.inr ⟨w.heap.size, 0, rfl, fun i hi => ?_⟩⟩
  have hi' : i < 4 := by simpa using hi
  refine ⟨[.int .i64 ([x0, x1, x2, x3].getD i 0)], rfl, ?_, fun j hj => ?_⟩
  · unfold RInt
    match i, hi' with | 0, _ => rfl | 1, _ => rfl | 2, _ => rfl | 3, _ => rfl
  · have : j = 0 := by simp at hj; exact hj
    subst this
    simp only [Nat.mul_one, Nat.add_zero, Nat.zero_add, List.getElem_cons_zero]
    exact r.cell hi'

/-- Four blocks; the last one reads value u. -/
def ubF (u : Int) : Fn := ⟨[0, 0], [⟨[], [⟨1, [⟨2, 0, true, 1, 0⟩], []⟩], [⟨1, []⟩, ⟨2, []⟩]⟩, ⟨[], [⟨2, [⟨2, 1, true, 1, 0⟩], []⟩], [⟨3, []⟩]⟩, ⟨[], [], [⟨3, []⟩]⟩, ⟨[], [⟨3, [⟨1, u, false, 1, 0⟩], []⟩], []⟩]⟩
theorem ub_in0 : flowInB (ubF 0) 1 = true := by decide +kernel
theorem ub_in1 : flowInB (ubF 1) 1 = true := by decide +kernel
theorem ub_err0 : flowE (ubF 0) 10 10 1 = 0 := by decide +kernel
theorem ub_err1 : flowE (ubF 1) 10 10 1 = 10 := by decide +kernel
theorem ub_tree : fnL 4 (idomF (ubF 0) 1) = [-1, 0, 0, 0] ∧ fnL 4 (depthF (ubF 0) 1) = [0, 0, 0, 0] := by decide +kernel
def ubW (w : World) : World := (((((((((((((((((w.alloc (.cells #[.int .i64 0, .int .i64 0] 3)).alloc (.cells #[.int .i64 2, .int .i64 0, .bool true, .int .i64 1, .int .i64 0] 43)).alloc (.cells #[.int .i64 2, .int .i64 0, .bool true, .int .i64 1, .int .i64 0] 43)).alloc (.cells #[.int .i64 1, .slice (some ⟨w.heap.size + 1 + 1, 0, none⟩) 1 1, .slice none 0 0] 40)).alloc (.cells #[.int .i64 1, .slice (some ⟨w.heap.size + 1 + 1, 0, none⟩) 1 1, .slice none 0 0] 40)).alloc (.cells #[.int .i64 1, .slice none 0 0, .int .i64 2, .slice none 0 0] 47)).alloc (.cells #[.int .i64 2, .int .i64 1, .bool true, .int .i64 1, .int .i64 0] 43)).alloc (.cells #[.int .i64 2, .int .i64 1, .bool true, .int .i64 1, .int .i64 0] 43)).alloc (.cells #[.int .i64 2, .slice (some ⟨w.heap.size + 1 + 1 + 1 + 1 + 1 + 1 + 1, 0, none⟩) 1 1, .slice none 0 0] 40)).alloc (.cells #[.int .i64 2, .slice (some ⟨w.heap.size + 1 + 1 + 1 + 1 + 1 + 1 + 1, 0, none⟩) 1 1, .slice none 0 0] 40)).alloc (.cells #[.int .i64 3, .slice none 0 0] 47)).alloc (.cells #[.int .i64 3, .slice none 0 0] 47)).alloc (.cells #[.int .i64 1, .int .i64 0, .bool false, .int .i64 1, .int .i64 0] 43)).alloc (.cells #[.int .i64 1, .int .i64 0, .bool false, .int .i64 1, .int .i64 0] 43)).alloc (.cells #[.int .i64 3, .slice (some ⟨w.heap.size + 1 + 1 + 1 + 1 + 1 + 1 + 1 + 1 + 1 + 1 + 1 + 1 + 1, 0, none⟩) 1 1, .slice none 0 0] 40)).alloc (.cells #[.int .i64 3, .slice (some ⟨w.heap.size + 1 + 1 + 1 + 1 + 1 + 1 + 1 + 1 + 1 + 1 + 1 + 1 + 1, 0, none⟩) 1 1, .slice none 0 0] 40)).alloc (.cells #[.slice none 0 0, .slice (some ⟨w.heap.size + 1 + 1 + 1 + 1, 0, none⟩) 1 1, .slice (some ⟨w.heap.size + 1 + 1 + 1 + 1 + 1, 0, none⟩) 2 2, .slice none 0 0, .slice (some ⟨w.heap.size + 1 + 1 + 1 + 1 + 1 + 1 + 1 + 1 + 1, 0, none⟩) 1 1, .slice (some ⟨w.heap.size + 1 + 1 + 1 + 1 + 1 + 1 + 1 + 1 + 1 + 1, 0, none⟩) 1 1, .slice none 0 0, .slice none 0 0, .slice (some ⟨w.heap.size + 1 + 1 + 1 + 1 + 1 + 1 + 1 + 1 + 1 + 1 + 1, 0, none⟩) 1 1, .slice none 0 0, .slice (some ⟨w.heap.size + 1 + 1 + 1 + 1 + 1 + 1 + 1 + 1 + 1 + 1 + 1 + 1 + 1 + 1 + 1, 0, none⟩) 1 1, .slice none 0 0] 50)).alloc (.cells #[.slice (some ⟨w.heap.size, 0, none⟩) 2 2, .slice (some ⟨w.heap.size + 1 + 1 + 1 + 1 + 1 + 1 + 1 + 1 + 1 + 1 + 1 + 1 + 1 + 1 + 1 + 1, 0, none⟩) 4 4] 25)
theorem ubW_size (w : World) : (ubW w).heap.size = w.heap.size + 1 + 1 + 1 + 1 + 1 + 1 + 1 + 1 + 1 + 1 + 1 + 1 + 1 + 1 + 1 + 1 + 1 + 1 := by unfold ubW; simp
theorem ubW_below (w : World) : Below w.heap.size w (ubW w) := by
  unfold ubW
  refine Below.alloc ?_ (by simp <;> omega) _
  refine Below.alloc ?_ (by simp <;> omega) _
  refine Below.alloc ?_ (by simp <;> omega) _
  refine Below.alloc ?_ (by simp <;> omega) _
  refine Below.alloc ?_ (by simp <;> omega) _
  refine Below.alloc ?_ (by simp <;> omega) _
  refine Below.alloc ?_ (by simp <;> omega) _
  refine Below.alloc ?_ (by simp <;> omega) _
  refine Below.alloc ?_ (by simp <;> omega) _
  refine Below.alloc ?_ (by simp <;> omega) _
  refine Below.alloc ?_ (by simp <;> omega) _
  refine Below.alloc ?_ (by simp <;> omega) _
  refine Below.alloc ?_ (by simp <;> omega) _
  refine Below.alloc ?_ (by simp <;> omega) _
  refine Below.alloc ?_ (by simp <;> omega) _
  refine Below.alloc ?_ (by simp <;> omega) _
  refine Below.alloc ?_ (by simp <;> omega) _
  refine Below.alloc ?_ (by simp <;> omega) _
  exact Below.refl _ _
theorem ubW_0 (w : World) : (ubW w).heap[w.heap.size]? = some (.cells #[.int .i64 0, .int .i64 0] 3) := by
  unfold ubW
  rw [Below.heap_alloc _ _ _ (by simp <;> omega), Below.heap_alloc _ _ _ (by simp <;> omega), Below.heap_alloc _ _ _ (by simp <;> omega), Below.heap_alloc _ _ _ (by simp <;> omega), Below.heap_alloc _ _ _ (by simp <;> omega), Below.heap_alloc _ _ _ (by simp <;> omega), Below.heap_alloc _ _ _ (by simp <;> omega), Below.heap_alloc _ _ _ (by simp <;> omega), Below.heap_alloc _ _ _ (by simp <;> omega), Below.heap_alloc _ _ _ (by simp <;> omega), Below.heap_alloc _ _ _ (by simp <;> omega), Below.heap_alloc _ _ _ (by simp <;> omega), Below.heap_alloc _ _ _ (by simp <;> omega), Below.heap_alloc _ _ _ (by simp <;> omega), Below.heap_alloc _ _ _ (by simp <;> omega), Below.heap_alloc _ _ _ (by simp <;> omega), Below.heap_alloc _ _ _ (by simp <;> omega)]
  exact heap_atL (by simp)
theorem ubW_2 (w : World) : (ubW w).heap[w.heap.size + 1 + 1]? = some (.cells #[.int .i64 2, .int .i64 0, .bool true, .int .i64 1, .int .i64 0] 43) := by
  unfold ubW
  rw [Below.heap_alloc _ _ _ (by simp <;> omega), Below.heap_alloc _ _ _ (by simp <;> omega), Below.heap_alloc _ _ _ (by simp <;> omega), Below.heap_alloc _ _ _ (by simp <;> omega), Below.heap_alloc _ _ _ (by simp <;> omega), Below.heap_alloc _ _ _ (by simp <;> omega), Below.heap_alloc _ _ _ (by simp <;> omega), Below.heap_alloc _ _ _ (by simp <;> omega), Below.heap_alloc _ _ _ (by simp <;> omega), Below.heap_alloc _ _ _ (by simp <;> omega), Below.heap_alloc _ _ _ (by simp <;> omega), Below.heap_alloc _ _ _ (by simp <;> omega), Below.heap_alloc _ _ _ (by simp <;> omega), Below.heap_alloc _ _ _ (by simp <;> omega), Below.heap_alloc _ _ _ (by simp <;> omega)]
  exact heap_atL (by simp)
theorem ubW_4 (w : World) : (ubW w).heap[w.heap.size + 1 + 1 + 1 + 1]? = some (.cells #[.int .i64 1, .slice (some ⟨w.heap.size + 1 + 1, 0, none⟩) 1 1, .slice none 0 0] 40) := by
  unfold ubW
  rw [Below.heap_alloc _ _ _ (by simp <;> omega), Below.heap_alloc _ _ _ (by simp <;> omega), Below.heap_alloc _ _ _ (by simp <;> omega), Below.heap_alloc _ _ _ (by simp <;> omega), Below.heap_alloc _ _ _ (by simp <;> omega), Below.heap_alloc _ _ _ (by simp <;> omega), Below.heap_alloc _ _ _ (by simp <;> omega), Below.heap_alloc _ _ _ (by simp <;> omega), Below.heap_alloc _ _ _ (by simp <;> omega), Below.heap_alloc _ _ _ (by simp <;> omega), Below.heap_alloc _ _ _ (by simp <;> omega), Below.heap_alloc _ _ _ (by simp <;> omega), Below.heap_alloc _ _ _ (by simp <;> omega)]
  exact heap_atL (by simp)
theorem ubW_5 (w : World) : (ubW w).heap[w.heap.size + 1 + 1 + 1 + 1 + 1]? = some (.cells #[.int .i64 1, .slice none 0 0, .int .i64 2, .slice none 0 0] 47) := by
  unfold ubW
  rw [Below.heap_alloc _ _ _ (by simp <;> omega), Below.heap_alloc _ _ _ (by simp <;> omega), Below.heap_alloc _ _ _ (by simp <;> omega), Below.heap_alloc _ _ _ (by simp <;> omega), Below.heap_alloc _ _ _ (by simp <;> omega), Below.heap_alloc _ _ _ (by simp <;> omega), Below.heap_alloc _ _ _ (by simp <;> omega), Below.heap_alloc _ _ _ (by simp <;> omega), Below.heap_alloc _ _ _ (by simp <;> omega), Below.heap_alloc _ _ _ (by simp <;> omega), Below.heap_alloc _ _ _ (by simp <;> omega), Below.heap_alloc _ _ _ (by simp <;> omega)]
  exact heap_atL (by simp)
theorem ubW_7 (w : World) : (ubW w).heap[w.heap.size + 1 + 1 + 1 + 1 + 1 + 1 + 1]? = some (.cells #[.int .i64 2, .int .i64 1, .bool true, .int .i64 1, .int .i64 0] 43) := by
  unfold ubW
  rw [Below.heap_alloc _ _ _ (by simp <;> omega), Below.heap_alloc _ _ _ (by simp <;> omega), Below.heap_alloc _ _ _ (by simp <;> omega), Below.heap_alloc _ _ _ (by simp <;> omega), Below.heap_alloc _ _ _ (by simp <;> omega), Below.heap_alloc _ _ _ (by simp <;> omega), Below.heap_alloc _ _ _ (by simp <;> omega), Below.heap_alloc _ _ _ (by simp <;> omega), Below.heap_alloc _ _ _ (by simp <;> omega), Below.heap_alloc _ _ _ (by simp <;> omega)]
  exact heap_atL (by simp)
theorem ubW_9 (w : World) : (ubW w).heap[w.heap.size + 1 + 1 + 1 + 1 + 1 + 1 + 1 + 1 + 1]? = some (.cells #[.int .i64 2, .slice (some ⟨w.heap.size + 1 + 1 + 1 + 1 + 1 + 1 + 1, 0, none⟩) 1 1, .slice none 0 0] 40) := by
  unfold ubW
  rw [Below.heap_alloc _ _ _ (by simp <;> omega), Below.heap_alloc _ _ _ (by simp <;> omega), Below.heap_alloc _ _ _ (by simp <;> omega), Below.heap_alloc _ _ _ (by simp <;> omega), Below.heap_alloc _ _ _ (by simp <;> omega), Below.heap_alloc _ _ _ (by simp <;> omega), Below.heap_alloc _ _ _ (by simp <;> omega), Below.heap_alloc _ _ _ (by simp <;> omega)]
  exact heap_atL (by simp)
theorem ubW_10 (w : World) : (ubW w).heap[w.heap.size + 1 + 1 + 1 + 1 + 1 + 1 + 1 + 1 + 1 + 1]? = some (.cells #[.int .i64 3, .slice none 0 0] 47) := by
  unfold ubW
  rw [Below.heap_alloc _ _ _ (by simp <;> omega), Below.heap_alloc _ _ _ (by simp <;> omega), Below.heap_alloc _ _ _ (by simp <;> omega), Below.heap_alloc _ _ _ (by simp <;> omega), Below.heap_alloc _ _ _ (by simp <;> omega), Below.heap_alloc _ _ _ (by simp <;> omega), Below.heap_alloc _ _ _ (by simp <;> omega)]
  exact heap_atL (by simp)
theorem ubW_11 (w : World) : (ubW w).heap[w.heap.size + 1 + 1 + 1 + 1 + 1 + 1 + 1 + 1 + 1 + 1 + 1]? = some (.cells #[.int .i64 3, .slice none 0 0] 47) := by
  unfold ubW
  rw [Below.heap_alloc _ _ _ (by simp <;> omega), Below.heap_alloc _ _ _ (by simp <;> omega), Below.heap_alloc _ _ _ (by simp <;> omega), Below.heap_alloc _ _ _ (by simp <;> omega), Below.heap_alloc _ _ _ (by simp <;> omega), Below.heap_alloc _ _ _ (by simp <;> omega)]
  exact heap_atL (by simp)
theorem ubW_13 (w : World) : (ubW w).heap[w.heap.size + 1 + 1 + 1 + 1 + 1 + 1 + 1 + 1 + 1 + 1 + 1 + 1 + 1]? = some (.cells #[.int .i64 1, .int .i64 0, .bool false, .int .i64 1, .int .i64 0] 43) := by
  unfold ubW
  rw [Below.heap_alloc _ _ _ (by simp <;> omega), Below.heap_alloc _ _ _ (by simp <;> omega), Below.heap_alloc _ _ _ (by simp <;> omega), Below.heap_alloc _ _ _ (by simp <;> omega)]
  exact heap_atL (by simp)
theorem ubW_15 (w : World) : (ubW w).heap[w.heap.size + 1 + 1 + 1 + 1 + 1 + 1 + 1 + 1 + 1 + 1 + 1 + 1 + 1 + 1 + 1]? = some (.cells #[.int .i64 3, .slice (some ⟨w.heap.size + 1 + 1 + 1 + 1 + 1 + 1 + 1 + 1 + 1 + 1 + 1 + 1 + 1, 0, none⟩) 1 1, .slice none 0 0] 40) := by
  unfold ubW
  rw [Below.heap_alloc _ _ _ (by simp <;> omega), Below.heap_alloc _ _ _ (by simp <;> omega)]
  exact heap_atL (by simp)
theorem ubW_16 (w : World) : (ubW w).heap[w.heap.size + 1 + 1 + 1 + 1 + 1 + 1 + 1 + 1 + 1 + 1 + 1 + 1 + 1 + 1 + 1 + 1]? = some (.cells #[.slice none 0 0, .slice (some ⟨w.heap.size + 1 + 1 + 1 + 1, 0, none⟩) 1 1, .slice (some ⟨w.heap.size + 1 + 1 + 1 + 1 + 1, 0, none⟩) 2 2, .slice none 0 0, .slice (some ⟨w.heap.size + 1 + 1 + 1 + 1 + 1 + 1 + 1 + 1 + 1, 0, none⟩) 1 1, .slice (some ⟨w.heap.size + 1 + 1 + 1 + 1 + 1 + 1 + 1 + 1 + 1 + 1, 0, none⟩) 1 1, .slice none 0 0, .slice none 0 0, .slice (some ⟨w.heap.size + 1 + 1 + 1 + 1 + 1 + 1 + 1 + 1 + 1 + 1 + 1, 0, none⟩) 1 1, .slice none 0 0, .slice (some ⟨w.heap.size + 1 + 1 + 1 + 1 + 1 + 1 + 1 + 1 + 1 + 1 + 1 + 1 + 1 + 1 + 1, 0, none⟩) 1 1, .slice none 0 0] 50) := by
  unfold ubW
  rw [Below.heap_alloc _ _ _ (by simp <;> omega)]
  exact heap_atL (by simp)
theorem ubW_17 (w : World) : (ubW w).heap[w.heap.size + 1 + 1 + 1 + 1 + 1 + 1 + 1 + 1 + 1 + 1 + 1 + 1 + 1 + 1 + 1 + 1 + 1]? = some (.cells #[.slice (some ⟨w.heap.size, 0, none⟩) 2 2, .slice (some ⟨w.heap.size + 1 + 1 + 1 + 1 + 1 + 1 + 1 + 1 + 1 + 1 + 1 + 1 + 1 + 1 + 1 + 1, 0, none⟩) 4 4] 25) := by
  unfold ubW
  exact heap_atL (by simp)
/-- What lies where. -/
structure UbSt (M : Nat) (u : Int) (W : World) : Prop where
  b0 : W.heap[M]? = some (.cells #[.int .i64 0, .int .i64 0] 3)
  b2 : W.heap[M + 1 + 1]? = some (.cells #[.int .i64 2, .int .i64 0, .bool true, .int .i64 1, .int .i64 0] 43)
  b4 : W.heap[M + 1 + 1 + 1 + 1]? = some (.cells #[.int .i64 1, .slice (some ⟨M + 1 + 1, 0, none⟩) 1 1, .slice none 0 0] 40)
  b5 : W.heap[M + 1 + 1 + 1 + 1 + 1]? = some (.cells #[.int .i64 1, .slice none 0 0, .int .i64 2, .slice none 0 0] 47)
  b7 : W.heap[M + 1 + 1 + 1 + 1 + 1 + 1 + 1]? = some (.cells #[.int .i64 2, .int .i64 1, .bool true, .int .i64 1, .int .i64 0] 43)
  b9 : W.heap[M + 1 + 1 + 1 + 1 + 1 + 1 + 1 + 1 + 1]? = some (.cells #[.int .i64 2, .slice (some ⟨M + 1 + 1 + 1 + 1 + 1 + 1 + 1, 0, none⟩) 1 1, .slice none 0 0] 40)
  b10 : W.heap[M + 1 + 1 + 1 + 1 + 1 + 1 + 1 + 1 + 1 + 1]? = some (.cells #[.int .i64 3, .slice none 0 0] 47)
  b11 : W.heap[M + 1 + 1 + 1 + 1 + 1 + 1 + 1 + 1 + 1 + 1 + 1]? = some (.cells #[.int .i64 3, .slice none 0 0] 47)
  b13 : W.heap[M + 1 + 1 + 1 + 1 + 1 + 1 + 1 + 1 + 1 + 1 + 1 + 1 + 1]? = some (.cells #[.int .i64 1, .int .i64 u, .bool false, .int .i64 1, .int .i64 0] 43)
  b15 : W.heap[M + 1 + 1 + 1 + 1 + 1 + 1 + 1 + 1 + 1 + 1 + 1 + 1 + 1 + 1 + 1]? = some (.cells #[.int .i64 3, .slice (some ⟨M + 1 + 1 + 1 + 1 + 1 + 1 + 1 + 1 + 1 + 1 + 1 + 1 + 1, 0, none⟩) 1 1, .slice none 0 0] 40)
  b16 : W.heap[M + 1 + 1 + 1 + 1 + 1 + 1 + 1 + 1 + 1 + 1 + 1 + 1 + 1 + 1 + 1 + 1]? = some (.cells #[.slice none 0 0, .slice (some ⟨M + 1 + 1 + 1 + 1, 0, none⟩) 1 1, .slice (some ⟨M + 1 + 1 + 1 + 1 + 1, 0, none⟩) 2 2, .slice none 0 0, .slice (some ⟨M + 1 + 1 + 1 + 1 + 1 + 1 + 1 + 1 + 1, 0, none⟩) 1 1, .slice (some ⟨M + 1 + 1 + 1 + 1 + 1 + 1 + 1 + 1 + 1 + 1, 0, none⟩) 1 1, .slice none 0 0, .slice none 0 0, .slice (some ⟨M + 1 + 1 + 1 + 1 + 1 + 1 + 1 + 1 + 1 + 1 + 1, 0, none⟩) 1 1, .slice none 0 0, .slice (some ⟨M + 1 + 1 + 1 + 1 + 1 + 1 + 1 + 1 + 1 + 1 + 1 + 1 + 1 + 1 + 1, 0, none⟩) 1 1, .slice none 0 0] 50)
  b17 : W.heap[M + 1 + 1 + 1 + 1 + 1 + 1 + 1 + 1 + 1 + 1 + 1 + 1 + 1 + 1 + 1 + 1 + 1]? = some (.cells #[.slice (some ⟨M, 0, none⟩) 2 2, .slice (some ⟨M + 1 + 1 + 1 + 1 + 1 + 1 + 1 + 1 + 1 + 1 + 1 + 1 + 1 + 1 + 1 + 1, 0, none⟩) 4 4] 25)
theorem UbSt.sl {M : Nat} {u : Int} {W : World} (h : UbSt M u W) : SlOf W 1 RInt (.slice (some ⟨M, 0, none⟩) 2 2) [0, 0] ∧ SlOf W 3 (RBlk W) (.slice (some ⟨M + 1 + 1 + 1 + 1 + 1 + 1 + 1 + 1 + 1 + 1 + 1 + 1 + 1 + 1 + 1 + 1, 0, none⟩) 4 4) (ubF u).blocks := by
  have hv : SlOf W 1 RInt (.slice (some ⟨M, 0, none⟩) 2 2) [0, 0] := SlOf_two [.int .i64 0] [.int .i64 0] rfl rfl rfl rfl (cells1 (blk_cellL h.b0 0 (by simp))) (cells1 (blk_cellL h.b0 1 (by simp)))
  have O0 : SlOf W 5 ROpr (.slice (some ⟨M + 1 + 1, 0, none⟩) 1 1) [⟨2, 0, true, 1, 0⟩] := SlOf_one [.int .i64 2, .int .i64 0, .bool true, .int .i64 1, .int .i64 0] rfl rfl (cells5 (blk_cellL h.b2 0 (by simp)) (blk_cellL h.b2 1 (by simp)) (blk_cellL h.b2 2 (by simp)) (blk_cellL h.b2 3 (by simp)) (blk_cellL h.b2 4 (by simp)))
  have I0 : SlOf W 3 (RIns W) (.slice (some ⟨M + 1 + 1 + 1 + 1, 0, none⟩) 1 1) [⟨1, [⟨2, 0, true, 1, 0⟩], []⟩] := SlOf_one [.int .i64 1, .slice (some ⟨M + 1 + 1, 0, none⟩) 1 1, .slice none 0 0] rfl ⟨_, _, rfl, O0, SlOf_nil _ _ _ _ _⟩ (cells3 (blk_cellL h.b4 0 (by simp)) (blk_cellL h.b4 1 (by simp)) (blk_cellL h.b4 2 (by simp)))
  have E0 : SlOf W 2 (REdg W) (.slice (some ⟨M + 1 + 1 + 1 + 1 + 1, 0, none⟩) 2 2) [⟨1, []⟩, ⟨2, []⟩] := SlOf_two [.int .i64 1, .slice none 0 0] [.int .i64 2, .slice none 0 0] rfl rfl ⟨_, rfl, SlOf_nil _ _ _ _ _⟩ ⟨_, rfl, SlOf_nil _ _ _ _ _⟩ (cells2 (blk_cellL h.b5 0 (by simp)) (blk_cellL h.b5 1 (by simp))) (cells2 (blk_cellL h.b5 2 (by simp)) (blk_cellL h.b5 3 (by simp)))
  have O1 : SlOf W 5 ROpr (.slice (some ⟨M + 1 + 1 + 1 + 1 + 1 + 1 + 1, 0, none⟩) 1 1) [⟨2, 1, true, 1, 0⟩] := SlOf_one [.int .i64 2, .int .i64 1, .bool true, .int .i64 1, .int .i64 0] rfl rfl (cells5 (blk_cellL h.b7 0 (by simp)) (blk_cellL h.b7 1 (by simp)) (blk_cellL h.b7 2 (by simp)) (blk_cellL h.b7 3 (by simp)) (blk_cellL h.b7 4 (by simp)))
  have I1 : SlOf W 3 (RIns W) (.slice (some ⟨M + 1 + 1 + 1 + 1 + 1 + 1 + 1 + 1 + 1, 0, none⟩) 1 1) [⟨2, [⟨2, 1, true, 1, 0⟩], []⟩] := SlOf_one [.int .i64 2, .slice (some ⟨M + 1 + 1 + 1 + 1 + 1 + 1 + 1, 0, none⟩) 1 1, .slice none 0 0] rfl ⟨_, _, rfl, O1, SlOf_nil _ _ _ _ _⟩ (cells3 (blk_cellL h.b9 0 (by simp)) (blk_cellL h.b9 1 (by simp)) (blk_cellL h.b9 2 (by simp)))
  have E1 : SlOf W 2 (REdg W) (.slice (some ⟨M + 1 + 1 + 1 + 1 + 1 + 1 + 1 + 1 + 1 + 1, 0, none⟩) 1 1) [⟨3, []⟩] := SlOf_one [.int .i64 3, .slice none 0 0] rfl ⟨_, rfl, SlOf_nil _ _ _ _ _⟩ (cells2 (blk_cellL h.b10 0 (by simp)) (blk_cellL h.b10 1 (by simp)))
  have E2 : SlOf W 2 (REdg W) (.slice (some ⟨M + 1 + 1 + 1 + 1 + 1 + 1 + 1 + 1 + 1 + 1 + 1, 0, none⟩) 1 1) [⟨3, []⟩] := SlOf_one [.int .i64 3, .slice none 0 0] rfl ⟨_, rfl, SlOf_nil _ _ _ _ _⟩ (cells2 (blk_cellL h.b11 0 (by simp)) (blk_cellL h.b11 1 (by simp)))
  have O3 : SlOf W 5 ROpr (.slice (some ⟨M + 1 + 1 + 1 + 1 + 1 + 1 + 1 + 1 + 1 + 1 + 1 + 1 + 1, 0, none⟩) 1 1) [⟨1, u, false, 1, 0⟩] := SlOf_one [.int .i64 1, .int .i64 u, .bool false, .int .i64 1, .int .i64 0] rfl rfl (cells5 (blk_cellL h.b13 0 (by simp)) (blk_cellL h.b13 1 (by simp)) (blk_cellL h.b13 2 (by simp)) (blk_cellL h.b13 3 (by simp)) (blk_cellL h.b13 4 (by simp)))
  have I3 : SlOf W 3 (RIns W) (.slice (some ⟨M + 1 + 1 + 1 + 1 + 1 + 1 + 1 + 1 + 1 + 1 + 1 + 1 + 1 + 1 + 1, 0, none⟩) 1 1) [⟨3, [⟨1, u, false, 1, 0⟩], []⟩] := SlOf_one [.int .i64 3, .slice (some ⟨M + 1 + 1 + 1 + 1 + 1 + 1 + 1 + 1 + 1 + 1 + 1 + 1 + 1, 0, none⟩) 1 1, .slice none 0 0] rfl ⟨_, _, rfl, O3, SlOf_nil _ _ _ _ _⟩ (cells3 (blk_cellL h.b15 0 (by simp)) (blk_cellL h.b15 1 (by simp)) (blk_cellL h.b15 2 (by simp)))
  refine ⟨hv, _, 4, rfl, by simp [longest, ubF], Or.inr ⟨M + 1 + 1 + 1 + 1 + 1 + 1 + 1 + 1 + 1 + 1 + 1 + 1 + 1 + 1 + 1 + 1, 0, rfl, fun i hi => ?_⟩⟩
  have e : i = 0 ∨ i = 1 ∨ i = 2 ∨ i = 3 := by simp [ubF] at hi; omega
  rcases e with rfl | rfl | rfl | rfl
  · exact ⟨_, rfl, ⟨_, _, _, rfl, SlOf_nil _ _ _ none 0, I0, E0⟩, (cells3 (blk_cellL h.b16 0 (by simp)) (blk_cellL h.b16 1 (by simp)) (blk_cellL h.b16 2 (by simp)))⟩
  · exact ⟨_, rfl, ⟨_, _, _, rfl, SlOf_nil _ _ _ none 0, I1, E1⟩, (cells3 (blk_cellL h.b16 3 (by simp)) (blk_cellL h.b16 4 (by simp)) (blk_cellL h.b16 5 (by simp)))⟩
  · exact ⟨_, rfl, ⟨_, _, _, rfl, SlOf_nil _ _ _ none 0, SlOf_nil _ _ _ none 0, E2⟩, (cells3 (blk_cellL h.b16 6 (by simp)) (blk_cellL h.b16 7 (by simp)) (blk_cellL h.b16 8 (by simp)))⟩
  · exact ⟨_, rfl, ⟨_, _, _, rfl, SlOf_nil _ _ _ none 0, I3, SlOf_nil _ _ _ none 0⟩, (cells3 (blk_cellL h.b16 9 (by simp)) (blk_cellL h.b16 10 (by simp)) (blk_cellL h.b16 11 (by simp)))⟩
theorem ubSt0 (w : World) : UbSt w.heap.size 0 (ubW w) := ⟨ubW_0 w, ubW_2 w, ubW_4 w, ubW_5 w, ubW_7 w, ubW_9 w, ubW_10 w, ubW_11 w, ubW_13 w, ubW_15 w, ubW_16 w, ubW_17 w⟩
theorem ubSt1 (w : World) : UbSt w.heap.size 1 ((ubW w).setCell ⟨w.heap.size + 1 + 1 + 1 + 1 + 1 + 1 + 1 + 1 + 1 + 1 + 1 + 1 + 1, 1, none⟩ (.int .i64 1)) := by
  have other : ∀ b, b ≠ w.heap.size + 1 + 1 + 1 + 1 + 1 + 1 + 1 + 1 + 1 + 1 + 1 + 1 + 1 → ((ubW w).setCell ⟨w.heap.size + 1 + 1 + 1 + 1 + 1 + 1 + 1 + 1 + 1 + 1 + 1 + 1 + 1, 1, none⟩ (.int .i64 1)).heap[b]? = (ubW w).heap[b]? := fun b hb => Below.heap_setCell _ _ _ _ hb
  refine ⟨(other _ (by omega)).trans (ubW_0 w), (other _ (by omega)).trans (ubW_2 w), (other _ (by omega)).trans (ubW_4 w), (other _ (by omega)).trans (ubW_5 w), (other _ (by omega)).trans (ubW_7 w), (other _ (by omega)).trans (ubW_9 w), (other _ (by omega)).trans (ubW_10 w), (other _ (by omega)).trans (ubW_11 w), ?_, (other _ (by omega)).trans (ubW_15 w), (other _ (by omega)).trans (ubW_16 w), (other _ (by omega)).trans (ubW_17 w)⟩
  simp [World.setCell, Array.getElem?_modify, ubW_13 w]

theorem ubW_eq (w : World) : (((((((((((((((((w.alloc (.cells #[.int .i64 0, .int .i64 0] 3)).alloc (.cells #[.int .i64 2, .int .i64 0, .bool true, .int .i64 1, .int .i64 0] 43)).alloc (.cells #[.int .i64 2, .int .i64 0, .bool true, .int .i64 1, .int .i64 0] 43)).alloc (.cells #[.int .i64 1, .slice (some ⟨w.heap.size + 1 + 1, 0, none⟩) 1 1, .slice none 0 0] 40)).alloc (.cells #[.int .i64 1, .slice (some ⟨w.heap.size + 1 + 1, 0, none⟩) 1 1, .slice none 0 0] 40)).alloc (.cells #[.int .i64 1, .slice none 0 0, .int .i64 2, .slice none 0 0] 47)).alloc (.cells #[.int .i64 2, .int .i64 1, .bool true, .int .i64 1, .int .i64 0] 43)).alloc (.cells #[.int .i64 2, .int .i64 1, .bool true, .int .i64 1, .int .i64 0] 43)).alloc (.cells #[.int .i64 2, .slice (some ⟨w.heap.size + 1 + 1 + 1 + 1 + 1 + 1 + 1, 0, none⟩) 1 1, .slice none 0 0] 40)).alloc (.cells #[.int .i64 2, .slice (some ⟨w.heap.size + 1 + 1 + 1 + 1 + 1 + 1 + 1, 0, none⟩) 1 1, .slice none 0 0] 40)).alloc (.cells #[.int .i64 3, .slice none 0 0] 47)).alloc (.cells #[.int .i64 3, .slice none 0 0] 47)).alloc (.cells #[.int .i64 1, .int .i64 0, .bool false, .int .i64 1, .int .i64 0] 43)).alloc (.cells #[.int .i64 1, .int .i64 0, .bool false, .int .i64 1, .int .i64 0] 43)).alloc (.cells #[.int .i64 3, .slice (some ⟨w.heap.size + 1 + 1 + 1 + 1 + 1 + 1 + 1 + 1 + 1 + 1 + 1 + 1 + 1, 0, none⟩) 1 1, .slice none 0 0] 40)).alloc (.cells #[.int .i64 3, .slice (some ⟨w.heap.size + 1 + 1 + 1 + 1 + 1 + 1 + 1 + 1 + 1 + 1 + 1 + 1 + 1, 0, none⟩) 1 1, .slice none 0 0] 40)).alloc (.cells #[.slice none 0 0, .slice (some ⟨w.heap.size + 1 + 1 + 1 + 1, 0, none⟩) 1 1, .slice (some ⟨w.heap.size + 1 + 1 + 1 + 1 + 1, 0, none⟩) 2 2, .slice none 0 0, .slice (some ⟨w.heap.size + 1 + 1 + 1 + 1 + 1 + 1 + 1 + 1 + 1, 0, none⟩) 1 1, .slice (some ⟨w.heap.size + 1 + 1 + 1 + 1 + 1 + 1 + 1 + 1 + 1 + 1, 0, none⟩) 1 1, .slice none 0 0, .slice none 0 0, .slice (some ⟨w.heap.size + 1 + 1 + 1 + 1 + 1 + 1 + 1 + 1 + 1 + 1 + 1, 0, none⟩) 1 1, .slice none 0 0, .slice (some ⟨w.heap.size + 1 + 1 + 1 + 1 + 1 + 1 + 1 + 1 + 1 + 1 + 1 + 1 + 1 + 1 + 1, 0, none⟩) 1 1, .slice none 0 0] 50)).alloc (.cells #[.slice (some ⟨w.heap.size, 0, none⟩) 2 2, .slice (some ⟨w.heap.size + 1 + 1 + 1 + 1 + 1 + 1 + 1 + 1 + 1 + 1 + 1 + 1 + 1 + 1 + 1 + 1, 0, none⟩) 4 4] 25) = ubW w := rfl
set_option maxRecDepth 8000 in
set_option maxHeartbeats 8000000 in
theorem useBranch_walk (c : Bool) (w : World) :
    Calls Try.prog 5 #[.bool c] w fun e w' => e = .returned (.bool true) ∧ Below w.heap.size w w' := by
  cases c
  · go_enter Try.func5, Try.ntmps5
    go_upto_region 4 with (first | (go_at_call 14; refine (def_any _ _).mono ?_; rintro e w' ⟨rfl, rfl⟩) | (go_at_call 15; refine (use_any _ _).mono ?_; rintro e w' ⟨rfl, rfl⟩) | (go_at_call 13; refine (op_any _ _ _ _ _).mono ?_; rintro e w' ⟨rfl, rfl⟩))
    rw [ubW_eq]
    obtain ⟨W, hW⟩ : ∃ W, W = ubW w := ⟨_, rfl⟩
    have hU : UbSt w.heap.size 0 W := by rw [hW]; exact ubSt0 w
    have HBW : Hid (Below w.heap.size w W) := by show Below _ _ _; rw [hW]; exact ubW_below w
    rw [← hW]
    have HU : Hid (UbSt w.heap.size 0 W) := hU
    have hsl := hU.sl
    have HDC : Hid (∀ w', Below W.heap.size W w' → Calls Try.prog 10 #[.agg #[.slice (some ⟨w.heap.size, 0, none⟩) 2 2, .slice (some ⟨w.heap.size + 1 + 1 + 1 + 1 + 1 + 1 + 1 + 1 + 1 + 1 + 1 + 1 + 1 + 1 + 1 + 1, 0, none⟩) 4 4], .agg #[.int .i64 10, .int .i64 10]] w' fun e w'' => ∃ a b c n1 n2 n3 c1 c2 c3, e = .returned (.tuple #[.agg #[.slice a n1 c1, .slice b n2 c2, .slice c n3 c3], .int .i64 0]) ∧ TreeV (ubF 0) 1 0 w'.heap.size w'' (.agg #[.slice a n1 c1, .slice b n2 c2, .slice c n3 c3]) ∧ Below w'.heap.size w' w'') := fun w' hh => dom_is (ubF 0) 1 10 10 (some ⟨w.heap.size, 0, none⟩) (some ⟨w.heap.size + 1 + 1 + 1 + 1 + 1 + 1 + 1 + 1 + 1 + 1 + 1 + 1 + 1 + 1 + 1 + 1, 0, none⟩) 2 4 0 ub_err0 w' (hsl.1.below hh fun _ _ h => h) (hsl.2.below hh (RBlk.below hh)) (fun _ => flowIn_of ub_in0)
    have f0 : W.cell? ⟨w.heap.size + 1 + 1 + 1 + 1 + 1 + 1 + 1 + 1 + 1 + 1 + 1 + 1 + 1 + 1 + 1 + 1 + 1, 0, none⟩ = some (.slice (some ⟨w.heap.size, 0, none⟩) 2 2) := blk_cellL hU.b17 0 (by simp)
    have f1 : W.cell? ⟨w.heap.size + 1 + 1 + 1 + 1 + 1 + 1 + 1 + 1 + 1 + 1 + 1 + 1 + 1 + 1 + 1 + 1 + 1, 1, none⟩ = some (.slice (some ⟨w.heap.size + 1 + 1 + 1 + 1 + 1 + 1 + 1 + 1 + 1 + 1 + 1 + 1 + 1 + 1 + 1 + 1, 0, none⟩) 4 4) := blk_cellL hU.b17 1 (by simp)
    have hfl : w.heap.size + 1 + 1 + 1 + 1 + 1 + 1 + 1 + 1 + 1 + 1 + 1 + 1 + 1 + 1 + 1 + 1 + 1 < W.heap.size := block_lt f0
    have HS : Hid (∀ w', Below W.heap.size W w' → (fun w' => w'.cell? ⟨w.heap.size + 1 + 1 + 1 + 1 + 1 + 1 + 1 + 1 + 1 + 1 + 1 + 1 + 1 + 1 + 1 + 1 + 1, 0, none⟩ = some (.slice (some ⟨w.heap.size, 0, none⟩) 2 2) ∧ w'.cell? ⟨w.heap.size + 1 + 1 + 1 + 1 + 1 + 1 + 1 + 1 + 1 + 1 + 1 + 1 + 1 + 1 + 1 + 1 + 1, 1, none⟩ = some (.slice (some ⟨w.heap.size + 1 + 1 + 1 + 1 + 1 + 1 + 1 + 1 + 1 + 1 + 1 + 1 + 1 + 1 + 1 + 1, 0, none⟩) 4 4)) w') := fun w' hh => ⟨(hh.cell (p := ⟨w.heap.size + 1 + 1 + 1 + 1 + 1 + 1 + 1 + 1 + 1 + 1 + 1 + 1 + 1 + 1 + 1 + 1 + 1, 0, none⟩) hfl).trans f0, (hh.cell (p := ⟨w.heap.size + 1 + 1 + 1 + 1 + 1 + 1 + 1 + 1 + 1 + 1 + 1 + 1 + 1 + 1 + 1 + 1 + 1, 1, none⟩) hfl).trans f1⟩
    have hbD : Below W.heap.size W W.drew := (Below.refl _ _).drew
    clear hU hsl hW
    go_cut [4, 5] (fun x y wz => TreeCut (ubF 0) 1 0 W x y wz)
    case first =>
      refine wp_region_X (fun w' => w'.cell? ⟨w.heap.size + 1 + 1 + 1 + 1 + 1 + 1 + 1 + 1 + 1 + 1 + 1 + 1 + 1 + 1 + 1 + 1 + 1, 0, none⟩ = some (.slice (some ⟨w.heap.size, 0, none⟩) 2 2) ∧ w'.cell? ⟨w.heap.size + 1 + 1 + 1 + 1 + 1 + 1 + 1 + 1 + 1 + 1 + 1 + 1 + 1 + 1 + 1 + 1 + 1, 1, none⟩ = some (.slice (some ⟨w.heap.size + 1 + 1 + 1 + 1 + 1 + 1 + 1 + 1 + 1 + 1 + 1 + 1 + 1 + 1 + 1 + 1, 0, none⟩) 4 4)) 99 (by kernel_rfl) ⟨f0, f1⟩ (fun hHeld => ?_)
      refine wpX_takeg0 (v := ?_) (by kernel_rfl) (fun _ _ _ h => h) (by rfl) ?_ hHeld ?_
      rotate_left
      · intro w' hSw
        go_simp <;> with_reducible rfl
      try simp only [Act.put, List.setIfInBounds_toArray, List.set_cons_zero, List.set_cons_succ]
      refine wpAnyX_both (i := 1) (k := 6) rfl rfl (by kernel_rfl) (fun K hK => ?_) (fun K hK => ?_)
      · go_simp
        refine (big_is _ W hbD).mono ?_
        rintro e u ⟨rfl, hbu⟩
        refine hK.out _ _ (HS.out _ hbu) (fun hHeld => ?_)
        clear hK K
        try simp only [Act.put, List.setIfInBounds_toArray, List.set_cons_zero, List.set_cons_succ]
        refine wpAnyX_both (i := 2) (k := 6) rfl rfl (by kernel_rfl) (fun K hK => ?_) (fun K hK => ?_)
        · go_simp
          refine (HDC.out _ hbu).mono ?_
          rintro e w3 ⟨a, b, c, n1, n2, n3, c1, c2, c3, rfl, hT, hb3⟩
          have hW3 : Below W.heap.size W w3 := Below.trans hbu (hb3.mono (hbu).size)
          refine hK.out _ _ (HS.out _ hW3) (fun hHeld => ?_)
          clear hK K
          try simp only [Act.put, List.setIfInBounds_toArray, List.set_cons_zero, List.set_cons_succ]
          refine wpX_takeg3 (v := ?_) (by kernel_rfl) (fun _ _ _ h => h) (by rfl) ?_ hHeld ?_
          rotate_left
          · intro w' hSw
            go_simp <;> with_reducible rfl
          try simp only [Act.put, List.setIfInBounds_toArray, List.set_cons_zero, List.set_cons_succ]
          refine wpX_takeg4 (v := ?_) (by kernel_rfl) (fun _ _ _ h => h) (by rfl) ?_ hHeld ?_
          rotate_left
          · intro w' hSw
            go_simp <;> with_reducible rfl
          try simp only [Act.put, List.setIfInBounds_toArray, List.set_cons_zero, List.set_cons_succ]
          refine wpX_takeg5 (v := ?_) (by kernel_rfl) (fun _ _ _ h => h) (by rfl) ?_ hHeld ?_
          rotate_left
          · intro w' hSw
            go_simp <;> with_reducible rfl
          try simp only [Act.put, List.setIfInBounds_toArray, List.set_cons_zero, List.set_cons_succ]
          refine wpX_step6 (by kernel_rfl) (fun K hK => ?_)
          go_simp
          refine hK.out _ _ (HS.out _ (hW3.alloc hW3.size _)) (fun hHeld => ?_)
          clear hK K
          try simp only [Act.put, List.setIfInBounds_toArray, List.set_cons_zero, List.set_cons_succ]
          refine wpX_step7 (by kernel_rfl) (fun K hK => ?_)
          go_simp
          refine hK.out _ _ (HS.out _ (hW3.alloc hW3.size _)) (fun hHeld => ?_)
          clear hK K
          try simp only [Act.put, List.setIfInBounds_toArray, List.set_cons_zero, List.set_cons_succ]
          refine wpX_step8 (by kernel_rfl) (fun K hK => ?_)
          go_simp
          refine hK.out _ _ (HS.out _ (hW3.alloc hW3.size _)) (fun hHeld => ?_)
          clear hK K
          try simp only [Act.put, List.setIfInBounds_toArray, List.set_cons_zero, List.set_cons_succ]
          refine wpAnyX_done (by kernel_rfl) ?_ _
          go_wp2
          go_meet
          exact treeCut_new hT (by first | exact hbu.size | (simp; exact hbu.size)) hW3
        · go_simp
          have hWa : Below W.heap.size W (u.alloc (.cells #[.slice none 0 0, .slice none 0 0, .slice none 0 0] 33)) := ((hbu).alloc (hbu).size _)
          refine hK.out _ _ (HS.out _ hWa) (fun hHeld => ?_)
          clear hK K
          try simp only [Act.put, List.setIfInBounds_toArray, List.set_cons_zero, List.set_cons_succ]
          refine wpX_step2 (by kernel_rfl) (fun K hK => ?_)
          go_simp
          refine (HDC.out _ hWa).mono ?_
          rintro e w3 ⟨a, b, c, n1, n2, n3, c1, c2, c3, rfl, hT, hb3⟩
          have hW3 : Below W.heap.size W w3 := Below.trans hWa (hb3.mono (hWa).size)
          refine hK.out _ _ (HS.out _ hW3) (fun hHeld => ?_)
          clear hK K
          try simp only [Act.put, List.setIfInBounds_toArray, List.set_cons_zero, List.set_cons_succ]
          refine wpX_takeg3 (v := ?_) (by kernel_rfl) (fun _ _ _ h => h) (by rfl) ?_ hHeld ?_
          rotate_left
          · intro w' hSw
            go_simp <;> with_reducible rfl
          try simp only [Act.put, List.setIfInBounds_toArray, List.set_cons_zero, List.set_cons_succ]
          refine wpX_takeg4 (v := ?_) (by kernel_rfl) (fun _ _ _ h => h) (by rfl) ?_ hHeld ?_
          rotate_left
          · intro w' hSw
            go_simp <;> with_reducible rfl
          try simp only [Act.put, List.setIfInBounds_toArray, List.set_cons_zero, List.set_cons_succ]
          refine wpX_takeg5 (v := ?_) (by kernel_rfl) (fun _ _ _ h => h) (by rfl) ?_ hHeld ?_
          rotate_left
          · intro w' hSw
            go_simp <;> with_reducible rfl
          try simp only [Act.put, List.setIfInBounds_toArray, List.set_cons_zero, List.set_cons_succ]
          have hrz : (u.alloc (.cells #[.slice none 0 0, .slice none 0 0, .slice none 0 0] 33)).rowIs u.heap.size 33 3 (fun _ => .slice none 0 0) := World.rowIs_alloc _ _ _ _ fun i hi => by
            simp at hi
            match i, hi with | 0, _ => rfl | 1, _ => rfl | 2, _ => rfl
          have hr3 := hrz.of_block (hb3.block _ hrz.lt)
          have k0 := hr3.cell (i := 0) (by omega)
          have k1 := hr3.cell (i := 1) (by omega)
          have k2 := hr3.cell (i := 2) (by omega)
          have z0 := hr3.frozen 0
          have z1 := hr3.frozen 1
          have z2 := hr3.frozen 2
          have HCUT : Hid (TreeCut _ _ _ _ _ _ _) := treeCut_set hT hWa.size hW3 hr3 hbu.size (by simp)
          have hX0 : Below W.heap.size W (((w3.setCell ⟨u.heap.size, 0, none⟩ (.slice a n1 c1)).setCell ⟨u.heap.size, 1, none⟩ (.slice b n2 c2)).setCell ⟨u.heap.size, 2, none⟩ (.slice c n3 c3)) := ((hW3.setCell hbu.size _).setCell hbu.size _).setCell hbu.size _
          clear hr3 hrz hT
          refine wpX_step7 (by kernel_rfl) (fun K hK => ?_)
          go_simp
          refine hK.out _ _ (HS.out _ hX0) (fun hHeld => ?_)
          clear hK K
          try simp only [Act.put, List.setIfInBounds_toArray, List.set_cons_zero, List.set_cons_succ]
          refine wpX_step8 (by kernel_rfl) (fun K hK => ?_)
          go_simp
          refine hK.out _ _ (HS.out _ hX0) (fun hHeld => ?_)
          clear hK K
          try simp only [Act.put, List.setIfInBounds_toArray, List.set_cons_zero, List.set_cons_succ]
          refine wpAnyX_done (by kernel_rfl) ?_ _
          go_wp2
          go_meet
          exact HCUT.out
      · go_simp
        have hWa : Below W.heap.size W (W.alloc (.cells #[.slice none 0 0, .slice none 0 0, .slice none 0 0] 33)).drew := (((Below.refl W.heap.size W)).alloc ((Below.refl W.heap.size W)).size _).drew
        refine hK.out _ _ (HS.out _ hWa) (fun hHeld => ?_)
        clear hK K
        try simp only [Act.put, List.setIfInBounds_toArray, List.set_cons_zero, List.set_cons_succ]
        refine wpX_step1 (by kernel_rfl) (fun K hK => ?_)
        go_simp
        refine (big_any _).mono ?_
        rintro e u ⟨rfl, hbu2⟩
        have hbu : Below W.heap.size W u := hWa.trans (hbu2.mono hWa.size)
        have hlt : W.heap.size < u.heap.size := by have := hbu2.size; simp at this; omega
        refine hK.out _ _ (HS.out _ hbu) (fun hHeld => ?_)
        clear hK K
        try simp only [Act.put, List.setIfInBounds_toArray, List.set_cons_zero, List.set_cons_succ]
        refine wpX_step2 (by kernel_rfl) (fun K hK => ?_)
        go_simp
        refine (HDC.out _ hbu).mono ?_
        rintro e w3 ⟨a, b, c, n1, n2, n3, c1, c2, c3, rfl, hT, hb3⟩
        have hW3 : Below W.heap.size W w3 := Below.trans hbu (hb3.mono (hbu).size)
        refine hK.out _ _ (HS.out _ hW3) (fun hHeld => ?_)
        clear hK K
        try simp only [Act.put, List.setIfInBounds_toArray, List.set_cons_zero, List.set_cons_succ]
        refine wpX_takeg3 (v := ?_) (by kernel_rfl) (fun _ _ _ h => h) (by rfl) ?_ hHeld ?_
        rotate_left
        · intro w' hSw
          go_simp <;> with_reducible rfl
        try simp only [Act.put, List.setIfInBounds_toArray, List.set_cons_zero, List.set_cons_succ]
        refine wpX_takeg4 (v := ?_) (by kernel_rfl) (fun _ _ _ h => h) (by rfl) ?_ hHeld ?_
        rotate_left
        · intro w' hSw
          go_simp <;> with_reducible rfl
        try simp only [Act.put, List.setIfInBounds_toArray, List.set_cons_zero, List.set_cons_succ]
        refine wpX_takeg5 (v := ?_) (by kernel_rfl) (fun _ _ _ h => h) (by rfl) ?_ hHeld ?_
        rotate_left
        · intro w' hSw
          go_simp <;> with_reducible rfl
        try simp only [Act.put, List.setIfInBounds_toArray, List.set_cons_zero, List.set_cons_succ]
        have hrz : (W.alloc (.cells #[.slice none 0 0, .slice none 0 0, .slice none 0 0] 33)).drew.rowIs W.heap.size 33 3 (fun _ => .slice none 0 0) := World.rowIs_alloc _ _ _ _ fun i hi => by
          simp at hi
          match i, hi with | 0, _ => rfl | 1, _ => rfl | 2, _ => rfl
        have hr2 := hrz.of_block (hbu2.block _ hrz.lt)
        have hr3 := hr2.of_block (hb3.block _ hr2.lt)
        have k0 := hr3.cell (i := 0) (by omega)
        have k1 := hr3.cell (i := 1) (by omega)
        have k2 := hr3.cell (i := 2) (by omega)
        have z0 := hr3.frozen 0
        have z1 := hr3.frozen 1
        have z2 := hr3.frozen 2
        have HCUT : Hid (TreeCut _ _ _ _ _ _ _) := treeCut_set hT hbu.size hW3 hr3 (Nat.le_refl _) hlt
        have hX0 : Below W.heap.size W (((w3.setCell ⟨W.heap.size, 0, none⟩ (.slice a n1 c1)).setCell ⟨W.heap.size, 1, none⟩ (.slice b n2 c2)).setCell ⟨W.heap.size, 2, none⟩ (.slice c n3 c3)) := ((hW3.setCell (Nat.le_refl _) _).setCell (Nat.le_refl _) _).setCell (Nat.le_refl _) _
        clear hr3 hrz hT
        refine wpX_step7 (by kernel_rfl) (fun K hK => ?_)
        go_simp
        refine hK.out _ _ (HS.out _ hX0) (fun hHeld => ?_)
        clear hK K
        try simp only [Act.put, List.setIfInBounds_toArray, List.set_cons_zero, List.set_cons_succ]
        refine wpX_step8 (by kernel_rfl) (fun K hK => ?_)
        go_simp
        refine hK.out _ _ (HS.out _ hX0) (fun hHeld => ?_)
        clear hK K
        try simp only [Act.put, List.setIfInBounds_toArray, List.set_cons_zero, List.set_cons_succ]
        refine wpAnyX_done (by kernel_rfl) ?_ _
        go_wp2
        go_meet
        exact HCUT.out
    case rest =>
      obtain ⟨X, a, b, c, n1, n2, n3, c1, c2, c3, rfl, rfl, hrow, hWz, hT⟩ := hcut
      obtain ⟨g, ib, db, co, ev, _, _, _, h1, h2, h3⟩ := hT.1 (by first | rfl | trivial)
      simp only [Value.agg.injEq, Array.mk.injEq, List.cons.injEq, Value.slice.injEq, and_true] at ev
      obtain ⟨⟨rfl, rfl, rfl⟩, ⟨rfl, rfl, rfl⟩, ⟨rfl, rfl, rfl⟩⟩ := ev
      have y1 : wc.cell? ⟨X, 1, none⟩ = some (.slice (some ⟨ib, 0, none⟩) 4 4) := hrow.cell (i := 1) (by omega)
      have y2 : wc.cell? ⟨X, 2, none⟩ = some (.slice (some ⟨db, 0, none⟩) 4 4) := hrow.cell (i := 2) (by omega)
      have hXl : X < wc.heap.size := hrow.lt
      have hbe : Below w.heap.size w wc := HBW.out.trans (hWz.mono HBW.out.size)
      have h2' : SlOf wc 1 RInt (.slice (some ⟨ib, 0, none⟩) 4 4) [-1, 0, 0, 0] := by rw [← ub_tree.1]; exact h2
      have h3' : SlOf wc 1 RInt (.slice (some ⟨db, 0, none⟩) 4 4) [0, 0, 0, 0] := by rw [← ub_tree.2]; exact h3
      have HD : Hid (SlOf wc 1 RInt (.slice (some ⟨ib, 0, none⟩) 4 4) [-1, 0, 0, 0] ∧ SlOf wc 1 RInt (.slice (some ⟨db, 0, none⟩) 4 4) [0, 0, 0, 0] ∧ Below w.heap.size w wc) := ⟨h2', h3', hbe⟩
      clear h1 h2 h3 h2' h3' hT hrow hWz hbe HDC HS HU HBW f0 f1
      generalize wc = D at *
      have hA2 : Below D.heap.size D (D.alloc (.cells #[.int .i64 (-1), .int .i64 0, .int .i64 0, .int .i64 0] 3)) := (Below.refl _ _).alloc (Nat.le_refl _) _
      have HC2 := sameInts_true [-1, 0, 0, 0] (some ⟨ib, 0, none⟩) (some ⟨D.heap.size, 0, none⟩) 4 4 4 (D.alloc (.cells #[.int .i64 (-1), .int .i64 0, .int .i64 0, .int .i64 0] 3)) rfl (HD.out.1.below hA2 fun _ _ h => h) (four_sl D (-1) 0 0 0 3)
      go_wp2_with fail
      refine HC2.mono ?_
      rintro e F ⟨rfl, hF⟩
      have hDF : Below D.heap.size D F := hA2.trans (hF.mono hA2.size)
      clear HC2 y1 hF hA2
      have y2' := (hDF.cell (p := ⟨X, 2, none⟩) hXl).trans y2
      have hA3 : Below F.heap.size F (F.alloc (.cells #[.int .i64 0, .int .i64 0, .int .i64 0, .int .i64 0] 3)) := (Below.refl _ _).alloc (Nat.le_refl _) _
      have hDA := hDF.trans (hA3.mono hDF.size)
      have HC3 := sameInts_true [0, 0, 0, 0] (some ⟨db, 0, none⟩) (some ⟨F.heap.size, 0, none⟩) 4 4 4 (F.alloc (.cells #[.int .i64 0, .int .i64 0, .int .i64 0, .int .i64 0] 3)) rfl (HD.out.2.1.below hDA fun _ _ h => h) (four_sl F 0 0 0 0 3)
      go_wp2_with fail
      refine HC3.mono ?_
      rintro e G ⟨rfl, hG⟩
      have hDG : Below D.heap.size D G := hDA.trans (hG.mono hDA.size)
      clear HC3 y2 y2'
      go_wp2
      go_ret
      exact ⟨rfl, HD.out.2.2.trans (hDG.mono HD.out.2.2.size)⟩
  · go_enter Try.func5, Try.ntmps5
    go_upto_region 2 with (first | (go_at_call 14; refine (def_any _ _).mono ?_; rintro e w' ⟨rfl, rfl⟩) | (go_at_call 15; refine (use_any _ _).mono ?_; rintro e w' ⟨rfl, rfl⟩) | (go_at_call 13; refine (op_any _ _ _ _ _).mono ?_; rintro e w' ⟨rfl, rfl⟩))
    rw [ubW_eq]
    have h17 := ubW_17 w
    have h16 := ubW_16 w
    have h15 := ubW_15 w
    have h13 := ubW_13 w
    have t0 := blk_cellL h17 1 (by simp)
    have t1 := blk_cellL h16 10 (by simp)
    have t2 := blk_cellL h15 1 (by simp)
    have t3 := blk_cellL h13 1 (by simp)
    have t4 := blk_frozenL h13 1
    simp only [List.getElem_toArray, List.getElem_cons_succ, List.getElem_cons_zero] at t0 t1 t2 t3
    obtain ⟨W, hW⟩ : ∃ W, W = (ubW w).setCell ⟨w.heap.size + 1 + 1 + 1 + 1 + 1 + 1 + 1 + 1 + 1 + 1 + 1 + 1 + 1, 1, none⟩ (.int .i64 1) := ⟨_, rfl⟩
    have hU : UbSt w.heap.size 1 W := by rw [hW]; exact ubSt1 w
    have HBW : Hid (Below w.heap.size w W) := by show Below _ _ _; rw [hW]; exact (ubW_below w).setCell (by simp <;> omega) _
    clear h17 h16 h15 h13
    generalize ubW w = V at *
    go_upto_region 4 with fail
    rw [← hW]
    clear t0 t1 t2 t3 t4
    have HU : Hid (UbSt w.heap.size 1 W) := hU
    have hsl := hU.sl
    have HDC : Hid (∀ w', Below W.heap.size W w' → Calls Try.prog 10 #[.agg #[.slice (some ⟨w.heap.size, 0, none⟩) 2 2, .slice (some ⟨w.heap.size + 1 + 1 + 1 + 1 + 1 + 1 + 1 + 1 + 1 + 1 + 1 + 1 + 1 + 1 + 1 + 1, 0, none⟩) 4 4], .agg #[.int .i64 10, .int .i64 10]] w' fun e w'' => ∃ a b c n1 n2 n3 c1 c2 c3, e = .returned (.tuple #[.agg #[.slice a n1 c1, .slice b n2 c2, .slice c n3 c3], .int .i64 10]) ∧ TreeV (ubF 1) 1 10 w'.heap.size w'' (.agg #[.slice a n1 c1, .slice b n2 c2, .slice c n3 c3]) ∧ Below w'.heap.size w' w'') := fun w' hh => dom_is (ubF 1) 1 10 10 (some ⟨w.heap.size, 0, none⟩) (some ⟨w.heap.size + 1 + 1 + 1 + 1 + 1 + 1 + 1 + 1 + 1 + 1 + 1 + 1 + 1 + 1 + 1 + 1, 0, none⟩) 2 4 10 ub_err1 w' (hsl.1.below hh fun _ _ h => h) (hsl.2.below hh (RBlk.below hh)) (fun _ => flowIn_of ub_in1)
    have f0 : W.cell? ⟨w.heap.size + 1 + 1 + 1 + 1 + 1 + 1 + 1 + 1 + 1 + 1 + 1 + 1 + 1 + 1 + 1 + 1 + 1, 0, none⟩ = some (.slice (some ⟨w.heap.size, 0, none⟩) 2 2) := blk_cellL hU.b17 0 (by simp)
    have f1 : W.cell? ⟨w.heap.size + 1 + 1 + 1 + 1 + 1 + 1 + 1 + 1 + 1 + 1 + 1 + 1 + 1 + 1 + 1 + 1 + 1, 1, none⟩ = some (.slice (some ⟨w.heap.size + 1 + 1 + 1 + 1 + 1 + 1 + 1 + 1 + 1 + 1 + 1 + 1 + 1 + 1 + 1 + 1, 0, none⟩) 4 4) := blk_cellL hU.b17 1 (by simp)
    have hfl : w.heap.size + 1 + 1 + 1 + 1 + 1 + 1 + 1 + 1 + 1 + 1 + 1 + 1 + 1 + 1 + 1 + 1 + 1 < W.heap.size := block_lt f0
    have HS : Hid (∀ w', Below W.heap.size W w' → (fun w' => w'.cell? ⟨w.heap.size + 1 + 1 + 1 + 1 + 1 + 1 + 1 + 1 + 1 + 1 + 1 + 1 + 1 + 1 + 1 + 1 + 1, 0, none⟩ = some (.slice (some ⟨w.heap.size, 0, none⟩) 2 2) ∧ w'.cell? ⟨w.heap.size + 1 + 1 + 1 + 1 + 1 + 1 + 1 + 1 + 1 + 1 + 1 + 1 + 1 + 1 + 1 + 1 + 1, 1, none⟩ = some (.slice (some ⟨w.heap.size + 1 + 1 + 1 + 1 + 1 + 1 + 1 + 1 + 1 + 1 + 1 + 1 + 1 + 1 + 1 + 1, 0, none⟩) 4 4)) w') := fun w' hh => ⟨(hh.cell (p := ⟨w.heap.size + 1 + 1 + 1 + 1 + 1 + 1 + 1 + 1 + 1 + 1 + 1 + 1 + 1 + 1 + 1 + 1 + 1, 0, none⟩) hfl).trans f0, (hh.cell (p := ⟨w.heap.size + 1 + 1 + 1 + 1 + 1 + 1 + 1 + 1 + 1 + 1 + 1 + 1 + 1 + 1 + 1 + 1 + 1, 1, none⟩) hfl).trans f1⟩
    have hbD : Below W.heap.size W W.drew := (Below.refl _ _).drew
    clear hU hsl hW
    go_cut [4, 5] (fun x y wz => TreeCut (ubF 1) 1 10 W x y wz)
    case first =>
      refine wp_region_X (fun w' => w'.cell? ⟨w.heap.size + 1 + 1 + 1 + 1 + 1 + 1 + 1 + 1 + 1 + 1 + 1 + 1 + 1 + 1 + 1 + 1 + 1, 0, none⟩ = some (.slice (some ⟨w.heap.size, 0, none⟩) 2 2) ∧ w'.cell? ⟨w.heap.size + 1 + 1 + 1 + 1 + 1 + 1 + 1 + 1 + 1 + 1 + 1 + 1 + 1 + 1 + 1 + 1 + 1, 1, none⟩ = some (.slice (some ⟨w.heap.size + 1 + 1 + 1 + 1 + 1 + 1 + 1 + 1 + 1 + 1 + 1 + 1 + 1 + 1 + 1 + 1, 0, none⟩) 4 4)) 99 (by kernel_rfl) ⟨f0, f1⟩ (fun hHeld => ?_)
      refine wpX_takeg0 (v := ?_) (by kernel_rfl) (fun _ _ _ h => h) (by rfl) ?_ hHeld ?_
      rotate_left
      · intro w' hSw
        go_simp <;> with_reducible rfl
      try simp only [Act.put, List.setIfInBounds_toArray, List.set_cons_zero, List.set_cons_succ]
      refine wpAnyX_both (i := 1) (k := 6) rfl rfl (by kernel_rfl) (fun K hK => ?_) (fun K hK => ?_)
      · go_simp
        refine (big_is _ W hbD).mono ?_
        rintro e u ⟨rfl, hbu⟩
        refine hK.out _ _ (HS.out _ hbu) (fun hHeld => ?_)
        clear hK K
        try simp only [Act.put, List.setIfInBounds_toArray, List.set_cons_zero, List.set_cons_succ]
        refine wpAnyX_both (i := 2) (k := 6) rfl rfl (by kernel_rfl) (fun K hK => ?_) (fun K hK => ?_)
        · go_simp
          refine (HDC.out _ hbu).mono ?_
          rintro e w3 ⟨a, b, c, n1, n2, n3, c1, c2, c3, rfl, hT, hb3⟩
          have hW3 : Below W.heap.size W w3 := Below.trans hbu (hb3.mono (hbu).size)
          refine hK.out _ _ (HS.out _ hW3) (fun hHeld => ?_)
          clear hK K
          try simp only [Act.put, List.setIfInBounds_toArray, List.set_cons_zero, List.set_cons_succ]
          refine wpX_takeg3 (v := ?_) (by kernel_rfl) (fun _ _ _ h => h) (by rfl) ?_ hHeld ?_
          rotate_left
          · intro w' hSw
            go_simp <;> with_reducible rfl
          try simp only [Act.put, List.setIfInBounds_toArray, List.set_cons_zero, List.set_cons_succ]
          refine wpX_takeg4 (v := ?_) (by kernel_rfl) (fun _ _ _ h => h) (by rfl) ?_ hHeld ?_
          rotate_left
          · intro w' hSw
            go_simp <;> with_reducible rfl
          try simp only [Act.put, List.setIfInBounds_toArray, List.set_cons_zero, List.set_cons_succ]
          refine wpX_takeg5 (v := ?_) (by kernel_rfl) (fun _ _ _ h => h) (by rfl) ?_ hHeld ?_
          rotate_left
          · intro w' hSw
            go_simp <;> with_reducible rfl
          try simp only [Act.put, List.setIfInBounds_toArray, List.set_cons_zero, List.set_cons_succ]
          refine wpX_step6 (by kernel_rfl) (fun K hK => ?_)
          go_simp
          refine hK.out _ _ (HS.out _ (hW3.alloc hW3.size _)) (fun hHeld => ?_)
          clear hK K
          try simp only [Act.put, List.setIfInBounds_toArray, List.set_cons_zero, List.set_cons_succ]
          refine wpX_step7 (by kernel_rfl) (fun K hK => ?_)
          go_simp
          refine hK.out _ _ (HS.out _ (hW3.alloc hW3.size _)) (fun hHeld => ?_)
          clear hK K
          try simp only [Act.put, List.setIfInBounds_toArray, List.set_cons_zero, List.set_cons_succ]
          refine wpX_step8 (by kernel_rfl) (fun K hK => ?_)
          go_simp
          refine hK.out _ _ (HS.out _ (hW3.alloc hW3.size _)) (fun hHeld => ?_)
          clear hK K
          try simp only [Act.put, List.setIfInBounds_toArray, List.set_cons_zero, List.set_cons_succ]
          refine wpAnyX_done (by kernel_rfl) ?_ _
          go_wp2
          go_meet
          exact treeCut_new hT (by first | exact hbu.size | (simp; exact hbu.size)) hW3
        · go_simp
          have hWa : Below W.heap.size W (u.alloc (.cells #[.slice none 0 0, .slice none 0 0, .slice none 0 0] 33)) := ((hbu).alloc (hbu).size _)
          refine hK.out _ _ (HS.out _ hWa) (fun hHeld => ?_)
          clear hK K
          try simp only [Act.put, List.setIfInBounds_toArray, List.set_cons_zero, List.set_cons_succ]
          refine wpX_step2 (by kernel_rfl) (fun K hK => ?_)
          go_simp
          refine (HDC.out _ hWa).mono ?_
          rintro e w3 ⟨a, b, c, n1, n2, n3, c1, c2, c3, rfl, hT, hb3⟩
          have hW3 : Below W.heap.size W w3 := Below.trans hWa (hb3.mono (hWa).size)
          refine hK.out _ _ (HS.out _ hW3) (fun hHeld => ?_)
          clear hK K
          try simp only [Act.put, List.setIfInBounds_toArray, List.set_cons_zero, List.set_cons_succ]
          refine wpX_takeg3 (v := ?_) (by kernel_rfl) (fun _ _ _ h => h) (by rfl) ?_ hHeld ?_
          rotate_left
          · intro w' hSw
            go_simp <;> with_reducible rfl
          try simp only [Act.put, List.setIfInBounds_toArray, List.set_cons_zero, List.set_cons_succ]
          refine wpX_takeg4 (v := ?_) (by kernel_rfl) (fun _ _ _ h => h) (by rfl) ?_ hHeld ?_
          rotate_left
          · intro w' hSw
            go_simp <;> with_reducible rfl
          try simp only [Act.put, List.setIfInBounds_toArray, List.set_cons_zero, List.set_cons_succ]
          refine wpX_takeg5 (v := ?_) (by kernel_rfl) (fun _ _ _ h => h) (by rfl) ?_ hHeld ?_
          rotate_left
          · intro w' hSw
            go_simp <;> with_reducible rfl
          try simp only [Act.put, List.setIfInBounds_toArray, List.set_cons_zero, List.set_cons_succ]
          have hrz : (u.alloc (.cells #[.slice none 0 0, .slice none 0 0, .slice none 0 0] 33)).rowIs u.heap.size 33 3 (fun _ => .slice none 0 0) := World.rowIs_alloc _ _ _ _ fun i hi => by
            simp at hi
            match i, hi with | 0, _ => rfl | 1, _ => rfl | 2, _ => rfl
          have hr3 := hrz.of_block (hb3.block _ hrz.lt)
          have k0 := hr3.cell (i := 0) (by omega)
          have k1 := hr3.cell (i := 1) (by omega)
          have k2 := hr3.cell (i := 2) (by omega)
          have z0 := hr3.frozen 0
          have z1 := hr3.frozen 1
          have z2 := hr3.frozen 2
          have HCUT : Hid (TreeCut _ _ _ _ _ _ _) := treeCut_set hT hWa.size hW3 hr3 hbu.size (by simp)
          have hX0 : Below W.heap.size W (((w3.setCell ⟨u.heap.size, 0, none⟩ (.slice a n1 c1)).setCell ⟨u.heap.size, 1, none⟩ (.slice b n2 c2)).setCell ⟨u.heap.size, 2, none⟩ (.slice c n3 c3)) := ((hW3.setCell hbu.size _).setCell hbu.size _).setCell hbu.size _
          clear hr3 hrz hT
          refine wpX_step7 (by kernel_rfl) (fun K hK => ?_)
          go_simp
          refine hK.out _ _ (HS.out _ hX0) (fun hHeld => ?_)
          clear hK K
          try simp only [Act.put, List.setIfInBounds_toArray, List.set_cons_zero, List.set_cons_succ]
          refine wpX_step8 (by kernel_rfl) (fun K hK => ?_)
          go_simp
          refine hK.out _ _ (HS.out _ hX0) (fun hHeld => ?_)
          clear hK K
          try simp only [Act.put, List.setIfInBounds_toArray, List.set_cons_zero, List.set_cons_succ]
          refine wpAnyX_done (by kernel_rfl) ?_ _
          go_wp2
          go_meet
          exact HCUT.out
      · go_simp
        have hWa : Below W.heap.size W (W.alloc (.cells #[.slice none 0 0, .slice none 0 0, .slice none 0 0] 33)).drew := (((Below.refl W.heap.size W)).alloc ((Below.refl W.heap.size W)).size _).drew
        refine hK.out _ _ (HS.out _ hWa) (fun hHeld => ?_)
        clear hK K
        try simp only [Act.put, List.setIfInBounds_toArray, List.set_cons_zero, List.set_cons_succ]
        refine wpX_step1 (by kernel_rfl) (fun K hK => ?_)
        go_simp
        refine (big_any _).mono ?_
        rintro e u ⟨rfl, hbu2⟩
        have hbu : Below W.heap.size W u := hWa.trans (hbu2.mono hWa.size)
        have hlt : W.heap.size < u.heap.size := by have := hbu2.size; simp at this; omega
        refine hK.out _ _ (HS.out _ hbu) (fun hHeld => ?_)
        clear hK K
        try simp only [Act.put, List.setIfInBounds_toArray, List.set_cons_zero, List.set_cons_succ]
        refine wpX_step2 (by kernel_rfl) (fun K hK => ?_)
        go_simp
        refine (HDC.out _ hbu).mono ?_
        rintro e w3 ⟨a, b, c, n1, n2, n3, c1, c2, c3, rfl, hT, hb3⟩
        have hW3 : Below W.heap.size W w3 := Below.trans hbu (hb3.mono (hbu).size)
        refine hK.out _ _ (HS.out _ hW3) (fun hHeld => ?_)
        clear hK K
        try simp only [Act.put, List.setIfInBounds_toArray, List.set_cons_zero, List.set_cons_succ]
        refine wpX_takeg3 (v := ?_) (by kernel_rfl) (fun _ _ _ h => h) (by rfl) ?_ hHeld ?_
        rotate_left
        · intro w' hSw
          go_simp <;> with_reducible rfl
        try simp only [Act.put, List.setIfInBounds_toArray, List.set_cons_zero, List.set_cons_succ]
        refine wpX_takeg4 (v := ?_) (by kernel_rfl) (fun _ _ _ h => h) (by rfl) ?_ hHeld ?_
        rotate_left
        · intro w' hSw
          go_simp <;> with_reducible rfl
        try simp only [Act.put, List.setIfInBounds_toArray, List.set_cons_zero, List.set_cons_succ]
        refine wpX_takeg5 (v := ?_) (by kernel_rfl) (fun _ _ _ h => h) (by rfl) ?_ hHeld ?_
        rotate_left
        · intro w' hSw
          go_simp <;> with_reducible rfl
        try simp only [Act.put, List.setIfInBounds_toArray, List.set_cons_zero, List.set_cons_succ]
        have hrz : (W.alloc (.cells #[.slice none 0 0, .slice none 0 0, .slice none 0 0] 33)).drew.rowIs W.heap.size 33 3 (fun _ => .slice none 0 0) := World.rowIs_alloc _ _ _ _ fun i hi => by
          simp at hi
          match i, hi with | 0, _ => rfl | 1, _ => rfl | 2, _ => rfl
        have hr2 := hrz.of_block (hbu2.block _ hrz.lt)
        have hr3 := hr2.of_block (hb3.block _ hr2.lt)
        have k0 := hr3.cell (i := 0) (by omega)
        have k1 := hr3.cell (i := 1) (by omega)
        have k2 := hr3.cell (i := 2) (by omega)
        have z0 := hr3.frozen 0
        have z1 := hr3.frozen 1
        have z2 := hr3.frozen 2
        have HCUT : Hid (TreeCut _ _ _ _ _ _ _) := treeCut_set hT hbu.size hW3 hr3 (Nat.le_refl _) hlt
        have hX0 : Below W.heap.size W (((w3.setCell ⟨W.heap.size, 0, none⟩ (.slice a n1 c1)).setCell ⟨W.heap.size, 1, none⟩ (.slice b n2 c2)).setCell ⟨W.heap.size, 2, none⟩ (.slice c n3 c3)) := ((hW3.setCell (Nat.le_refl _) _).setCell (Nat.le_refl _) _).setCell (Nat.le_refl _) _
        clear hr3 hrz hT
        refine wpX_step7 (by kernel_rfl) (fun K hK => ?_)
        go_simp
        refine hK.out _ _ (HS.out _ hX0) (fun hHeld => ?_)
        clear hK K
        try simp only [Act.put, List.setIfInBounds_toArray, List.set_cons_zero, List.set_cons_succ]
        refine wpX_step8 (by kernel_rfl) (fun K hK => ?_)
        go_simp
        refine hK.out _ _ (HS.out _ hX0) (fun hHeld => ?_)
        clear hK K
        try simp only [Act.put, List.setIfInBounds_toArray, List.set_cons_zero, List.set_cons_succ]
        refine wpAnyX_done (by kernel_rfl) ?_ _
        go_wp2
        go_meet
        exact HCUT.out
    case rest =>
      obtain ⟨X, a, b, c, n1, n2, n3, c1, c2, c3, rfl, rfl, hrow, hWz, hT⟩ := hcut
      have ev := hT.2 (by decide)
      simp only [Value.agg.injEq, Array.mk.injEq, List.cons.injEq, Value.slice.injEq, and_true] at ev
      obtain ⟨⟨rfl, rfl, rfl⟩, ⟨rfl, rfl, rfl⟩, ⟨rfl, rfl, rfl⟩⟩ := ev
      have x1 : wc.cell? ⟨X, 1, none⟩ = some (.slice none 0 0) := hrow.cell (i := 1) (by omega)
      have hbe : Below w.heap.size w wc := HBW.out.trans (hWz.mono HBW.out.size)
      clear hT hrow hWz
      go_wp2
      go_ret
      exact ⟨rfl, hbe⟩
end Go.Proofs.Ytengmgdnpojfjaa
