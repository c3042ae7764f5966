/-
  How far 'ring' has come: what lies where, and that it is kept.
  The contract of the statements' own 'ring': what it has made reads as such a function; it writes to nothing that was there.
  What 'ring' has made, cell by cell; what of it may be changed; and how it reads as a function.
  What 'ring' has made, once a cell of its blocks or of its first edge has been written to.
-/
import Derived.Test.YtdlnofjmonpmgaaN1
import Derived.Deep.DeepCutAuto
import Derived.Deep.CutBlock
import Derived.Test.YtdlnofjmonpmgaaA5
namespace Go.Proofs.Ytdlnofjmonpmgaa
open Go.RowKit
set_option linter.unusedVariables false

/-- The world once ring's own composite has been made. -/
def ringW (w : World) : World := ((((((((((((((((((((w.alloc (.cells #[.slice none 0 0, .slice none 0 0] 30)).alloc (.cells #[.int .i64 0, .int .i64 0] 3)).alloc (.cells #[.int .i64 2, .int .i64 0, .bool true, .int .i64 1, .int .i64 0] 51)).alloc (.cells #[.int .i64 2, .int .i64 0, .bool true, .int .i64 1, .int .i64 0] 51)).alloc (.cells #[.int .i64 1, .slice (some ⟨w.heap.size + 1 + 1 + 1, 0, none⟩) 1 1, .slice none 0 0] 55)).alloc (.cells #[.int .i64 1, .slice (some ⟨w.heap.size + 1 + 1 + 1, 0, none⟩) 1 1, .slice none 0 0] 55)).alloc (.cells #[.int .i64 0] 3)).alloc (.cells #[.int .i64 1, .slice (some ⟨w.heap.size + 1 + 1 + 1 + 1 + 1 + 1, 0, none⟩) 1 1] 46)).alloc (.cells #[.int .i64 1] 3)).alloc (.cells #[.int .i64 1, .int .i64 1, .bool false, .int .i64 1, .int .i64 0] 51)).alloc (.cells #[.int .i64 1, .int .i64 1, .bool false, .int .i64 1, .int .i64 0] 51)).alloc (.cells #[.int .i64 2, .slice (some ⟨w.heap.size + 1 + 1 + 1 + 1 + 1 + 1 + 1 + 1 + 1 + 1, 0, none⟩) 1 1, .slice none 0 0] 55)).alloc (.cells #[.int .i64 2, .slice (some ⟨w.heap.size + 1 + 1 + 1 + 1 + 1 + 1 + 1 + 1 + 1 + 1, 0, none⟩) 1 1, .slice none 0 0] 55)).alloc (.cells #[.int .i64 2, .slice none 0 0, .int .i64 3, .slice none 0 0] 46)).alloc (.cells #[.int .i64 1, .int .i64 1, .bool false, .int .i64 1, .int .i64 0] 51)).alloc (.cells #[.int .i64 1, .int .i64 1, .bool false, .int .i64 1, .int .i64 0] 51)).alloc (.cells #[.int .i64 3, .slice (some ⟨w.heap.size + 1 + 1 + 1 + 1 + 1 + 1 + 1 + 1 + 1 + 1 + 1 + 1 + 1 + 1 + 1, 0, none⟩) 1 1, .slice none 0 0] 55)).alloc (.cells #[.int .i64 3, .slice (some ⟨w.heap.size + 1 + 1 + 1 + 1 + 1 + 1 + 1 + 1 + 1 + 1 + 1 + 1 + 1 + 1 + 1, 0, none⟩) 1 1, .slice none 0 0] 55)).alloc (.cells #[.slice none 0 0, .slice (some ⟨w.heap.size + 1 + 1 + 1 + 1 + 1, 0, none⟩) 1 1, .slice (some ⟨w.heap.size + 1 + 1 + 1 + 1 + 1 + 1 + 1, 0, none⟩) 1 1, .slice (some ⟨w.heap.size + 1 + 1 + 1 + 1 + 1 + 1 + 1 + 1, 0, none⟩) 1 1, .slice (some ⟨w.heap.size + 1 + 1 + 1 + 1 + 1 + 1 + 1 + 1 + 1 + 1 + 1 + 1, 0, none⟩) 1 1, .slice (some ⟨w.heap.size + 1 + 1 + 1 + 1 + 1 + 1 + 1 + 1 + 1 + 1 + 1 + 1 + 1, 0, none⟩) 2 2, .slice none 0 0, .slice none 0 0, .slice none 0 0, .slice none 0 0, .slice (some ⟨w.heap.size + 1 + 1 + 1 + 1 + 1 + 1 + 1 + 1 + 1 + 1 + 1 + 1 + 1 + 1 + 1 + 1 + 1, 0, none⟩) 1 1, .slice none 0 0] 44)).alloc (.cells #[.slice (some ⟨w.heap.size + 1, 0, none⟩) 2 2, .slice (some ⟨w.heap.size + 1 + 1 + 1 + 1 + 1 + 1 + 1 + 1 + 1 + 1 + 1 + 1 + 1 + 1 + 1 + 1 + 1 + 1, 0, none⟩) 4 4] 30))
theorem ringW_size (w : World) : (ringW w).heap.size = w.heap.size + 1 + 1 + 1 + 1 + 1 + 1 + 1 + 1 + 1 + 1 + 1 + 1 + 1 + 1 + 1 + 1 + 1 + 1 + 1 + 1 := by unfold ringW; simp
theorem ringW_below (w : World) : Below (w.heap.size + 1) (w.alloc (.cells #[.slice none 0 0, .slice none 0 0] 30)) (ringW w) := by
  unfold ringW
  refine Below.alloc ?_ (by simp <;> omega) _
  refine Below.alloc ?_ (by simp <;> omega) _
  refine Below.alloc ?_ (by simp <;> omega) _
  refine Below.alloc ?_ (by simp <;> omega) _
  refine Below.alloc ?_ (by simp <;> omega) _
  refine Below.alloc ?_ (by simp <;> omega) _
  refine Below.alloc ?_ (by simp <;> omega) _
  refine Below.alloc ?_ (by simp <;> omega) _
  refine Below.alloc ?_ (by simp <;> omega) _
  refine Below.alloc ?_ (by simp <;> omega) _
  refine Below.alloc ?_ (by simp <;> omega) _
  refine Below.alloc ?_ (by simp <;> omega) _
  refine Below.alloc ?_ (by simp <;> omega) _
  refine Below.alloc ?_ (by simp <;> omega) _
  refine Below.alloc ?_ (by simp <;> omega) _
  refine Below.alloc ?_ (by simp <;> omega) _
  refine Below.alloc ?_ (by simp <;> omega) _
  refine Below.alloc ?_ (by simp <;> omega) _
  refine Below.alloc ?_ (by simp <;> omega) _
  exact Below.refl _ _
theorem ringW_1 (w : World) : (ringW w).heap[w.heap.size + 1]? = some (.cells #[.int .i64 0, .int .i64 0] 3) := by
  unfold ringW
  rw [Below.heap_alloc _ _ _ (by simp), Below.heap_alloc _ _ _ (by simp), Below.heap_alloc _ _ _ (by simp), Below.heap_alloc _ _ _ (by simp), Below.heap_alloc _ _ _ (by simp), Below.heap_alloc _ _ _ (by simp), Below.heap_alloc _ _ _ (by simp), Below.heap_alloc _ _ _ (by simp), Below.heap_alloc _ _ _ (by simp), Below.heap_alloc _ _ _ (by simp), Below.heap_alloc _ _ _ (by simp), Below.heap_alloc _ _ _ (by simp), Below.heap_alloc _ _ _ (by simp), Below.heap_alloc _ _ _ (by simp), Below.heap_alloc _ _ _ (by simp), Below.heap_alloc _ _ _ (by simp), Below.heap_alloc _ _ _ (by simp), Below.heap_alloc _ _ _ (by simp)]
  exact heap_atL (by simp)
theorem ringW_2 (w : World) : (ringW w).heap[w.heap.size + 1 + 1]? = some (.cells #[.int .i64 2, .int .i64 0, .bool true, .int .i64 1, .int .i64 0] 51) := by
  unfold ringW
  rw [Below.heap_alloc _ _ _ (by simp), Below.heap_alloc _ _ _ (by simp), Below.heap_alloc _ _ _ (by simp), Below.heap_alloc _ _ _ (by simp), Below.heap_alloc _ _ _ (by simp), Below.heap_alloc _ _ _ (by simp), Below.heap_alloc _ _ _ (by simp), Below.heap_alloc _ _ _ (by simp), Below.heap_alloc _ _ _ (by simp), Below.heap_alloc _ _ _ (by simp), Below.heap_alloc _ _ _ (by simp), Below.heap_alloc _ _ _ (by simp), Below.heap_alloc _ _ _ (by simp), Below.heap_alloc _ _ _ (by simp), Below.heap_alloc _ _ _ (by simp), Below.heap_alloc _ _ _ (by simp), Below.heap_alloc _ _ _ (by simp)]
  exact heap_atL (by simp)
theorem ringW_3 (w : World) : (ringW w).heap[w.heap.size + 1 + 1 + 1]? = some (.cells #[.int .i64 2, .int .i64 0, .bool true, .int .i64 1, .int .i64 0] 51) := by
  unfold ringW
  rw [Below.heap_alloc _ _ _ (by simp), Below.heap_alloc _ _ _ (by simp), Below.heap_alloc _ _ _ (by simp), Below.heap_alloc _ _ _ (by simp), Below.heap_alloc _ _ _ (by simp), Below.heap_alloc _ _ _ (by simp), Below.heap_alloc _ _ _ (by simp), Below.heap_alloc _ _ _ (by simp), Below.heap_alloc _ _ _ (by simp), Below.heap_alloc _ _ _ (by simp), Below.heap_alloc _ _ _ (by simp), Below.heap_alloc _ _ _ (by simp), Below.heap_alloc _ _ _ (by simp), Below.heap_alloc _ _ _ (by simp), Below.heap_alloc _ _ _ (by simp), Below.heap_alloc _ _ _ (by simp)]
  exact heap_atL (by simp)
theorem ringW_4 (w : World) : (ringW w).heap[w.heap.size + 1 + 1 + 1 + 1]? = some (.cells #[.int .i64 1, .slice (some ⟨w.heap.size + 1 + 1 + 1, 0, none⟩) 1 1, .slice none 0 0] 55) := by
  unfold ringW
  rw [Below.heap_alloc _ _ _ (by simp), Below.heap_alloc _ _ _ (by simp), Below.heap_alloc _ _ _ (by simp), Below.heap_alloc _ _ _ (by simp), Below.heap_alloc _ _ _ (by simp), Below.heap_alloc _ _ _ (by simp), Below.heap_alloc _ _ _ (by simp), Below.heap_alloc _ _ _ (by simp), Below.heap_alloc _ _ _ (by simp), Below.heap_alloc _ _ _ (by simp), Below.heap_alloc _ _ _ (by simp), Below.heap_alloc _ _ _ (by simp), Below.heap_alloc _ _ _ (by simp), Below.heap_alloc _ _ _ (by simp), Below.heap_alloc _ _ _ (by simp)]
  exact heap_atL (by simp)
theorem ringW_5 (w : World) : (ringW w).heap[w.heap.size + 1 + 1 + 1 + 1 + 1]? = some (.cells #[.int .i64 1, .slice (some ⟨w.heap.size + 1 + 1 + 1, 0, none⟩) 1 1, .slice none 0 0] 55) := by
  unfold ringW
  rw [Below.heap_alloc _ _ _ (by simp), Below.heap_alloc _ _ _ (by simp), Below.heap_alloc _ _ _ (by simp), Below.heap_alloc _ _ _ (by simp), Below.heap_alloc _ _ _ (by simp), Below.heap_alloc _ _ _ (by simp), Below.heap_alloc _ _ _ (by simp), Below.heap_alloc _ _ _ (by simp), Below.heap_alloc _ _ _ (by simp), Below.heap_alloc _ _ _ (by simp), Below.heap_alloc _ _ _ (by simp), Below.heap_alloc _ _ _ (by simp), Below.heap_alloc _ _ _ (by simp), Below.heap_alloc _ _ _ (by simp)]
  exact heap_atL (by simp)
theorem ringW_6 (w : World) : (ringW w).heap[w.heap.size + 1 + 1 + 1 + 1 + 1 + 1]? = some (.cells #[.int .i64 0] 3) := by
  unfold ringW
  rw [Below.heap_alloc _ _ _ (by simp), Below.heap_alloc _ _ _ (by simp), Below.heap_alloc _ _ _ (by simp), Below.heap_alloc _ _ _ (by simp), Below.heap_alloc _ _ _ (by simp), Below.heap_alloc _ _ _ (by simp), Below.heap_alloc _ _ _ (by simp), Below.heap_alloc _ _ _ (by simp), Below.heap_alloc _ _ _ (by simp), Below.heap_alloc _ _ _ (by simp), Below.heap_alloc _ _ _ (by simp), Below.heap_alloc _ _ _ (by simp), Below.heap_alloc _ _ _ (by simp)]
  exact heap_atL (by simp)
theorem ringW_7 (w : World) : (ringW w).heap[w.heap.size + 1 + 1 + 1 + 1 + 1 + 1 + 1]? = some (.cells #[.int .i64 1, .slice (some ⟨w.heap.size + 1 + 1 + 1 + 1 + 1 + 1, 0, none⟩) 1 1] 46) := by
  unfold ringW
  rw [Below.heap_alloc _ _ _ (by simp), Below.heap_alloc _ _ _ (by simp), Below.heap_alloc _ _ _ (by simp), Below.heap_alloc _ _ _ (by simp), Below.heap_alloc _ _ _ (by simp), Below.heap_alloc _ _ _ (by simp), Below.heap_alloc _ _ _ (by simp), Below.heap_alloc _ _ _ (by simp), Below.heap_alloc _ _ _ (by simp), Below.heap_alloc _ _ _ (by simp), Below.heap_alloc _ _ _ (by simp), Below.heap_alloc _ _ _ (by simp)]
  exact heap_atL (by simp)
theorem ringW_8 (w : World) : (ringW w).heap[w.heap.size + 1 + 1 + 1 + 1 + 1 + 1 + 1 + 1]? = some (.cells #[.int .i64 1] 3) := by
  unfold ringW
  rw [Below.heap_alloc _ _ _ (by simp), Below.heap_alloc _ _ _ (by simp), Below.heap_alloc _ _ _ (by simp), Below.heap_alloc _ _ _ (by simp), Below.heap_alloc _ _ _ (by simp), Below.heap_alloc _ _ _ (by simp), Below.heap_alloc _ _ _ (by simp), Below.heap_alloc _ _ _ (by simp), Below.heap_alloc _ _ _ (by simp), Below.heap_alloc _ _ _ (by simp), Below.heap_alloc _ _ _ (by simp)]
  exact heap_atL (by simp)
theorem ringW_9 (w : World) : (ringW w).heap[w.heap.size + 1 + 1 + 1 + 1 + 1 + 1 + 1 + 1 + 1]? = some (.cells #[.int .i64 1, .int .i64 1, .bool false, .int .i64 1, .int .i64 0] 51) := by
  unfold ringW
  rw [Below.heap_alloc _ _ _ (by simp), Below.heap_alloc _ _ _ (by simp), Below.heap_alloc _ _ _ (by simp), Below.heap_alloc _ _ _ (by simp), Below.heap_alloc _ _ _ (by simp), Below.heap_alloc _ _ _ (by simp), Below.heap_alloc _ _ _ (by simp), Below.heap_alloc _ _ _ (by simp), Below.heap_alloc _ _ _ (by simp), Below.heap_alloc _ _ _ (by simp)]
  exact heap_atL (by simp)
theorem ringW_10 (w : World) : (ringW w).heap[w.heap.size + 1 + 1 + 1 + 1 + 1 + 1 + 1 + 1 + 1 + 1]? = some (.cells #[.int .i64 1, .int .i64 1, .bool false, .int .i64 1, .int .i64 0] 51) := by
  unfold ringW
  rw [Below.heap_alloc _ _ _ (by simp), Below.heap_alloc _ _ _ (by simp), Below.heap_alloc _ _ _ (by simp), Below.heap_alloc _ _ _ (by simp), Below.heap_alloc _ _ _ (by simp), Below.heap_alloc _ _ _ (by simp), Below.heap_alloc _ _ _ (by simp), Below.heap_alloc _ _ _ (by simp), Below.heap_alloc _ _ _ (by simp)]
  exact heap_atL (by simp)
theorem ringW_11 (w : World) : (ringW w).heap[w.heap.size + 1 + 1 + 1 + 1 + 1 + 1 + 1 + 1 + 1 + 1 + 1]? = some (.cells #[.int .i64 2, .slice (some ⟨w.heap.size + 1 + 1 + 1 + 1 + 1 + 1 + 1 + 1 + 1 + 1, 0, none⟩) 1 1, .slice none 0 0] 55) := by
  unfold ringW
  rw [Below.heap_alloc _ _ _ (by simp), Below.heap_alloc _ _ _ (by simp), Below.heap_alloc _ _ _ (by simp), Below.heap_alloc _ _ _ (by simp), Below.heap_alloc _ _ _ (by simp), Below.heap_alloc _ _ _ (by simp), Below.heap_alloc _ _ _ (by simp), Below.heap_alloc _ _ _ (by simp)]
  exact heap_atL (by simp)
theorem ringW_12 (w : World) : (ringW w).heap[w.heap.size + 1 + 1 + 1 + 1 + 1 + 1 + 1 + 1 + 1 + 1 + 1 + 1]? = some (.cells #[.int .i64 2, .slice (some ⟨w.heap.size + 1 + 1 + 1 + 1 + 1 + 1 + 1 + 1 + 1 + 1, 0, none⟩) 1 1, .slice none 0 0] 55) := by
  unfold ringW
  rw [Below.heap_alloc _ _ _ (by simp), Below.heap_alloc _ _ _ (by simp), Below.heap_alloc _ _ _ (by simp), Below.heap_alloc _ _ _ (by simp), Below.heap_alloc _ _ _ (by simp), Below.heap_alloc _ _ _ (by simp), Below.heap_alloc _ _ _ (by simp)]
  exact heap_atL (by simp)
theorem ringW_13 (w : World) : (ringW w).heap[w.heap.size + 1 + 1 + 1 + 1 + 1 + 1 + 1 + 1 + 1 + 1 + 1 + 1 + 1]? = some (.cells #[.int .i64 2, .slice none 0 0, .int .i64 3, .slice none 0 0] 46) := by
  unfold ringW
  rw [Below.heap_alloc _ _ _ (by simp), Below.heap_alloc _ _ _ (by simp), Below.heap_alloc _ _ _ (by simp), Below.heap_alloc _ _ _ (by simp), Below.heap_alloc _ _ _ (by simp), Below.heap_alloc _ _ _ (by simp)]
  exact heap_atL (by simp)
theorem ringW_14 (w : World) : (ringW w).heap[w.heap.size + 1 + 1 + 1 + 1 + 1 + 1 + 1 + 1 + 1 + 1 + 1 + 1 + 1 + 1]? = some (.cells #[.int .i64 1, .int .i64 1, .bool false, .int .i64 1, .int .i64 0] 51) := by
  unfold ringW
  rw [Below.heap_alloc _ _ _ (by simp), Below.heap_alloc _ _ _ (by simp), Below.heap_alloc _ _ _ (by simp), Below.heap_alloc _ _ _ (by simp), Below.heap_alloc _ _ _ (by simp)]
  exact heap_atL (by simp)
theorem ringW_15 (w : World) : (ringW w).heap[w.heap.size + 1 + 1 + 1 + 1 + 1 + 1 + 1 + 1 + 1 + 1 + 1 + 1 + 1 + 1 + 1]? = some (.cells #[.int .i64 1, .int .i64 1, .bool false, .int .i64 1, .int .i64 0] 51) := by
  unfold ringW
  rw [Below.heap_alloc _ _ _ (by simp), Below.heap_alloc _ _ _ (by simp), Below.heap_alloc _ _ _ (by simp), Below.heap_alloc _ _ _ (by simp)]
  exact heap_atL (by simp)
theorem ringW_16 (w : World) : (ringW w).heap[w.heap.size + 1 + 1 + 1 + 1 + 1 + 1 + 1 + 1 + 1 + 1 + 1 + 1 + 1 + 1 + 1 + 1]? = some (.cells #[.int .i64 3, .slice (some ⟨w.heap.size + 1 + 1 + 1 + 1 + 1 + 1 + 1 + 1 + 1 + 1 + 1 + 1 + 1 + 1 + 1, 0, none⟩) 1 1, .slice none 0 0] 55) := by
  unfold ringW
  rw [Below.heap_alloc _ _ _ (by simp), Below.heap_alloc _ _ _ (by simp), Below.heap_alloc _ _ _ (by simp)]
  exact heap_atL (by simp)
theorem ringW_17 (w : World) : (ringW w).heap[w.heap.size + 1 + 1 + 1 + 1 + 1 + 1 + 1 + 1 + 1 + 1 + 1 + 1 + 1 + 1 + 1 + 1 + 1]? = some (.cells #[.int .i64 3, .slice (some ⟨w.heap.size + 1 + 1 + 1 + 1 + 1 + 1 + 1 + 1 + 1 + 1 + 1 + 1 + 1 + 1 + 1, 0, none⟩) 1 1, .slice none 0 0] 55) := by
  unfold ringW
  rw [Below.heap_alloc _ _ _ (by simp), Below.heap_alloc _ _ _ (by simp)]
  exact heap_atL (by simp)
theorem ringW_18 (w : World) : (ringW w).heap[w.heap.size + 1 + 1 + 1 + 1 + 1 + 1 + 1 + 1 + 1 + 1 + 1 + 1 + 1 + 1 + 1 + 1 + 1 + 1]? = some (.cells #[.slice none 0 0, .slice (some ⟨w.heap.size + 1 + 1 + 1 + 1 + 1, 0, none⟩) 1 1, .slice (some ⟨w.heap.size + 1 + 1 + 1 + 1 + 1 + 1 + 1, 0, none⟩) 1 1, .slice (some ⟨w.heap.size + 1 + 1 + 1 + 1 + 1 + 1 + 1 + 1, 0, none⟩) 1 1, .slice (some ⟨w.heap.size + 1 + 1 + 1 + 1 + 1 + 1 + 1 + 1 + 1 + 1 + 1 + 1, 0, none⟩) 1 1, .slice (some ⟨w.heap.size + 1 + 1 + 1 + 1 + 1 + 1 + 1 + 1 + 1 + 1 + 1 + 1 + 1, 0, none⟩) 2 2, .slice none 0 0, .slice none 0 0, .slice none 0 0, .slice none 0 0, .slice (some ⟨w.heap.size + 1 + 1 + 1 + 1 + 1 + 1 + 1 + 1 + 1 + 1 + 1 + 1 + 1 + 1 + 1 + 1 + 1, 0, none⟩) 1 1, .slice none 0 0] 44) := by
  unfold ringW
  rw [Below.heap_alloc _ _ _ (by simp)]
  exact heap_atL (by simp)
theorem ringW_19 (w : World) : (ringW w).heap[w.heap.size + 1 + 1 + 1 + 1 + 1 + 1 + 1 + 1 + 1 + 1 + 1 + 1 + 1 + 1 + 1 + 1 + 1 + 1 + 1]? = some (.cells #[.slice (some ⟨w.heap.size + 1, 0, none⟩) 2 2, .slice (some ⟨w.heap.size + 1 + 1 + 1 + 1 + 1 + 1 + 1 + 1 + 1 + 1 + 1 + 1 + 1 + 1 + 1 + 1 + 1 + 1, 0, none⟩) 4 4] 30) := by
  unfold ringW
  exact heap_atL (by simp)

/-- The operands of the body's instruction number k. -/
def rgO (k : Nat) : List Opr := [⟨1, (k : Int) + 1, false, 1, 0⟩, ⟨2, (k : Int) + 2, true, 1, 0⟩]
def rgI (k : Nat) : Ins := ⟨(k : Int) + 4, rgO k, []⟩
def rgX (o : Nat) (k : Nat) : List Value := [.int .i64 ((k : Int) + 4), .slice (some ⟨o, 0, none⟩) 2 2, .slice none 0 0]
def rgXs (ob : Nat → Nat) (i : Nat) : List Value := (List.range i).flatMap fun k => rgX (ob k) k
theorem rgXs_snoc (ob : Nat → Nat) (i o : Nat) : rgXs (fun k => if k = i then o else ob k) (i + 1) = rgXs ob i ++ rgX o i := by
  unfold rgXs
  rw [List.range_succ, List.flatMap_append]
  congr 1
  · simp only [List.flatMap_def]
    congr 1
    refine List.map_congr_left fun k hk => ?_
    have : k < i := List.mem_range.1 hk
    rw [if_neg (by omega)]
  · simp [rgX]

structure ObOkR (wr : World) (M : Nat) (vv vi : Value) (ob : Nat → Nat) (k : Nat) : Prop where
  base : M + 1 + 1 + 1 + 1 + 1 + 1 + 1 + 1 + 1 + 1 + 1 + 1 + 1 + 1 + 1 + 1 + 1 + 1 + 1 + 1 ≤ ob k
  lt : ob k < wr.heap.size
  nv : vv.ownBlock ≠ some (ob k)
  ni : vi.ownBlock ≠ some (ob k)
  blk : wr.heap[ob k]? = some (.cells ((rgO k).flatMap cO).toArray 51)
/-- The twelve cells of ring's blocks. -/
def rgL (M : Nat) (p0 i1 vi e2 : Value) : List Value := [p0, .slice (some ⟨M + 1 + 1 + 1 + 1 + 1, 0, none⟩) 1 1, .slice (some ⟨M + 1 + 1 + 1 + 1 + 1 + 1 + 1, 0, none⟩) 1 1, .slice (some ⟨M + 1 + 1 + 1 + 1 + 1 + 1 + 1 + 1, 0, none⟩) 1 1, i1, .slice (some ⟨M + 1 + 1 + 1 + 1 + 1 + 1 + 1 + 1 + 1 + 1 + 1 + 1 + 1, 0, none⟩) 2 2, .slice none 0 0, vi, e2, .slice none 0 0, .slice (some ⟨M + 1 + 1 + 1 + 1 + 1 + 1 + 1 + 1 + 1 + 1 + 1 + 1 + 1 + 1 + 1 + 1 + 1, 0, none⟩) 1 1, .slice none 0 0]
structure RingSt (M nv ni : Nat) (vv vi : Value) (ob : Nat → Nat) (W0 wr : World) : Prop where
  r1 : wr.rowIs (M + 1 + 1 + 1 + 1 + 1 + 1 + 1 + 1 + 1 + 1 + 1 + 1 + 1 + 1 + 1 + 1 + 1 + 1) 44 12 (fun q => (rgL M (.slice none 0 0) (.slice (some ⟨M + 1 + 1 + 1 + 1 + 1 + 1 + 1 + 1 + 1 + 1 + 1 + 1, 0, none⟩) 1 1) vi (.slice none 0 0)).getD q undef)
  r2 : wr.rowIs (M + 1 + 1 + 1 + 1 + 1 + 1 + 1 + 1 + 1 + 1 + 1 + 1 + 1 + 1 + 1 + 1 + 1 + 1 + 1) 30 2 (fun q => if q = 0 then vv else .slice (some ⟨M + 1 + 1 + 1 + 1 + 1 + 1 + 1 + 1 + 1 + 1 + 1 + 1 + 1 + 1 + 1 + 1 + 1 + 1, 0, none⟩) 4 4)
  ov : wr.ownsRow (M + 1) 3 1 vv nv ((List.replicate nv (0 : Int)).flatMap cI)
  oi : wr.ownsRow (M + 1 + 1 + 1 + 1 + 1 + 1 + 1 + 1 + 1 + 1 + 1 + 1 + 1 + 1 + 1 + 1 + 1 + 1 + 1 + 1) 55 3 vi ni (rgXs ob ni)
  nvb : ∀ b, vv.ownBlock = some b → b = M + 1 ∨ M + 1 + 1 + 1 + 1 + 1 + 1 + 1 + 1 + 1 + 1 + 1 + 1 + 1 + 1 + 1 + 1 + 1 + 1 + 1 + 1 ≤ b
  ap : apartW vv vi
  st : ∀ b, M + 1 + 1 ≤ b → b ≤ M + 1 + 1 + 1 + 1 + 1 + 1 + 1 + 1 + 1 + 1 + 1 + 1 + 1 + 1 + 1 + 1 + 1 → wr.heap[b]? = W0.heap[b]?
  obs : ∀ k, k < ni → ObOkR wr M vv vi ob k
  inj : ∀ j k, j < ni → k < ni → ob j = ob k → j = k

theorem RingSt.below {M nv ni : Nat} {vv vi : Value} {ob : Nat → Nat} {W0 wr w' : World} (h : RingSt M nv ni vv vi ob W0 wr) (hb : Below wr.heap.size wr w') : RingSt M nv ni vv vi ob W0 w' := by
  have kept := hb.block
  have lF := h.r2.lt
  refine ⟨h.r1.of_block (kept _ h.r1.lt), h.r2.of_block (kept _ h.r2.lt), own_keep h.ov fun g _ _ hl => kept g hl, own_keep h.oi fun g _ _ hl => kept g hl, h.nvb, h.ap, fun b h2 h17 => (kept b (by omega)).trans (h.st b h2 h17), fun k hk => ?_, h.inj⟩
  have o := h.obs k hk
  exact ⟨o.base, Nat.lt_of_lt_of_le o.lt hb.size, o.nv, o.ni, (kept _ o.lt).trans o.blk⟩

theorem ringSt0 (w : World) : RingSt w.heap.size 2 0 (.slice (some ⟨w.heap.size + 1, 0, none⟩) 2 2) (.slice none 0 0) (fun _ => 0) (ringW w) (ringW w) := by
  refine ⟨⟨_, ringW_18 w, rfl, fun q hq => ?_⟩, ⟨_, ringW_19 w, rfl, fun q hq => ?_⟩, ⟨rfl, Or.inr ⟨w.heap.size + 1, 2, _, rfl, Nat.le_refl _, ringW_1 w, by omega, by unfold maxLen; omega, rfl, rfl⟩⟩, World.ownsRow_nil _ _ _ _, fun b hb => Or.inl (by simp [Value.ownBlock] at hb; exact hb.symm), fun g h => by simp [Value.ownBlock], fun b _ _ => rfl, fun k hk => absurd hk (by omega), fun j k hj => absurd hj (by omega)⟩
  · match q, hq with | 0, _ => rfl | 1, _ => rfl | 2, _ => rfl | 3, _ => rfl | 4, _ => rfl | 5, _ => rfl | 6, _ => rfl | 7, _ => rfl | 8, _ => rfl | 9, _ => rfl | 10, _ => rfl | 11, _ => rfl
  · match q, hq with | 0, _ => rfl | 1, _ => rfl

/-- A write to a block ahead of all that. -/
theorem RingSt.after {M nv ni : Nat} {vv vi : Value} {ob : Nat → Nat} {W0 wr w' : World} (h : RingSt M nv ni vv vi ob W0 wr) (B : Nat) (hB : B < M + 1) (hB' : B < wr.heap.size) (hz : wr.heap.size ≤ w'.heap.size) (hk : ∀ b, b ≠ B → w'.heap[b]? = wr.heap[b]?) : RingSt M nv ni vv vi ob W0 w' := by
  refine ⟨h.r1.of_block (hk _ (by omega)), h.r2.of_block (hk _ (by omega)), own_keep h.ov fun g _ hb _ => hk g (by omega), own_keep h.oi fun g _ hb _ => hk g (by omega), h.nvb, h.ap, fun b h2 h17 => (hk b (by omega)).trans (h.st b h2 h17), fun k hk' => ?_, h.inj⟩
  have o := h.obs k hk'
  exact ⟨o.base, Nat.lt_of_lt_of_le o.lt hz, o.nv, o.ni, (hk _ (by have := o.base; omega)).trans o.blk⟩

/-- One value more. -/
theorem RingSt.vals {M nv ni : Nat} {vv vi : Value} {ob : Nat → Nat} {W0 wr w1 : World} (h : RingSt M nv ni vv vi ob W0 wr) {o : Obj} {g cap : Nat}
    (hown : w1.ownsRow (M + 1) 3 1 (.slice (some ⟨g, 0, none⟩) (nv + 1) cap) (nv + 1) ((List.replicate nv (0 : Int)).flatMap cI ++ [.int .i64 0]))
    (hgrow : (wr.alloc o).grownBy w1 vv.ownBlock) (hat : vv.ownBlock = some g ∨ g = wr.heap.size + 1) :
    w1.rowIs (M + 1 + 1 + 1 + 1 + 1 + 1 + 1 + 1 + 1 + 1 + 1 + 1 + 1 + 1 + 1 + 1 + 1 + 1 + 1) 30 2 (fun q => if q = 0 then vv else .slice (some ⟨M + 1 + 1 + 1 + 1 + 1 + 1 + 1 + 1 + 1 + 1 + 1 + 1 + 1 + 1 + 1 + 1 + 1 + 1, 0, none⟩) 4 4) ∧ RingSt M (nv + 1) ni (.slice (some ⟨g, 0, none⟩) (nv + 1) cap) vi ob W0 (w1.setCell ⟨M + 1 + 1 + 1 + 1 + 1 + 1 + 1 + 1 + 1 + 1 + 1 + 1 + 1 + 1 + 1 + 1 + 1 + 1 + 1, 0, none⟩ (.slice (some ⟨g, 0, none⟩) (nv + 1) cap)) := by
  have lF := h.r2.lt
  have kept : ∀ b, b < wr.heap.size → some b ≠ vv.ownBlock → w1.heap[b]? = wr.heap[b]? := fun b hb hne => (hgrow.block b (by simp; omega) hne).trans (Below.heap_alloc _ _ _ hb)
  have far : ∀ b, M + 1 + 1 ≤ b → b < M + 1 + 1 + 1 + 1 + 1 + 1 + 1 + 1 + 1 + 1 + 1 + 1 + 1 + 1 + 1 + 1 + 1 + 1 + 1 + 1 → some b ≠ vv.ownBlock := fun b hb hb' e => by have := h.nvb b e.symm; omega
  have hz := hgrow.size
  simp at hz
  have k1 := h.r1.of_block (kept (M + 1 + 1 + 1 + 1 + 1 + 1 + 1 + 1 + 1 + 1 + 1 + 1 + 1 + 1 + 1 + 1 + 1 + 1) h.r1.lt (far _ (by omega) (by omega)))
  have k2 := h.r2.of_block (kept (M + 1 + 1 + 1 + 1 + 1 + 1 + 1 + 1 + 1 + 1 + 1 + 1 + 1 + 1 + 1 + 1 + 1 + 1 + 1) h.r2.lt (far _ (by omega) (by omega)))
  have ni' : w1.ownsRow (M + 1 + 1 + 1 + 1 + 1 + 1 + 1 + 1 + 1 + 1 + 1 + 1 + 1 + 1 + 1 + 1 + 1 + 1 + 1 + 1) 55 3 vi ni (rgXs ob ni) := own_keep h.oi fun b hx hb hlt => kept b hlt fun e => h.ap b e.symm hx
  have avi : ∀ b, vi.ownBlock = some b → b ≠ g := fun b hx e => by
    subst e
    rcases hat with hat | hat
    · exact h.ap b hat hx
    · have := own_base h.oi hx; omega
  have hgb : g = M + 1 ∨ M + 1 + 1 + 1 + 1 + 1 + 1 + 1 + 1 + 1 + 1 + 1 + 1 + 1 + 1 + 1 + 1 + 1 + 1 + 1 + 1 ≤ g := by
    rcases hat with hat | hat
    · exact h.nvb g hat
    · omega
  have nn : w1.ownsRow (M + 1) 3 1 (.slice (some ⟨g, 0, none⟩) (nv + 1) cap) (nv + 1) ((List.replicate (nv + 1) (0 : Int)).flatMap cI) := by rw [rep_snoc0]; exact hown
  have hst : ∀ b, b ≠ M + 1 + 1 + 1 + 1 + 1 + 1 + 1 + 1 + 1 + 1 + 1 + 1 + 1 + 1 + 1 + 1 + 1 + 1 + 1 → (w1.setCell ⟨M + 1 + 1 + 1 + 1 + 1 + 1 + 1 + 1 + 1 + 1 + 1 + 1 + 1 + 1 + 1 + 1 + 1 + 1 + 1, 0, none⟩ (.slice (some ⟨g, 0, none⟩) (nv + 1) cap)).heap[b]? = w1.heap[b]? := fun b hh => Below.heap_setCell _ _ _ _ hh
  refine ⟨k2, k1.setOther (by show M + 1 + 1 + 1 + 1 + 1 + 1 + 1 + 1 + 1 + 1 + 1 + 1 + 1 + 1 + 1 + 1 + 1 + 1 ≠ M + 1 + 1 + 1 + 1 + 1 + 1 + 1 + 1 + 1 + 1 + 1 + 1 + 1 + 1 + 1 + 1 + 1 + 1 + 1; omega) _, (k2.set 0 _).congr fun q hq => by match q, hq with | 0, _ => rfl | 1, _ => rfl, own_keep nn fun b hx hb _ => hst b (by simp [Value.ownBlock] at hx; omega), own_keep ni' fun b _ hb _ => hst b (by omega), (fun b hx => by simp [Value.ownBlock] at hx; subst hx; exact hgb), (fun b hx => by simp [Value.ownBlock] at hx; intro hy; exact avi b hy hx.symm), fun b h2 h17 => (hst b (by omega)).trans ((kept b (by omega) (far b h2 (by omega))).trans (h.st b h2 h17)), fun k hk => ?_, h.inj⟩
  have o := h.obs k hk
  have ob' := o.base
  refine ⟨o.base, by have := o.lt; simp; omega, ?_, o.ni, (hst _ (by omega)).trans ((kept _ o.lt (Ne.symm o.nv)).trans o.blk)⟩
  simp [Value.ownBlock]
  intro e
  rcases hat with hat | hat
  · exact o.nv (by rw [hat, e])
  · have := o.lt; omega

/-- One instruction more. -/
theorem RingSt.instr {M nv ni o : Nat} {vv vi : Value} {ob : Nat → Nat} {W0 wr wa w1 : World} (h : RingSt M nv ni vv vi ob W0 wr) (ho : M + 1 + 1 + 1 + 1 + 1 + 1 + 1 + 1 + 1 + 1 + 1 + 1 + 1 + 1 + 1 + 1 + 1 + 1 + 1 + 1 ≤ o) (hol : o < wa.heap.size) (hov : vv.ownBlock ≠ some o) (hoi : vi.ownBlock ≠ some o) (hob : ∀ k, k < ni → ob k ≠ o) (hoc : wa.heap[o]? = some (.cells ((rgO ni).flatMap cO).toArray 51))
    {g cap : Nat} (hown : w1.ownsRow (M + 1 + 1 + 1 + 1 + 1 + 1 + 1 + 1 + 1 + 1 + 1 + 1 + 1 + 1 + 1 + 1 + 1 + 1 + 1 + 1) 55 3 (.slice (some ⟨g, 0, none⟩) (ni + 1) cap) (ni + 1) (rgXs ob ni ++ rgX o ni))
    (hwa : Below wr.heap.size wr wa) (hgrow : wa.grownBy w1 vi.ownBlock) (hat : vi.ownBlock = some g ∨ wa.heap.size ≤ g) :
    RingSt M nv (ni + 1) vv (.slice (some ⟨g, 0, none⟩) (ni + 1) cap) (fun k => if k = ni then o else ob k) W0 (w1.setCell ⟨M + 1 + 1 + 1 + 1 + 1 + 1 + 1 + 1 + 1 + 1 + 1 + 1 + 1 + 1 + 1 + 1 + 1 + 1, 7, none⟩ (.slice (some ⟨g, 0, none⟩) (ni + 1) cap)) := by
  have lF := h.r2.lt
  have hza := hwa.size
  have hz := hgrow.size
  have kept : ∀ b, b < wr.heap.size → some b ≠ vi.ownBlock → w1.heap[b]? = wr.heap[b]? := fun b hb hne => (hgrow.block b (by omega) hne).trans (hwa.block b hb)
  have far : ∀ b, b < M + 1 + 1 + 1 + 1 + 1 + 1 + 1 + 1 + 1 + 1 + 1 + 1 + 1 + 1 + 1 + 1 + 1 + 1 + 1 + 1 → some b ≠ vi.ownBlock := fun b hb e => by have := own_base h.oi e.symm; omega
  have k1 := h.r1.of_block (kept (M + 1 + 1 + 1 + 1 + 1 + 1 + 1 + 1 + 1 + 1 + 1 + 1 + 1 + 1 + 1 + 1 + 1 + 1) h.r1.lt (far _ (by omega)))
  have k2 := h.r2.of_block (kept (M + 1 + 1 + 1 + 1 + 1 + 1 + 1 + 1 + 1 + 1 + 1 + 1 + 1 + 1 + 1 + 1 + 1 + 1 + 1) h.r2.lt (far _ (by omega)))
  have nv' : w1.ownsRow (M + 1) 3 1 vv nv ((List.replicate nv (0 : Int)).flatMap cI) := own_keep h.ov fun b hx hb hlt => kept b hlt fun e => h.ap b hx e.symm
  have avv : ∀ b, vv.ownBlock = some b → b ≠ g := fun b hx e => by
    subst e
    rcases hat with hat | hat
    · exact h.ap b hx hat
    · have := own_base h.ov hx; omega
  have nn : w1.ownsRow (M + 1 + 1 + 1 + 1 + 1 + 1 + 1 + 1 + 1 + 1 + 1 + 1 + 1 + 1 + 1 + 1 + 1 + 1 + 1 + 1) 55 3 (.slice (some ⟨g, 0, none⟩) (ni + 1) cap) (ni + 1) (rgXs (fun k => if k = ni then o else ob k) (ni + 1)) := by rw [rgXs_snoc]; exact hown
  have hst : ∀ b, b ≠ M + 1 + 1 + 1 + 1 + 1 + 1 + 1 + 1 + 1 + 1 + 1 + 1 + 1 + 1 + 1 + 1 + 1 + 1 → (w1.setCell ⟨M + 1 + 1 + 1 + 1 + 1 + 1 + 1 + 1 + 1 + 1 + 1 + 1 + 1 + 1 + 1 + 1 + 1 + 1, 7, none⟩ (.slice (some ⟨g, 0, none⟩) (ni + 1) cap)).heap[b]? = w1.heap[b]? := fun b hh => Below.heap_setCell _ _ _ _ hh
  have ong : ∀ b, b < wa.heap.size → vi.ownBlock ≠ some b → g ≠ b := fun b hb hne e => by
    rcases hat with hat | hat
    · exact hne (by rw [hat, e])
    · omega
  refine ⟨(k1.set 7 _).congr fun q hq => by match q, hq with | 0, _ => rfl | 1, _ => rfl | 2, _ => rfl | 3, _ => rfl | 4, _ => rfl | 5, _ => rfl | 6, _ => rfl | 7, _ => rfl | 8, _ => rfl | 9, _ => rfl | 10, _ => rfl | 11, _ => rfl, k2.setOther (by show M + 1 + 1 + 1 + 1 + 1 + 1 + 1 + 1 + 1 + 1 + 1 + 1 + 1 + 1 + 1 + 1 + 1 + 1 + 1 ≠ M + 1 + 1 + 1 + 1 + 1 + 1 + 1 + 1 + 1 + 1 + 1 + 1 + 1 + 1 + 1 + 1 + 1 + 1; omega) _, own_keep nv' fun b hx hb _ => hst b (by have := h.nvb b hx; omega), own_keep nn fun b _ hb _ => hst b (by omega), h.nvb, (fun b hx => by simp [Value.ownBlock]; intro e; exact avv b hx e.symm), fun b h2 h17 => (hst b (by omega)).trans ((kept b (by omega) (far b (by omega))).trans (h.st b h2 h17)), fun k hk => ?_, fun j k hj hk e => ?_⟩
  · by_cases hkn : k = ni
    · subst hkn
      exact ⟨by simpa using ho, by simp; omega, by simpa using hov, by simpa [Value.ownBlock] using ong o hol hoi, by simpa using (hst _ (by omega)).trans ((hgrow.block o hol (Ne.symm hoi)).trans hoc)⟩
    · have q := h.obs k (by omega)
      have qb := q.base
      have ql := q.lt
      exact ⟨by simpa [hkn] using q.base, by simp [hkn]; omega, by simpa [hkn] using q.nv, by simpa [hkn, Value.ownBlock] using ong _ (by omega) q.ni, by simpa [hkn] using (hst _ (by omega)).trans ((kept _ q.lt (Ne.symm q.ni)).trans q.blk)⟩
  · by_cases hj' : j = ni <;> by_cases hk' : k = ni
    · omega
    · simp [hj', hk'] at e; exact absurd e.symm (hob k (by omega))
    · simp [hj', hk'] at e; exact absurd e (hob j (by omega))
    · simp [hj', hk'] at e; exact h.inj j k (by omega) (by omega) e

/-- How ring ends: an edge from the body back to the head; the function itself lies in the result. -/
structure RingFin (M n eb ab : Nat) (wr w' : World) : Prop where
  lt : wr.heap.size ≤ ab ∧ ab < eb ∧ eb < w'.heap.size
  r1 : ∃ vi, wr.cell? ⟨M + 1 + 1 + 1 + 1 + 1 + 1 + 1 + 1 + 1 + 1 + 1 + 1 + 1 + 1 + 1 + 1 + 1 + 1, 7, none⟩ = some vi ∧ w'.rowIs (M + 1 + 1 + 1 + 1 + 1 + 1 + 1 + 1 + 1 + 1 + 1 + 1 + 1 + 1 + 1 + 1 + 1 + 1) 44 12 (fun q => (rgL M (.slice none 0 0) (.slice (some ⟨M + 1 + 1 + 1 + 1 + 1 + 1 + 1 + 1 + 1 + 1 + 1 + 1, 0, none⟩) 1 1) vi (.slice (some ⟨eb, 0, none⟩) 1 1)).getD q undef)
  rE : w'.rowIs eb 46 2 (fun q => if q = 0 then .int .i64 1 else .slice (some ⟨ab, 0, none⟩) 1 1)
  rA : w'.rowIs ab 3 1 (fun _ => .int .i64 ((n : Int) + 1))
  kept : ∀ b, b < wr.heap.size → b ≠ M + 1 + 1 + 1 + 1 + 1 + 1 + 1 + 1 + 1 + 1 + 1 + 1 + 1 + 1 + 1 + 1 + 1 + 1 → b ≠ M → w'.heap[b]? = wr.heap[b]?
end Go.Proofs.Ytdlnofjmonpmgaa
namespace Go.Proofs.Ytdlnofjmonpmgaa
open Go.RowKit
set_option linter.unusedVariables false

set_option maxHeartbeats 8000000 in
theorem ring_any (n : Nat) (w : World) (hn : n ≤ 1000) :
    Calls Try.prog 13 #[.int .i64 n] w fun e w' => ∃ (vv vi : Value) (ob : Nat → Nat) (eb ab : Nat) (wr : World), e = .returned (.agg #[vv, .slice (some ⟨w.heap.size + 1 + 1 + 1 + 1 + 1 + 1 + 1 + 1 + 1 + 1 + 1 + 1 + 1 + 1 + 1 + 1 + 1 + 1, 0, none⟩) 4 4]) ∧ RingSt w.heap.size (n + 2) n vv vi ob (ringW w) wr ∧ RingFin w.heap.size n eb ab wr w' ∧ Below w.heap.size w w' := by
  obtain ⟨i3, hi3, hz3, hz31, hz32⟩ := info_parts infoI3
  obtain ⟨i30, hi30, hz30, hz301, hz302⟩ := info_parts infoIn
  go_enter Try.func13, Try.ntmps13
  go_wp2_with (first
        | (go_at_call 30; refine (def_any _ _).mono ?_; rintro e w' ⟨rfl, rfl⟩)
        | (go_at_call 17; refine (use_any _ _).mono ?_; rintro e w' ⟨rfl, rfl⟩)
        | (go_at_call 16; refine (op_any _ _ _ _ _).mono ?_; rintro e w' ⟨rfl, rfl⟩))
  go_loopw [4, 5] (fun v t wr => ∃ (i : Nat) (vv vi : Value) (ob : Nat → Nat), i ≤ n ∧ v = .int .i64 ((i : Int) + 1) ∧ t = .int .i64 i ∧ RingSt w.heap.size (i + 2) i vv vi ob (ringW w) wr ∧ Below (w.heap.size + 1) (w.alloc (.cells #[.slice none 0 0, .slice none 0 0] 30)) wr) (fun _ t _ => n - (intOf t).toNat)
  case atStart => exact ⟨0, _, _, _, Nat.zero_le _, rfl, rfl, ringSt0 w, ringW_below w⟩
  case round =>
    obtain ⟨i, vv, vi, ob, hi, rfl, rfl, hS, hbr⟩ := hrel
    have hz0 := hS.r2.lt
    by_cases hlt : i < n
    · have o1 := hS.ov
      have c20 : wr.cell? ⟨w.heap.size + 1 + 1 + 1 + 1 + 1 + 1 + 1 + 1 + 1 + 1 + 1 + 1 + 1 + 1 + 1 + 1 + 1 + 1 + 1, 0, none⟩ = some vv := hS.r2.cell (i := 0) (by omega)
      have oA := o1.alloc (.cells #[.int .i64 0] 3)
      go_wp2_with (at_builtin; go_must (refine wpList_append_lies _ rfl _ _ 27 rfl (w.heap.size + 1) 3 i3 (.int .i64 0) 1 8 Try.underlying27 hi3 hz3 hz31 hz32 rfl (by omega) vv (i + 2) _ (by rfl) oA ⟨wr.heap.size, 0, none⟩ 1 1 [.int .i64 0] (by rfl) (by rfl) ?c1 ?c2 (by omega) ?c3 ?c4 ?c5 (wr.heap.size + 1) ?c6 ?_))
      case c1 => exact newsL rfl
      case c2 => intro u hu; simp at hu; subst hu; rfl
      case c3 => unfold maxLen; omega
      case c4 => omega
      case c5 => simp; omega
      case c6 => simp
      intro g cap wb hown hgrow hat hgl
      obtain ⟨q2, hS1⟩ := hS.vals hown hgrow hat
      have hzb := hgrow.size
      simp at hzb
      have f2 := q2.frozen 0
      have x2 : wb.cell? ⟨w.heap.size + 1 + 1 + 1 + 1 + 1 + 1 + 1 + 1 + 1 + 1 + 1 + 1 + 1 + 1 + 1 + 1 + 1 + 1 + 1, 0, none⟩ = some vv := q2.cell (i := 0) (by omega)
      have hbb : Below (w.heap.size + 1) _ wb := (hbr.alloc (by omega) _).grown hgrow (by simp; omega) (fun h hh => by have := own_base o1 hh; omega)
      have hbs : Below (w.heap.size + 1) _ (wb.setCell ⟨w.heap.size + 1 + 1 + 1 + 1 + 1 + 1 + 1 + 1 + 1 + 1 + 1 + 1 + 1 + 1 + 1 + 1 + 1 + 1 + 1, 0, none⟩ (.slice (some ⟨g, 0, none⟩) (i + 2 + 1) cap)) := hbb.setCell (by simp <;> omega) _
      obtain ⟨wc, hwc⟩ : ∃ wc, wc = wb.setCell ⟨w.heap.size + 1 + 1 + 1 + 1 + 1 + 1 + 1 + 1 + 1 + 1 + 1 + 1 + 1 + 1 + 1 + 1 + 1 + 1 + 1, 0, none⟩ (.slice (some ⟨g, 0, none⟩) (i + 2 + 1) cap) := ⟨_, rfl⟩
      have hzc : wc.heap.size = wb.heap.size := by rw [hwc]; simp
      have HC : Hid (wc = wb.setCell ⟨w.heap.size + 1 + 1 + 1 + 1 + 1 + 1 + 1 + 1 + 1 + 1 + 1 + 1 + 1 + 1 + 1 + 1 + 1 + 1 + 1, 0, none⟩ (.slice (some ⟨g, 0, none⟩) (i + 2 + 1) cap)) := hwc
      rw [← hwc] at hS1 hbs
      clear hwc hzc oA hown hgrow c20
      have hz1 := hS1.r2.lt
      go_upto_region 7 with fail
      rw [← HC.out]
      clear q2 f2 x2 hbb HC
      have own := hS1.oi
      have b1 : wc.cell? ⟨w.heap.size + 1 + 1 + 1 + 1 + 1 + 1 + 1 + 1 + 1 + 1 + 1 + 1 + 1 + 1 + 1 + 1 + 1 + 1, 7, none⟩ = some vi := hS1.r1.cell (i := 7) (by omega)
      have zb := hS1.r1.frozen 7
      have f0 : wc.cell? ⟨w.heap.size + 1 + 1 + 1 + 1 + 1 + 1 + 1 + 1 + 1 + 1 + 1 + 1 + 1 + 1 + 1 + 1 + 1 + 1 + 1, 0, none⟩ = some (.slice (some ⟨g, 0, none⟩) (i + 2 + 1) cap) := hS1.r2.cell (i := 0) (by omega)
      have f1 : wc.cell? ⟨w.heap.size + 1 + 1 + 1 + 1 + 1 + 1 + 1 + 1 + 1 + 1 + 1 + 1 + 1 + 1 + 1 + 1 + 1 + 1 + 1, 1, none⟩ = some (.slice (some ⟨w.heap.size + 1 + 1 + 1 + 1 + 1 + 1 + 1 + 1 + 1 + 1 + 1 + 1 + 1 + 1 + 1 + 1 + 1 + 1, 0, none⟩) 4 4) := hS1.r2.cell (i := 1) (by omega)
      have lB := hS1.r1.lt
      have nB : some (w.heap.size + 1 + 1 + 1 + 1 + 1 + 1 + 1 + 1 + 1 + 1 + 1 + 1 + 1 + 1 + 1 + 1 + 1 + 1) ≠ vi.ownBlock := fun e => by have := own_base own e.symm; omega
      have nF : some (w.heap.size + 1 + 1 + 1 + 1 + 1 + 1 + 1 + 1 + 1 + 1 + 1 + 1 + 1 + 1 + 1 + 1 + 1 + 1 + 1) ≠ vi.ownBlock := fun e => by have := own_base own e.symm; omega
      have nO : vi.ownBlock ≠ some (wc.heap.size + 1 + 1) := fun e => by have := own_base own e; omega
      have nV : (Value.slice (some ⟨g, 0, none⟩) (i + 2 + 1) cap).ownBlock ≠ some (wc.heap.size + 1 + 1) := fun e => by have := own_base hS1.ov e; omega
      have nOb : ∀ k, k < i → ob k ≠ wc.heap.size + 1 + 1 := fun k hk e => by have := (hS1.obs k hk).lt; omega
      obtain ⟨wn, hwn⟩ : ∃ wn, wn = (((((wc.alloc (.cells #[.int .i64 1, .int .i64 ((i : Int) + 1), .bool false, .int .i64 1, .int .i64 0] 51)).alloc (.cells #[.int .i64 2, .int .i64 ((i : Int) + 2), .bool true, .int .i64 1, .int .i64 0] 51)).alloc (.cells #[.int .i64 1, .int .i64 ((i : Int) + 1), .bool false, .int .i64 1, .int .i64 0, .int .i64 2, .int .i64 ((i : Int) + 2), .bool true, .int .i64 1, .int .i64 0] 51)).alloc (.cells #[.int .i64 ((i : Int) + 4), .slice (some ⟨wc.heap.size + 1 + 1, 0, none⟩) 2 2, .slice none 0 0] 55)).alloc (.cells #[.int .i64 ((i : Int) + 4), .slice (some ⟨wc.heap.size + 1 + 1, 0, none⟩) 2 2, .slice none 0 0] 55)) := ⟨_, rfl⟩
      have zn : wn.heap.size = wc.heap.size + 1 + 1 + 1 + 1 + 1 := by rw [hwn]; simp
      have hbn : Below wc.heap.size wc wn := by
        rw [hwn]
        refine Below.alloc (Below.alloc (Below.alloc (Below.alloc (Below.alloc (Below.refl _ _) ?_ _) ?_ _) ?_ _) ?_ _) ?_ _ <;> simp <;> omega
      have hoc : wn.heap[wc.heap.size + 1 + 1]? = some (.cells ((rgO i).flatMap cO).toArray 51) := by
        rw [hwn, Below.heap_alloc _ _ _ (by simp), Below.heap_alloc _ _ _ (by simp)]
        exact heap_atL (by simp)
      have hon : wn.heap[wc.heap.size + 1 + 1 + 1 + 1]? = some (.cells #[.int .i64 ((i : Int) + 4), .slice (some ⟨wc.heap.size + 1 + 1, 0, none⟩) 2 2, .slice none 0 0] 55) := by
        rw [hwn]
        exact heap_atL (by simp)
      have HN : Hid (∀ j u, ([.int .i64 ((i : Int) + 4), .slice (some ⟨wc.heap.size + 1 + 1, 0, none⟩) 2 2, .slice none 0 0] : List Value)[j]? = some u → wn.drew.cell? ((⟨wc.heap.size + 1 + 1 + 1 + 1, 0, none⟩ : Addr).add j) = some u) := World.news_of_block (cs := #[.int .i64 ((i : Int) + 4), .slice (some ⟨wc.heap.size + 1 + 1, 0, none⟩) 2 2, .slice none 0 0]) (t := 55) (fr := (0, 0)) hon
      have hSn := hS1.below hbn
      have oA : wn.drew.ownsRow (w.heap.size + 1 + 1 + 1 + 1 + 1 + 1 + 1 + 1 + 1 + 1 + 1 + 1 + 1 + 1 + 1 + 1 + 1 + 1 + 1 + 1) 55 3 vi i (rgXs ob i) := hSn.oi.drew
      have cB : wn.drew.cell? ⟨w.heap.size + 1 + 1 + 1 + 1 + 1 + 1 + 1 + 1 + 1 + 1 + 1 + 1 + 1 + 1 + 1 + 1 + 1 + 1, 7, none⟩ = some vi := hSn.r1.cell (i := 7) (by omega)
      have cZ : wn.drew.frozen? ⟨w.heap.size + 1 + 1 + 1 + 1 + 1 + 1 + 1 + 1 + 1 + 1 + 1 + 1 + 1 + 1 + 1 + 1 + 1 + 1, 7, none⟩ = false := hSn.r1.frozen 7
      have cF0 : wn.drew.cell? ⟨w.heap.size + 1 + 1 + 1 + 1 + 1 + 1 + 1 + 1 + 1 + 1 + 1 + 1 + 1 + 1 + 1 + 1 + 1 + 1 + 1, 0, none⟩ = some (.slice (some ⟨g, 0, none⟩) (i + 2 + 1) cap) := hSn.r2.cell (i := 0) (by omega)
      have cF1 : wn.drew.cell? ⟨w.heap.size + 1 + 1 + 1 + 1 + 1 + 1 + 1 + 1 + 1 + 1 + 1 + 1 + 1 + 1 + 1 + 1 + 1 + 1 + 1, 1, none⟩ = some (.slice (some ⟨w.heap.size + 1 + 1 + 1 + 1 + 1 + 1 + 1 + 1 + 1 + 1 + 1 + 1 + 1 + 1 + 1 + 1 + 1 + 1, 0, none⟩) 4 4) := hSn.r2.cell (i := 1) (by omega)
      have lB' : (w.heap.size + 1 + 1 + 1 + 1 + 1 + 1 + 1 + 1 + 1 + 1 + 1 + 1 + 1 + 1 + 1 + 1 + 1 + 1) < wn.drew.heap.size := by simp; omega
      have lF' : (w.heap.size + 1 + 1 + 1 + 1 + 1 + 1 + 1 + 1 + 1 + 1 + 1 + 1 + 1 + 1 + 1 + 1 + 1 + 1 + 1) < wn.drew.heap.size := by simp; omega
      have h1c : ∀ u ∈ ([.int .i64 ((i : Int) + 4), .slice (some ⟨wc.heap.size + 1 + 1, 0, none⟩) 2 2, .slice none 0 0] : List Value), u.oneCell' = true := by intro u hu; simp at hu; rcases hu with rfl | rfl | rfl <;> rfl
      have HI : Hid (RingSt w.heap.size (i + 2 + 1) i (.slice (some ⟨g, 0, none⟩) (i + 2 + 1) cap) vi ob (ringW w) wc) := hS1
      have HO : Hid (wn.heap[wc.heap.size + 1 + 1]? = some (.cells ((rgO i).flatMap cO).toArray 51)) := hoc
      have HBN : Hid (Below wc.heap.size wc wn) := hbn
      have HZN : Hid (wn.heap.size = wc.heap.size + 1 + 1 + 1 + 1 + 1) := zn
      have HWN : Hid (wn = (((((wc.alloc (.cells #[.int .i64 1, .int .i64 ((i : Int) + 1), .bool false, .int .i64 1, .int .i64 0] 51)).alloc (.cells #[.int .i64 2, .int .i64 ((i : Int) + 2), .bool true, .int .i64 1, .int .i64 0] 51)).alloc (.cells #[.int .i64 1, .int .i64 ((i : Int) + 1), .bool false, .int .i64 1, .int .i64 0, .int .i64 2, .int .i64 ((i : Int) + 2), .bool true, .int .i64 1, .int .i64 0] 51)).alloc (.cells #[.int .i64 ((i : Int) + 4), .slice (some ⟨wc.heap.size + 1 + 1, 0, none⟩) 2 2, .slice none 0 0] 55)).alloc (.cells #[.int .i64 ((i : Int) + 4), .slice (some ⟨wc.heap.size + 1 + 1, 0, none⟩) 2 2, .slice none 0 0] 55))) := hwn
      have Hbn' : Hid (Below (w.heap.size + 1) (w.alloc (.cells #[.slice none 0 0, .slice none 0 0] 30)) wn) := hbs.trans (hbn.mono (by omega))
      have HS : Hid (∀ w', Below wc.heap.size wc w' → w'.cell? ⟨w.heap.size + 1 + 1 + 1 + 1 + 1 + 1 + 1 + 1 + 1 + 1 + 1 + 1 + 1 + 1 + 1 + 1 + 1 + 1 + 1, 0, none⟩ = some (.slice (some ⟨g, 0, none⟩) (i + 2 + 1) cap) ∧ w'.cell? ⟨w.heap.size + 1 + 1 + 1 + 1 + 1 + 1 + 1 + 1 + 1 + 1 + 1 + 1 + 1 + 1 + 1 + 1 + 1 + 1 + 1, 1, none⟩ = some (.slice (some ⟨w.heap.size + 1 + 1 + 1 + 1 + 1 + 1 + 1 + 1 + 1 + 1 + 1 + 1 + 1 + 1 + 1 + 1 + 1 + 1, 0, none⟩) 4 4) ∧ w'.cell? ⟨w.heap.size + 1 + 1 + 1 + 1 + 1 + 1 + 1 + 1 + 1 + 1 + 1 + 1 + 1 + 1 + 1 + 1 + 1 + 1, 7, none⟩ = some vi) := fun w' hb => ⟨(hb.cell (by simp; omega)).trans f0, (hb.cell (by simp; omega)).trans f1, (hb.cell (by simp; omega)).trans b1⟩
      have hw2 : IntKind.i64.wrap ((i : Int) + 2) = (i : Int) + 2 := by rw [IntKind.wrap_i64]; omega
      have hw4 : IntKind.i64.wrap ((i : Int) + 4) = (i : Int) + 4 := by rw [IntKind.wrap_i64]; omega
      have e1 : ((i : Int) + 2 + 1) - 1 = (i : Int) + 2 := by omega
      have e2 : 4 + (i : Int) = (i : Int) + 4 := by omega
      clear hSn hoc hon hS1 hS zn hbn hwn hat hzb hgl hbs hbr o1
      refine wp_region_X (fun w' => w'.cell? ⟨w.heap.size + 1 + 1 + 1 + 1 + 1 + 1 + 1 + 1 + 1 + 1 + 1 + 1 + 1 + 1 + 1 + 1 + 1 + 1 + 1, 0, none⟩ = some (.slice (some ⟨g, 0, none⟩) (i + 2 + 1) cap) ∧ w'.cell? ⟨w.heap.size + 1 + 1 + 1 + 1 + 1 + 1 + 1 + 1 + 1 + 1 + 1 + 1 + 1 + 1 + 1 + 1 + 1 + 1 + 1, 1, none⟩ = some (.slice (some ⟨w.heap.size + 1 + 1 + 1 + 1 + 1 + 1 + 1 + 1 + 1 + 1 + 1 + 1 + 1 + 1 + 1 + 1 + 1 + 1, 0, none⟩) 4 4) ∧ w'.cell? ⟨w.heap.size + 1 + 1 + 1 + 1 + 1 + 1 + 1 + 1 + 1 + 1 + 1 + 1 + 1 + 1 + 1 + 1 + 1 + 1, 7, none⟩ = some vi) 22 (by kernel_rfl) ⟨f0, f1, b1⟩ (fun hHeld => ?_)
      refine wpXn 0 rfl (v := ?_) (by kernel_rfl) (fun _ _ _ h => h) rfl ?_ hHeld ?_
      rotate_left
      · intro w' hSw
        go_simp <;> with_reducible rfl
      try simp only [Act.put, List.setIfInBounds_toArray, List.set_cons_zero, List.set_cons_succ]
      refine wpXn 1 rfl (v := ?_) (by kernel_rfl) (fun _ _ _ h => h) rfl ?_ hHeld ?_
      rotate_left
      · intro w' hSw
        go_simp <;> with_reducible rfl
      try simp only [Act.put, List.setIfInBounds_toArray, List.set_cons_zero, List.set_cons_succ]
      refine wpXn 2 rfl (v := ?_) (by kernel_rfl) (fun _ _ _ h => h) rfl ?_ hHeld ?_
      rotate_left
      · intro w' hSw
        go_simp <;> with_reducible rfl
      try simp only [Act.put, List.setIfInBounds_toArray, List.set_cons_zero, List.set_cons_succ]
      refine wpXn 3 rfl (v := ?_) (by kernel_rfl) (fun _ _ _ h => h) rfl ?_ hHeld ?_
      rotate_left
      · intro w' hSw
        go_simp <;> with_reducible rfl
      try simp only [Act.put, List.setIfInBounds_toArray, List.set_cons_zero, List.set_cons_succ]
      refine wpXn 4 rfl (v := ?_) (by kernel_rfl) (fun _ _ _ h => h) rfl ?_ hHeld ?_
      rotate_left
      · intro w' hSw
        go_simp <;> with_reducible rfl
      try simp only [Act.put, List.setIfInBounds_toArray, List.set_cons_zero, List.set_cons_succ]
      refine wpXn 5 rfl (v := ?_) (by kernel_rfl) (fun _ _ _ h => h) rfl ?_ hHeld ?_
      rotate_left
      · intro w' hSw
        go_simp <;> with_reducible rfl
      try simp only [Act.put, List.setIfInBounds_toArray, List.set_cons_zero, List.set_cons_succ]
      refine wpXn 6 rfl (v := ?_) (by kernel_rfl) (fun _ _ _ h => h) rfl ?_ hHeld ?_
      rotate_left
      · intro w' hSw
        go_simp <;> with_reducible rfl
      try simp only [Act.put, List.setIfInBounds_toArray, List.set_cons_zero, List.set_cons_succ]
      refine wpXn 7 rfl (v := ?_) (by kernel_rfl) (fun _ _ _ h => h) rfl ?_ hHeld ?_
      rotate_left
      · intro w' hSw
        go_simp <;> with_reducible rfl
      try simp only [Act.put, List.setIfInBounds_toArray, List.set_cons_zero, List.set_cons_succ]
      refine wpXn 8 rfl (v := ?_) (by kernel_rfl) (fun _ _ _ h => h) rfl ?_ hHeld ?_
      rotate_left
      · intro w' hSw
        go_simp <;> with_reducible rfl
      try simp only [Act.put, List.setIfInBounds_toArray, List.set_cons_zero, List.set_cons_succ]
      refine wpXn 9 rfl (v := ?_) (by kernel_rfl) (fun _ _ _ h => h) rfl ?_ hHeld ?_
      rotate_left
      · intro w' hSw
        go_simp <;> with_reducible rfl
      try simp only [Act.put, List.setIfInBounds_toArray, List.set_cons_zero, List.set_cons_succ]
      refine wpXn 11 rfl (v := ?_) (by kernel_rfl) (fun _ _ _ h => h) rfl ?_ hHeld ?_
      rotate_left
      · intro w' hSw
        go_simp <;> with_reducible rfl
      try simp only [Act.put, List.setIfInBounds_toArray, List.set_cons_zero, List.set_cons_succ]
      refine wpXn 12 rfl (v := ?_) (by kernel_rfl) (fun _ _ _ h => h) rfl ?_ hHeld ?_
      rotate_left
      · intro w' hSw
        go_simp <;> with_reducible rfl
      try simp only [Act.put, List.setIfInBounds_toArray, List.set_cons_zero, List.set_cons_succ]
      refine wpXn 13 rfl (v := ?_) (by kernel_rfl) (fun _ _ _ h => h) rfl ?_ hHeld ?_
      rotate_left
      · intro w' hSw
        go_simp <;> with_reducible rfl
      try simp only [Act.put, List.setIfInBounds_toArray, List.set_cons_zero, List.set_cons_succ]
      refine wpXn 14 rfl (v := ?_) (by kernel_rfl) (fun _ _ _ h => h) rfl ?_ hHeld ?_
      rotate_left
      · intro w' hSw
        go_simp <;> with_reducible rfl
      try simp only [Act.put, List.setIfInBounds_toArray, List.set_cons_zero, List.set_cons_succ]
      refine wpXs 10 rfl (by kernel_rfl) (fun K hK => ?_)
      go_simp
      refine (use_any _ _).mono ?_
      rintro e w' ⟨rfl, rfl⟩
      refine hK.out _ _ ?_ (fun hHeld => ?_)
      · refine HS.out _ ?_
        repeat (first | refine Below.alloc ?_ (by simp <;> omega) _ | refine Below.drew ?_)
        exact Below.refl _ _
      clear hK K
      try simp only [Act.put, List.setIfInBounds_toArray, List.set_cons_zero, List.set_cons_succ]
      refine wpXs 15 rfl (by kernel_rfl) (fun K hK => ?_)
      go_simp
      refine (def_any _ _).mono ?_
      rintro e w' ⟨rfl, rfl⟩
      refine hK.out _ _ ?_ (fun hHeld => ?_)
      · refine HS.out _ ?_
        repeat (first | refine Below.alloc ?_ (by simp <;> omega) _ | refine Below.drew ?_)
        exact Below.refl _ _
      clear hK K
      try simp only [Act.put, List.setIfInBounds_toArray, List.set_cons_zero, List.set_cons_succ]
      refine wpXs 16 rfl (by kernel_rfl) (fun K hK => ?_)
      go_simp
      refine hK.out _ _ ?_ (fun hHeld => ?_)
      · refine HS.out _ ?_
        repeat (first | refine Below.alloc ?_ (by simp <;> omega) _ | refine Below.drew ?_)
        exact Below.refl _ _
      clear hK K
      try simp only [Act.put, List.setIfInBounds_toArray, List.set_cons_zero, List.set_cons_succ]
      refine wpXs 17 rfl (by kernel_rfl) (fun K hK => ?_)
      go_simp
      refine (op_any _ _ _ _ _).mono ?_
      rintro e w' ⟨rfl, rfl⟩
      refine hK.out _ _ ?_ (fun hHeld => ?_)
      · refine HS.out _ ?_
        repeat (first | refine Below.alloc ?_ (by simp <;> omega) _ | refine Below.drew ?_)
        exact Below.refl _ _
      clear hK K
      try simp only [Act.put, List.setIfInBounds_toArray, List.set_cons_zero, List.set_cons_succ]
      refine wpXs 18 rfl (by kernel_rfl) (fun K hK => ?_)
      go_simp
      refine hK.out _ _ ?_ (fun hHeld => ?_)
      · refine HS.out _ ?_
        repeat (first | refine Below.alloc ?_ (by simp <;> omega) _ | refine Below.drew ?_)
        exact Below.refl _ _
      clear hK K
      try simp only [Act.put, List.setIfInBounds_toArray, List.set_cons_zero, List.set_cons_succ]
      refine wpXs 19 rfl (by kernel_rfl) (fun K hK => ?_)
      rw [← HWN.out]
      refine step_append_lies _ (by rfl) _ _ _ (by rfl) (w.heap.size + 1 + 1 + 1 + 1 + 1 + 1 + 1 + 1 + 1 + 1 + 1 + 1 + 1 + 1 + 1 + 1 + 1 + 1 + 1 + 1) 55 i30 _ 3 56 Try.underlying41 hi30 hz30 hz301 hz302 rfl (by omega) vi i (rgXs ob i) (by rfl) oA ⟨wc.heap.size + 1 + 1 + 1 + 1, 0, none⟩ 1 1 [.int .i64 ((i : Int) + 4), .slice (some ⟨wc.heap.size + 1 + 1, 0, none⟩) 2 2, .slice none 0 0] (by rfl) (by rfl) HN.out h1c (by omega) (by unfold maxLen; omega) (by omega) (by have := HZN.out; simp; omega) wn.heap.size (by simp) ?_
      intro gg cap2 wb2 hown1 hgrow hat2 hlt2
      have b1' := (hgrow.cell_far _ lB' nB).trans cB
      have zb' := (hgrow.frozen_far _ lB' nB).trans cZ
      have f0' := (hgrow.cell_far _ lF' nF).trans cF0
      have f1' := (hgrow.cell_far _ lF' nF).trans cF1
      refine hK.out _ _ ⟨f0', f1', b1'⟩ (fun hHeld => ?_)
      clear hK K
      try simp only [Act.put, List.setIfInBounds_toArray, List.set_cons_zero, List.set_cons_succ]
      refine wpXs 20 rfl (by kernel_rfl) (fun K hK => ?_)
      go_simp
      refine hK.out _ _ ⟨f0', f1', b1'⟩ (fun hHeld => ?_)
      clear hK K
      refine wpXn 21 rfl (v := ?_) (by kernel_rfl) (fun _ _ _ h => h) rfl ?_ hHeld ?_
      rotate_left
      · intro w' hSw
        go_simp <;> with_reducible rfl
      try simp only [Act.put, List.setIfInBounds_toArray, List.set_cons_zero, List.set_cons_succ]
      refine wpXl 22 rfl (by kernel_rfl) rfl (by kernel_rfl) (fun K hK => ?_)
      go_simp
      refine hK.out _ _ ?_
      clear hK K
      go_wp2
      go_roundw
      case rel =>
        have hzn := HZN.out
        have hzz := hgrow.size
        simp at hzz
        have hS3 := HI.out.instr (wa := wn.drew) (o := wc.heap.size + 1 + 1) (by omega) (by simp; omega) nV nO nOb HO.out (g := gg) (cap := cap2) hown1 HBN.out.drew hgrow (hat2.imp id fun h => by simp; omega)
        have hb3 : Below (w.heap.size + 1) (w.alloc (.cells #[.slice none 0 0, .slice none 0 0] 30)) (wb2.setCell ⟨w.heap.size + 1 + 1 + 1 + 1 + 1 + 1 + 1 + 1 + 1 + 1 + 1 + 1 + 1 + 1 + 1 + 1 + 1 + 1, 7, none⟩ (.slice (some ⟨gg, 0, none⟩) (i + 1) cap2)) := Below.setCell ((Hbn'.out.drew).grown hgrow (by simp; omega) (fun h hh => by have := own_base oA hh; omega)) (by simp <;> omega) _
        have e : i + 2 + 1 = i + 1 + 2 := by omega
        rw [e] at hS3
        exact ⟨i + 1, _, _, _, by omega, by go_num, by go_num, hS3, hb3⟩
      case measure => simp [intOf]; omega
    · have hin : i = n := by omega
      subst hin
      have f0 : wr.cell? ⟨w.heap.size + 1 + 1 + 1 + 1 + 1 + 1 + 1 + 1 + 1 + 1 + 1 + 1 + 1 + 1 + 1 + 1 + 1 + 1 + 1, 0, none⟩ = some vv := hS.r2.cell (i := 0) (by omega)
      have f1 : wr.cell? ⟨w.heap.size + 1 + 1 + 1 + 1 + 1 + 1 + 1 + 1 + 1 + 1 + 1 + 1 + 1 + 1 + 1 + 1 + 1 + 1 + 1, 1, none⟩ = some (.slice (some ⟨w.heap.size + 1 + 1 + 1 + 1 + 1 + 1 + 1 + 1 + 1 + 1 + 1 + 1 + 1 + 1 + 1 + 1 + 1 + 1, 0, none⟩) 4 4) := hS.r2.cell (i := 1) (by omega)
      have b7 : wr.cell? ⟨w.heap.size + 1 + 1 + 1 + 1 + 1 + 1 + 1 + 1 + 1 + 1 + 1 + 1 + 1 + 1 + 1 + 1 + 1 + 1, 7, none⟩ = some vi := hS.r1.cell (i := 7) (by omega)
      have b8 : wr.cell? ⟨w.heap.size + 1 + 1 + 1 + 1 + 1 + 1 + 1 + 1 + 1 + 1 + 1 + 1 + 1 + 1 + 1 + 1 + 1 + 1, 8, none⟩ = some (.slice none 0 0) := hS.r1.cell (i := 8) (by omega)
      have z8 := hS.r1.frozen 8
      have c00 : wr.cell? ⟨w.heap.size, 0, none⟩ = some (.slice none 0 0) := (hbr.cell (by simp)).trans (by go_simp)
      have c01 : wr.cell? ⟨w.heap.size, 1, none⟩ = some (.slice none 0 0) := (hbr.cell (by simp)).trans (by go_simp)
      have z00 : wr.frozen? ⟨w.heap.size, 0, none⟩ = false := (hbr.frozen (by simp)).trans (by go_simp)
      have z01 : wr.frozen? ⟨w.heap.size, 1, none⟩ = false := (hbr.frozen (by simp)).trans (by go_simp)
      obtain ⟨avv, cvv, rfl⟩ := own_formL hS.ov
      have lB := hS.r1.lt
      have LB := old_cell (w.heap.size + 1 + 1 + 1 + 1 + 1 + 1 + 1 + 1 + 1 + 1 + 1 + 1 + 1 + 1 + 1 + 1 + 1 + 1)
      have LF := old_cell (w.heap.size + 1 + 1 + 1 + 1 + 1 + 1 + 1 + 1 + 1 + 1 + 1 + 1 + 1 + 1 + 1 + 1 + 1 + 1 + 1)
      have LM := old_cell (w.heap.size)
      have lM : w.heap.size < wr.heap.size := by omega
      have lB1 : w.heap.size + 1 + 1 + 1 + 1 + 1 + 1 + 1 + 1 + 1 + 1 + 1 + 1 + 1 + 1 + 1 + 1 + 1 + 1 < wr.heap.size + 1 := by omega
      have lF1 : w.heap.size + 1 + 1 + 1 + 1 + 1 + 1 + 1 + 1 + 1 + 1 + 1 + 1 + 1 + 1 + 1 + 1 + 1 + 1 + 1 < wr.heap.size + 1 := by omega
      have lM1 : w.heap.size < wr.heap.size + 1 := by omega
      have hw1 : IntKind.i64.wrap ((i : Int) + 1) = (i : Int) + 1 := by rw [IntKind.wrap_i64]; omega
      obtain ⟨WX, hWX⟩ : ∃ WX, WX = ((((wr.setCell ⟨w.heap.size + 1 + 1 + 1 + 1 + 1 + 1 + 1 + 1 + 1 + 1 + 1 + 1 + 1 + 1 + 1 + 1 + 1 + 1, 8, none⟩ (.slice (some ⟨wr.heap.size + 1, 0, none⟩) 1 1)).setCell ⟨w.heap.size, 0, none⟩ (.slice avv (i + 2) cvv)).setCell ⟨w.heap.size, 1, none⟩ (.slice (some ⟨w.heap.size + 1 + 1 + 1 + 1 + 1 + 1 + 1 + 1 + 1 + 1 + 1 + 1 + 1 + 1 + 1 + 1 + 1 + 1, 0, none⟩) 4 4)).alloc (.cells #[.int .i64 ((i : Int) + 1)] 3)).alloc (.cells #[.int .i64 1, .slice (some ⟨wr.heap.size, 0, none⟩) 1 1] 46) := ⟨_, rfl⟩
      have zX : WX.heap.size = wr.heap.size + 1 + 1 := by rw [hWX]; simp
      have hbX : Below w.heap.size w WX := by
        rw [hWX]
        refine Below.alloc (Below.alloc (Below.setCell (Below.setCell (Below.setCell (((Below.refl _ _).alloc (Nat.le_refl _) _).trans (hbr.mono (by omega))) (by simp <;> omega) _) (by simp) _) (by simp) _) (by simp; omega) _) (by simp; omega) _
      have kX : ∀ b, b < wr.heap.size → b ≠ w.heap.size + 1 + 1 + 1 + 1 + 1 + 1 + 1 + 1 + 1 + 1 + 1 + 1 + 1 + 1 + 1 + 1 + 1 + 1 → b ≠ w.heap.size → WX.heap[b]? = wr.heap[b]? := fun b h0 h1 h2 => by
        rw [hWX, Below.heap_alloc _ _ _ (by simp; omega), Below.heap_alloc _ _ _ (by simp; omega), Below.heap_setCell _ _ _ _ (by simpa using h2), Below.heap_setCell _ _ _ _ (by simpa using h2), Below.heap_setCell _ _ _ _ (by simpa using h1)]
      have hfin : RingFin w.heap.size i (wr.heap.size + 1) wr.heap.size wr WX := by
        refine ⟨⟨Nat.le_refl _, by omega, by omega⟩, ⟨vi, b7, ?_⟩, ?_, ?_, kX⟩
        · rw [hWX]
          refine (((((hS.r1.set 8 _).setOther (by show w.heap.size + 1 + 1 + 1 + 1 + 1 + 1 + 1 + 1 + 1 + 1 + 1 + 1 + 1 + 1 + 1 + 1 + 1 + 1 ≠ w.heap.size; omega) _).setOther (by show w.heap.size + 1 + 1 + 1 + 1 + 1 + 1 + 1 + 1 + 1 + 1 + 1 + 1 + 1 + 1 + 1 + 1 + 1 + 1 ≠ w.heap.size; omega) _).alloc _).alloc _).congr fun q hq => ?_
          match q, hq with | 0, _ => rfl | 1, _ => rfl | 2, _ => rfl | 3, _ => rfl | 4, _ => rfl | 5, _ => rfl | 6, _ => rfl | 7, _ => rfl | 8, _ => rfl | 9, _ => rfl | 10, _ => rfl | 11, _ => rfl
        · rw [hWX]
          refine ⟨_, heap_atL (by simp), rfl, fun q hq => ?_⟩
          match q, hq with | 0, _ => rfl | 1, _ => rfl
        · rw [hWX]
          refine ⟨_, (Below.heap_alloc _ _ _ (by simp)).trans (heap_atL (by simp)), rfl, fun q hq => ?_⟩
          match q, hq with | 0, _ => rfl
      have g0 : WX.cell? ⟨w.heap.size, 0, none⟩ = some (.slice avv (i + 2) cvv) := by rw [hWX]; go_simp
      have g1 : WX.cell? ⟨w.heap.size, 1, none⟩ = some (.slice (some ⟨w.heap.size + 1 + 1 + 1 + 1 + 1 + 1 + 1 + 1 + 1 + 1 + 1 + 1 + 1 + 1 + 1 + 1 + 1 + 1, 0, none⟩) 4 4) := by rw [hWX]; go_simp
      have HW : Hid (WX = _) := hWX
      have HS : Hid (RingSt w.heap.size (i + 2) i (.slice avv (i + 2) cvv) vi ob (ringW w) wr) := hS
      clear hWX zX kX hS hbr
      go_wp2
      rw [← HW.out]
      exact bodyPost_ret (v := .agg #[.slice avv (i + 2) cvv, .slice (some ⟨w.heap.size + 1 + 1 + 1 + 1 + 1 + 1 + 1 + 1 + 1 + 1 + 1 + 1 + 1 + 1 + 1 + 1 + 1 + 1, 0, none⟩) 4 4]) (by simp [results, Try.results13, go_sem, g0, g1]) rfl ⟨_, vi, ob, _, _, wr, rfl, HS.out, hfin, hbX⟩
end Go.Proofs.Ytdlnofjmonpmgaa
namespace Go.Proofs.Ytdlnofjmonpmgaa
open Go.RowKit
set_option linter.unusedVariables false

structure RingAt (M n gv cv gi ci eb ab : Nat) (ob : Nat → Nat) (xs : List Int) (p0 i1 : Value) (e0b : Int) (e0a : Value) (W0 W : World) : Prop where
  big : M + 1 + 1 + 1 + 1 + 1 + 1 + 1 + 1 + 1 + 1 + 1 + 1 + 1 + 1 + 1 + 1 + 1 + 1 + 1 + 1 ≤ W.heap.size
  lv : (gv = M + 1 ∨ M + 1 + 1 + 1 + 1 + 1 + 1 + 1 + 1 + 1 + 1 + 1 + 1 + 1 + 1 + 1 + 1 + 1 + 1 + 1 + 1 ≤ gv) ∧ gv < W.heap.size
  li : M + 1 + 1 + 1 + 1 + 1 + 1 + 1 + 1 + 1 + 1 + 1 + 1 + 1 + 1 + 1 + 1 + 1 + 1 + 1 + 1 ≤ gi ∧ gi < W.heap.size
  le : M + 1 + 1 + 1 + 1 + 1 + 1 + 1 + 1 + 1 + 1 + 1 + 1 + 1 + 1 + 1 + 1 + 1 + 1 + 1 + 1 ≤ eb ∧ eb < W.heap.size
  la : M + 1 + 1 + 1 + 1 + 1 + 1 + 1 + 1 + 1 + 1 + 1 + 1 + 1 + 1 + 1 + 1 + 1 + 1 + 1 + 1 ≤ ab ∧ ab < W.heap.size
  d : gv ≠ gi ∧ gv ≠ eb ∧ gv ≠ ab
  v : ∀ k (h : k < xs.length), W.cell? ⟨gv, k, none⟩ = some (.int .i64 xs[k])
  zv : ∀ k, W.frozen? ⟨gv, k, none⟩ = false
  r1 : W.rowIs (M + 1 + 1 + 1 + 1 + 1 + 1 + 1 + 1 + 1 + 1 + 1 + 1 + 1 + 1 + 1 + 1 + 1 + 1) 44 12 (fun q => (rgL M p0 i1 (.slice (some ⟨gi, 0, none⟩) n ci) (.slice (some ⟨eb, 0, none⟩) 1 1)).getD q undef)
  rE0 : W.rowIs (M + 1 + 1 + 1 + 1 + 1 + 1 + 1) 46 2 (fun q => if q = 0 then .int .i64 e0b else e0a)
  st : ∀ b, M + 1 + 1 ≤ b → b ≤ M + 1 + 1 + 1 + 1 + 1 + 1 + 1 + 1 + 1 + 1 + 1 + 1 + 1 + 1 + 1 + 1 + 1 → b ≠ M + 1 + 1 + 1 + 1 + 1 + 1 + 1 → W.heap[b]? = W0.heap[b]?
  i : ∀ k, k < n → W.cell? ⟨gi, k * 3, none⟩ = some (.int .i64 ((k : Int) + 4)) ∧ W.cell? ⟨gi, k * 3 + 1, none⟩ = some (.slice (some ⟨ob k, 0, none⟩) 2 2) ∧ W.cell? ⟨gi, k * 3 + 2, none⟩ = some (.slice none 0 0)
  obs : ∀ k, k < n → M + 1 + 1 + 1 + 1 + 1 + 1 + 1 + 1 + 1 + 1 + 1 + 1 + 1 + 1 + 1 + 1 + 1 + 1 + 1 + 1 ≤ ob k ∧ ob k < W.heap.size ∧ ob k ≠ gv ∧ W.heap[ob k]? = some (.cells ((rgO k).flatMap cO).toArray 51)
  rE : W.rowIs eb 46 2 (fun q => if q = 0 then .int .i64 1 else .slice (some ⟨ab, 0, none⟩) 1 1)
  rA : W.rowIs ab 3 1 (fun _ => .int .i64 ((n : Int) + 1))

/-- One block is written to: the values', the first edge's or the blocks' own. -/
theorem RingAt.upd {M n gv cv gi ci eb ab : Nat} {ob : Nat → Nat} {xs : List Int} {p0 i1 : Value} {e0b : Int} {e0a : Value} {W0 W : World} {W' : World} {X : Nat} {xs' : List Int} {p0' i1' : Value} {e0b' : Int} {e0a' : Value} (h : RingAt M n gv cv gi ci eb ab ob xs p0 i1 e0b e0a W0 W) (hX : X = gv ∨ X = M + 1 + 1 + 1 + 1 + 1 + 1 + 1 ∨ X = M + 1 + 1 + 1 + 1 + 1 + 1 + 1 + 1 + 1 + 1 + 1 + 1 + 1 + 1 + 1 + 1 + 1 + 1) (hz : W.heap.size ≤ W'.heap.size) (hk : ∀ b, b < W.heap.size → b ≠ X → W'.heap[b]? = W.heap[b]?)
    (hv : ∀ k (h : k < xs'.length), W'.cell? ⟨gv, k, none⟩ = some (.int .i64 xs'[k])) (hzv : ∀ k, W'.frozen? ⟨gv, k, none⟩ = false)
    (h1 : W'.rowIs (M + 1 + 1 + 1 + 1 + 1 + 1 + 1 + 1 + 1 + 1 + 1 + 1 + 1 + 1 + 1 + 1 + 1 + 1) 44 12 (fun q => (rgL M p0' i1' (.slice (some ⟨gi, 0, none⟩) n ci) (.slice (some ⟨eb, 0, none⟩) 1 1)).getD q undef)) (hE : W'.rowIs (M + 1 + 1 + 1 + 1 + 1 + 1 + 1) 46 2 (fun q => if q = 0 then .int .i64 e0b' else e0a')) :
    RingAt M n gv cv gi ci eb ab ob xs' p0' i1' e0b' e0a' W0 W' := by
  have hb := h.big
  have lv := h.lv
  have li := h.li
  have le := h.le
  have la := h.la
  have d := h.d
  have c : ∀ b j, b < W.heap.size → b ≠ X → W'.cell? ⟨b, j, none⟩ = W.cell? ⟨b, j, none⟩ := fun b j h1 h2 => World.cell?_of_block (hk b h1 h2)
  refine ⟨by omega, ⟨lv.1, by omega⟩, ⟨li.1, by omega⟩, ⟨le.1, by omega⟩, ⟨la.1, by omega⟩, d, hv, hzv, h1, hE, fun b h2 h17 h7 => (hk b (by omega) (by omega)).trans (h.st b h2 h17 h7), fun k hk' => ?_, fun k hk' => ?_, h.rE.of_block (hk _ (by omega) (by omega)), h.rA.of_block (hk _ (by omega) (by omega))⟩
  · obtain ⟨i0, i1, i2⟩ := h.i k hk'
    exact ⟨(c _ _ (by omega) (by omega)).trans i0, (c _ _ (by omega) (by omega)).trans i1, (c _ _ (by omega) (by omega)).trans i2⟩
  · obtain ⟨o1, o2, o3, o4⟩ := h.obs k hk'
    exact ⟨o1, by omega, o3, (hk _ o2 (by omega)).trans o4⟩
theorem RingAt.below {M n gv cv gi ci eb ab : Nat} {ob : Nat → Nat} {xs : List Int} {p0 i1 : Value} {e0b : Int} {e0a : Value} {W0 W : World} {W' : World} (h : RingAt M n gv cv gi ci eb ab ob xs p0 i1 e0b e0a W0 W) (hb : Below W.heap.size W W') : RingAt M n gv cv gi ci eb ab ob xs p0 i1 e0b e0a W0 W' :=
  h.upd (X := gv) (Or.inl rfl) hb.size (fun b h1 _ => hb.block b h1) (fun k hk => (hb.cell h.lv.2).trans (h.v k hk)) (fun k => (hb.frozen h.lv.2).trans (h.zv k)) (h.r1.of_block (hb.block _ h.r1.lt)) (h.rE0.of_block (hb.block _ h.rE0.lt))

/-- The function as it reads. -/
def ringG (n : Nat) (xs lp : List Int) (li : List Ins) (e0b : Int) (la : List Int) : Fn :=
  ⟨xs, [⟨lp, [⟨1, [⟨2, 0, true, 1, 0⟩], []⟩], [⟨e0b, la⟩]⟩, ⟨[1], li, [⟨2, []⟩, ⟨3, []⟩]⟩, ⟨[], (List.range n).map rgI, [⟨1, [(n : Int) + 1]⟩]⟩, ⟨[], [⟨3, [⟨1, 1, false, 1, 0⟩], []⟩], []⟩]⟩
def ringI1 : List Ins := [⟨2, [⟨1, 1, false, 1, 0⟩], []⟩]

theorem blk_at {W W0 : World} {b : Nat} {cs : Array Value} {t : Nat} (h : W.heap[b]? = W0.heap[b]?) (h0 : W0.heap[b]? = some (.cells cs t)) (j : Nat) (hj : j < cs.size) : W.cell? ⟨b, j, none⟩ = some cs[j] := blk_cellL (h.trans h0) j hj

theorem RingAt.sl {n gv cv gi ci eb ab : Nat} {ob : Nat → Nat} {xs : List Int} {p0 i1 : Value} {e0b : Int} {e0a : Value} {w W : World} {lp la : List Int} {l1 : List Ins} (h : RingAt w.heap.size n gv cv gi ci eb ab ob xs p0 i1 e0b e0a (ringW w) W) (hn : n ≤ 1000) (hx : xs.length ≤ 2000) (hp : SlOf W 1 RInt p0 lp) (hi1 : SlOf W 3 (RIns W) i1 l1) (ha : SlOf W 1 RInt e0a la) :
    SlOf W 1 RInt (.slice (some ⟨gv, 0, none⟩) xs.length cv) (ringG n xs lp l1 e0b la).values ∧ SlOf W 3 (RBlk W) (.slice (some ⟨w.heap.size + 1 + 1 + 1 + 1 + 1 + 1 + 1 + 1 + 1 + 1 + 1 + 1 + 1 + 1 + 1 + 1 + 1 + 1, 0, none⟩) 4 4) (ringG n xs lp l1 e0b la).blocks := by
  have hv : SlOf W 1 RInt (.slice (some ⟨gv, 0, none⟩) xs.length cv) xs := ⟨_, cv, rfl, by unfold longest; omega, Or.inr ⟨gv, 0, rfl, fun i hi => ⟨[.int .i64 xs[i]], rfl, rfl, cells1 (by simpa using h.v i hi)⟩⟩⟩
  have O0 : SlOf W 5 ROpr (.slice (some ⟨w.heap.size + 1 + 1 + 1, 0, none⟩) 1 1) [⟨2, 0, true, 1, 0⟩] := SlOf_one [.int .i64 2, .int .i64 0, .bool true, .int .i64 1, .int .i64 0] rfl rfl (cells5 (blk_at (h.st (w.heap.size + 1 + 1 + 1) (by omega) (by omega) (by omega)) (ringW_3 w) 0 (by simp)) (blk_at (h.st (w.heap.size + 1 + 1 + 1) (by omega) (by omega) (by omega)) (ringW_3 w) 1 (by simp)) (blk_at (h.st (w.heap.size + 1 + 1 + 1) (by omega) (by omega) (by omega)) (ringW_3 w) 2 (by simp)) (blk_at (h.st (w.heap.size + 1 + 1 + 1) (by omega) (by omega) (by omega)) (ringW_3 w) 3 (by simp)) (blk_at (h.st (w.heap.size + 1 + 1 + 1) (by omega) (by omega) (by omega)) (ringW_3 w) 4 (by simp)))
  have I0 : SlOf W 3 (RIns W) (.slice (some ⟨w.heap.size + 1 + 1 + 1 + 1 + 1, 0, none⟩) 1 1) [⟨1, [⟨2, 0, true, 1, 0⟩], []⟩] := SlOf_one [.int .i64 1, .slice (some ⟨w.heap.size + 1 + 1 + 1, 0, none⟩) 1 1, .slice none 0 0] rfl ⟨_, _, rfl, O0, SlOf_nil _ _ _ _ _⟩ (cells3 (blk_at (h.st (w.heap.size + 1 + 1 + 1 + 1 + 1) (by omega) (by omega) (by omega)) (ringW_5 w) 0 (by simp)) (blk_at (h.st (w.heap.size + 1 + 1 + 1 + 1 + 1) (by omega) (by omega) (by omega)) (ringW_5 w) 1 (by simp)) (blk_at (h.st (w.heap.size + 1 + 1 + 1 + 1 + 1) (by omega) (by omega) (by omega)) (ringW_5 w) 2 (by simp)))
  have E0 : SlOf W 2 (REdg W) (.slice (some ⟨w.heap.size + 1 + 1 + 1 + 1 + 1 + 1 + 1, 0, none⟩) 1 1) [⟨e0b, la⟩] := SlOf_one [.int .i64 e0b, e0a] rfl ⟨_, rfl, ha⟩ (cells2 (h.rE0.cell (i := 0) (by omega)) (h.rE0.cell (i := 1) (by omega)))
  have P1 : SlOf W 1 RInt (.slice (some ⟨w.heap.size + 1 + 1 + 1 + 1 + 1 + 1 + 1 + 1, 0, none⟩) 1 1) [1] := SlOf_one [.int .i64 1] rfl rfl (cells1 (blk_at (h.st (w.heap.size + 1 + 1 + 1 + 1 + 1 + 1 + 1 + 1) (by omega) (by omega) (by omega)) (ringW_8 w) 0 (by simp)))
  have E1 : SlOf W 2 (REdg W) (.slice (some ⟨w.heap.size + 1 + 1 + 1 + 1 + 1 + 1 + 1 + 1 + 1 + 1 + 1 + 1 + 1, 0, none⟩) 2 2) [⟨2, []⟩, ⟨3, []⟩] := SlOf_two [.int .i64 2, .slice none 0 0] [.int .i64 3, .slice none 0 0] rfl rfl ⟨_, rfl, SlOf_nil _ _ _ _ _⟩ ⟨_, rfl, SlOf_nil _ _ _ _ _⟩ (cells2 (blk_at (h.st (w.heap.size + 1 + 1 + 1 + 1 + 1 + 1 + 1 + 1 + 1 + 1 + 1 + 1 + 1) (by omega) (by omega) (by omega)) (ringW_13 w) 0 (by simp)) (blk_at (h.st (w.heap.size + 1 + 1 + 1 + 1 + 1 + 1 + 1 + 1 + 1 + 1 + 1 + 1 + 1) (by omega) (by omega) (by omega)) (ringW_13 w) 1 (by simp))) (cells2 (blk_at (h.st (w.heap.size + 1 + 1 + 1 + 1 + 1 + 1 + 1 + 1 + 1 + 1 + 1 + 1 + 1) (by omega) (by omega) (by omega)) (ringW_13 w) 2 (by simp)) (blk_at (h.st (w.heap.size + 1 + 1 + 1 + 1 + 1 + 1 + 1 + 1 + 1 + 1 + 1 + 1 + 1) (by omega) (by omega) (by omega)) (ringW_13 w) 3 (by simp)))
  have I2 : SlOf W 3 (RIns W) (.slice (some ⟨gi, 0, none⟩) n ci) ((List.range n).map rgI) := by
    refine ⟨_, ci, by simp, by simp; unfold longest; omega, Or.inr ⟨gi, 0, rfl, fun i hi => ?_⟩⟩
    have hi' : i < n := by simpa using hi
    obtain ⟨x0, x1, x2⟩ := h.i i hi'
    obtain ⟨o1, o2, o3, o4⟩ := h.obs i hi'
    have OO : SlOf W 5 ROpr (.slice (some ⟨ob i, 0, none⟩) 2 2) (rgO i) := SlOf_two [.int .i64 1, .int .i64 ((i : Int) + 1), .bool false, .int .i64 1, .int .i64 0] [.int .i64 2, .int .i64 ((i : Int) + 2), .bool true, .int .i64 1, .int .i64 0] rfl rfl rfl rfl (cells5 (blk_cellL o4 0 (by decide : 0 < 10)) (blk_cellL o4 1 (by decide : 1 < 10)) (blk_cellL o4 2 (by decide : 2 < 10)) (blk_cellL o4 3 (by decide : 3 < 10)) (blk_cellL o4 4 (by decide : 4 < 10))) (cells5 (blk_cellL o4 5 (by decide : 5 < 10)) (blk_cellL o4 6 (by decide : 6 < 10)) (blk_cellL o4 7 (by decide : 7 < 10)) (blk_cellL o4 8 (by decide : 8 < 10)) (blk_cellL o4 9 (by decide : 9 < 10)))
    refine ⟨rgX (ob i) i, rfl, ?_, ?_⟩
    · rw [List.getElem_map, List.getElem_range]
      exact ⟨_, _, rfl, OO, SlOf_nil _ _ _ _ _⟩
    · simp only [Nat.zero_add]
      exact cells3 x0 x1 x2
  have A2 : SlOf W 1 RInt (.slice (some ⟨ab, 0, none⟩) 1 1) [(n : Int) + 1] := SlOf_one [.int .i64 ((n : Int) + 1)] rfl rfl (cells1 (h.rA.cell (i := 0) (by omega)))
  have E2 : SlOf W 2 (REdg W) (.slice (some ⟨eb, 0, none⟩) 1 1) [⟨1, [(n : Int) + 1]⟩] := SlOf_one [.int .i64 1, .slice (some ⟨ab, 0, none⟩) 1 1] rfl ⟨_, rfl, A2⟩ (cells2 (h.rE.cell (i := 0) (by omega)) (h.rE.cell (i := 1) (by omega)))
  have O3 : SlOf W 5 ROpr (.slice (some ⟨w.heap.size + 1 + 1 + 1 + 1 + 1 + 1 + 1 + 1 + 1 + 1 + 1 + 1 + 1 + 1 + 1, 0, none⟩) 1 1) [⟨1, 1, false, 1, 0⟩] := SlOf_one [.int .i64 1, .int .i64 1, .bool false, .int .i64 1, .int .i64 0] rfl rfl (cells5 (blk_at (h.st (w.heap.size + 1 + 1 + 1 + 1 + 1 + 1 + 1 + 1 + 1 + 1 + 1 + 1 + 1 + 1 + 1) (by omega) (by omega) (by omega)) (ringW_15 w) 0 (by simp)) (blk_at (h.st (w.heap.size + 1 + 1 + 1 + 1 + 1 + 1 + 1 + 1 + 1 + 1 + 1 + 1 + 1 + 1 + 1) (by omega) (by omega) (by omega)) (ringW_15 w) 1 (by simp)) (blk_at (h.st (w.heap.size + 1 + 1 + 1 + 1 + 1 + 1 + 1 + 1 + 1 + 1 + 1 + 1 + 1 + 1 + 1) (by omega) (by omega) (by omega)) (ringW_15 w) 2 (by simp)) (blk_at (h.st (w.heap.size + 1 + 1 + 1 + 1 + 1 + 1 + 1 + 1 + 1 + 1 + 1 + 1 + 1 + 1 + 1) (by omega) (by omega) (by omega)) (ringW_15 w) 3 (by simp)) (blk_at (h.st (w.heap.size + 1 + 1 + 1 + 1 + 1 + 1 + 1 + 1 + 1 + 1 + 1 + 1 + 1 + 1 + 1) (by omega) (by omega) (by omega)) (ringW_15 w) 4 (by simp)))
  have I3 : SlOf W 3 (RIns W) (.slice (some ⟨w.heap.size + 1 + 1 + 1 + 1 + 1 + 1 + 1 + 1 + 1 + 1 + 1 + 1 + 1 + 1 + 1 + 1 + 1, 0, none⟩) 1 1) [⟨3, [⟨1, 1, false, 1, 0⟩], []⟩] := SlOf_one [.int .i64 3, .slice (some ⟨w.heap.size + 1 + 1 + 1 + 1 + 1 + 1 + 1 + 1 + 1 + 1 + 1 + 1 + 1 + 1 + 1, 0, none⟩) 1 1, .slice none 0 0] rfl ⟨_, _, rfl, O3, SlOf_nil _ _ _ _ _⟩ (cells3 (blk_at (h.st (w.heap.size + 1 + 1 + 1 + 1 + 1 + 1 + 1 + 1 + 1 + 1 + 1 + 1 + 1 + 1 + 1 + 1 + 1) (by omega) (by omega) (by omega)) (ringW_17 w) 0 (by simp)) (blk_at (h.st (w.heap.size + 1 + 1 + 1 + 1 + 1 + 1 + 1 + 1 + 1 + 1 + 1 + 1 + 1 + 1 + 1 + 1 + 1) (by omega) (by omega) (by omega)) (ringW_17 w) 1 (by simp)) (blk_at (h.st (w.heap.size + 1 + 1 + 1 + 1 + 1 + 1 + 1 + 1 + 1 + 1 + 1 + 1 + 1 + 1 + 1 + 1 + 1) (by omega) (by omega) (by omega)) (ringW_17 w) 2 (by simp)))
  refine ⟨hv, _, 4, rfl, by simp [longest, ringG], Or.inr ⟨w.heap.size + 1 + 1 + 1 + 1 + 1 + 1 + 1 + 1 + 1 + 1 + 1 + 1 + 1 + 1 + 1 + 1 + 1 + 1, 0, rfl, fun i hi => ?_⟩⟩
  have e : i = 0 ∨ i = 1 ∨ i = 2 ∨ i = 3 := by simp [ringG] at hi; omega
  rcases e with rfl | rfl | rfl | rfl
  · exact ⟨_, rfl, ⟨_, _, _, rfl, hp, I0, E0⟩, cells3 (h.r1.cell (i := 0) (by omega)) (h.r1.cell (i := 1) (by omega)) (h.r1.cell (i := 2) (by omega))⟩
  · exact ⟨_, rfl, ⟨_, _, _, rfl, P1, hi1, E1⟩, cells3 (h.r1.cell (i := 3) (by omega)) (h.r1.cell (i := 4) (by omega)) (h.r1.cell (i := 5) (by omega))⟩
  · exact ⟨_, rfl, ⟨_, _, _, rfl, SlOf_nil _ _ _ none 0, I2, E2⟩, cells3 (h.r1.cell (i := 6) (by omega)) (h.r1.cell (i := 7) (by omega)) (h.r1.cell (i := 8) (by omega))⟩
  · exact ⟨_, rfl, ⟨_, _, _, rfl, SlOf_nil _ _ _ none 0, I3, SlOf_nil _ _ _ none 0⟩, cells3 (h.r1.cell (i := 9) (by omega)) (h.r1.cell (i := 10) (by omega)) (h.r1.cell (i := 11) (by omega))⟩
/-- The instruction of the loop's head. -/
theorem RingAt.i1 {n gv cv gi ci eb ab : Nat} {ob : Nat → Nat} {xs : List Int} {p0 i1 : Value} {e0b : Int} {e0a : Value} {w W : World} (h : RingAt w.heap.size n gv cv gi ci eb ab ob xs p0 i1 e0b e0a (ringW w) W) : SlOf W 3 (RIns W) (.slice (some ⟨w.heap.size + 1 + 1 + 1 + 1 + 1 + 1 + 1 + 1 + 1 + 1 + 1 + 1, 0, none⟩) 1 1) ringI1 := by
  have O1 : SlOf W 5 ROpr (.slice (some ⟨w.heap.size + 1 + 1 + 1 + 1 + 1 + 1 + 1 + 1 + 1 + 1, 0, none⟩) 1 1) [⟨1, 1, false, 1, 0⟩] := SlOf_one [.int .i64 1, .int .i64 1, .bool false, .int .i64 1, .int .i64 0] rfl rfl (cells5 (blk_at (h.st (w.heap.size + 1 + 1 + 1 + 1 + 1 + 1 + 1 + 1 + 1 + 1) (by omega) (by omega) (by omega)) (ringW_10 w) 0 (by simp)) (blk_at (h.st (w.heap.size + 1 + 1 + 1 + 1 + 1 + 1 + 1 + 1 + 1 + 1) (by omega) (by omega) (by omega)) (ringW_10 w) 1 (by simp)) (blk_at (h.st (w.heap.size + 1 + 1 + 1 + 1 + 1 + 1 + 1 + 1 + 1 + 1) (by omega) (by omega) (by omega)) (ringW_10 w) 2 (by simp)) (blk_at (h.st (w.heap.size + 1 + 1 + 1 + 1 + 1 + 1 + 1 + 1 + 1 + 1) (by omega) (by omega) (by omega)) (ringW_10 w) 3 (by simp)) (blk_at (h.st (w.heap.size + 1 + 1 + 1 + 1 + 1 + 1 + 1 + 1 + 1 + 1) (by omega) (by omega) (by omega)) (ringW_10 w) 4 (by simp)))
  exact SlOf_one [.int .i64 2, .slice (some ⟨w.heap.size + 1 + 1 + 1 + 1 + 1 + 1 + 1 + 1 + 1 + 1, 0, none⟩) 1 1, .slice none 0 0] rfl ⟨_, _, rfl, O1, SlOf_nil _ _ _ _ _⟩ (cells3 (blk_at (h.st (w.heap.size + 1 + 1 + 1 + 1 + 1 + 1 + 1 + 1 + 1 + 1 + 1 + 1) (by omega) (by omega) (by omega)) (ringW_12 w) 0 (by simp)) (blk_at (h.st (w.heap.size + 1 + 1 + 1 + 1 + 1 + 1 + 1 + 1 + 1 + 1 + 1 + 1) (by omega) (by omega) (by omega)) (ringW_12 w) 1 (by simp)) (blk_at (h.st (w.heap.size + 1 + 1 + 1 + 1 + 1 + 1 + 1 + 1 + 1 + 1 + 1 + 1) (by omega) (by omega) (by omega)) (ringW_12 w) 2 (by simp)))
/-- The arg of the first edge. -/
theorem RingAt.a0 {n gv cv gi ci eb ab : Nat} {ob : Nat → Nat} {xs : List Int} {p0 i1 : Value} {e0b : Int} {e0a : Value} {w W : World} (h : RingAt w.heap.size n gv cv gi ci eb ab ob xs p0 i1 e0b e0a (ringW w) W) : SlOf W 1 RInt (.slice (some ⟨w.heap.size + 1 + 1 + 1 + 1 + 1 + 1, 0, none⟩) 1 1) [0] :=
  SlOf_one [.int .i64 0] rfl rfl (cells1 (blk_at (h.st (w.heap.size + 1 + 1 + 1 + 1 + 1 + 1) (by omega) (by omega) (by omega)) (ringW_6 w) 0 (by simp)))

theorem rgXs_at (ob : Nat → Nat) (n k : Nat) (hk : k < n) : (rgXs ob n)[k * 3]? = some (.int .i64 ((k : Int) + 4)) ∧ (rgXs ob n)[k * 3 + 1]? = some (.slice (some ⟨ob k, 0, none⟩) 2 2) ∧ (rgXs ob n)[k * 3 + 2]? = some (.slice none 0 0) := by
  have e := fun j hj => flat_at (fun k => rgX (ob k) k) 3 (fun _ => rfl) (List.range n) k j (by simpa using hk) hj
  simp only [List.getElem_range] at e
  exact ⟨e 0 (by omega), e 1 (by omega), e 2 (by omega)⟩
theorem rgXs_length (ob : Nat → Nat) (n : Nat) : (rgXs ob n).length = n * 3 := by
  have := flat_length (fun k => rgX (ob k) k) 3 (fun _ => rfl) (List.range n)
  simpa [rgXs] using this

theorem ring_is (k : Int) (n : Nat) (w : World) (hk : k = n) (h1 : 1 ≤ n) (hn : n ≤ 1000) :
    Calls Try.prog 13 #[.int .i64 k] w fun e w' => ∃ (gv cv gi ci eb ab : Nat) (ob : Nat → Nat), e = .returned (.agg #[.slice (some ⟨gv, 0, none⟩) (n + 2) cv, .slice (some ⟨w.heap.size + 1 + 1 + 1 + 1 + 1 + 1 + 1 + 1 + 1 + 1 + 1 + 1 + 1 + 1 + 1 + 1 + 1 + 1, 0, none⟩) 4 4]) ∧ RingAt w.heap.size n gv cv gi ci eb ab ob (List.replicate (n + 2) 0) (.slice none 0 0) (.slice (some ⟨w.heap.size + 1 + 1 + 1 + 1 + 1 + 1 + 1 + 1 + 1 + 1 + 1 + 1, 0, none⟩) 1 1) 1 (.slice (some ⟨w.heap.size + 1 + 1 + 1 + 1 + 1 + 1, 0, none⟩) 1 1) (ringW w) w' ∧ Below w.heap.size w w' := by
  subst hk
  refine (ring_any n w hn).mono ?_
  rintro e w' ⟨vv, vi, ob, eb, ab, wr, rfl, hS, hF, hb⟩
  obtain ⟨gv, cv, rfl, hgv, hgv', cv', zv⟩ := own_rowL hS.ov (by omega)
  obtain ⟨gi, ci, rfl, hgi, hgi', ci', zi⟩ := own_rowL hS.oi (by omega)
  have lF := hS.r2.lt
  have lt := hF.lt
  have nvb := hS.nvb gv rfl
  have dd : gv ≠ gi := fun e => hS.ap gv rfl (by simp [Value.ownBlock, e])
  obtain ⟨vi', hvi, r1⟩ := hF.r1
  have hvi2 : wr.cell? ⟨w.heap.size + 1 + 1 + 1 + 1 + 1 + 1 + 1 + 1 + 1 + 1 + 1 + 1 + 1 + 1 + 1 + 1 + 1 + 1, 7, none⟩ = some (.slice (some ⟨gi, 0, none⟩) n ci) := hS.r1.cell (i := 7) (by omega)
  rw [hvi2] at hvi
  cases hvi
  have kc : ∀ b j, b < wr.heap.size → b ≠ w.heap.size + 1 + 1 + 1 + 1 + 1 + 1 + 1 + 1 + 1 + 1 + 1 + 1 + 1 + 1 + 1 + 1 + 1 + 1 → b ≠ w.heap.size → w'.cell? ⟨b, j, none⟩ = wr.cell? ⟨b, j, none⟩ := fun b j h0 h1 h2 => World.cell?_of_block (hF.kept b h0 h1 h2)
  refine ⟨gv, cv, gi, ci, eb, ab, ob, rfl, ⟨by omega, ⟨nvb, by omega⟩, ⟨hgi, by omega⟩, ⟨by omega, by omega⟩, ⟨by omega, by omega⟩, ⟨dd, by omega, by omega⟩, fun k hk => ?_, fun k => ?_, r1, ?_, fun b h2 h17 h7 => (hF.kept b (by omega) (by omega) (by omega)).trans (hS.st b h2 h17), fun k hk => ?_, fun k hk => ?_, hF.rE, hF.rA⟩, hb⟩
  · refine (kc gv k (by omega) (by omega) (by omega)).trans ((cv' k ?_).trans ?_)
    · simp [cI] at hk ⊢; omega
    · congr 1
      have : (List.flatMap cI (List.replicate (n + 2) (0 : Int))) = List.replicate (n + 2) (.int .i64 0) := by simp [cI, List.flatMap_def]
      simp [this]
  · exact (World.frozen?_of_block (hF.kept gv (by omega) (by omega) (by omega))).trans (zv k)
  · refine ⟨_, (hF.kept _ (by omega) (by omega) (by omega)).trans ((hS.st _ (by omega) (by omega)).trans (ringW_7 w)), rfl, fun q hq => ?_⟩
    match q, hq with | 0, _ => rfl | 1, _ => rfl
  · obtain ⟨a0, a1, a2⟩ := rgXs_at ob n k hk
    have len := rgXs_length ob n
    have g : ∀ j v, (rgXs ob n)[j]? = some v → j < n * 3 → w'.cell? ⟨gi, j, none⟩ = some v := fun j v hv hj => by
      refine (kc gi j (by omega) (by omega) (by omega)).trans ((ci' j (by omega)).trans ?_)
      rw [← hv]
      exact (List.getElem?_eq_getElem (by omega)).symm
    exact ⟨g _ _ a0 (by omega), g _ _ a1 (by omega), g _ _ a2 (by omega)⟩
  · have o := hS.obs k hk
    have ob1 := o.base
    have ob2 := o.lt
    have ob3 := o.nv
    exact ⟨o.base, by omega, fun e => ob3 (by simp [Value.ownBlock, e]), (hF.kept _ o.lt (by omega) (by omega)).trans o.blk⟩
end Go.Proofs.Ytdlnofjmonpmgaa
namespace Go.Proofs.Ytdlnofjmonpmgaa
open Go.RowKit
set_option linter.unusedVariables false

theorem RingAt.updB {M n gv cv gi ci eb ab : Nat} {ob : Nat → Nat} {xs : List Int} {p0 i1 : Value} {e0b : Int} {e0a : Value} {W0 W : World} {W' : World} {p0' i1' : Value} (h : RingAt M n gv cv gi ci eb ab ob xs p0 i1 e0b e0a W0 W) (hz : W.heap.size ≤ W'.heap.size) (hk : ∀ b, M + 1 ≤ b → b < W.heap.size → b ≠ M + 1 + 1 + 1 + 1 + 1 + 1 + 1 + 1 + 1 + 1 + 1 + 1 + 1 + 1 + 1 + 1 + 1 + 1 → W'.heap[b]? = W.heap[b]?)
    (h1 : W'.rowIs (M + 1 + 1 + 1 + 1 + 1 + 1 + 1 + 1 + 1 + 1 + 1 + 1 + 1 + 1 + 1 + 1 + 1 + 1) 44 12 (fun q => (rgL M p0' i1' (.slice (some ⟨gi, 0, none⟩) n ci) (.slice (some ⟨eb, 0, none⟩) 1 1)).getD q undef)) :
    RingAt M n gv cv gi ci eb ab ob xs p0' i1' e0b e0a W0 W' := by
  have hb := h.big
  have lv := h.lv
  have li := h.li
  have le := h.le
  have la := h.la
  have d := h.d
  have c : ∀ b j, M + 1 ≤ b → b < W.heap.size → b ≠ M + 1 + 1 + 1 + 1 + 1 + 1 + 1 + 1 + 1 + 1 + 1 + 1 + 1 + 1 + 1 + 1 + 1 + 1 → W'.cell? ⟨b, j, none⟩ = W.cell? ⟨b, j, none⟩ := fun b j h0 h1 h2 => World.cell?_of_block (hk b h0 h1 h2)
  refine ⟨by omega, ⟨lv.1, by omega⟩, ⟨li.1, by omega⟩, ⟨le.1, by omega⟩, ⟨la.1, by omega⟩, d, fun k hk' => (c _ _ (by omega) (by omega) (by omega)).trans (h.v k hk'), fun k => (World.frozen?_of_block (hk gv (by omega) (by omega) (by omega))).trans (h.zv k), h1, h.rE0.of_block (hk _ (by omega) (by omega) (by omega)), fun b h2 h17 h7 => (hk b (by omega) (by omega) (by omega)).trans (h.st b h2 h17 h7), fun k hk' => ?_, fun k hk' => ?_, h.rE.of_block (hk _ (by omega) (by omega) (by omega)), h.rA.of_block (hk _ (by omega) (by omega) (by omega))⟩
  · obtain ⟨i0, i1, i2⟩ := h.i k hk'
    exact ⟨(c _ _ (by omega) (by omega) (by omega)).trans i0, (c _ _ (by omega) (by omega) (by omega)).trans i1, (c _ _ (by omega) (by omega) (by omega)).trans i2⟩
  · obtain ⟨o1, o2, o3, o4⟩ := h.obs k hk'
    exact ⟨o1, by omega, o3, (hk _ (by omega) o2 (by omega)).trans o4⟩

theorem RingAt.updE {M n gv cv gi ci eb ab : Nat} {ob : Nat → Nat} {xs : List Int} {p0 i1 : Value} {e0b : Int} {e0a : Value} {W0 W : World} {W' : World} {e0b' : Int} {e0a' : Value} (h : RingAt M n gv cv gi ci eb ab ob xs p0 i1 e0b e0a W0 W) (hz : W.heap.size ≤ W'.heap.size) (hk : ∀ b, M + 1 ≤ b → b < W.heap.size → b ≠ M + 1 + 1 + 1 + 1 + 1 + 1 + 1 → W'.heap[b]? = W.heap[b]?)
    (hE : W'.rowIs (M + 1 + 1 + 1 + 1 + 1 + 1 + 1) 46 2 (fun q => if q = 0 then .int .i64 e0b' else e0a')) :
    RingAt M n gv cv gi ci eb ab ob xs p0 i1 e0b' e0a' W0 W' := by
  have hb := h.big
  have lv := h.lv
  have li := h.li
  have le := h.le
  have la := h.la
  have d := h.d
  have c : ∀ b j, M + 1 ≤ b → b < W.heap.size → b ≠ M + 1 + 1 + 1 + 1 + 1 + 1 + 1 → W'.cell? ⟨b, j, none⟩ = W.cell? ⟨b, j, none⟩ := fun b j h0 h1 h2 => World.cell?_of_block (hk b h0 h1 h2)
  refine ⟨by omega, ⟨lv.1, by omega⟩, ⟨li.1, by omega⟩, ⟨le.1, by omega⟩, ⟨la.1, by omega⟩, d, fun k hk' => (c _ _ (by omega) (by omega) (by omega)).trans (h.v k hk'), fun k => (World.frozen?_of_block (hk gv (by omega) (by omega) (by omega))).trans (h.zv k), h.r1.of_block (hk _ (by omega) (by omega) (by omega)), hE, fun b h2 h17 h7 => (hk b (by omega) (by omega) (by omega)).trans (h.st b h2 h17 h7), fun k hk' => ?_, fun k hk' => ?_, h.rE.of_block (hk _ (by omega) (by omega) (by omega)), h.rA.of_block (hk _ (by omega) (by omega) (by omega))⟩
  · obtain ⟨i0, i1, i2⟩ := h.i k hk'
    exact ⟨(c _ _ (by omega) (by omega) (by omega)).trans i0, (c _ _ (by omega) (by omega) (by omega)).trans i1, (c _ _ (by omega) (by omega) (by omega)).trans i2⟩
  · obtain ⟨o1, o2, o3, o4⟩ := h.obs k hk'
    exact ⟨o1, by omega, o3, (hk _ (by omega) o2 (by omega)).trans o4⟩

theorem big_is (w W : World) (hb : Below W.heap.size W w) : Calls Try.prog 14 #[] w fun e w' => e = .returned (.agg #[.int .i64 10, .int .i64 10]) ∧ Below W.heap.size W w' := by
  refine (big_any w).mono ?_
  rintro e w' ⟨rfl, h⟩
  exact ⟨rfl, hb.trans (h.mono hb.size)⟩
end Go.Proofs.Ytdlnofjmonpmgaa
