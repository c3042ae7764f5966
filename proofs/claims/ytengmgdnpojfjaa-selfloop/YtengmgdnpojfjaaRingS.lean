/-
  How far 'ring' has come: what lies where, and that it is kept.
-/
import Derived.Test.YtengmgdnpojfjaaLine2
namespace Go.Proofs.Ytengmgdnpojfjaa
open Go.RowKit
set_option linter.unusedVariables false

/-- The world once ring's own composite has been made. -/
def ringW (w : World) : World := ((((((((((((((((((((w.alloc (.cells #[.slice none 0 0, .slice none 0 0] 25)).alloc (.cells #[.int .i64 0, .int .i64 0] 3)).alloc (.cells #[.int .i64 2, .int .i64 0, .bool true, .int .i64 1, .int .i64 0] 43)).alloc (.cells #[.int .i64 2, .int .i64 0, .bool true, .int .i64 1, .int .i64 0] 43)).alloc (.cells #[.int .i64 1, .slice (some ⟨w.heap.size + 1 + 1 + 1, 0, none⟩) 1 1, .slice none 0 0] 40)).alloc (.cells #[.int .i64 1, .slice (some ⟨w.heap.size + 1 + 1 + 1, 0, none⟩) 1 1, .slice none 0 0] 40)).alloc (.cells #[.int .i64 0] 3)).alloc (.cells #[.int .i64 1, .slice (some ⟨w.heap.size + 1 + 1 + 1 + 1 + 1 + 1, 0, none⟩) 1 1] 47)).alloc (.cells #[.int .i64 1] 3)).alloc (.cells #[.int .i64 1, .int .i64 1, .bool false, .int .i64 1, .int .i64 0] 43)).alloc (.cells #[.int .i64 1, .int .i64 1, .bool false, .int .i64 1, .int .i64 0] 43)).alloc (.cells #[.int .i64 2, .slice (some ⟨w.heap.size + 1 + 1 + 1 + 1 + 1 + 1 + 1 + 1 + 1 + 1, 0, none⟩) 1 1, .slice none 0 0] 40)).alloc (.cells #[.int .i64 2, .slice (some ⟨w.heap.size + 1 + 1 + 1 + 1 + 1 + 1 + 1 + 1 + 1 + 1, 0, none⟩) 1 1, .slice none 0 0] 40)).alloc (.cells #[.int .i64 2, .slice none 0 0, .int .i64 3, .slice none 0 0] 47)).alloc (.cells #[.int .i64 1, .int .i64 1, .bool false, .int .i64 1, .int .i64 0] 43)).alloc (.cells #[.int .i64 1, .int .i64 1, .bool false, .int .i64 1, .int .i64 0] 43)).alloc (.cells #[.int .i64 3, .slice (some ⟨w.heap.size + 1 + 1 + 1 + 1 + 1 + 1 + 1 + 1 + 1 + 1 + 1 + 1 + 1 + 1 + 1, 0, none⟩) 1 1, .slice none 0 0] 40)).alloc (.cells #[.int .i64 3, .slice (some ⟨w.heap.size + 1 + 1 + 1 + 1 + 1 + 1 + 1 + 1 + 1 + 1 + 1 + 1 + 1 + 1 + 1, 0, none⟩) 1 1, .slice none 0 0] 40)).alloc (.cells #[.slice none 0 0, .slice (some ⟨w.heap.size + 1 + 1 + 1 + 1 + 1, 0, none⟩) 1 1, .slice (some ⟨w.heap.size + 1 + 1 + 1 + 1 + 1 + 1 + 1, 0, none⟩) 1 1, .slice (some ⟨w.heap.size + 1 + 1 + 1 + 1 + 1 + 1 + 1 + 1, 0, none⟩) 1 1, .slice (some ⟨w.heap.size + 1 + 1 + 1 + 1 + 1 + 1 + 1 + 1 + 1 + 1 + 1 + 1, 0, none⟩) 1 1, .slice (some ⟨w.heap.size + 1 + 1 + 1 + 1 + 1 + 1 + 1 + 1 + 1 + 1 + 1 + 1 + 1, 0, none⟩) 2 2, .slice none 0 0, .slice none 0 0, .slice none 0 0, .slice none 0 0, .slice (some ⟨w.heap.size + 1 + 1 + 1 + 1 + 1 + 1 + 1 + 1 + 1 + 1 + 1 + 1 + 1 + 1 + 1 + 1 + 1, 0, none⟩) 1 1, .slice none 0 0] 50)).alloc (.cells #[.slice (some ⟨w.heap.size + 1, 0, none⟩) 2 2, .slice (some ⟨w.heap.size + 1 + 1 + 1 + 1 + 1 + 1 + 1 + 1 + 1 + 1 + 1 + 1 + 1 + 1 + 1 + 1 + 1 + 1, 0, none⟩) 4 4] 25))
theorem ringW_size (w : World) : (ringW w).heap.size = w.heap.size + 1 + 1 + 1 + 1 + 1 + 1 + 1 + 1 + 1 + 1 + 1 + 1 + 1 + 1 + 1 + 1 + 1 + 1 + 1 + 1 := by unfold ringW; simp
theorem ringW_below (w : World) : Below (w.heap.size + 1) (w.alloc (.cells #[.slice none 0 0, .slice none 0 0] 25)) (ringW w) := by
  unfold ringW
  refine Below.alloc ?_ (by simp <;> omega) _
  refine Below.alloc ?_ (by simp <;> omega) _
  refine Below.alloc ?_ (by simp <;> omega) _
  refine Below.alloc ?_ (by simp <;> omega) _
  refine Below.alloc ?_ (by simp <;> omega) _
  refine Below.alloc ?_ (by simp <;> omega) _
  refine Below.alloc ?_ (by simp <;> omega) _
  refine Below.alloc ?_ (by simp <;> omega) _
  refine Below.alloc ?_ (by simp <;> omega) _
  refine Below.alloc ?_ (by simp <;> omega) _
  refine Below.alloc ?_ (by simp <;> omega) _
  refine Below.alloc ?_ (by simp <;> omega) _
  refine Below.alloc ?_ (by simp <;> omega) _
  refine Below.alloc ?_ (by simp <;> omega) _
  refine Below.alloc ?_ (by simp <;> omega) _
  refine Below.alloc ?_ (by simp <;> omega) _
  refine Below.alloc ?_ (by simp <;> omega) _
  refine Below.alloc ?_ (by simp <;> omega) _
  refine Below.alloc ?_ (by simp <;> omega) _
  exact Below.refl _ _
theorem ringW_1 (w : World) : (ringW w).heap[w.heap.size + 1]? = some (.cells #[.int .i64 0, .int .i64 0] 3) := by
  unfold ringW
  rw [Below.heap_alloc _ _ _ (by simp), Below.heap_alloc _ _ _ (by simp), Below.heap_alloc _ _ _ (by simp), Below.heap_alloc _ _ _ (by simp), Below.heap_alloc _ _ _ (by simp), Below.heap_alloc _ _ _ (by simp), Below.heap_alloc _ _ _ (by simp), Below.heap_alloc _ _ _ (by simp), Below.heap_alloc _ _ _ (by simp), Below.heap_alloc _ _ _ (by simp), Below.heap_alloc _ _ _ (by simp), Below.heap_alloc _ _ _ (by simp), Below.heap_alloc _ _ _ (by simp), Below.heap_alloc _ _ _ (by simp), Below.heap_alloc _ _ _ (by simp), Below.heap_alloc _ _ _ (by simp), Below.heap_alloc _ _ _ (by simp), Below.heap_alloc _ _ _ (by simp)]
  exact heap_atL (by simp)
theorem ringW_2 (w : World) : (ringW w).heap[w.heap.size + 1 + 1]? = some (.cells #[.int .i64 2, .int .i64 0, .bool true, .int .i64 1, .int .i64 0] 43) := by
  unfold ringW
  rw [Below.heap_alloc _ _ _ (by simp), Below.heap_alloc _ _ _ (by simp), Below.heap_alloc _ _ _ (by simp), Below.heap_alloc _ _ _ (by simp), Below.heap_alloc _ _ _ (by simp), Below.heap_alloc _ _ _ (by simp), Below.heap_alloc _ _ _ (by simp), Below.heap_alloc _ _ _ (by simp), Below.heap_alloc _ _ _ (by simp), Below.heap_alloc _ _ _ (by simp), Below.heap_alloc _ _ _ (by simp), Below.heap_alloc _ _ _ (by simp), Below.heap_alloc _ _ _ (by simp), Below.heap_alloc _ _ _ (by simp), Below.heap_alloc _ _ _ (by simp), Below.heap_alloc _ _ _ (by simp), Below.heap_alloc _ _ _ (by simp)]
  exact heap_atL (by simp)
theorem ringW_3 (w : World) : (ringW w).heap[w.heap.size + 1 + 1 + 1]? = some (.cells #[.int .i64 2, .int .i64 0, .bool true, .int .i64 1, .int .i64 0] 43) := by
  unfold ringW
  rw [Below.heap_alloc _ _ _ (by simp), Below.heap_alloc _ _ _ (by simp), Below.heap_alloc _ _ _ (by simp), Below.heap_alloc _ _ _ (by simp), Below.heap_alloc _ _ _ (by simp), Below.heap_alloc _ _ _ (by simp), Below.heap_alloc _ _ _ (by simp), Below.heap_alloc _ _ _ (by simp), Below.heap_alloc _ _ _ (by simp), Below.heap_alloc _ _ _ (by simp), Below.heap_alloc _ _ _ (by simp), Below.heap_alloc _ _ _ (by simp), Below.heap_alloc _ _ _ (by simp), Below.heap_alloc _ _ _ (by simp), Below.heap_alloc _ _ _ (by simp), Below.heap_alloc _ _ _ (by simp)]
  exact heap_atL (by simp)
theorem ringW_4 (w : World) : (ringW w).heap[w.heap.size + 1 + 1 + 1 + 1]? = some (.cells #[.int .i64 1, .slice (some ⟨w.heap.size + 1 + 1 + 1, 0, none⟩) 1 1, .slice none 0 0] 40) := by
  unfold ringW
  rw [Below.heap_alloc _ _ _ (by simp), Below.heap_alloc _ _ _ (by simp), Below.heap_alloc _ _ _ (by simp), Below.heap_alloc _ _ _ (by simp), Below.heap_alloc _ _ _ (by simp), Below.heap_alloc _ _ _ (by simp), Below.heap_alloc _ _ _ (by simp), Below.heap_alloc _ _ _ (by simp), Below.heap_alloc _ _ _ (by simp), Below.heap_alloc _ _ _ (by simp), Below.heap_alloc _ _ _ (by simp), Below.heap_alloc _ _ _ (by simp), Below.heap_alloc _ _ _ (by simp), Below.heap_alloc _ _ _ (by simp), Below.heap_alloc _ _ _ (by simp)]
  exact heap_atL (by simp)
theorem ringW_5 (w : World) : (ringW w).heap[w.heap.size + 1 + 1 + 1 + 1 + 1]? = some (.cells #[.int .i64 1, .slice (some ⟨w.heap.size + 1 + 1 + 1, 0, none⟩) 1 1, .slice none 0 0] 40) := by
  unfold ringW
  rw [Below.heap_alloc _ _ _ (by simp), Below.heap_alloc _ _ _ (by simp), Below.heap_alloc _ _ _ (by simp), Below.heap_alloc _ _ _ (by simp), Below.heap_alloc _ _ _ (by simp), Below.heap_alloc _ _ _ (by simp), Below.heap_alloc _ _ _ (by simp), Below.heap_alloc _ _ _ (by simp), Below.heap_alloc _ _ _ (by simp), Below.heap_alloc _ _ _ (by simp), Below.heap_alloc _ _ _ (by simp), Below.heap_alloc _ _ _ (by simp), Below.heap_alloc _ _ _ (by simp), Below.heap_alloc _ _ _ (by simp)]
  exact heap_atL (by simp)
theorem ringW_6 (w : World) : (ringW w).heap[w.heap.size + 1 + 1 + 1 + 1 + 1 + 1]? = some (.cells #[.int .i64 0] 3) := by
  unfold ringW
  rw [Below.heap_alloc _ _ _ (by simp), Below.heap_alloc _ _ _ (by simp), Below.heap_alloc _ _ _ (by simp), Below.heap_alloc _ _ _ (by simp), Below.heap_alloc _ _ _ (by simp), Below.heap_alloc _ _ _ (by simp), Below.heap_alloc _ _ _ (by simp), Below.heap_alloc _ _ _ (by simp), Below.heap_alloc _ _ _ (by simp), Below.heap_alloc _ _ _ (by simp), Below.heap_alloc _ _ _ (by simp), Below.heap_alloc _ _ _ (by simp), Below.heap_alloc _ _ _ (by simp)]
  exact heap_atL (by simp)
theorem ringW_7 (w : World) : (ringW w).heap[w.heap.size + 1 + 1 + 1 + 1 + 1 + 1 + 1]? = some (.cells #[.int .i64 1, .slice (some ⟨w.heap.size + 1 + 1 + 1 + 1 + 1 + 1, 0, none⟩) 1 1] 47) := by
  unfold ringW
  rw [Below.heap_alloc _ _ _ (by simp), Below.heap_alloc _ _ _ (by simp), Below.heap_alloc _ _ _ (by simp), Below.heap_alloc _ _ _ (by simp), Below.heap_alloc _ _ _ (by simp), Below.heap_alloc _ _ _ (by simp), Below.heap_alloc _ _ _ (by simp), Below.heap_alloc _ _ _ (by simp), Below.heap_alloc _ _ _ (by simp), Below.heap_alloc _ _ _ (by simp), Below.heap_alloc _ _ _ (by simp), Below.heap_alloc _ _ _ (by simp)]
  exact heap_atL (by simp)
theorem ringW_8 (w : World) : (ringW w).heap[w.heap.size + 1 + 1 + 1 + 1 + 1 + 1 + 1 + 1]? = some (.cells #[.int .i64 1] 3) := by
  unfold ringW
  rw [Below.heap_alloc _ _ _ (by simp), Below.heap_alloc _ _ _ (by simp), Below.heap_alloc _ _ _ (by simp), Below.heap_alloc _ _ _ (by simp), Below.heap_alloc _ _ _ (by simp), Below.heap_alloc _ _ _ (by simp), Below.heap_alloc _ _ _ (by simp), Below.heap_alloc _ _ _ (by simp), Below.heap_alloc _ _ _ (by simp), Below.heap_alloc _ _ _ (by simp), Below.heap_alloc _ _ _ (by simp)]
  exact heap_atL (by simp)
theorem ringW_9 (w : World) : (ringW w).heap[w.heap.size + 1 + 1 + 1 + 1 + 1 + 1 + 1 + 1 + 1]? = some (.cells #[.int .i64 1, .int .i64 1, .bool false, .int .i64 1, .int .i64 0] 43) := by
  unfold ringW
  rw [Below.heap_alloc _ _ _ (by simp), Below.heap_alloc _ _ _ (by simp), Below.heap_alloc _ _ _ (by simp), Below.heap_alloc _ _ _ (by simp), Below.heap_alloc _ _ _ (by simp), Below.heap_alloc _ _ _ (by simp), Below.heap_alloc _ _ _ (by simp), Below.heap_alloc _ _ _ (by simp), Below.heap_alloc _ _ _ (by simp), Below.heap_alloc _ _ _ (by simp)]
  exact heap_atL (by simp)
theorem ringW_10 (w : World) : (ringW w).heap[w.heap.size + 1 + 1 + 1 + 1 + 1 + 1 + 1 + 1 + 1 + 1]? = some (.cells #[.int .i64 1, .int .i64 1, .bool false, .int .i64 1, .int .i64 0] 43) := by
  unfold ringW
  rw [Below.heap_alloc _ _ _ (by simp), Below.heap_alloc _ _ _ (by simp), Below.heap_alloc _ _ _ (by simp), Below.heap_alloc _ _ _ (by simp), Below.heap_alloc _ _ _ (by simp), Below.heap_alloc _ _ _ (by simp), Below.heap_alloc _ _ _ (by simp), Below.heap_alloc _ _ _ (by simp), Below.heap_alloc _ _ _ (by simp)]
  exact heap_atL (by simp)
theorem ringW_11 (w : World) : (ringW w).heap[w.heap.size + 1 + 1 + 1 + 1 + 1 + 1 + 1 + 1 + 1 + 1 + 1]? = some (.cells #[.int .i64 2, .slice (some ⟨w.heap.size + 1 + 1 + 1 + 1 + 1 + 1 + 1 + 1 + 1 + 1, 0, none⟩) 1 1, .slice none 0 0] 40) := by
  unfold ringW
  rw [Below.heap_alloc _ _ _ (by simp), Below.heap_alloc _ _ _ (by simp), Below.heap_alloc _ _ _ (by simp), Below.heap_alloc _ _ _ (by simp), Below.heap_alloc _ _ _ (by simp), Below.heap_alloc _ _ _ (by simp), Below.heap_alloc _ _ _ (by simp), Below.heap_alloc _ _ _ (by simp)]
  exact heap_atL (by simp)
theorem ringW_12 (w : World) : (ringW w).heap[w.heap.size + 1 + 1 + 1 + 1 + 1 + 1 + 1 + 1 + 1 + 1 + 1 + 1]? = some (.cells #[.int .i64 2, .slice (some ⟨w.heap.size + 1 + 1 + 1 + 1 + 1 + 1 + 1 + 1 + 1 + 1, 0, none⟩) 1 1, .slice none 0 0] 40) := by
  unfold ringW
  rw [Below.heap_alloc _ _ _ (by simp), Below.heap_alloc _ _ _ (by simp), Below.heap_alloc _ _ _ (by simp), Below.heap_alloc _ _ _ (by simp), Below.heap_alloc _ _ _ (by simp), Below.heap_alloc _ _ _ (by simp), Below.heap_alloc _ _ _ (by simp)]
  exact heap_atL (by simp)
theorem ringW_13 (w : World) : (ringW w).heap[w.heap.size + 1 + 1 + 1 + 1 + 1 + 1 + 1 + 1 + 1 + 1 + 1 + 1 + 1]? = some (.cells #[.int .i64 2, .slice none 0 0, .int .i64 3, .slice none 0 0] 47) := by
  unfold ringW
  rw [Below.heap_alloc _ _ _ (by simp), Below.heap_alloc _ _ _ (by simp), Below.heap_alloc _ _ _ (by simp), Below.heap_alloc _ _ _ (by simp), Below.heap_alloc _ _ _ (by simp), Below.heap_alloc _ _ _ (by simp)]
  exact heap_atL (by simp)
theorem ringW_14 (w : World) : (ringW w).heap[w.heap.size + 1 + 1 + 1 + 1 + 1 + 1 + 1 + 1 + 1 + 1 + 1 + 1 + 1 + 1]? = some (.cells #[.int .i64 1, .int .i64 1, .bool false, .int .i64 1, .int .i64 0] 43) := by
  unfold ringW
  rw [Below.heap_alloc _ _ _ (by simp), Below.heap_alloc _ _ _ (by simp), Below.heap_alloc _ _ _ (by simp), Below.heap_alloc _ _ _ (by simp), Below.heap_alloc _ _ _ (by simp)]
  exact heap_atL (by simp)
theorem ringW_15 (w : World) : (ringW w).heap[w.heap.size + 1 + 1 + 1 + 1 + 1 + 1 + 1 + 1 + 1 + 1 + 1 + 1 + 1 + 1 + 1]? = some (.cells #[.int .i64 1, .int .i64 1, .bool false, .int .i64 1, .int .i64 0] 43) := by
  unfold ringW
  rw [Below.heap_alloc _ _ _ (by simp), Below.heap_alloc _ _ _ (by simp), Below.heap_alloc _ _ _ (by simp), Below.heap_alloc _ _ _ (by simp)]
  exact heap_atL (by simp)
theorem ringW_16 (w : World) : (ringW w).heap[w.heap.size + 1 + 1 + 1 + 1 + 1 + 1 + 1 + 1 + 1 + 1 + 1 + 1 + 1 + 1 + 1 + 1]? = some (.cells #[.int .i64 3, .slice (some ⟨w.heap.size + 1 + 1 + 1 + 1 + 1 + 1 + 1 + 1 + 1 + 1 + 1 + 1 + 1 + 1 + 1, 0, none⟩) 1 1, .slice none 0 0] 40) := by
  unfold ringW
  rw [Below.heap_alloc _ _ _ (by simp), Below.heap_alloc _ _ _ (by simp), Below.heap_alloc _ _ _ (by simp)]
  exact heap_atL (by simp)
theorem ringW_17 (w : World) : (ringW w).heap[w.heap.size + 1 + 1 + 1 + 1 + 1 + 1 + 1 + 1 + 1 + 1 + 1 + 1 + 1 + 1 + 1 + 1 + 1]? = some (.cells #[.int .i64 3, .slice (some ⟨w.heap.size + 1 + 1 + 1 + 1 + 1 + 1 + 1 + 1 + 1 + 1 + 1 + 1 + 1 + 1 + 1, 0, none⟩) 1 1, .slice none 0 0] 40) := by
  unfold ringW
  rw [Below.heap_alloc _ _ _ (by simp), Below.heap_alloc _ _ _ (by simp)]
  exact heap_atL (by simp)
theorem ringW_18 (w : World) : (ringW w).heap[w.heap.size + 1 + 1 + 1 + 1 + 1 + 1 + 1 + 1 + 1 + 1 + 1 + 1 + 1 + 1 + 1 + 1 + 1 + 1]? = some (.cells #[.slice none 0 0, .slice (some ⟨w.heap.size + 1 + 1 + 1 + 1 + 1, 0, none⟩) 1 1, .slice (some ⟨w.heap.size + 1 + 1 + 1 + 1 + 1 + 1 + 1, 0, none⟩) 1 1, .slice (some ⟨w.heap.size + 1 + 1 + 1 + 1 + 1 + 1 + 1 + 1, 0, none⟩) 1 1, .slice (some ⟨w.heap.size + 1 + 1 + 1 + 1 + 1 + 1 + 1 + 1 + 1 + 1 + 1 + 1, 0, none⟩) 1 1, .slice (some ⟨w.heap.size + 1 + 1 + 1 + 1 + 1 + 1 + 1 + 1 + 1 + 1 + 1 + 1 + 1, 0, none⟩) 2 2, .slice none 0 0, .slice none 0 0, .slice none 0 0, .slice none 0 0, .slice (some ⟨w.heap.size + 1 + 1 + 1 + 1 + 1 + 1 + 1 + 1 + 1 + 1 + 1 + 1 + 1 + 1 + 1 + 1 + 1, 0, none⟩) 1 1, .slice none 0 0] 50) := by
  unfold ringW
  rw [Below.heap_alloc _ _ _ (by simp)]
  exact heap_atL (by simp)
theorem ringW_19 (w : World) : (ringW w).heap[w.heap.size + 1 + 1 + 1 + 1 + 1 + 1 + 1 + 1 + 1 + 1 + 1 + 1 + 1 + 1 + 1 + 1 + 1 + 1 + 1]? = some (.cells #[.slice (some ⟨w.heap.size + 1, 0, none⟩) 2 2, .slice (some ⟨w.heap.size + 1 + 1 + 1 + 1 + 1 + 1 + 1 + 1 + 1 + 1 + 1 + 1 + 1 + 1 + 1 + 1 + 1 + 1, 0, none⟩) 4 4] 25) := by
  unfold ringW
  exact heap_atL (by simp)

/-- The operands of the body's instruction number k. -/
def rgO (k : Nat) : List Opr := [⟨1, (k : Int) + 1, false, 1, 0⟩, ⟨2, (k : Int) + 2, true, 1, 0⟩]
def rgI (k : Nat) : Ins := ⟨(k : Int) + 4, rgO k, []⟩
def rgX (o : Nat) (k : Nat) : List Value := [.int .i64 ((k : Int) + 4), .slice (some ⟨o, 0, none⟩) 2 2, .slice none 0 0]
def rgXs (ob : Nat → Nat) (i : Nat) : List Value := (List.range i).flatMap fun k => rgX (ob k) k
theorem rgXs_snoc (ob : Nat → Nat) (i o : Nat) : rgXs (fun k => if k = i then o else ob k) (i + 1) = rgXs ob i ++ rgX o i := by
  unfold rgXs
  rw [List.range_succ, List.flatMap_append]
  congr 1
  · simp only [List.flatMap_def]
    congr 1
    refine List.map_congr_left fun k hk => ?_
    have : k < i := List.mem_range.1 hk
    rw [if_neg (by omega)]
  · simp [rgX]

structure ObOkR (wr : World) (M : Nat) (vv vi : Value) (ob : Nat → Nat) (k : Nat) : Prop where
  base : M + 1 + 1 + 1 + 1 + 1 + 1 + 1 + 1 + 1 + 1 + 1 + 1 + 1 + 1 + 1 + 1 + 1 + 1 + 1 + 1 ≤ ob k
  lt : ob k < wr.heap.size
  nv : vv.ownBlock ≠ some (ob k)
  ni : vi.ownBlock ≠ some (ob k)
  blk : wr.heap[ob k]? = some (.cells ((rgO k).flatMap cO).toArray 43)
/-- The twelve cells of ring's blocks. -/
def rgL (M : Nat) (p0 i1 vi e2 : Value) : List Value := [p0, .slice (some ⟨M + 1 + 1 + 1 + 1 + 1, 0, none⟩) 1 1, .slice (some ⟨M + 1 + 1 + 1 + 1 + 1 + 1 + 1, 0, none⟩) 1 1, .slice (some ⟨M + 1 + 1 + 1 + 1 + 1 + 1 + 1 + 1, 0, none⟩) 1 1, i1, .slice (some ⟨M + 1 + 1 + 1 + 1 + 1 + 1 + 1 + 1 + 1 + 1 + 1 + 1 + 1, 0, none⟩) 2 2, .slice none 0 0, vi, e2, .slice none 0 0, .slice (some ⟨M + 1 + 1 + 1 + 1 + 1 + 1 + 1 + 1 + 1 + 1 + 1 + 1 + 1 + 1 + 1 + 1 + 1, 0, none⟩) 1 1, .slice none 0 0]
structure RingSt (M nv ni : Nat) (vv vi : Value) (ob : Nat → Nat) (W0 wr : World) : Prop where
  r1 : wr.rowIs (M + 1 + 1 + 1 + 1 + 1 + 1 + 1 + 1 + 1 + 1 + 1 + 1 + 1 + 1 + 1 + 1 + 1 + 1) 50 12 (fun q => (rgL M (.slice none 0 0) (.slice (some ⟨M + 1 + 1 + 1 + 1 + 1 + 1 + 1 + 1 + 1 + 1 + 1 + 1, 0, none⟩) 1 1) vi (.slice none 0 0)).getD q undef)
  r2 : wr.rowIs (M + 1 + 1 + 1 + 1 + 1 + 1 + 1 + 1 + 1 + 1 + 1 + 1 + 1 + 1 + 1 + 1 + 1 + 1 + 1) 25 2 (fun q => if q = 0 then vv else .slice (some ⟨M + 1 + 1 + 1 + 1 + 1 + 1 + 1 + 1 + 1 + 1 + 1 + 1 + 1 + 1 + 1 + 1 + 1 + 1, 0, none⟩) 4 4)
  ov : wr.ownsRow (M + 1) 3 1 vv nv ((List.replicate nv (0 : Int)).flatMap cI)
  oi : wr.ownsRow (M + 1 + 1 + 1 + 1 + 1 + 1 + 1 + 1 + 1 + 1 + 1 + 1 + 1 + 1 + 1 + 1 + 1 + 1 + 1 + 1) 40 3 vi ni (rgXs ob ni)
  nvb : ∀ b, vv.ownBlock = some b → b = M + 1 ∨ M + 1 + 1 + 1 + 1 + 1 + 1 + 1 + 1 + 1 + 1 + 1 + 1 + 1 + 1 + 1 + 1 + 1 + 1 + 1 + 1 ≤ b
  ap : apartW vv vi
  st : ∀ b, M + 1 + 1 ≤ b → b ≤ M + 1 + 1 + 1 + 1 + 1 + 1 + 1 + 1 + 1 + 1 + 1 + 1 + 1 + 1 + 1 + 1 + 1 → wr.heap[b]? = W0.heap[b]?
  obs : ∀ k, k < ni → ObOkR wr M vv vi ob k
  inj : ∀ j k, j < ni → k < ni → ob j = ob k → j = k

theorem RingSt.below {M nv ni : Nat} {vv vi : Value} {ob : Nat → Nat} {W0 wr w' : World} (h : RingSt M nv ni vv vi ob W0 wr) (hb : Below wr.heap.size wr w') : RingSt M nv ni vv vi ob W0 w' := by
  have kept := hb.block
  have lF := h.r2.lt
  refine ⟨h.r1.of_block (kept _ h.r1.lt), h.r2.of_block (kept _ h.r2.lt), own_keep h.ov fun g _ _ hl => kept g hl, own_keep h.oi fun g _ _ hl => kept g hl, h.nvb, h.ap, fun b h2 h17 => (kept b (by omega)).trans (h.st b h2 h17), fun k hk => ?_, h.inj⟩
  have o := h.obs k hk
  exact ⟨o.base, Nat.lt_of_lt_of_le o.lt hb.size, o.nv, o.ni, (kept _ o.lt).trans o.blk⟩

theorem ringSt0 (w : World) : RingSt w.heap.size 2 0 (.slice (some ⟨w.heap.size + 1, 0, none⟩) 2 2) (.slice none 0 0) (fun _ => 0) (ringW w) (ringW w) := by
  refine ⟨⟨_, ringW_18 w, rfl, fun q hq => ?_⟩, ⟨_, ringW_19 w, rfl, fun q hq => ?_⟩, ⟨rfl, Or.inr ⟨w.heap.size + 1, 2, _, rfl, Nat.le_refl _, ringW_1 w, by omega, by unfold maxLen; omega, rfl, rfl⟩⟩, World.ownsRow_nil _ _ _ _, fun b hb => Or.inl (by simp [Value.ownBlock] at hb; exact hb.symm), fun g h => by simp [Value.ownBlock], fun b _ _ => rfl, fun k hk => absurd hk (by omega), fun j k hj => absurd hj (by omega)⟩
  · match q, hq with | 0, _ => rfl | 1, _ => rfl | 2, _ => rfl | 3, _ => rfl | 4, _ => rfl | 5, _ => rfl | 6, _ => rfl | 7, _ => rfl | 8, _ => rfl | 9, _ => rfl | 10, _ => rfl | 11, _ => rfl
  · match q, hq with | 0, _ => rfl | 1, _ => rfl

/-- A write to a block ahead of all that. -/
theorem RingSt.after {M nv ni : Nat} {vv vi : Value} {ob : Nat → Nat} {W0 wr w' : World} (h : RingSt M nv ni vv vi ob W0 wr) (B : Nat) (hB : B < M + 1) (hB' : B < wr.heap.size) (hz : wr.heap.size ≤ w'.heap.size) (hk : ∀ b, b ≠ B → w'.heap[b]? = wr.heap[b]?) : RingSt M nv ni vv vi ob W0 w' := by
  refine ⟨h.r1.of_block (hk _ (by omega)), h.r2.of_block (hk _ (by omega)), own_keep h.ov fun g _ hb _ => hk g (by omega), own_keep h.oi fun g _ hb _ => hk g (by omega), h.nvb, h.ap, fun b h2 h17 => (hk b (by omega)).trans (h.st b h2 h17), fun k hk' => ?_, h.inj⟩
  have o := h.obs k hk'
  exact ⟨o.base, Nat.lt_of_lt_of_le o.lt hz, o.nv, o.ni, (hk _ (by have := o.base; omega)).trans o.blk⟩

/-- One value more. -/
theorem RingSt.vals {M nv ni : Nat} {vv vi : Value} {ob : Nat → Nat} {W0 wr w1 : World} (h : RingSt M nv ni vv vi ob W0 wr) {o : Obj} {g cap : Nat}
    (hown : w1.ownsRow (M + 1) 3 1 (.slice (some ⟨g, 0, none⟩) (nv + 1) cap) (nv + 1) ((List.replicate nv (0 : Int)).flatMap cI ++ [.int .i64 0]))
    (hgrow : (wr.alloc o).grownBy w1 vv.ownBlock) (hat : vv.ownBlock = some g ∨ g = wr.heap.size + 1) :
    w1.rowIs (M + 1 + 1 + 1 + 1 + 1 + 1 + 1 + 1 + 1 + 1 + 1 + 1 + 1 + 1 + 1 + 1 + 1 + 1 + 1) 25 2 (fun q => if q = 0 then vv else .slice (some ⟨M + 1 + 1 + 1 + 1 + 1 + 1 + 1 + 1 + 1 + 1 + 1 + 1 + 1 + 1 + 1 + 1 + 1 + 1, 0, none⟩) 4 4) ∧ RingSt M (nv + 1) ni (.slice (some ⟨g, 0, none⟩) (nv + 1) cap) vi ob W0 (w1.setCell ⟨M + 1 + 1 + 1 + 1 + 1 + 1 + 1 + 1 + 1 + 1 + 1 + 1 + 1 + 1 + 1 + 1 + 1 + 1 + 1, 0, none⟩ (.slice (some ⟨g, 0, none⟩) (nv + 1) cap)) := by
  have lF := h.r2.lt
  have kept : ∀ b, b < wr.heap.size → some b ≠ vv.ownBlock → w1.heap[b]? = wr.heap[b]? := fun b hb hne => (hgrow.block b (by simp; omega) hne).trans (Below.heap_alloc _ _ _ hb)
  have far : ∀ b, M + 1 + 1 ≤ b → b < M + 1 + 1 + 1 + 1 + 1 + 1 + 1 + 1 + 1 + 1 + 1 + 1 + 1 + 1 + 1 + 1 + 1 + 1 + 1 + 1 → some b ≠ vv.ownBlock := fun b hb hb' e => by have := h.nvb b e.symm; omega
  have hz := hgrow.size
  simp at hz
  have k1 := h.r1.of_block (kept (M + 1 + 1 + 1 + 1 + 1 + 1 + 1 + 1 + 1 + 1 + 1 + 1 + 1 + 1 + 1 + 1 + 1 + 1) h.r1.lt (far _ (by omega) (by omega)))
  have k2 := h.r2.of_block (kept (M + 1 + 1 + 1 + 1 + 1 + 1 + 1 + 1 + 1 + 1 + 1 + 1 + 1 + 1 + 1 + 1 + 1 + 1 + 1) h.r2.lt (far _ (by omega) (by omega)))
  have ni' : w1.ownsRow (M + 1 + 1 + 1 + 1 + 1 + 1 + 1 + 1 + 1 + 1 + 1 + 1 + 1 + 1 + 1 + 1 + 1 + 1 + 1 + 1) 40 3 vi ni (rgXs ob ni) := own_keep h.oi fun b hx hb hlt => kept b hlt fun e => h.ap b e.symm hx
  have avi : ∀ b, vi.ownBlock = some b → b ≠ g := fun b hx e => by
    subst e
    rcases hat with hat | hat
    · exact h.ap b hat hx
    · have := own_base h.oi hx; omega
  have hgb : g = M + 1 ∨ M + 1 + 1 + 1 + 1 + 1 + 1 + 1 + 1 + 1 + 1 + 1 + 1 + 1 + 1 + 1 + 1 + 1 + 1 + 1 + 1 ≤ g := by
    rcases hat with hat | hat
    · exact h.nvb g hat
    · omega
  have nn : w1.ownsRow (M + 1) 3 1 (.slice (some ⟨g, 0, none⟩) (nv + 1) cap) (nv + 1) ((List.replicate (nv + 1) (0 : Int)).flatMap cI) := by rw [rep_snoc0]; exact hown
  have hst : ∀ b, b ≠ M + 1 + 1 + 1 + 1 + 1 + 1 + 1 + 1 + 1 + 1 + 1 + 1 + 1 + 1 + 1 + 1 + 1 + 1 + 1 → (w1.setCell ⟨M + 1 + 1 + 1 + 1 + 1 + 1 + 1 + 1 + 1 + 1 + 1 + 1 + 1 + 1 + 1 + 1 + 1 + 1 + 1, 0, none⟩ (.slice (some ⟨g, 0, none⟩) (nv + 1) cap)).heap[b]? = w1.heap[b]? := fun b hh => Below.heap_setCell _ _ _ _ hh
  refine ⟨k2, k1.setOther (by show M + 1 + 1 + 1 + 1 + 1 + 1 + 1 + 1 + 1 + 1 + 1 + 1 + 1 + 1 + 1 + 1 + 1 + 1 ≠ M + 1 + 1 + 1 + 1 + 1 + 1 + 1 + 1 + 1 + 1 + 1 + 1 + 1 + 1 + 1 + 1 + 1 + 1 + 1; omega) _, (k2.set 0 _).congr fun q hq => by match q, hq with | 0, _ => rfl | 1, _ => rfl, own_keep nn fun b hx hb _ => hst b (by simp [Value.ownBlock] at hx; omega), own_keep ni' fun b _ hb _ => hst b (by omega), (fun b hx => by simp [Value.ownBlock] at hx; subst hx; exact hgb), (fun b hx => by simp [Value.ownBlock] at hx; intro hy; exact avi b hy hx.symm), fun b h2 h17 => (hst b (by omega)).trans ((kept b (by omega) (far b h2 (by omega))).trans (h.st b h2 h17)), fun k hk => ?_, h.inj⟩
  have o := h.obs k hk
  have ob' := o.base
  refine ⟨o.base, by have := o.lt; simp; omega, ?_, o.ni, (hst _ (by omega)).trans ((kept _ o.lt (Ne.symm o.nv)).trans o.blk)⟩
  simp [Value.ownBlock]
  intro e
  rcases hat with hat | hat
  · exact o.nv (by rw [hat, e])
  · have := o.lt; omega

/-- One instruction more. -/
theorem RingSt.instr {M nv ni o : Nat} {vv vi : Value} {ob : Nat → Nat} {W0 wr wa w1 : World} (h : RingSt M nv ni vv vi ob W0 wr) (ho : M + 1 + 1 + 1 + 1 + 1 + 1 + 1 + 1 + 1 + 1 + 1 + 1 + 1 + 1 + 1 + 1 + 1 + 1 + 1 + 1 ≤ o) (hol : o < wa.heap.size) (hov : vv.ownBlock ≠ some o) (hoi : vi.ownBlock ≠ some o) (hob : ∀ k, k < ni → ob k ≠ o) (hoc : wa.heap[o]? = some (.cells ((rgO ni).flatMap cO).toArray 43))
    {g cap : Nat} (hown : w1.ownsRow (M + 1 + 1 + 1 + 1 + 1 + 1 + 1 + 1 + 1 + 1 + 1 + 1 + 1 + 1 + 1 + 1 + 1 + 1 + 1 + 1) 40 3 (.slice (some ⟨g, 0, none⟩) (ni + 1) cap) (ni + 1) (rgXs ob ni ++ rgX o ni))
    (hwa : Below wr.heap.size wr wa) (hgrow : wa.grownBy w1 vi.ownBlock) (hat : vi.ownBlock = some g ∨ wa.heap.size ≤ g) :
    RingSt M nv (ni + 1) vv (.slice (some ⟨g, 0, none⟩) (ni + 1) cap) (fun k => if k = ni then o else ob k) W0 (w1.setCell ⟨M + 1 + 1 + 1 + 1 + 1 + 1 + 1 + 1 + 1 + 1 + 1 + 1 + 1 + 1 + 1 + 1 + 1 + 1, 7, none⟩ (.slice (some ⟨g, 0, none⟩) (ni + 1) cap)) := by
  have lF := h.r2.lt
  have hza := hwa.size
  have hz := hgrow.size
  have kept : ∀ b, b < wr.heap.size → some b ≠ vi.ownBlock → w1.heap[b]? = wr.heap[b]? := fun b hb hne => (hgrow.block b (by omega) hne).trans (hwa.block b hb)
  have far : ∀ b, b < M + 1 + 1 + 1 + 1 + 1 + 1 + 1 + 1 + 1 + 1 + 1 + 1 + 1 + 1 + 1 + 1 + 1 + 1 + 1 + 1 → some b ≠ vi.ownBlock := fun b hb e => by have := own_base h.oi e.symm; omega
  have k1 := h.r1.of_block (kept (M + 1 + 1 + 1 + 1 + 1 + 1 + 1 + 1 + 1 + 1 + 1 + 1 + 1 + 1 + 1 + 1 + 1 + 1) h.r1.lt (far _ (by omega)))
  have k2 := h.r2.of_block (kept (M + 1 + 1 + 1 + 1 + 1 + 1 + 1 + 1 + 1 + 1 + 1 + 1 + 1 + 1 + 1 + 1 + 1 + 1 + 1) h.r2.lt (far _ (by omega)))
  have nv' : w1.ownsRow (M + 1) 3 1 vv nv ((List.replicate nv (0 : Int)).flatMap cI) := own_keep h.ov fun b hx hb hlt => kept b hlt fun e => h.ap b hx e.symm
  have avv : ∀ b, vv.ownBlock = some b → b ≠ g := fun b hx e => by
    subst e
    rcases hat with hat | hat
    · exact h.ap b hx hat
    · have := own_base h.ov hx; omega
  have nn : w1.ownsRow (M + 1 + 1 + 1 + 1 + 1 + 1 + 1 + 1 + 1 + 1 + 1 + 1 + 1 + 1 + 1 + 1 + 1 + 1 + 1 + 1) 40 3 (.slice (some ⟨g, 0, none⟩) (ni + 1) cap) (ni + 1) (rgXs (fun k => if k = ni then o else ob k) (ni + 1)) := by rw [rgXs_snoc]; exact hown
  have hst : ∀ b, b ≠ M + 1 + 1 + 1 + 1 + 1 + 1 + 1 + 1 + 1 + 1 + 1 + 1 + 1 + 1 + 1 + 1 + 1 + 1 → (w1.setCell ⟨M + 1 + 1 + 1 + 1 + 1 + 1 + 1 + 1 + 1 + 1 + 1 + 1 + 1 + 1 + 1 + 1 + 1 + 1, 7, none⟩ (.slice (some ⟨g, 0, none⟩) (ni + 1) cap)).heap[b]? = w1.heap[b]? := fun b hh => Below.heap_setCell _ _ _ _ hh
  have ong : ∀ b, b < wa.heap.size → vi.ownBlock ≠ some b → g ≠ b := fun b hb hne e => by
    rcases hat with hat | hat
    · exact hne (by rw [hat, e])
    · omega
  refine ⟨(k1.set 7 _).congr fun q hq => by match q, hq with | 0, _ => rfl | 1, _ => rfl | 2, _ => rfl | 3, _ => rfl | 4, _ => rfl | 5, _ => rfl | 6, _ => rfl | 7, _ => rfl | 8, _ => rfl | 9, _ => rfl | 10, _ => rfl | 11, _ => rfl, k2.setOther (by show M + 1 + 1 + 1 + 1 + 1 + 1 + 1 + 1 + 1 + 1 + 1 + 1 + 1 + 1 + 1 + 1 + 1 + 1 + 1 ≠ M + 1 + 1 + 1 + 1 + 1 + 1 + 1 + 1 + 1 + 1 + 1 + 1 + 1 + 1 + 1 + 1 + 1 + 1; omega) _, own_keep nv' fun b hx hb _ => hst b (by have := h.nvb b hx; omega), own_keep nn fun b _ hb _ => hst b (by omega), h.nvb, (fun b hx => by simp [Value.ownBlock]; intro e; exact avv b hx e.symm), fun b h2 h17 => (hst b (by omega)).trans ((kept b (by omega) (far b (by omega))).trans (h.st b h2 h17)), fun k hk => ?_, fun j k hj hk e => ?_⟩
  · by_cases hkn : k = ni
    · subst hkn
      exact ⟨by simpa using ho, by simp; omega, by simpa using hov, by simpa [Value.ownBlock] using ong o hol hoi, by simpa using (hst _ (by omega)).trans ((hgrow.block o hol (Ne.symm hoi)).trans hoc)⟩
    · have q := h.obs k (by omega)
      have qb := q.base
      have ql := q.lt
      exact ⟨by simpa [hkn] using q.base, by simp [hkn]; omega, by simpa [hkn] using q.nv, by simpa [hkn, Value.ownBlock] using ong _ (by omega) q.ni, by simpa [hkn] using (hst _ (by omega)).trans ((kept _ q.lt (Ne.symm q.ni)).trans q.blk)⟩
  · by_cases hj' : j = ni <;> by_cases hk' : k = ni
    · omega
    · simp [hj', hk'] at e; exact absurd e.symm (hob k (by omega))
    · simp [hj', hk'] at e; exact absurd e (hob j (by omega))
    · simp [hj', hk'] at e; exact h.inj j k (by omega) (by omega) e

/-- How ring ends: an edge from the body back to the head; the function itself lies in the result. -/
structure RingFin (M n eb ab : Nat) (wr w' : World) : Prop where
  lt : wr.heap.size ≤ ab ∧ ab < eb ∧ eb < w'.heap.size
  r1 : ∃ vi, wr.cell? ⟨M + 1 + 1 + 1 + 1 + 1 + 1 + 1 + 1 + 1 + 1 + 1 + 1 + 1 + 1 + 1 + 1 + 1 + 1, 7, none⟩ = some vi ∧ w'.rowIs (M + 1 + 1 + 1 + 1 + 1 + 1 + 1 + 1 + 1 + 1 + 1 + 1 + 1 + 1 + 1 + 1 + 1 + 1) 50 12 (fun q => (rgL M (.slice none 0 0) (.slice (some ⟨M + 1 + 1 + 1 + 1 + 1 + 1 + 1 + 1 + 1 + 1 + 1 + 1, 0, none⟩) 1 1) vi (.slice (some ⟨eb, 0, none⟩) 1 1)).getD q undef)
  rE : w'.rowIs eb 47 2 (fun q => if q = 0 then .int .i64 1 else .slice (some ⟨ab, 0, none⟩) 1 1)
  rA : w'.rowIs ab 3 1 (fun _ => .int .i64 ((n : Int) + 1))
  kept : ∀ b, b < wr.heap.size → b ≠ M + 1 + 1 + 1 + 1 + 1 + 1 + 1 + 1 + 1 + 1 + 1 + 1 + 1 + 1 + 1 + 1 + 1 + 1 → b ≠ M → w'.heap[b]? = wr.heap[b]?
end Go.Proofs.Ytengmgdnpojfjaa
