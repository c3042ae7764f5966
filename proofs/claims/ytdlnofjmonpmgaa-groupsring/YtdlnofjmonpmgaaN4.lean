/-
  How the ring lies at whose end the first value is read.
-/
import Derived.Test.YtdlnofjmonpmgaaN3
namespace Go.Proofs.Ytdlnofjmonpmgaa
open Go.RowKit
set_option linter.unusedVariables false

def rsW (w : World) : World := (ringW w).setCell ⟨w.heap.size + 1 + 1 + 1 + 1 + 1 + 1 + 1 + 1 + 1 + 1 + 1 + 1 + 1 + 1 + 1, 1, none⟩ (.int .i64 0)
def rsG (n : Nat) (xs lp : List Int) (li : List Ins) (e0b : Int) (la : List Int) : Fn :=
  ⟨xs, [⟨lp, [⟨1, [⟨2, 0, true, 1, 0⟩], []⟩], [⟨e0b, la⟩]⟩, ⟨[1], li, [⟨2, []⟩, ⟨3, []⟩]⟩, ⟨[], (List.range n).map rgI, [⟨1, [(n : Int) + 1]⟩]⟩, ⟨[], [⟨3, [⟨1, 0, false, 1, 0⟩], []⟩], []⟩]⟩
theorem rsW_3 (w : World) : (rsW w).heap[w.heap.size + 1 + 1 + 1]? = some (.cells #[.int .i64 2, .int .i64 0, .bool true, .int .i64 1, .int .i64 0] 51) := by
  unfold rsW
  rw [Below.heap_setCell _ _ _ _ (by first | (simp; done) | (simp; omega))]
  exact ringW_3 w
theorem rsW_5 (w : World) : (rsW w).heap[w.heap.size + 1 + 1 + 1 + 1 + 1]? = some (.cells #[.int .i64 1, .slice (some ⟨w.heap.size + 1 + 1 + 1, 0, none⟩) 1 1, .slice none 0 0] 55) := by
  unfold rsW
  rw [Below.heap_setCell _ _ _ _ (by first | (simp; done) | (simp; omega))]
  exact ringW_5 w
theorem rsW_6 (w : World) : (rsW w).heap[w.heap.size + 1 + 1 + 1 + 1 + 1 + 1]? = some (.cells #[.int .i64 0] 3) := by
  unfold rsW
  rw [Below.heap_setCell _ _ _ _ (by first | (simp; done) | (simp; omega))]
  exact ringW_6 w
theorem rsW_8 (w : World) : (rsW w).heap[w.heap.size + 1 + 1 + 1 + 1 + 1 + 1 + 1 + 1]? = some (.cells #[.int .i64 1] 3) := by
  unfold rsW
  rw [Below.heap_setCell _ _ _ _ (by first | (simp; done) | (simp; omega))]
  exact ringW_8 w
theorem rsW_10 (w : World) : (rsW w).heap[w.heap.size + 1 + 1 + 1 + 1 + 1 + 1 + 1 + 1 + 1 + 1]? = some (.cells #[.int .i64 1, .int .i64 1, .bool false, .int .i64 1, .int .i64 0] 51) := by
  unfold rsW
  rw [Below.heap_setCell _ _ _ _ (by first | (simp; done) | (simp; omega))]
  exact ringW_10 w
theorem rsW_12 (w : World) : (rsW w).heap[w.heap.size + 1 + 1 + 1 + 1 + 1 + 1 + 1 + 1 + 1 + 1 + 1 + 1]? = some (.cells #[.int .i64 2, .slice (some ⟨w.heap.size + 1 + 1 + 1 + 1 + 1 + 1 + 1 + 1 + 1 + 1, 0, none⟩) 1 1, .slice none 0 0] 55) := by
  unfold rsW
  rw [Below.heap_setCell _ _ _ _ (by first | (simp; done) | (simp; omega))]
  exact ringW_12 w
theorem rsW_13 (w : World) : (rsW w).heap[w.heap.size + 1 + 1 + 1 + 1 + 1 + 1 + 1 + 1 + 1 + 1 + 1 + 1 + 1]? = some (.cells #[.int .i64 2, .slice none 0 0, .int .i64 3, .slice none 0 0] 46) := by
  unfold rsW
  rw [Below.heap_setCell _ _ _ _ (by first | (simp; done) | (simp; omega))]
  exact ringW_13 w
theorem rsW_15 (w : World) : (rsW w).heap[w.heap.size + 1 + 1 + 1 + 1 + 1 + 1 + 1 + 1 + 1 + 1 + 1 + 1 + 1 + 1 + 1]? = some (.cells #[.int .i64 1, .int .i64 0, .bool false, .int .i64 1, .int .i64 0] 51) := by
  unfold rsW
  rw [heap_setCell_same (ringW w) (w.heap.size + 1 + 1 + 1 + 1 + 1 + 1 + 1 + 1 + 1 + 1 + 1 + 1 + 1 + 1 + 1) 1 _ 51 (.int .i64 0) (ringW_15 w)]
  rfl
theorem rsW_17 (w : World) : (rsW w).heap[w.heap.size + 1 + 1 + 1 + 1 + 1 + 1 + 1 + 1 + 1 + 1 + 1 + 1 + 1 + 1 + 1 + 1 + 1]? = some (.cells #[.int .i64 3, .slice (some ⟨w.heap.size + 1 + 1 + 1 + 1 + 1 + 1 + 1 + 1 + 1 + 1 + 1 + 1 + 1 + 1 + 1, 0, none⟩) 1 1, .slice none 0 0] 55) := by
  unfold rsW
  rw [Below.heap_setCell _ _ _ _ (by first | (simp; done) | (simp; omega))]
  exact ringW_17 w
theorem RingAt.rs {n gv cv gi ci eb ab : Nat} {ob : Nat → Nat} {xs : List Int} {p0 i1 : Value} {e0b : Int} {e0a : Value} {w W : World} (h : RingAt w.heap.size n gv cv gi ci eb ab ob xs p0 i1 e0b e0a (ringW w) W) : RingAt w.heap.size n gv cv gi ci eb ab ob xs p0 i1 e0b e0a (rsW w) (W.setCell ⟨w.heap.size + 1 + 1 + 1 + 1 + 1 + 1 + 1 + 1 + 1 + 1 + 1 + 1 + 1 + 1 + 1, 1, none⟩ (.int .i64 0)) := by
  have hb := h.big
  have lv := h.lv
  have li := h.li
  have le := h.le
  have la := h.la
  have d := h.d
  have hk : ∀ b, b ≠ w.heap.size + 1 + 1 + 1 + 1 + 1 + 1 + 1 + 1 + 1 + 1 + 1 + 1 + 1 + 1 + 1 → (W.setCell ⟨w.heap.size + 1 + 1 + 1 + 1 + 1 + 1 + 1 + 1 + 1 + 1 + 1 + 1 + 1 + 1 + 1, 1, none⟩ (.int .i64 0)).heap[b]? = W.heap[b]? := fun b hb => Below.heap_setCell _ _ _ _ hb
  have c : ∀ b j, b ≠ w.heap.size + 1 + 1 + 1 + 1 + 1 + 1 + 1 + 1 + 1 + 1 + 1 + 1 + 1 + 1 + 1 → (W.setCell ⟨w.heap.size + 1 + 1 + 1 + 1 + 1 + 1 + 1 + 1 + 1 + 1 + 1 + 1 + 1 + 1 + 1, 1, none⟩ (.int .i64 0)).cell? ⟨b, j, none⟩ = W.cell? ⟨b, j, none⟩ := fun b j h2 => World.cell?_of_block (hk b h2)
  have hz : (W.setCell ⟨w.heap.size + 1 + 1 + 1 + 1 + 1 + 1 + 1 + 1 + 1 + 1 + 1 + 1 + 1 + 1 + 1, 1, none⟩ (.int .i64 0)).heap.size = W.heap.size := by simp
  refine ⟨by omega, ⟨lv.1, by omega⟩, ⟨li.1, by omega⟩, ⟨le.1, by omega⟩, ⟨la.1, by omega⟩, d, fun k hk' => (c _ _ (by omega)).trans (h.v k hk'), fun k => (World.frozen?_of_block (hk gv (by omega))).trans (h.zv k), h.r1.of_block (hk _ (by omega)), h.rE0.of_block (hk _ (by omega)), fun b h2 h17 h7 => ?_, fun k hk' => ?_, fun k hk' => ?_, h.rE.of_block (hk _ (by omega)), h.rA.of_block (hk _ (by omega))⟩
  · by_cases e : b = w.heap.size + 1 + 1 + 1 + 1 + 1 + 1 + 1 + 1 + 1 + 1 + 1 + 1 + 1 + 1 + 1
    · subst e
      have h15 := ringW_15 w
      unfold rsW
      rw [heap_setCell_same W _ 1 _ _ (.int .i64 0) ((h.st _ h2 h17 h7).trans h15), heap_setCell_same (ringW w) _ 1 _ _ (.int .i64 0) h15]
    · unfold rsW
      rw [hk b e, Below.heap_setCell _ _ _ _ e]
      exact h.st b h2 h17 h7
  · obtain ⟨i0, i1, i2⟩ := h.i k hk'
    exact ⟨(c _ _ (by omega)).trans i0, (c _ _ (by omega)).trans i1, (c _ _ (by omega)).trans i2⟩
  · obtain ⟨o1, o2, o3, o4⟩ := h.obs k hk'
    exact ⟨o1, by omega, o3, (hk _ (by omega)).trans o4⟩
theorem RingAt.slR {n gv cv gi ci eb ab : Nat} {ob : Nat → Nat} {xs : List Int} {p0 i1 : Value} {e0b : Int} {e0a : Value} {w W : World} {lp la : List Int} {l1 : List Ins} (h : RingAt w.heap.size n gv cv gi ci eb ab ob xs p0 i1 e0b e0a (rsW w) W) (hn : n ≤ 1000) (hx : xs.length ≤ 2000) (hp : SlOf W 1 RInt p0 lp) (hi1 : SlOf W 3 (RIns W) i1 l1) (ha : SlOf W 1 RInt e0a la) :
    SlOf W 1 RInt (.slice (some ⟨gv, 0, none⟩) xs.length cv) (rsG n xs lp l1 e0b la).values ∧ SlOf W 3 (RBlk W) (.slice (some ⟨w.heap.size + 1 + 1 + 1 + 1 + 1 + 1 + 1 + 1 + 1 + 1 + 1 + 1 + 1 + 1 + 1 + 1 + 1 + 1, 0, none⟩) 4 4) (rsG n xs lp l1 e0b la).blocks := by
  have hv : SlOf W 1 RInt (.slice (some ⟨gv, 0, none⟩) xs.length cv) xs := ⟨_, cv, rfl, by unfold longest; omega, Or.inr ⟨gv, 0, rfl, fun i hi => ⟨[.int .i64 xs[i]], rfl, rfl, cells1 (by simpa using h.v i hi)⟩⟩⟩
  have O0 : SlOf W 5 ROpr (.slice (some ⟨w.heap.size + 1 + 1 + 1, 0, none⟩) 1 1) [⟨2, 0, true, 1, 0⟩] := SlOf_one [.int .i64 2, .int .i64 0, .bool true, .int .i64 1, .int .i64 0] rfl rfl (cells5 (blk_at (h.st (w.heap.size + 1 + 1 + 1) (by omega) (by omega) (by omega)) (rsW_3 w) 0 (by simp)) (blk_at (h.st (w.heap.size + 1 + 1 + 1) (by omega) (by omega) (by omega)) (rsW_3 w) 1 (by simp)) (blk_at (h.st (w.heap.size + 1 + 1 + 1) (by omega) (by omega) (by omega)) (rsW_3 w) 2 (by simp)) (blk_at (h.st (w.heap.size + 1 + 1 + 1) (by omega) (by omega) (by omega)) (rsW_3 w) 3 (by simp)) (blk_at (h.st (w.heap.size + 1 + 1 + 1) (by omega) (by omega) (by omega)) (rsW_3 w) 4 (by simp)))
  have I0 : SlOf W 3 (RIns W) (.slice (some ⟨w.heap.size + 1 + 1 + 1 + 1 + 1, 0, none⟩) 1 1) [⟨1, [⟨2, 0, true, 1, 0⟩], []⟩] := SlOf_one [.int .i64 1, .slice (some ⟨w.heap.size + 1 + 1 + 1, 0, none⟩) 1 1, .slice none 0 0] rfl ⟨_, _, rfl, O0, SlOf_nil _ _ _ _ _⟩ (cells3 (blk_at (h.st (w.heap.size + 1 + 1 + 1 + 1 + 1) (by omega) (by omega) (by omega)) (rsW_5 w) 0 (by simp)) (blk_at (h.st (w.heap.size + 1 + 1 + 1 + 1 + 1) (by omega) (by omega) (by omega)) (rsW_5 w) 1 (by simp)) (blk_at (h.st (w.heap.size + 1 + 1 + 1 + 1 + 1) (by omega) (by omega) (by omega)) (rsW_5 w) 2 (by simp)))
  have E0 : SlOf W 2 (REdg W) (.slice (some ⟨w.heap.size + 1 + 1 + 1 + 1 + 1 + 1 + 1, 0, none⟩) 1 1) [⟨e0b, la⟩] := SlOf_one [.int .i64 e0b, e0a] rfl ⟨_, rfl, ha⟩ (cells2 (h.rE0.cell (i := 0) (by omega)) (h.rE0.cell (i := 1) (by omega)))
  have P1 : SlOf W 1 RInt (.slice (some ⟨w.heap.size + 1 + 1 + 1 + 1 + 1 + 1 + 1 + 1, 0, none⟩) 1 1) [1] := SlOf_one [.int .i64 1] rfl rfl (cells1 (blk_at (h.st (w.heap.size + 1 + 1 + 1 + 1 + 1 + 1 + 1 + 1) (by omega) (by omega) (by omega)) (rsW_8 w) 0 (by simp)))
  have E1 : SlOf W 2 (REdg W) (.slice (some ⟨w.heap.size + 1 + 1 + 1 + 1 + 1 + 1 + 1 + 1 + 1 + 1 + 1 + 1 + 1, 0, none⟩) 2 2) [⟨2, []⟩, ⟨3, []⟩] := SlOf_two [.int .i64 2, .slice none 0 0] [.int .i64 3, .slice none 0 0] rfl rfl ⟨_, rfl, SlOf_nil _ _ _ _ _⟩ ⟨_, rfl, SlOf_nil _ _ _ _ _⟩ (cells2 (blk_at (h.st (w.heap.size + 1 + 1 + 1 + 1 + 1 + 1 + 1 + 1 + 1 + 1 + 1 + 1 + 1) (by omega) (by omega) (by omega)) (rsW_13 w) 0 (by simp)) (blk_at (h.st (w.heap.size + 1 + 1 + 1 + 1 + 1 + 1 + 1 + 1 + 1 + 1 + 1 + 1 + 1) (by omega) (by omega) (by omega)) (rsW_13 w) 1 (by simp))) (cells2 (blk_at (h.st (w.heap.size + 1 + 1 + 1 + 1 + 1 + 1 + 1 + 1 + 1 + 1 + 1 + 1 + 1) (by omega) (by omega) (by omega)) (rsW_13 w) 2 (by simp)) (blk_at (h.st (w.heap.size + 1 + 1 + 1 + 1 + 1 + 1 + 1 + 1 + 1 + 1 + 1 + 1 + 1) (by omega) (by omega) (by omega)) (rsW_13 w) 3 (by simp)))
  have I2 : SlOf W 3 (RIns W) (.slice (some ⟨gi, 0, none⟩) n ci) ((List.range n).map rgI) := by
    refine ⟨_, ci, by simp, by simp; unfold longest; omega, Or.inr ⟨gi, 0, rfl, fun i hi => ?_⟩⟩
    have hi' : i < n := by simpa using hi
    obtain ⟨x0, x1, x2⟩ := h.i i hi'
    obtain ⟨o1, o2, o3, o4⟩ := h.obs i hi'
    have OO : SlOf W 5 ROpr (.slice (some ⟨ob i, 0, none⟩) 2 2) (rgO i) := SlOf_two [.int .i64 1, .int .i64 ((i : Int) + 1), .bool false, .int .i64 1, .int .i64 0] [.int .i64 2, .int .i64 ((i : Int) + 2), .bool true, .int .i64 1, .int .i64 0] rfl rfl rfl rfl (cells5 (blk_cellL o4 0 (by decide : 0 < 10)) (blk_cellL o4 1 (by decide : 1 < 10)) (blk_cellL o4 2 (by decide : 2 < 10)) (blk_cellL o4 3 (by decide : 3 < 10)) (blk_cellL o4 4 (by decide : 4 < 10))) (cells5 (blk_cellL o4 5 (by decide : 5 < 10)) (blk_cellL o4 6 (by decide : 6 < 10)) (blk_cellL o4 7 (by decide : 7 < 10)) (blk_cellL o4 8 (by decide : 8 < 10)) (blk_cellL o4 9 (by decide : 9 < 10)))
    refine ⟨rgX (ob i) i, rfl, ?_, ?_⟩
    · rw [List.getElem_map, List.getElem_range]
      exact ⟨_, _, rfl, OO, SlOf_nil _ _ _ _ _⟩
    · simp only [Nat.zero_add]
      exact cells3 x0 x1 x2
  have A2 : SlOf W 1 RInt (.slice (some ⟨ab, 0, none⟩) 1 1) [(n : Int) + 1] := SlOf_one [.int .i64 ((n : Int) + 1)] rfl rfl (cells1 (h.rA.cell (i := 0) (by omega)))
  have E2 : SlOf W 2 (REdg W) (.slice (some ⟨eb, 0, none⟩) 1 1) [⟨1, [(n : Int) + 1]⟩] := SlOf_one [.int .i64 1, .slice (some ⟨ab, 0, none⟩) 1 1] rfl ⟨_, rfl, A2⟩ (cells2 (h.rE.cell (i := 0) (by omega)) (h.rE.cell (i := 1) (by omega)))
  have O3 : SlOf W 5 ROpr (.slice (some ⟨w.heap.size + 1 + 1 + 1 + 1 + 1 + 1 + 1 + 1 + 1 + 1 + 1 + 1 + 1 + 1 + 1, 0, none⟩) 1 1) [⟨1, 0, false, 1, 0⟩] := SlOf_one [.int .i64 1, .int .i64 0, .bool false, .int .i64 1, .int .i64 0] rfl rfl (cells5 (blk_at (h.st (w.heap.size + 1 + 1 + 1 + 1 + 1 + 1 + 1 + 1 + 1 + 1 + 1 + 1 + 1 + 1 + 1) (by omega) (by omega) (by omega)) (rsW_15 w) 0 (by simp)) (blk_at (h.st (w.heap.size + 1 + 1 + 1 + 1 + 1 + 1 + 1 + 1 + 1 + 1 + 1 + 1 + 1 + 1 + 1) (by omega) (by omega) (by omega)) (rsW_15 w) 1 (by simp)) (blk_at (h.st (w.heap.size + 1 + 1 + 1 + 1 + 1 + 1 + 1 + 1 + 1 + 1 + 1 + 1 + 1 + 1 + 1) (by omega) (by omega) (by omega)) (rsW_15 w) 2 (by simp)) (blk_at (h.st (w.heap.size + 1 + 1 + 1 + 1 + 1 + 1 + 1 + 1 + 1 + 1 + 1 + 1 + 1 + 1 + 1) (by omega) (by omega) (by omega)) (rsW_15 w) 3 (by simp)) (blk_at (h.st (w.heap.size + 1 + 1 + 1 + 1 + 1 + 1 + 1 + 1 + 1 + 1 + 1 + 1 + 1 + 1 + 1) (by omega) (by omega) (by omega)) (rsW_15 w) 4 (by simp)))
  have I3 : SlOf W 3 (RIns W) (.slice (some ⟨w.heap.size + 1 + 1 + 1 + 1 + 1 + 1 + 1 + 1 + 1 + 1 + 1 + 1 + 1 + 1 + 1 + 1 + 1, 0, none⟩) 1 1) [⟨3, [⟨1, 0, false, 1, 0⟩], []⟩] := SlOf_one [.int .i64 3, .slice (some ⟨w.heap.size + 1 + 1 + 1 + 1 + 1 + 1 + 1 + 1 + 1 + 1 + 1 + 1 + 1 + 1 + 1, 0, none⟩) 1 1, .slice none 0 0] rfl ⟨_, _, rfl, O3, SlOf_nil _ _ _ _ _⟩ (cells3 (blk_at (h.st (w.heap.size + 1 + 1 + 1 + 1 + 1 + 1 + 1 + 1 + 1 + 1 + 1 + 1 + 1 + 1 + 1 + 1 + 1) (by omega) (by omega) (by omega)) (rsW_17 w) 0 (by simp)) (blk_at (h.st (w.heap.size + 1 + 1 + 1 + 1 + 1 + 1 + 1 + 1 + 1 + 1 + 1 + 1 + 1 + 1 + 1 + 1 + 1) (by omega) (by omega) (by omega)) (rsW_17 w) 1 (by simp)) (blk_at (h.st (w.heap.size + 1 + 1 + 1 + 1 + 1 + 1 + 1 + 1 + 1 + 1 + 1 + 1 + 1 + 1 + 1 + 1 + 1) (by omega) (by omega) (by omega)) (rsW_17 w) 2 (by simp)))
  refine ⟨hv, _, 4, rfl, by simp [longest, rsG], Or.inr ⟨w.heap.size + 1 + 1 + 1 + 1 + 1 + 1 + 1 + 1 + 1 + 1 + 1 + 1 + 1 + 1 + 1 + 1 + 1 + 1, 0, rfl, fun i hi => ?_⟩⟩
  have e : i = 0 ∨ i = 1 ∨ i = 2 ∨ i = 3 := by simp [rsG] at hi; omega
  rcases e with rfl | rfl | rfl | rfl
  · exact ⟨_, rfl, ⟨_, _, _, rfl, hp, I0, E0⟩, cells3 (h.r1.cell (i := 0) (by omega)) (h.r1.cell (i := 1) (by omega)) (h.r1.cell (i := 2) (by omega))⟩
  · exact ⟨_, rfl, ⟨_, _, _, rfl, P1, hi1, E1⟩, cells3 (h.r1.cell (i := 3) (by omega)) (h.r1.cell (i := 4) (by omega)) (h.r1.cell (i := 5) (by omega))⟩
  · exact ⟨_, rfl, ⟨_, _, _, rfl, SlOf_nil _ _ _ none 0, I2, E2⟩, cells3 (h.r1.cell (i := 6) (by omega)) (h.r1.cell (i := 7) (by omega)) (h.r1.cell (i := 8) (by omega))⟩
  · exact ⟨_, rfl, ⟨_, _, _, rfl, SlOf_nil _ _ _ none 0, I3, SlOf_nil _ _ _ none 0⟩, cells3 (h.r1.cell (i := 9) (by omega)) (h.r1.cell (i := 10) (by omega)) (h.r1.cell (i := 11) (by omega))⟩
/-- The instruction of the loop's head. -/
theorem RingAt.i1R {n gv cv gi ci eb ab : Nat} {ob : Nat → Nat} {xs : List Int} {p0 i1 : Value} {e0b : Int} {e0a : Value} {w W : World} (h : RingAt w.heap.size n gv cv gi ci eb ab ob xs p0 i1 e0b e0a (rsW w) W) : SlOf W 3 (RIns W) (.slice (some ⟨w.heap.size + 1 + 1 + 1 + 1 + 1 + 1 + 1 + 1 + 1 + 1 + 1 + 1, 0, none⟩) 1 1) ringI1 := by
  have O1 : SlOf W 5 ROpr (.slice (some ⟨w.heap.size + 1 + 1 + 1 + 1 + 1 + 1 + 1 + 1 + 1 + 1, 0, none⟩) 1 1) [⟨1, 1, false, 1, 0⟩] := SlOf_one [.int .i64 1, .int .i64 1, .bool false, .int .i64 1, .int .i64 0] rfl rfl (cells5 (blk_at (h.st (w.heap.size + 1 + 1 + 1 + 1 + 1 + 1 + 1 + 1 + 1 + 1) (by omega) (by omega) (by omega)) (rsW_10 w) 0 (by simp)) (blk_at (h.st (w.heap.size + 1 + 1 + 1 + 1 + 1 + 1 + 1 + 1 + 1 + 1) (by omega) (by omega) (by omega)) (rsW_10 w) 1 (by simp)) (blk_at (h.st (w.heap.size + 1 + 1 + 1 + 1 + 1 + 1 + 1 + 1 + 1 + 1) (by omega) (by omega) (by omega)) (rsW_10 w) 2 (by simp)) (blk_at (h.st (w.heap.size + 1 + 1 + 1 + 1 + 1 + 1 + 1 + 1 + 1 + 1) (by omega) (by omega) (by omega)) (rsW_10 w) 3 (by simp)) (blk_at (h.st (w.heap.size + 1 + 1 + 1 + 1 + 1 + 1 + 1 + 1 + 1 + 1) (by omega) (by omega) (by omega)) (rsW_10 w) 4 (by simp)))
  exact SlOf_one [.int .i64 2, .slice (some ⟨w.heap.size + 1 + 1 + 1 + 1 + 1 + 1 + 1 + 1 + 1 + 1, 0, none⟩) 1 1, .slice none 0 0] rfl ⟨_, _, rfl, O1, SlOf_nil _ _ _ _ _⟩ (cells3 (blk_at (h.st (w.heap.size + 1 + 1 + 1 + 1 + 1 + 1 + 1 + 1 + 1 + 1 + 1 + 1) (by omega) (by omega) (by omega)) (rsW_12 w) 0 (by simp)) (blk_at (h.st (w.heap.size + 1 + 1 + 1 + 1 + 1 + 1 + 1 + 1 + 1 + 1 + 1 + 1) (by omega) (by omega) (by omega)) (rsW_12 w) 1 (by simp)) (blk_at (h.st (w.heap.size + 1 + 1 + 1 + 1 + 1 + 1 + 1 + 1 + 1 + 1 + 1 + 1) (by omega) (by omega) (by omega)) (rsW_12 w) 2 (by simp)))
/-- The arg of the first edge. -/
theorem RingAt.a0R {n gv cv gi ci eb ab : Nat} {ob : Nat → Nat} {xs : List Int} {p0 i1 : Value} {e0b : Int} {e0a : Value} {w W : World} (h : RingAt w.heap.size n gv cv gi ci eb ab ob xs p0 i1 e0b e0a (rsW w) W) : SlOf W 1 RInt (.slice (some ⟨w.heap.size + 1 + 1 + 1 + 1 + 1 + 1, 0, none⟩) 1 1) [0] :=
  SlOf_one [.int .i64 0] rfl rfl (cells1 (blk_at (h.st (w.heap.size + 1 + 1 + 1 + 1 + 1 + 1) (by omega) (by omega) (by omega)) (rsW_6 w) 0 (by simp)))
end Go.Proofs.Ytdlnofjmonpmgaa
