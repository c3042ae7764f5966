/-
  What 'ring' has made, cell by cell; what of it may be changed; and how it reads as a function.
-/
import Derived.Test.YtengmgdnpojfjaaRingW
namespace Go.Proofs.Ytengmgdnpojfjaa
open Go.RowKit
set_option linter.unusedVariables false

structure RingAt (M n gv cv gi ci eb ab : Nat) (ob : Nat → Nat) (xs : List Int) (p0 i1 : Value) (e0b : Int) (e0a : Value) (W0 W : World) : Prop where
  big : M + 1 + 1 + 1 + 1 + 1 + 1 + 1 + 1 + 1 + 1 + 1 + 1 + 1 + 1 + 1 + 1 + 1 + 1 + 1 + 1 ≤ W.heap.size
  lv : (gv = M + 1 ∨ M + 1 + 1 + 1 + 1 + 1 + 1 + 1 + 1 + 1 + 1 + 1 + 1 + 1 + 1 + 1 + 1 + 1 + 1 + 1 + 1 ≤ gv) ∧ gv < W.heap.size
  li : M + 1 + 1 + 1 + 1 + 1 + 1 + 1 + 1 + 1 + 1 + 1 + 1 + 1 + 1 + 1 + 1 + 1 + 1 + 1 + 1 ≤ gi ∧ gi < W.heap.size
  le : M + 1 + 1 + 1 + 1 + 1 + 1 + 1 + 1 + 1 + 1 + 1 + 1 + 1 + 1 + 1 + 1 + 1 + 1 + 1 + 1 ≤ eb ∧ eb < W.heap.size
  la : M + 1 + 1 + 1 + 1 + 1 + 1 + 1 + 1 + 1 + 1 + 1 + 1 + 1 + 1 + 1 + 1 + 1 + 1 + 1 + 1 ≤ ab ∧ ab < W.heap.size
  d : gv ≠ gi ∧ gv ≠ eb ∧ gv ≠ ab
  v : ∀ k (h : k < xs.length), W.cell? ⟨gv, k, none⟩ = some (.int .i64 xs[k])
  zv : ∀ k, W.frozen? ⟨gv, k, none⟩ = false
  r1 : W.rowIs (M + 1 + 1 + 1 + 1 + 1 + 1 + 1 + 1 + 1 + 1 + 1 + 1 + 1 + 1 + 1 + 1 + 1 + 1) 50 12 (fun q => (rgL M p0 i1 (.slice (some ⟨gi, 0, none⟩) n ci) (.slice (some ⟨eb, 0, none⟩) 1 1)).getD q undef)
  rE0 : W.rowIs (M + 1 + 1 + 1 + 1 + 1 + 1 + 1) 47 2 (fun q => if q = 0 then .int .i64 e0b else e0a)
  st : ∀ b, M + 1 + 1 ≤ b → b ≤ M + 1 + 1 + 1 + 1 + 1 + 1 + 1 + 1 + 1 + 1 + 1 + 1 + 1 + 1 + 1 + 1 + 1 → b ≠ M + 1 + 1 + 1 + 1 + 1 + 1 + 1 → W.heap[b]? = W0.heap[b]?
  i : ∀ k, k < n → W.cell? ⟨gi, k * 3, none⟩ = some (.int .i64 ((k : Int) + 4)) ∧ W.cell? ⟨gi, k * 3 + 1, none⟩ = some (.slice (some ⟨ob k, 0, none⟩) 2 2) ∧ W.cell? ⟨gi, k * 3 + 2, none⟩ = some (.slice none 0 0)
  obs : ∀ k, k < n → M + 1 + 1 + 1 + 1 + 1 + 1 + 1 + 1 + 1 + 1 + 1 + 1 + 1 + 1 + 1 + 1 + 1 + 1 + 1 + 1 ≤ ob k ∧ ob k < W.heap.size ∧ ob k ≠ gv ∧ W.heap[ob k]? = some (.cells ((rgO k).flatMap cO).toArray 43)
  rE : W.rowIs eb 47 2 (fun q => if q = 0 then .int .i64 1 else .slice (some ⟨ab, 0, none⟩) 1 1)
  rA : W.rowIs ab 3 1 (fun _ => .int .i64 ((n : Int) + 1))

/-- One block is written to: the values', the first edge's or the blocks' own. -/
theorem RingAt.upd {M n gv cv gi ci eb ab : Nat} {ob : Nat → Nat} {xs : List Int} {p0 i1 : Value} {e0b : Int} {e0a : Value} {W0 W : World} {W' : World} {X : Nat} {xs' : List Int} {p0' i1' : Value} {e0b' : Int} {e0a' : Value} (h : RingAt M n gv cv gi ci eb ab ob xs p0 i1 e0b e0a W0 W) (hX : X = gv ∨ X = M + 1 + 1 + 1 + 1 + 1 + 1 + 1 ∨ X = M + 1 + 1 + 1 + 1 + 1 + 1 + 1 + 1 + 1 + 1 + 1 + 1 + 1 + 1 + 1 + 1 + 1 + 1) (hz : W.heap.size ≤ W'.heap.size) (hk : ∀ b, b < W.heap.size → b ≠ X → W'.heap[b]? = W.heap[b]?)
    (hv : ∀ k (h : k < xs'.length), W'.cell? ⟨gv, k, none⟩ = some (.int .i64 xs'[k])) (hzv : ∀ k, W'.frozen? ⟨gv, k, none⟩ = false)
    (h1 : W'.rowIs (M + 1 + 1 + 1 + 1 + 1 + 1 + 1 + 1 + 1 + 1 + 1 + 1 + 1 + 1 + 1 + 1 + 1 + 1) 50 12 (fun q => (rgL M p0' i1' (.slice (some ⟨gi, 0, none⟩) n ci) (.slice (some ⟨eb, 0, none⟩) 1 1)).getD q undef)) (hE : W'.rowIs (M + 1 + 1 + 1 + 1 + 1 + 1 + 1) 47 2 (fun q => if q = 0 then .int .i64 e0b' else e0a')) :
    RingAt M n gv cv gi ci eb ab ob xs' p0' i1' e0b' e0a' W0 W' := by
  have hb := h.big
  have lv := h.lv
  have li := h.li
  have le := h.le
  have la := h.la
  have d := h.d
  have c : ∀ b j, b < W.heap.size → b ≠ X → W'.cell? ⟨b, j, none⟩ = W.cell? ⟨b, j, none⟩ := fun b j h1 h2 => World.cell?_of_block (hk b h1 h2)
  refine ⟨by omega, ⟨lv.1, by omega⟩, ⟨li.1, by omega⟩, ⟨le.1, by omega⟩, ⟨la.1, by omega⟩, d, hv, hzv, h1, hE, fun b h2 h17 h7 => (hk b (by omega) (by omega)).trans (h.st b h2 h17 h7), fun k hk' => ?_, fun k hk' => ?_, h.rE.of_block (hk _ (by omega) (by omega)), h.rA.of_block (hk _ (by omega) (by omega))⟩
  · obtain ⟨i0, i1, i2⟩ := h.i k hk'
    exact ⟨(c _ _ (by omega) (by omega)).trans i0, (c _ _ (by omega) (by omega)).trans i1, (c _ _ (by omega) (by omega)).trans i2⟩
  · obtain ⟨o1, o2, o3, o4⟩ := h.obs k hk'
    exact ⟨o1, by omega, o3, (hk _ o2 (by omega)).trans o4⟩
theorem RingAt.below {M n gv cv gi ci eb ab : Nat} {ob : Nat → Nat} {xs : List Int} {p0 i1 : Value} {e0b : Int} {e0a : Value} {W0 W : World} {W' : World} (h : RingAt M n gv cv gi ci eb ab ob xs p0 i1 e0b e0a W0 W) (hb : Below W.heap.size W W') : RingAt M n gv cv gi ci eb ab ob xs p0 i1 e0b e0a W0 W' :=
  h.upd (X := gv) (Or.inl rfl) hb.size (fun b h1 _ => hb.block b h1) (fun k hk => (hb.cell h.lv.2).trans (h.v k hk)) (fun k => (hb.frozen h.lv.2).trans (h.zv k)) (h.r1.of_block (hb.block _ h.r1.lt)) (h.rE0.of_block (hb.block _ h.rE0.lt))

/-- The function as it reads. -/
def ringG (n : Nat) (xs lp : List Int) (li : List Ins) (e0b : Int) (la : List Int) : Fn :=
  ⟨xs, [⟨lp, [⟨1, [⟨2, 0, true, 1, 0⟩], []⟩], [⟨e0b, la⟩]⟩, ⟨[1], li, [⟨2, []⟩, ⟨3, []⟩]⟩, ⟨[], (List.range n).map rgI, [⟨1, [(n : Int) + 1]⟩]⟩, ⟨[], [⟨3, [⟨1, 1, false, 1, 0⟩], []⟩], []⟩]⟩
def ringI1 : List Ins := [⟨2, [⟨1, 1, false, 1, 0⟩], []⟩]

theorem blk_at {W W0 : World} {b : Nat} {cs : Array Value} {t : Nat} (h : W.heap[b]? = W0.heap[b]?) (h0 : W0.heap[b]? = some (.cells cs t)) (j : Nat) (hj : j < cs.size) : W.cell? ⟨b, j, none⟩ = some cs[j] := blk_cellL (h.trans h0) j hj

theorem RingAt.sl {n gv cv gi ci eb ab : Nat} {ob : Nat → Nat} {xs : List Int} {p0 i1 : Value} {e0b : Int} {e0a : Value} {w W : World} {lp la : List Int} {l1 : List Ins} (h : RingAt w.heap.size n gv cv gi ci eb ab ob xs p0 i1 e0b e0a (ringW w) W) (hn : n ≤ 1000) (hx : xs.length ≤ 2000) (hp : SlOf W 1 RInt p0 lp) (hi1 : SlOf W 3 (RIns W) i1 l1) (ha : SlOf W 1 RInt e0a la) :
    SlOf W 1 RInt (.slice (some ⟨gv, 0, none⟩) xs.length cv) (ringG n xs lp l1 e0b la).values ∧ SlOf W 3 (RBlk W) (.slice (some ⟨w.heap.size + 1 + 1 + 1 + 1 + 1 + 1 + 1 + 1 + 1 + 1 + 1 + 1 + 1 + 1 + 1 + 1 + 1 + 1, 0, none⟩) 4 4) (ringG n xs lp l1 e0b la).blocks := by
  have hv : SlOf W 1 RInt (.slice (some ⟨gv, 0, none⟩) xs.length cv) xs := ⟨_, cv, rfl, by unfold longest; omega, Or.inr ⟨gv, 0, rfl, fun i hi => ⟨[.int .i64 xs[i]], rfl, rfl, cells1 (by simpa using h.v i hi)⟩⟩⟩
  have O0 : SlOf W 5 ROpr (.slice (some ⟨w.heap.size + 1 + 1 + 1, 0, none⟩) 1 1) [⟨2, 0, true, 1, 0⟩] := SlOf_one [.int .i64 2, .int .i64 0, .bool true, .int .i64 1, .int .i64 0] rfl rfl (cells5 (blk_at (h.st (w.heap.size + 1 + 1 + 1) (by omega) (by omega) (by omega)) (ringW_3 w) 0 (by simp)) (blk_at (h.st (w.heap.size + 1 + 1 + 1) (by omega) (by omega) (by omega)) (ringW_3 w) 1 (by simp)) (blk_at (h.st (w.heap.size + 1 + 1 + 1) (by omega) (by omega) (by omega)) (ringW_3 w) 2 (by simp)) (blk_at (h.st (w.heap.size + 1 + 1 + 1) (by omega) (by omega) (by omega)) (ringW_3 w) 3 (by simp)) (blk_at (h.st (w.heap.size + 1 + 1 + 1) (by omega) (by omega) (by omega)) (ringW_3 w) 4 (by simp)))
  have I0 : SlOf W 3 (RIns W) (.slice (some ⟨w.heap.size + 1 + 1 + 1 + 1 + 1, 0, none⟩) 1 1) [⟨1, [⟨2, 0, true, 1, 0⟩], []⟩] := SlOf_one [.int .i64 1, .slice (some ⟨w.heap.size + 1 + 1 + 1, 0, none⟩) 1 1, .slice none 0 0] rfl ⟨_, _, rfl, O0, SlOf_nil _ _ _ _ _⟩ (cells3 (blk_at (h.st (w.heap.size + 1 + 1 + 1 + 1 + 1) (by omega) (by omega) (by omega)) (ringW_5 w) 0 (by simp)) (blk_at (h.st (w.heap.size + 1 + 1 + 1 + 1 + 1) (by omega) (by omega) (by omega)) (ringW_5 w) 1 (by simp)) (blk_at (h.st (w.heap.size + 1 + 1 + 1 + 1 + 1) (by omega) (by omega) (by omega)) (ringW_5 w) 2 (by simp)))
  have E0 : SlOf W 2 (REdg W) (.slice (some ⟨w.heap.size + 1 + 1 + 1 + 1 + 1 + 1 + 1, 0, none⟩) 1 1) [⟨e0b, la⟩] := SlOf_one [.int .i64 e0b, e0a] rfl ⟨_, rfl, ha⟩ (cells2 (h.rE0.cell (i := 0) (by omega)) (h.rE0.cell (i := 1) (by omega)))
  have P1 : SlOf W 1 RInt (.slice (some ⟨w.heap.size + 1 + 1 + 1 + 1 + 1 + 1 + 1 + 1, 0, none⟩) 1 1) [1] := SlOf_one [.int .i64 1] rfl rfl (cells1 (blk_at (h.st (w.heap.size + 1 + 1 + 1 + 1 + 1 + 1 + 1 + 1) (by omega) (by omega) (by omega)) (ringW_8 w) 0 (by simp)))
  have E1 : SlOf W 2 (REdg W) (.slice (some ⟨w.heap.size + 1 + 1 + 1 + 1 + 1 + 1 + 1 + 1 + 1 + 1 + 1 + 1 + 1, 0, none⟩) 2 2) [⟨2, []⟩, ⟨3, []⟩] := SlOf_two [.int .i64 2, .slice none 0 0] [.int .i64 3, .slice none 0 0] rfl rfl ⟨_, rfl, SlOf_nil _ _ _ _ _⟩ ⟨_, rfl, SlOf_nil _ _ _ _ _⟩ (cells2 (blk_at (h.st (w.heap.size + 1 + 1 + 1 + 1 + 1 + 1 + 1 + 1 + 1 + 1 + 1 + 1 + 1) (by omega) (by omega) (by omega)) (ringW_13 w) 0 (by simp)) (blk_at (h.st (w.heap.size + 1 + 1 + 1 + 1 + 1 + 1 + 1 + 1 + 1 + 1 + 1 + 1 + 1) (by omega) (by omega) (by omega)) (ringW_13 w) 1 (by simp))) (cells2 (blk_at (h.st (w.heap.size + 1 + 1 + 1 + 1 + 1 + 1 + 1 + 1 + 1 + 1 + 1 + 1 + 1) (by omega) (by omega) (by omega)) (ringW_13 w) 2 (by simp)) (blk_at (h.st (w.heap.size + 1 + 1 + 1 + 1 + 1 + 1 + 1 + 1 + 1 + 1 + 1 + 1 + 1) (by omega) (by omega) (by omega)) (ringW_13 w) 3 (by simp)))
  have I2 : SlOf W 3 (RIns W) (.slice (some ⟨gi, 0, none⟩) n ci) ((List.range n).map rgI) := by
    refine ⟨_, ci, by simp, by simp; unfold longest; omega, Or.inr ⟨gi, 0, rfl, fun i hi => ?_⟩⟩
    have hi' : i < n := by simpa using hi
    obtain ⟨x0, x1, x2⟩ := h.i i hi'
    obtain ⟨o1, o2, o3, o4⟩ := h.obs i hi'
    have OO : SlOf W 5 ROpr (.slice (some ⟨ob i, 0, none⟩) 2 2) (rgO i) := SlOf_two [.int .i64 1, .int .i64 ((i : Int) + 1), .bool false, .int .i64 1, .int .i64 0] [.int .i64 2, .int .i64 ((i : Int) + 2), .bool true, .int .i64 1, .int .i64 0] rfl rfl rfl rfl (cells5 (blk_cellL o4 0 (by decide : 0 < 10)) (blk_cellL o4 1 (by decide : 1 < 10)) (blk_cellL o4 2 (by decide : 2 < 10)) (blk_cellL o4 3 (by decide : 3 < 10)) (blk_cellL o4 4 (by decide : 4 < 10))) (cells5 (blk_cellL o4 5 (by decide : 5 < 10)) (blk_cellL o4 6 (by decide : 6 < 10)) (blk_cellL o4 7 (by decide : 7 < 10)) (blk_cellL o4 8 (by decide : 8 < 10)) (blk_cellL o4 9 (by decide : 9 < 10)))
    refine ⟨rgX (ob i) i, rfl, ?_, ?_⟩
    · rw [List.getElem_map, List.getElem_range]
      exact ⟨_, _, rfl, OO, SlOf_nil _ _ _ _ _⟩
    · simp only [Nat.zero_add]
      exact cells3 x0 x1 x2
  have A2 : SlOf W 1 RInt (.slice (some ⟨ab, 0, none⟩) 1 1) [(n : Int) + 1] := SlOf_one [.int .i64 ((n : Int) + 1)] rfl rfl (cells1 (h.rA.cell (i := 0) (by omega)))
  have E2 : SlOf W 2 (REdg W) (.slice (some ⟨eb, 0, none⟩) 1 1) [⟨1, [(n : Int) + 1]⟩] := SlOf_one [.int .i64 1, .slice (some ⟨ab, 0, none⟩) 1 1] rfl ⟨_, rfl, A2⟩ (cells2 (h.rE.cell (i := 0) (by omega)) (h.rE.cell (i := 1) (by omega)))
  have O3 : SlOf W 5 ROpr (.slice (some ⟨w.heap.size + 1 + 1 + 1 + 1 + 1 + 1 + 1 + 1 + 1 + 1 + 1 + 1 + 1 + 1 + 1, 0, none⟩) 1 1) [⟨1, 1, false, 1, 0⟩] := SlOf_one [.int .i64 1, .int .i64 1, .bool false, .int .i64 1, .int .i64 0] rfl rfl (cells5 (blk_at (h.st (w.heap.size + 1 + 1 + 1 + 1 + 1 + 1 + 1 + 1 + 1 + 1 + 1 + 1 + 1 + 1 + 1) (by omega) (by omega) (by omega)) (ringW_15 w) 0 (by simp)) (blk_at (h.st (w.heap.size + 1 + 1 + 1 + 1 + 1 + 1 + 1 + 1 + 1 + 1 + 1 + 1 + 1 + 1 + 1) (by omega) (by omega) (by omega)) (ringW_15 w) 1 (by simp)) (blk_at (h.st (w.heap.size + 1 + 1 + 1 + 1 + 1 + 1 + 1 + 1 + 1 + 1 + 1 + 1 + 1 + 1 + 1) (by omega) (by omega) (by omega)) (ringW_15 w) 2 (by simp)) (blk_at (h.st (w.heap.size + 1 + 1 + 1 + 1 + 1 + 1 + 1 + 1 + 1 + 1 + 1 + 1 + 1 + 1 + 1) (by omega) (by omega) (by omega)) (ringW_15 w) 3 (by simp)) (blk_at (h.st (w.heap.size + 1 + 1 + 1 + 1 + 1 + 1 + 1 + 1 + 1 + 1 + 1 + 1 + 1 + 1 + 1) (by omega) (by omega) (by omega)) (ringW_15 w) 4 (by simp)))
  have I3 : SlOf W 3 (RIns W) (.slice (some ⟨w.heap.size + 1 + 1 + 1 + 1 + 1 + 1 + 1 + 1 + 1 + 1 + 1 + 1 + 1 + 1 + 1 + 1 + 1, 0, none⟩) 1 1) [⟨3, [⟨1, 1, false, 1, 0⟩], []⟩] := SlOf_one [.int .i64 3, .slice (some ⟨w.heap.size + 1 + 1 + 1 + 1 + 1 + 1 + 1 + 1 + 1 + 1 + 1 + 1 + 1 + 1 + 1, 0, none⟩) 1 1, .slice none 0 0] rfl ⟨_, _, rfl, O3, SlOf_nil _ _ _ _ _⟩ (cells3 (blk_at (h.st (w.heap.size + 1 + 1 + 1 + 1 + 1 + 1 + 1 + 1 + 1 + 1 + 1 + 1 + 1 + 1 + 1 + 1 + 1) (by omega) (by omega) (by omega)) (ringW_17 w) 0 (by simp)) (blk_at (h.st (w.heap.size + 1 + 1 + 1 + 1 + 1 + 1 + 1 + 1 + 1 + 1 + 1 + 1 + 1 + 1 + 1 + 1 + 1) (by omega) (by omega) (by omega)) (ringW_17 w) 1 (by simp)) (blk_at (h.st (w.heap.size + 1 + 1 + 1 + 1 + 1 + 1 + 1 + 1 + 1 + 1 + 1 + 1 + 1 + 1 + 1 + 1 + 1) (by omega) (by omega) (by omega)) (ringW_17 w) 2 (by simp)))
  refine ⟨hv, _, 4, rfl, by simp [longest, ringG], Or.inr ⟨w.heap.size + 1 + 1 + 1 + 1 + 1 + 1 + 1 + 1 + 1 + 1 + 1 + 1 + 1 + 1 + 1 + 1 + 1 + 1, 0, rfl, fun i hi => ?_⟩⟩
  have e : i = 0 ∨ i = 1 ∨ i = 2 ∨ i = 3 := by simp [ringG] at hi; omega
  rcases e with rfl | rfl | rfl | rfl
  · exact ⟨_, rfl, ⟨_, _, _, rfl, hp, I0, E0⟩, cells3 (h.r1.cell (i := 0) (by omega)) (h.r1.cell (i := 1) (by omega)) (h.r1.cell (i := 2) (by omega))⟩
  · exact ⟨_, rfl, ⟨_, _, _, rfl, P1, hi1, E1⟩, cells3 (h.r1.cell (i := 3) (by omega)) (h.r1.cell (i := 4) (by omega)) (h.r1.cell (i := 5) (by omega))⟩
  · exact ⟨_, rfl, ⟨_, _, _, rfl, SlOf_nil _ _ _ none 0, I2, E2⟩, cells3 (h.r1.cell (i := 6) (by omega)) (h.r1.cell (i := 7) (by omega)) (h.r1.cell (i := 8) (by omega))⟩
  · exact ⟨_, rfl, ⟨_, _, _, rfl, SlOf_nil _ _ _ none 0, I3, SlOf_nil _ _ _ none 0⟩, cells3 (h.r1.cell (i := 9) (by omega)) (h.r1.cell (i := 10) (by omega)) (h.r1.cell (i := 11) (by omega))⟩
/-- The instruction of the loop's head. -/
theorem RingAt.i1 {n gv cv gi ci eb ab : Nat} {ob : Nat → Nat} {xs : List Int} {p0 i1 : Value} {e0b : Int} {e0a : Value} {w W : World} (h : RingAt w.heap.size n gv cv gi ci eb ab ob xs p0 i1 e0b e0a (ringW w) W) : SlOf W 3 (RIns W) (.slice (some ⟨w.heap.size + 1 + 1 + 1 + 1 + 1 + 1 + 1 + 1 + 1 + 1 + 1 + 1, 0, none⟩) 1 1) ringI1 := by
  have O1 : SlOf W 5 ROpr (.slice (some ⟨w.heap.size + 1 + 1 + 1 + 1 + 1 + 1 + 1 + 1 + 1 + 1, 0, none⟩) 1 1) [⟨1, 1, false, 1, 0⟩] := SlOf_one [.int .i64 1, .int .i64 1, .bool false, .int .i64 1, .int .i64 0] rfl rfl (cells5 (blk_at (h.st (w.heap.size + 1 + 1 + 1 + 1 + 1 + 1 + 1 + 1 + 1 + 1) (by omega) (by omega) (by omega)) (ringW_10 w) 0 (by simp)) (blk_at (h.st (w.heap.size + 1 + 1 + 1 + 1 + 1 + 1 + 1 + 1 + 1 + 1) (by omega) (by omega) (by omega)) (ringW_10 w) 1 (by simp)) (blk_at (h.st (w.heap.size + 1 + 1 + 1 + 1 + 1 + 1 + 1 + 1 + 1 + 1) (by omega) (by omega) (by omega)) (ringW_10 w) 2 (by simp)) (blk_at (h.st (w.heap.size + 1 + 1 + 1 + 1 + 1 + 1 + 1 + 1 + 1 + 1) (by omega) (by omega) (by omega)) (ringW_10 w) 3 (by simp)) (blk_at (h.st (w.heap.size + 1 + 1 + 1 + 1 + 1 + 1 + 1 + 1 + 1 + 1) (by omega) (by omega) (by omega)) (ringW_10 w) 4 (by simp)))
  exact SlOf_one [.int .i64 2, .slice (some ⟨w.heap.size + 1 + 1 + 1 + 1 + 1 + 1 + 1 + 1 + 1 + 1, 0, none⟩) 1 1, .slice none 0 0] rfl ⟨_, _, rfl, O1, SlOf_nil _ _ _ _ _⟩ (cells3 (blk_at (h.st (w.heap.size + 1 + 1 + 1 + 1 + 1 + 1 + 1 + 1 + 1 + 1 + 1 + 1) (by omega) (by omega) (by omega)) (ringW_12 w) 0 (by simp)) (blk_at (h.st (w.heap.size + 1 + 1 + 1 + 1 + 1 + 1 + 1 + 1 + 1 + 1 + 1 + 1) (by omega) (by omega) (by omega)) (ringW_12 w) 1 (by simp)) (blk_at (h.st (w.heap.size + 1 + 1 + 1 + 1 + 1 + 1 + 1 + 1 + 1 + 1 + 1 + 1) (by omega) (by omega) (by omega)) (ringW_12 w) 2 (by simp)))
/-- The arg of the first edge. -/
theorem RingAt.a0 {n gv cv gi ci eb ab : Nat} {ob : Nat → Nat} {xs : List Int} {p0 i1 : Value} {e0b : Int} {e0a : Value} {w W : World} (h : RingAt w.heap.size n gv cv gi ci eb ab ob xs p0 i1 e0b e0a (ringW w) W) : SlOf W 1 RInt (.slice (some ⟨w.heap.size + 1 + 1 + 1 + 1 + 1 + 1, 0, none⟩) 1 1) [0] :=
  SlOf_one [.int .i64 0] rfl rfl (cells1 (blk_at (h.st (w.heap.size + 1 + 1 + 1 + 1 + 1 + 1) (by omega) (by omega) (by omega)) (ringW_6 w) 0 (by simp)))

theorem rgXs_at (ob : Nat → Nat) (n k : Nat) (hk : k < n) : (rgXs ob n)[k * 3]? = some (.int .i64 ((k : Int) + 4)) ∧ (rgXs ob n)[k * 3 + 1]? = some (.slice (some ⟨ob k, 0, none⟩) 2 2) ∧ (rgXs ob n)[k * 3 + 2]? = some (.slice none 0 0) := by
  have e := fun j hj => flat_at (fun k => rgX (ob k) k) 3 (fun _ => rfl) (List.range n) k j (by simpa using hk) hj
  simp only [List.getElem_range] at e
  exact ⟨e 0 (by omega), e 1 (by omega), e 2 (by omega)⟩
theorem rgXs_length (ob : Nat → Nat) (n : Nat) : (rgXs ob n).length = n * 3 := by
  have := flat_length (fun k => rgX (ob k) k) 3 (fun _ => rfl) (List.range n)
  simpa [rgXs] using this

theorem ring_is (k : Int) (n : Nat) (w : World) (hk : k = n) (h1 : 1 ≤ n) (hn : n ≤ 1000) :
    Calls Try.prog 18 #[.int .i64 k] w fun e w' => ∃ (gv cv gi ci eb ab : Nat) (ob : Nat → Nat), e = .returned (.agg #[.slice (some ⟨gv, 0, none⟩) (n + 2) cv, .slice (some ⟨w.heap.size + 1 + 1 + 1 + 1 + 1 + 1 + 1 + 1 + 1 + 1 + 1 + 1 + 1 + 1 + 1 + 1 + 1 + 1, 0, none⟩) 4 4]) ∧ RingAt w.heap.size n gv cv gi ci eb ab ob (List.replicate (n + 2) 0) (.slice none 0 0) (.slice (some ⟨w.heap.size + 1 + 1 + 1 + 1 + 1 + 1 + 1 + 1 + 1 + 1 + 1 + 1, 0, none⟩) 1 1) 1 (.slice (some ⟨w.heap.size + 1 + 1 + 1 + 1 + 1 + 1, 0, none⟩) 1 1) (ringW w) w' ∧ Below w.heap.size w w' := by
  subst hk
  refine (ring_any n w hn).mono ?_
  rintro e w' ⟨vv, vi, ob, eb, ab, wr, rfl, hS, hF, hb⟩
  obtain ⟨gv, cv, rfl, hgv, hgv', cv', zv⟩ := own_rowL hS.ov (by omega)
  obtain ⟨gi, ci, rfl, hgi, hgi', ci', zi⟩ := own_rowL hS.oi (by omega)
  have lF := hS.r2.lt
  have lt := hF.lt
  have nvb := hS.nvb gv rfl
  have dd : gv ≠ gi := fun e => hS.ap gv rfl (by simp [Value.ownBlock, e])
  obtain ⟨vi', hvi, r1⟩ := hF.r1
  have hvi2 : wr.cell? ⟨w.heap.size + 1 + 1 + 1 + 1 + 1 + 1 + 1 + 1 + 1 + 1 + 1 + 1 + 1 + 1 + 1 + 1 + 1 + 1, 7, none⟩ = some (.slice (some ⟨gi, 0, none⟩) n ci) := hS.r1.cell (i := 7) (by omega)
  rw [hvi2] at hvi
  cases hvi
  have kc : ∀ b j, b < wr.heap.size → b ≠ w.heap.size + 1 + 1 + 1 + 1 + 1 + 1 + 1 + 1 + 1 + 1 + 1 + 1 + 1 + 1 + 1 + 1 + 1 + 1 → b ≠ w.heap.size → w'.cell? ⟨b, j, none⟩ = wr.cell? ⟨b, j, none⟩ := fun b j h0 h1 h2 => World.cell?_of_block (hF.kept b h0 h1 h2)
  refine ⟨gv, cv, gi, ci, eb, ab, ob, rfl, ⟨by omega, ⟨nvb, by omega⟩, ⟨hgi, by omega⟩, ⟨by omega, by omega⟩, ⟨by omega, by omega⟩, ⟨dd, by omega, by omega⟩, fun k hk => ?_, fun k => ?_, r1, ?_, fun b h2 h17 h7 => (hF.kept b (by omega) (by omega) (by omega)).trans (hS.st b h2 h17), fun k hk => ?_, fun k hk => ?_, hF.rE, hF.rA⟩, hb⟩
  · refine (kc gv k (by omega) (by omega) (by omega)).trans ((cv' k ?_).trans ?_)
    · simp [cI] at hk ⊢; omega
    · congr 1
      have : (List.flatMap cI (List.replicate (n + 2) (0 : Int))) = List.replicate (n + 2) (.int .i64 0) := by simp [cI, List.flatMap_def]
      simp [this]
  · exact (World.frozen?_of_block (hF.kept gv (by omega) (by omega) (by omega))).trans (zv k)
  · refine ⟨_, (hF.kept _ (by omega) (by omega) (by omega)).trans ((hS.st _ (by omega) (by omega)).trans (ringW_7 w)), rfl, fun q hq => ?_⟩
    match q, hq with | 0, _ => rfl | 1, _ => rfl
  · obtain ⟨a0, a1, a2⟩ := rgXs_at ob n k hk
    have len := rgXs_length ob n
    have g : ∀ j v, (rgXs ob n)[j]? = some v → j < n * 3 → w'.cell? ⟨gi, j, none⟩ = some v := fun j v hv hj => by
      refine (kc gi j (by omega) (by omega) (by omega)).trans ((ci' j (by omega)).trans ?_)
      rw [← hv]
      exact (List.getElem?_eq_getElem (by omega)).symm
    exact ⟨g _ _ a0 (by omega), g _ _ a1 (by omega), g _ _ a2 (by omega)⟩
  · have o := hS.obs k hk
    have ob1 := o.base
    have ob2 := o.lt
    have ob3 := o.nv
    exact ⟨o.base, by omega, fun e => ob3 (by simp [Value.ownBlock, e]), (hF.kept _ o.lt (by omega) (by omega)).trans o.blk⟩
end Go.Proofs.Ytengmgdnpojfjaa
