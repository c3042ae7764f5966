/-
  Blocks that are added one by one: what lies where ('SizesTold', its second way).
-/
import Derived.Test.YtnghhhlcifpiaabSizesS
namespace Go.Proofs.Ytnghhhlcifpiaab
open Go.RowKit
set_option linter.unusedVariables false

theorem own_set {w : World} {base e k n g cap : Nat} {xs : List Value} (h : w.ownsRow base e k (.slice (some ⟨g, 0, none⟩) n cap) n xs) (i : Nat) (u : Value) : (w.setCell ⟨g, i, none⟩ u).ownsRow base e k (.slice (some ⟨g, 0, none⟩) n cap) n (xs.set i u) := by
  obtain ⟨hlen, h⟩ := h
  refine ⟨by simpa using hlen, ?_⟩
  rcases h with ⟨h0, _⟩ | ⟨g', cap', cur, hv, hb, hg, hnc, hc, hcs, htake⟩
  · simp at h0
  · simp only [Value.slice.injEq, Option.some.injEq, Addr.mk.injEq] at hv
    obtain ⟨⟨rfl, _, _⟩, _, rfl⟩ := hv
    refine Or.inr ⟨g, cap, cur.setIfInBounds i u, rfl, hb, ?_, hnc, hc, by simpa using hcs, ?_⟩
    · simp [World.setCell, Array.getElem?_modify, hg]
    · rw [Array.toList_setIfInBounds, List.take_set, htake]

def bx (vi : Value) (e : Nat → Value) (j : Nat) : List Value := [.slice none 0 0, if j = 0 then vi else .slice none 0 0, e j]
theorem bx_set (vi : Value) (e : Nat → Value) (p : Nat) (u : Value) : ((List.range (p + 1)).flatMap (bx vi e)).set (p * 3 + 2) u = (List.range (p + 1)).flatMap (bx vi fun j => if j = p then u else e j) := by
  rw [List.range_succ, List.flatMap_append, List.flatMap_append]
  have hl : ((List.range p).flatMap (bx vi e)).length = p * 3 := by rw [flat_length (bx vi e) 3 (fun _ => rfl), List.length_range]
  rw [List.set_append_right _ _ (by omega), hl]
  congr 1
  · simp only [List.flatMap_def]
    congr 1
    refine List.map_congr_left fun k hk => ?_
    have : k < p := List.mem_range.1 hk
    simp [bx, show ¬ k = p by omega]
  · have e2 : p * 3 + 2 - p * 3 = 2 := by omega
    rw [e2]
    simp [bx]
theorem bx_snoc (vi : Value) (e : Nat → Value) (i : Nat) (hi : 0 < i) (he : e i = .slice none 0 0) : (List.range i).flatMap (bx vi e) ++ [.slice none 0 0, .slice none 0 0, .slice none 0 0] = (List.range (i + 1)).flatMap (bx vi e) := by
  rw [List.range_succ, List.flatMap_append]
  simp [bx, he, show ¬ i = 0 by omega]

/-- What lies where, where there are i blocks. -/
structure BSt (M Fb : Nat) (wf : World) (vi vv : Value) (i : Nat) (e : Nat → Value) (v : Value) (wr : World) : Prop where
  rF : wr.rowIs Fb 34 2 (fun q => if q = 0 then vv else v)
  ow : wr.ownsRow (M + 1) 42 3 v i ((List.range i).flatMap (bx vi e))
  far : ∀ g, v.ownBlock = some g → g = M + 1 ∨ wf.heap.size ≤ g
  eg : ∀ j, j + 1 < i → ∃ b, e j = .slice (some ⟨b, 0, none⟩) 1 1 ∧ wf.heap.size ≤ b ∧ b < wr.heap.size ∧ v.ownBlock ≠ some b ∧ wr.heap[b]? = some (.cells #[.int .i64 ((j : Int) + 1), .slice none 0 0] 53)
  nil : ∀ j, i ≤ j + 1 → e j = .slice none 0 0
  kept : ∀ b, b < wf.heap.size → b ≠ M + 1 → b ≠ Fb → wr.heap[b]? = wf.heap[b]?
  size : wf.heap.size ≤ wr.heap.size

theorem BSt.start {M Fb : Nat} {wf : World} {vi vv : Value} (hB : wf.rowIs (M + 1) 42 3 (fun q => if q = 1 then vi else .slice none 0 0)) (hF : wf.rowIs Fb 34 2 (fun q => if q = 0 then vv else .slice (some ⟨M + 1, 0, none⟩) 1 1)) :
    BSt M Fb wf vi vv 1 (fun _ => .slice none 0 0) (.slice (some ⟨M + 1, 0, none⟩) 1 1) wf := by
  obtain ⟨c, hc, hs, hx⟩ := id hB
  refine ⟨hF, ⟨rfl, Or.inr ⟨M + 1, 1, c, rfl, Nat.le_refl _, hc, by omega, by unfold maxLen; omega, by omega, ?_⟩⟩, fun g hg => Or.inl (by simpa [Value.ownBlock] using hg.symm), fun j hj => absurd hj (by omega), fun _ _ => rfl, fun _ _ _ _ => rfl, Nat.le_refl _⟩
  have h0 := hx 0 (by omega)
  have h1 := hx 1 (by omega)
  have h2 := hx 2 (by omega)
  obtain ⟨l⟩ := c
  match l, hs with
  | [x, y, z], _ =>
    simp at h0 h1 h2
    simp [bx, h0, h1, h2]

/-- The last block's edge is laid. -/
theorem BSt.edge {M Fb : Nat} {wf : World} {vi vv : Value} {p g cap : Nat} {e : Nat → Value} {wr W : World} (h : BSt M Fb wf vi vv (p + 1) e (.slice (some ⟨g, 0, none⟩) (p + 1) cap) wr) (hFb : Fb < wf.heap.size) (hFM : M + 1 < Fb)
    (hW : W = (wr.setCell ⟨g, p * 3 + 2, none⟩ (.slice (some ⟨wr.heap.size, 0, none⟩) 1 1)).alloc (.cells #[.int .i64 ((p : Int) + 1), .slice none 0 0] 53)) :
    W.rowIs Fb 34 2 (fun q => if q = 0 then vv else .slice (some ⟨g, 0, none⟩) (p + 1) cap) ∧
    W.ownsRow (M + 1) 42 3 (.slice (some ⟨g, 0, none⟩) (p + 1) cap) (p + 1) ((List.range (p + 1)).flatMap (bx vi fun j => if j = p then .slice (some ⟨wr.heap.size, 0, none⟩) 1 1 else e j)) ∧
    (∀ j, j + 1 < p + 1 + 1 → ∃ b, (if j = p then .slice (some ⟨wr.heap.size, 0, none⟩) 1 1 else e j) = .slice (some ⟨b, 0, none⟩) 1 1 ∧ wf.heap.size ≤ b ∧ b < W.heap.size ∧ g ≠ b ∧ W.heap[b]? = some (.cells #[.int .i64 ((j : Int) + 1), .slice none 0 0] 53)) ∧
    (∀ b, b < wf.heap.size → b ≠ M + 1 → b ≠ Fb → W.heap[b]? = wf.heap[b]?) ∧ wr.heap.size < W.heap.size := by
  have hz : W.heap.size = wr.heap.size + 1 := by rw [hW]; simp
  have hgb := own_base h.ow (g := g) rfl
  have hfar := h.far g rfl
  have hs := h.size
  have hk : ∀ b, b ≠ g → b < wr.heap.size → W.heap[b]? = wr.heap[b]? := fun b hb hl => by rw [hW, Below.heap_alloc _ _ _ (by simpa using hl)]; exact Below.heap_setCell _ _ _ _ hb
  refine ⟨h.rF.of_block (hk Fb (by omega) (by omega)), ?_, ?_, fun b hb h1 h2 => ?_, by omega⟩
  · rw [← bx_set, hW]
    exact (own_set h.ow _ _).alloc _
  · intro j hj
    by_cases hjp : j = p
    · subst hjp
      refine ⟨wr.heap.size, by rw [if_pos rfl], hs, by omega, by omega, ?_⟩
      rw [hW]
      exact heap_atL (by simp)
    · obtain ⟨b, h1, h2, h3, h4, h5⟩ := h.eg j (by omega)
      simp [Value.ownBlock] at h4
      exact ⟨b, by rw [if_neg hjp]; exact h1, h2, by omega, h4, (hk b (fun e => h4 e.symm) h3).trans h5⟩
  · rw [hk b (by rcases hfar with h | h <;> omega) (by omega)]
    exact h.kept b hb h1 h2
/-- One block more. -/
theorem BSt.add {M Fb : Nat} {wf : World} {vi vv : Value} {p g cap g2 cap2 : Nat} {e : Nat → Value} {wr W1 w2 W : World} (h : BSt M Fb wf vi vv (p + 1) e (.slice (some ⟨g, 0, none⟩) (p + 1) cap) wr) (hFb : Fb < wf.heap.size) (hFM : M + 1 < Fb)
    (hW1 : W1 = (wr.setCell ⟨g, p * 3 + 2, none⟩ (.slice (some ⟨wr.heap.size, 0, none⟩) 1 1)).alloc (.cells #[.int .i64 ((p : Int) + 1), .slice none 0 0] 53))
    (hown : w2.ownsRow (M + 1) 42 3 (.slice (some ⟨g2, 0, none⟩) (p + 1 + 1) cap2) (p + 1 + 1) ((List.range (p + 1)).flatMap (bx vi fun j => if j = p then .slice (some ⟨wr.heap.size, 0, none⟩) 1 1 else e j) ++ [.slice none 0 0, .slice none 0 0, .slice none 0 0]))
    (hgrow : (W1.alloc (.cells #[.slice none 0 0, .slice none 0 0, .slice none 0 0] 42)).grownBy w2 (some g)) (hat : some g = some g2 ∨ g2 = W1.heap.size + 1)
    (hW : W = w2.setCell ⟨Fb, 1, none⟩ (.slice (some ⟨g2, 0, none⟩) (p + 1 + 1) cap2)) :
    BSt M Fb wf vi vv (p + 1 + 1) (fun j => if j = p then .slice (some ⟨wr.heap.size, 0, none⟩) 1 1 else e j) (.slice (some ⟨g2, 0, none⟩) (p + 1 + 1) cap2) W := by
  obtain ⟨rF1, ow1, eg1, kept1, hz1⟩ := h.edge hFb hFM hW1
  have hfar := h.far g rfl
  have hs := h.size
  have hz2 := hgrow.size
  simp at hz2
  have hzW : W.heap.size = w2.heap.size := by rw [hW]; simp
  have gr : ∀ b, b < W1.heap.size → b ≠ g → w2.heap[b]? = W1.heap[b]? := fun b hb hne => (hgrow.block b (by simp; omega) (by simpa using hne)).trans (Below.heap_alloc _ _ _ hb)
  have gW : ∀ b, b ≠ Fb → W.heap[b]? = w2.heap[b]? := fun b hb => by rw [hW]; exact Below.heap_setCell _ _ _ _ hb
  have hg2 : g2 = g ∨ g2 = W1.heap.size + 1 := by rcases hat with h | h; left; simpa using h.symm; right; exact h
  have hgF : g2 ≠ Fb := by rcases hg2 with h | h <;> rcases hfar with h' | h' <;> omega
  refine ⟨?_, ?_, ?_, ?_, ?_, ?_, by omega⟩
  · rw [hW]
    refine ((rF1.of_block (gr Fb (by omega) (by rcases hfar with h | h <;> omega))).set 1 _).congr fun q hq => ?_
    match q, hq with | 0, _ => rfl | 1, _ => rfl
  · rw [← bx_snoc vi _ (p + 1) (by omega) (by rw [if_neg (by omega)]; exact h.nil (p + 1) (by omega))]
    refine own_keep hown fun b hx _ _ => gW b ?_
    simp [Value.ownBlock] at hx
    omega
  · intro b hb
    simp [Value.ownBlock] at hb
    subst hb
    rcases hg2 with h2 | h2
    · rw [h2]; exact hfar
    · right; omega
  · intro j hj
    obtain ⟨b, h1, h2, h3, h4, h5⟩ := eg1 j (by omega)
    refine ⟨b, h1, h2, by omega, ?_, (gW b (by omega)).trans ((gr b h3 (fun e => h4 e.symm)).trans h5)⟩
    simp [Value.ownBlock]
    rcases hg2 with h | h <;> omega
  · intro j hj
    show (if j = p then _ else e j) = _
    rw [if_neg (by omega)]
    exact h.nil j (by omega)
  · intro b hb hb1 hb2
    rw [gW b hb2, gr b (by omega) (by rcases hfar with h | h <;> omega)]
    exact kept1 b hb hb1 hb2

theorem BSt.sl {M m : Nat} {w1 wf W : World} {vi vv v : Value} {e : Nat → Value} {ob : Nat → Nat} (h : BSt M w1.heap.size wf vi vv m e v W) (hS : LineSt M 3 3 vv vi ob w1) (hbf : Below w1.heap.size w1 wf) (hm : m ≤ 1000) (hzf : w1.heap.size < wf.heap.size) :
    SlOf W 1 RInt vv (szB m).values ∧ SlOf W 3 (RBlk W) v (szB m).blocks := by
  have kept : ∀ b, b < w1.heap.size → b ≠ M + 1 → W.heap[b]? = w1.heap[b]? := fun b hb hne => (h.kept b (by omega) hne (by omega)).trans (hbf.block b hb)
  have hv : SlOf W 1 RInt vv (szB m).values := own_ints (n := 3) [0, 0, 0] (own_keep hS.ov fun b _ hb hlt => kept b hlt (by omega)) (by unfold longest; omega)
  have hi0 : SlOf W 3 (fun cs (k : Nat) => cs = lnX (ob k) k) vi (List.range 3) := own_sl (k := 3) (fun k => lnX (ob k) k) (fun _ => rfl) (by decide) (fun _ => rfl) _ (own_keep hS.oi fun b _ hb hlt => kept b hlt (by omega)) (by unfold longest; omega)
  have hi : SlOf W 3 (RIns W) vi ((List.range 3).map lnI) := hi0.mapR lnI fun cs k hk e => by
    subst e
    have O := hS.obs k (List.mem_range.1 hk)
    have ob1 := O.base
    have hlen : (lnO k).length ≤ 2 := by unfold lnO; split <;> simp
    exact ⟨_, _, rfl, SlOf_blk cO (fun _ => rfl) (fun _ => rfl) (lnO k) ((kept _ O.lt (by omega)).trans O.blk) rfl (by unfold longest; omega), SlOf_nil _ _ _ _ _⟩
  have hb0 : SlOf W 3 (fun cs (j : Nat) => cs = bx vi e j) v (List.range m) := own_sl (k := 3) (bx vi e) (fun _ => rfl) (by decide) (fun _ => rfl) _ h.ow (by unfold longest; omega)
  refine ⟨hv, hb0.mapR _ fun cs j hj e' => ?_⟩
  subst e'
  have hjm := List.mem_range.1 hj
  refine ⟨_, _, _, rfl, SlOf_nil _ _ _ _ _, ?_, ?_⟩
  · by_cases h0 : j = 0
    · simp only [h0, if_true]; exact hi
    · simp only [if_neg h0]; exact SlOf_nil _ _ _ _ _
  · by_cases hj1 : j + 1 < m
    · obtain ⟨b, h1, h2, h3, h4, h5⟩ := h.eg j hj1
      simp only [if_pos hj1]
      rw [h1]
      have c0 : W.cell? ⟨b, 0, none⟩ = some (.int .i64 ((j : Int) + 1)) := by simp [World.cell?, h5]
      have c1 : W.cell? ⟨b, 1, none⟩ = some (.slice none 0 0) := by simp [World.cell?, h5]
      exact SlOf_one [.int .i64 ((j : Int) + 1), .slice none 0 0] rfl ⟨_, rfl, SlOf_nil _ _ _ _ _⟩ (cells2 c0 c1)
    · simp only [if_neg hj1]
      rw [h.nil j (by omega)]
      exact SlOf_nil _ _ _ _ _
end Go.Proofs.Ytnghhhlcifpiaab
