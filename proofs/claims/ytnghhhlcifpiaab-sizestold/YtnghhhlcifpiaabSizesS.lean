/-
  What 'SizesTold' asks of plain functions: the sizes that may be, and those that are one or two too great.
-/
import Derived.Test.YtnghhhlcifpiaabLineF
import Derived.Test.YtnghhhlcifpiaabCheck
namespace Go.Proofs.Ytnghhhlcifpiaab
open Go.RowKit
set_option linter.unusedVariables false

/-- A line of three values, then empty blocks, m blocks in all, each leading to the next. -/
def szB (m : Nat) : Fn := ⟨[0, 0, 0], (List.range m).map fun j => ⟨[], if j = 0 then (List.range 3).map lnI else [], if j + 1 < m then [⟨(j : Int) + 1, []⟩] else []⟩⟩
/-- A line of three values, and an instruction with m uses. -/
def szO (m : Nat) : Fn := ⟨[0, 0, 0], [⟨[], (List.range 3).map lnI ++ [⟨9, List.replicate m ⟨1, 0, false, 1, 0⟩, []⟩], []⟩]⟩
/-- A line of three values that says that it has m. -/
def szV (m : Nat) : Fn := ⟨List.replicate m 0, (lineF 3).blocks⟩

set_option maxRecDepth 100000 in
theorem sz_line : ∀ k : Nat, k < 4 → shapeErr (lineF (39 + k)) 10 10 = if 1 < k then 1 else 0 := by decide +kernel
set_option maxRecDepth 100000 in
theorem sz_blocks : ∀ k : Nat, k < 4 → shapeErr (szB (15 + k)) 10 10 = if 1 < k then 1 else 0 := by decide +kernel
set_option maxRecDepth 100000 in
theorem sz_opers : ∀ k : Nat, k < 4 → shapeErr (szO (5 + k)) 10 10 = if 1 < k then 1 else 0 := by decide +kernel
set_option maxRecDepth 100000 in
theorem sz_values : ∀ k : Nat, k < 4 → shapeErr (szV (159 + k)) 10 10 = if 1 < k then 1 else 6 := by decide +kernel
def useZ : Opr := ⟨1, 0, false, 1, 0⟩
theorem szO_sl {M gl m cl g cap bs : Nat} {vv vi : Value} {ob : Nat → Nat} {wr wa w1 W : World} (h : LineSt M 3 3 vv vi ob wr) (hm : m ≤ 100)
    (hl : wr.ownsRow bs 36 5 (.slice (some ⟨gl, 0, none⟩) m cl) m ((List.replicate m useZ).flatMap cO)) (hbs : M + 1 < bs) (hvi : ∀ x, vi.ownBlock = some x → x < bs) (hwa : Below wr.heap.size wr wa) (hgrow : wa.grownBy w1 vi.ownBlock)
    (hown : w1.ownsRow (M + 1 + 1 + 1) 30 3 (.slice (some ⟨g, 0, none⟩) 4 cap) 4 (lnXs ob 3 ++ [.int .i64 9, .slice (some ⟨gl, 0, none⟩) m cl, .slice none 0 0]))
    (hW : W = w1.setCell ⟨M + 1, 1, none⟩ (.slice (some ⟨g, 0, none⟩) 4 cap)) :
    SlOf W 1 RInt vv (szO m).values ∧ SlOf W 3 (RBlk W) (.slice (some ⟨M + 1, 0, none⟩) 1 1) (szO m).blocks := by
  have hza := hwa.size
  have hz := hgrow.size
  have kept : ∀ b, b < wr.heap.size → some b ≠ vi.ownBlock → w1.heap[b]? = wr.heap[b]? := fun b hb hne => (hgrow.block b (by omega) hne).trans (hwa.block b hb)
  have hst : ∀ b, b ≠ M + 1 → W.heap[b]? = w1.heap[b]? := fun b hb => by rw [hW]; exact Below.heap_setCell _ _ _ _ hb
  have far : ∀ b, b < M + 1 + 1 + 1 → some b ≠ vi.ownBlock := fun b hb e => by have := own_base h.oi e.symm; omega
  have k1 := h.r1.of_block (kept (M + 1) h.r1.lt (far _ (by omega)))
  have rB : W.rowIs (M + 1) 42 3 (fun q => if q = 1 then .slice (some ⟨g, 0, none⟩) 4 cap else .slice none 0 0) := by
    rw [hW]
    refine (k1.set 1 _).congr fun q hq => ?_
    match q, hq with | 0, _ => rfl | 1, _ => rfl | 2, _ => rfl
  have hv : SlOf W 1 RInt vv (szO m).values := own_ints (n := 3) [0, 0, 0] (own_keep h.ov fun b hx hb hlt => (hst b (by omega)).trans (kept b hlt fun e => h.ap b hx e.symm)) (by unfold longest; omega)
  have hl' : SlOf W 5 ROpr (.slice (some ⟨gl, 0, none⟩) m cl) (List.replicate m useZ) := own_oprs _ (own_keep hl fun b hx hb hlt => (hst b (by omega)).trans (kept b hlt fun e => by have := hvi b e.symm; omega)) (by unfold longest; omega)
  have hi0 : SlOf W 3 (fun cs (j : Nat) => cs = if j = 3 then [.int .i64 9, .slice (some ⟨gl, 0, none⟩) m cl, .slice none 0 0] else lnX (ob j) j) (.slice (some ⟨g, 0, none⟩) 4 cap) (List.range 4) :=
    own_sl (k := 3) (fun j => if j = 3 then [.int .i64 9, .slice (some ⟨gl, 0, none⟩) m cl, .slice none 0 0] else lnX (ob j) j) (fun j => by split <;> rfl) (by decide) (fun _ => rfl) _ (own_keep hown fun b hx hb hlt => hst b (by omega)) (by unfold longest; omega)
  have hi : SlOf W 3 (RIns W) (.slice (some ⟨g, 0, none⟩) 4 cap) ((List.range 4).map fun j => if j = 3 then ⟨9, List.replicate m useZ, []⟩ else lnI j) := hi0.mapR _ fun cs j hj e => by
    subst e
    have hj4 := List.mem_range.1 hj
    by_cases h3 : j = 3
    · rw [if_pos h3, if_pos h3]
      exact ⟨_, _, rfl, hl', SlOf_nil _ _ _ _ _⟩
    · rw [if_neg h3, if_neg h3]
      have O := h.obs j (by omega)
      have hlen : (lnO j).length ≤ 2 := by unfold lnO; split <;> simp
      have ob1 := O.base
      exact ⟨_, _, rfl, SlOf_blk cO (fun _ => rfl) (fun _ => rfl) (lnO j) (((hst _ (by omega)).trans (kept _ O.lt fun e => O.ni e.symm)).trans O.blk) rfl (by unfold longest; omega), SlOf_nil _ _ _ _ _⟩
  refine ⟨hv, SlOf_one [.slice none 0 0, .slice (some ⟨g, 0, none⟩) 4 cap, .slice none 0 0] rfl ⟨_, _, _, rfl, SlOf_nil _ _ _ _ _, hi, SlOf_nil _ _ _ _ _⟩ (cells3 ?_ ?_ ?_)⟩
  · exact rB.cell (i := 0) (by omega)
  · exact rB.cell (i := 1) (by omega)
  · exact rB.cell (i := 2) (by omega)
end Go.Proofs.Ytnghhhlcifpiaab
