/-
  The contract of the statements' own 'pair': its function.
-/
import Derived.Test.YtjbjnndmpheedaaG1
import Derived.Test.YtjbjnndmpheedaaG2
import Derived.Test.YtjbjnndmpheedaaM1
namespace Go.Proofs.Ytjbjnndmpheedaa
open Go.RowKit
set_option linter.unusedVariables false

def dOp : Opr := ⟨2, 0, true, 1, 0⟩
def uOp : Opr := ⟨1, 0, false, 1, 0⟩
theorem sl_none {α : Type} (w : World) (k : Nat) (R : List Value → α → Prop) : SlOf w k R (.slice none 0 0) [] := ⟨none, 0, rfl, by simp, Or.inl rfl⟩
/-- All but one block is as it was: a slice that lies elsewhere. -/
theorem sl_off {α : Type} {w w' : World} {k b : Nat} {R R' : List Value → α → Prop} {v : Value} {l : List α} (h : SlOf w k R v l) (hk : ∀ q, q ≠ b → w'.heap[q]? = w.heap[q]?) (hne : l ≠ [] → v.ownBlock ≠ some b) (hR : ∀ cs x, R cs x → R' cs x) : SlOf w' k R' v l := by
  obtain ⟨a, cap, hv, hl, h⟩ := h
  refine ⟨a, cap, hv, hl, ?_⟩
  rcases h with h | ⟨q, off, ha, h⟩
  · exact Or.inl h
  · refine Or.inr ⟨q, off, ha, fun i hi => ?_⟩
    obtain ⟨cs, h1, h2, h3⟩ := h i hi
    have hq : q ≠ b := fun e => hne (fun e2 => by rw [e2] at hi; simp at hi) (by rw [hv, ha, e]; rfl)
    exact ⟨cs, h1, hR _ _ h2, fun j hj => (World.cell?_of_block (a := ⟨q, off + i * k + j, none⟩) (hk q hq)).trans (h3 j hj)⟩
/-- A slice whose elements begin with a number does not lie where just empty slices are. -/
theorem sl_apart {α : Type} {w : World} {k b T nr : Nat} {R : List Value → α → Prop} {v : Value} {l : List α} {f : Nat → Value} (h : SlOf w k R v l) (hint : ∀ cs x, R cs x → ∃ q n, cs.head? = some (.int q n)) (hrow : w.rowIs b T nr f) (hf : ∀ i, i < nr → ∃ a n c, f i = .slice a n c) : l ≠ [] → v.ownBlock ≠ some b := fun hl hv => by
  obtain ⟨a, cap, hv2, _, h⟩ := h
  rcases h with h | ⟨q, off, ha, h⟩
  · exact hl h
  · obtain ⟨cs, h1, h2, h3⟩ := h 0 (List.length_pos_iff.2 hl)
    obtain ⟨z, n, hz⟩ := hint _ _ h2
    have hq : q = b := by rw [hv2, ha] at hv; simpa [Value.ownBlock] using hv
    cases cs with
    | nil => simp at hz
    | cons c r =>
      have h4 := h3 0 (by simp)
      simp at hz h4
      subst hz
      rw [hq] at h4
      obtain ⟨cc, g1, g2, g3⟩ := hrow
      by_cases hi : off < nr
      · obtain ⟨a', n', c', hs⟩ := hf off hi
        have := g3 off hi
        rw [hs] at this
        simp [World.cell?, g1, this] at h4
      · simp [World.cell?, g1] at h4
        have := (Array.getElem?_eq_some_iff.1 h4).1
        omega
theorem hintI : ∀ cs x, RInt cs x → ∃ q n, cs.head? = some (.int q n) := fun cs x h => ⟨_, _, (congrArg List.head? h).trans rfl⟩
theorem hintO : ∀ cs x, ROpr cs x → ∃ q n, cs.head? = some (.int q n) := fun cs x h => ⟨_, _, (congrArg List.head? h).trans rfl⟩
theorem hintR : ∀ cs x, RRg cs x → ∃ q n, cs.head? = some (.int q n) := fun cs x h => ⟨_, _, (congrArg List.head? h).trans rfl⟩
theorem hintX {w : World} : ∀ cs x, RIns w cs x → ∃ q n, cs.head? = some (.int q n) := fun cs x h => by
  obtain ⟨_, _, h, _⟩ := h
  exact ⟨_, _, by rw [h]; rfl⟩
theorem hintE {w : World} : ∀ cs x, REdg w cs x → ∃ q n, cs.head? = some (.int q n) := fun cs x h => by
  obtain ⟨_, h, _⟩ := h
  exact ⟨_, _, by rw [h]; rfl⟩
/-- A row of empty slices is written: what else there is stays. -/
theorem RBlk.off {w w' : World} {b T nr : Nat} {f : Nat → Value} (hrow : w.rowIs b T nr f) (hf : ∀ i, i < nr → ∃ a n c, f i = .slice a n c) (hk : ∀ q, q ≠ b → w'.heap[q]? = w.heap[q]?) (cs : List Value) (x : Blk) (h : RBlk w cs x) : RBlk w' cs x := by
  obtain ⟨vp, vi, ve, h1, h2, h3, h4⟩ := h
  refine ⟨vp, vi, ve, h1, sl_off h2 hk (sl_apart h2 hintI hrow hf) fun _ _ h => h, sl_off h3 hk (sl_apart h3 hintX hrow hf) fun cs x h => ?_, sl_off h4 hk (sl_apart h4 hintE hrow hf) fun cs x h => ?_⟩
  · obtain ⟨vo, vs, g1, g2, g3⟩ := h
    exact ⟨vo, vs, g1, sl_off g2 hk (sl_apart g2 hintO hrow hf) fun _ _ h => h, sl_off g3 hk (sl_apart g3 hintR hrow hf) fun _ _ h => h⟩
  · obtain ⟨va, g1, g2⟩ := h
    exact ⟨va, g1, sl_off g2 hk (sl_apart g2 hintI hrow hf) fun _ _ h => h⟩
/-- Elements of three cells do not lie where a row has but two. -/
theorem sl_apart3 {α : Type} {w : World} {b T n c off : Nat} {R : List Value → α → Prop} {l : List α} {f : Nat → Value} {g : Nat} (h : SlOf w 3 R (.slice (some ⟨g, 0, none⟩) n c) l) (hl : l ≠ []) (hrow : w.rowIs b T 2 f) : g ≠ b := fun e => by
  obtain ⟨q, o, cs, h1, h2, _, h3⟩ := h.at 0 (List.length_pos_iff.2 hl)
  have h4 := h3 2 (by omega)
  simp at h1
  obtain ⟨e1, e2⟩ := h1
  subst e1
  subst e
  obtain ⟨cc, g1, g2, g3⟩ := hrow
  rw [← e2] at h4
  simp [World.cell?, g1] at h4
  have := (Array.getElem?_eq_some_iff.1 h4).1
  omega
def plF (p : Pl) : Nat → Value := fun q => if q = 0 then .int .i64 p.kind else if q = 1 then .int .i64 p.cls else .int .i64 p.n
/-- What the one has in its cells the other has, too. -/
def CI (w w' : World) : Prop := ∀ b o v, w.cell? ⟨b, o, none⟩ = some v → w'.cell? ⟨b, o, none⟩ = some v
theorem CI.sl {α : Type} {w w' : World} {k : Nat} {R R' : List Value → α → Prop} {v : Value} {l : List α} (hc : CI w w') (h : SlOf w k R v l) (hR : ∀ cs x, R cs x → R' cs x) : SlOf w' k R' v l := by
  obtain ⟨a, cap, hv, hl, h⟩ := h
  refine ⟨a, cap, hv, hl, h.imp id ?_⟩
  rintro ⟨b, off, ha, h⟩
  refine ⟨b, off, ha, fun i hi => ?_⟩
  obtain ⟨cs, h1, h2, h3⟩ := h i hi
  exact ⟨cs, h1, hR _ _ h2, fun j hj => hc _ _ _ (h3 j hj)⟩
theorem CI.ins {w w' : World} (hc : CI w w') (cs : List Value) (x : Ins) (h : RIns w cs x) : RIns w' cs x := by
  obtain ⟨vo, vs, h1, h2, h3⟩ := h
  exact ⟨vo, vs, h1, hc.sl h2 fun _ _ h => h, hc.sl h3 fun _ _ h => h⟩
theorem CI.edg {w w' : World} (hc : CI w w') (cs : List Value) (x : Edg) (h : REdg w cs x) : REdg w' cs x := by
  obtain ⟨va, h1, h2⟩ := h
  exact ⟨va, h1, hc.sl h2 fun _ _ h => h⟩
theorem CI.blk {w w' : World} (hc : CI w w') (cs : List Value) (x : Blk) (h : RBlk w cs x) : RBlk w' cs x := by
  obtain ⟨vp, vi, ve, h1, h2, h3, h4⟩ := h
  exact ⟨vp, vi, ve, h1, hc.sl h2 fun _ _ h => h, hc.sl h3 hc.ins, hc.sl h4 hc.edg⟩
/-- The world without what lies in the blocks from N on, five of them. -/
def clr (N : Nat) (w : World) : World := { w with heap := w.heap.mapIdx fun i o => if N ≤ i ∧ i < N + 5 then .cells #[] 0 else o }
theorem clr_out {N : Nat} {w : World} {q : Nat} (h : ¬ (N ≤ q ∧ q < N + 5)) : (clr N w).heap[q]? = w.heap[q]? := by
  unfold clr
  simp only [Array.getElem?_mapIdx]
  cases w.heap[q]? with
  | none => rfl
  | some o => simp only [Option.map_some]; rw [if_neg h]
theorem clr_in {N : Nat} {w : World} {q o : Nat} {v : Value} (h : (clr N w).cell? ⟨q, o, none⟩ = some v) : ¬ (N ≤ q ∧ q < N + 5) := fun hr => by
  have : (clr N w).heap[q]? = (w.heap[q]?).map fun _ => .cells #[] 0 := by
    unfold clr
    simp only [Array.getElem?_mapIdx]
    cases w.heap[q]? with
    | none => rfl
    | some o => simp only [Option.map_some]; rw [if_pos hr]
  cases hq : w.heap[q]? with
  | none => rw [hq] at this; simp [World.cell?, this] at h
  | some o => rw [hq] at this; simp [World.cell?, this] at h
theorem clr_to {N : Nat} {w w' : World} (h : ∀ q, q < w.heap.size → ¬ (N ≤ q ∧ q < N + 5) → w'.heap[q]? = w.heap[q]?) : CI (clr N w) w' := fun b o v hc => by
  have h1 := clr_in hc
  have h2 : w.cell? ⟨b, o, none⟩ = some v := (World.cell?_of_block (a := ⟨b, o, none⟩) (clr_out h1)).symm.trans hc
  exact (World.cell?_of_block (a := ⟨b, o, none⟩) (h b (block_lt h2) h1)).trans h2
theorem clr_clr {N : Nat} {w w' : World} (h : ∀ q, q < w.heap.size → ¬ (N ≤ q ∧ q < N + 5) → w'.heap[q]? = w.heap[q]?) : CI (clr N w) (clr N w') := fun b o v hc => by
  have h1 := clr_in hc
  exact (World.cell?_of_block (a := ⟨b, o, none⟩) (clr_out h1)).trans (clr_to h b o v hc)
theorem clr_below {N : Nat} {w w' : World} (hb : Below w.heap.size w w') : CI (clr N w) (clr N w') := clr_clr fun q hq _ => hb.block q hq
theorem clr_old {N : Nat} {w0 w : World} (hb : Below w0.heap.size w0 w) (hN : w0.heap.size ≤ N) : CI w0 (clr N w) := fun b o v hc => by
  have h1 := block_lt hc
  exact (World.cell?_of_block (a := ⟨b, o, none⟩) ((clr_out (q := b) (by omega)).trans (hb.block b h1))).trans hc
theorem clr_alloc {N : Nat} {w : World} {o : Obj} (hN : N + 5 ≤ w.heap.size) : CI ((clr N w).alloc o) (clr N (w.alloc o)) := fun b off v hc => by
  have hs : (clr N w).heap.size = w.heap.size := by unfold clr; simp
  have e : (clr N (w.alloc o)).heap[b]? = ((clr N w).alloc o).heap[b]? := by
    unfold clr World.alloc
    simp only [Array.getElem?_mapIdx, Array.getElem?_push, Array.size_mapIdx]
    by_cases hb : b = w.heap.size
    · rw [if_pos hb, if_pos hb]
      simp only [Option.map_some]
      rw [if_neg (by omega)]
    · rw [if_neg hb, if_neg hb]
  exact (World.cell?_of_block (a := ⟨b, off, none⟩) e).trans hc
theorem clr_row {N : Nat} {w : World} {b T n : Nat} {f : Nat → Value} (h : w.rowIs b T n f) (hb : N + 5 ≤ b) : (clr N w).rowIs b T n f := h.of_block (clr_out (by omega))
def PrR (N : Nat) (op : Int) (ao : Option Addr) (no co : Nat) (asp : Option Addr) (nsp csp : Nat) (os : List Opr) (sp : List Rg) : Nat → (Nat → Value) → World → Prop
  | 0, vs, w => ∃ b, vs 0 = .slice (some ⟨b, 0, none⟩) 1 1 ∧ SlOf (clr N w) 1 RInt (.slice (some ⟨b, 0, none⟩) 1 1) [0]
  | 1, vs, w => vs 1 = .agg #[.int .i64 2, .int .i64 0, .bool true, .int .i64 1, .int .i64 0]
  | 2, vs, w => ∃ b, vs 2 = .slice (some ⟨b, 0, none⟩) 1 1 ∧ SlOf (clr N w) 5 ROpr (.slice (some ⟨b, 0, none⟩) 1 1) [dOp]
  | 3, vs, w => ∃ b, vs 3 = .agg #[.int .i64 1, .slice (some ⟨b, 0, none⟩) 1 1, .slice none 0 0] ∧ SlOf (clr N w) 5 ROpr (.slice (some ⟨b, 0, none⟩) 1 1) [dOp]
  | 4, vs, w => vs 4 = .agg #[.int .i64 op, .slice ao no co, .slice asp nsp csp] ∧ SlOf (clr N w) 5 ROpr (.slice ao no co) os ∧ SlOf (clr N w) 2 RRg (.slice asp nsp csp) sp
  | 5, vs, w => vs 5 = .agg #[.int .i64 1, .int .i64 0, .bool false, .int .i64 1, .int .i64 0]
  | 6, vs, w => ∃ b, vs 6 = .slice (some ⟨b, 0, none⟩) 1 1 ∧ SlOf (clr N w) 5 ROpr (.slice (some ⟨b, 0, none⟩) 1 1) [uOp]
  | 7, vs, w => ∃ b, vs 7 = .agg #[.int .i64 3, .slice (some ⟨b, 0, none⟩) 1 1, .slice none 0 0] ∧ SlOf (clr N w) 5 ROpr (.slice (some ⟨b, 0, none⟩) 1 1) [uOp]
  | 8, vs, w => ∃ b, vs 8 = .slice (some ⟨b, 0, none⟩) 3 3 ∧ SlOf (clr N w) 3 (RIns (clr N w)) (.slice (some ⟨b, 0, none⟩) 3 3) [⟨1, [dOp], []⟩, ⟨op, os, sp⟩, ⟨3, [uOp], []⟩]
  | 9, vs, w => ∃ b, vs 9 = .agg #[.slice none 0 0, .slice (some ⟨b, 0, none⟩) 3 3, .slice none 0 0] ∧ SlOf (clr N w) 3 (RIns (clr N w)) (.slice (some ⟨b, 0, none⟩) 3 3) [⟨1, [dOp], []⟩, ⟨op, os, sp⟩, ⟨3, [uOp], []⟩]
  | 10, vs, w => ∃ b, vs 10 = .slice (some ⟨b, 0, none⟩) 1 1 ∧ SlOf (clr N w) 3 (RBlk (clr N w)) (.slice (some ⟨b, 0, none⟩) 1 1) [⟨[], [⟨1, [dOp], []⟩, ⟨op, os, sp⟩, ⟨3, [uOp], []⟩], []⟩]
  | 11, vs, w => ∃ b c, vs 11 = .agg #[.slice (some ⟨b, 0, none⟩) 1 1, .slice (some ⟨c, 0, none⟩) 1 1] ∧ SlOf (clr N w) 1 RInt (.slice (some ⟨b, 0, none⟩) 1 1) [0] ∧ SlOf (clr N w) 3 (RBlk (clr N w)) (.slice (some ⟨c, 0, none⟩) 1 1) [⟨[], [⟨1, [dOp], []⟩, ⟨op, os, sp⟩, ⟨3, [uOp], []⟩], []⟩]
  | 12, vs, w => ∃ b, vs 12 = .pointer (some ⟨b, 0, none⟩) ∧ N + 5 ≤ b ∧ w.rowIs b 25 2 (fun _ => .slice none 0 0)
  | 13, vs, w => ∃ b c d, vs 12 = .pointer (some ⟨b, 0, none⟩) ∧ N + 5 ≤ b ∧ w.rowIs b 25 2 (fun q => if q = 0 then .slice (some ⟨c, 0, none⟩) 1 1 else .slice (some ⟨d, 0, none⟩) 1 1) ∧ SlOf (clr N w) 1 RInt (.slice (some ⟨c, 0, none⟩) 1 1) [0] ∧ SlOf (clr N w) 3 (RBlk (clr N w)) (.slice (some ⟨d, 0, none⟩) 1 1) [⟨[], [⟨1, [dOp], []⟩, ⟨op, os, sp⟩, ⟨3, [uOp], []⟩], []⟩]
  | _, _, _ => True
theorem PrR.keep {N : Nat} {op : Int} {ao : Option Addr} {no co : Nat} {asp : Option Addr} {nsp csp : Nat} {os : List Opr} {sp : List Rg} {vs : Nat → Value} {w w' : World} {L : Nat → Bool} {i : Nat} {v : Value} (hb : Below w.heap.size w w') (h : ∀ j, j < 13 → L j = true → PrR N op ao no co asp nsp csp os sp j vs w) : ∀ j, j < 13 → j ≠ i → L j = true → PrR N op ao no co asp nsp csp os sp j (upV vs i v) w' := fun j hj hji hl => by
  have h1 := h j hj hl
  match j, hj with
  | 0, _ => obtain ⟨b, e, s⟩ := h1; exact ⟨b, (upV_ne vs v hji).trans e, (clr_below hb).sl s fun _ _ h => h⟩
  | 1, _ => exact (upV_ne vs v hji).trans h1
  | 2, _ => obtain ⟨b, e, s⟩ := h1; exact ⟨b, (upV_ne vs v hji).trans e, (clr_below hb).sl s fun _ _ h => h⟩
  | 3, _ => obtain ⟨b, e, s⟩ := h1; exact ⟨b, (upV_ne vs v hji).trans e, (clr_below hb).sl s fun _ _ h => h⟩
  | 4, _ => obtain ⟨e, s, t⟩ := h1; exact ⟨(upV_ne vs v hji).trans e, (clr_below hb).sl s fun _ _ h => h, (clr_below hb).sl t fun _ _ h => h⟩
  | 5, _ => exact (upV_ne vs v hji).trans h1
  | 6, _ => obtain ⟨b, e, s⟩ := h1; exact ⟨b, (upV_ne vs v hji).trans e, (clr_below hb).sl s fun _ _ h => h⟩
  | 7, _ => obtain ⟨b, e, s⟩ := h1; exact ⟨b, (upV_ne vs v hji).trans e, (clr_below hb).sl s fun _ _ h => h⟩
  | 8, _ => obtain ⟨b, e, s⟩ := h1; exact ⟨b, (upV_ne vs v hji).trans e, (clr_below hb).sl s (clr_below hb).ins⟩
  | 9, _ => obtain ⟨b, e, s⟩ := h1; exact ⟨b, (upV_ne vs v hji).trans e, (clr_below hb).sl s (clr_below hb).ins⟩
  | 10, _ => obtain ⟨b, e, s⟩ := h1; exact ⟨b, (upV_ne vs v hji).trans e, (clr_below hb).sl s (clr_below hb).blk⟩
  | 11, _ => obtain ⟨b, c, e, s, t⟩ := h1; exact ⟨b, c, (upV_ne vs v hji).trans e, (clr_below hb).sl s fun _ _ h => h, (clr_below hb).sl t (clr_below hb).blk⟩
  | 12, _ => obtain ⟨b, e, s, t⟩ := h1; exact ⟨b, (upV_ne vs v hji).trans e, s, t.of_block (hb.block _ t.lt)⟩

structure PrS (w0 : World) (N : Nat) (ws w : World) : Prop where
  low : Below N w0 w
  size : ws.heap.size ≤ w.heap.size
  same : ∀ q, q < ws.heap.size → q ≠ N + 3 → q ≠ N + 4 → w.heap[q]? = ws.heap[q]?
  f3 : ∃ f, w.rowIs (N + 3) 25 2 f
  f4 : ∃ f, w.rowIs (N + 4) 32 3 f
theorem PrS.below {w0 : World} {N : Nat} {ws w w' : World} (h : PrS w0 N ws w) (hb : Below w.heap.size w w') (hN : N ≤ w.heap.size) : PrS w0 N ws w' :=
  ⟨h.low.trans (hb.mono hN), Nat.le_trans h.size hb.size, fun q h1 h2 h3 => (hb.block q (Nat.lt_of_lt_of_le h1 h.size)).trans (h.same q h1 h2 h3), by obtain ⟨f, hf⟩ := h.f3; exact ⟨f, hf.of_block (hb.block _ hf.lt)⟩, by obtain ⟨f, hf⟩ := h.f4; exact ⟨f, hf.of_block (hb.block _ hf.lt)⟩⟩
def r2F (b3 b4 : Nat) : Nat → Value := fun q => if q = 0 then .slice (some ⟨b3, 0, none⟩) 1 1 else if q = 1 then .slice none 0 0 else .slice (some ⟨b4, 0, none⟩) 1 1
/-- Where places of three instructions lie, of the first and the last one each. -/
structure Pl3 (B : Nat) (pa pb : Pl) (b1 b2 b3 b4 : Nat) (w : World) : Prop where
  r1 : w.rowIs b1 65 1 (fun _ => .slice (some ⟨b2, 0, none⟩) 3 3)
  r2 : w.rowIs b2 64 3 (r2F b3 b4)
  r3 : w.rowIs b3 37 3 (plF pa)
  r4 : w.rowIs b4 37 3 (plF pb)
  l1 : B ≤ b1
  l2 : B ≤ b2
  l3 : B ≤ b3
  l4 : B ≤ b4
  n34 : b3 ≠ b4
theorem Pl3.agree {B : Nat} {pa pb : Pl} {b1 b2 b3 b4 : Nat} {w w' : World} (h : Pl3 B pa pb b1 b2 b3 b4 w) (hk : ∀ q, B ≤ q → q < w.heap.size → w'.heap[q]? = w.heap[q]?) : Pl3 B pa pb b1 b2 b3 b4 w' :=
  ⟨h.r1.of_block (hk _ h.l1 h.r1.lt), h.r2.of_block (hk _ h.l2 h.r2.lt), h.r3.of_block (hk _ h.l3 h.r3.lt), h.r4.of_block (hk _ h.l4 h.r4.lt), h.l1, h.l2, h.l3, h.l4, h.n34⟩
def Pr2 (N B c d : Nat) (pa pb : Pl) (ve : Value) : Nat → (Nat → Value) → World → Prop
  | 0, vs, w => vs 0 = .agg #[.slice (some ⟨c, 0, none⟩) 1 1, .slice (some ⟨d, 0, none⟩) 1 1]
  | 1, vs, w => vs 1 = .agg #[.int .i64 pa.kind, .int .i64 pa.cls, .int .i64 pa.n]
  | 2, vs, w => ∃ b, vs 2 = .slice (some ⟨b, 0, none⟩) 1 1 ∧ B ≤ b ∧ w.rowIs b 37 3 (plF pa)
  | 3, vs, w => vs 3 = .agg #[.int .i64 pb.kind, .int .i64 pb.cls, .int .i64 pb.n]
  | 4, vs, w => ∃ b, vs 4 = .slice (some ⟨b, 0, none⟩) 1 1 ∧ B ≤ b ∧ w.rowIs b 37 3 (plF pb) ∧ ∀ b', vs 2 = .slice (some ⟨b', 0, none⟩) 1 1 → b' ≠ b
  | 5, vs, w => ∃ b2 b3 b4, vs 5 = .slice (some ⟨b2, 0, none⟩) 3 3 ∧ B ≤ b2 ∧ B ≤ b3 ∧ B ≤ b4 ∧ b3 ≠ b4 ∧ w.rowIs b2 64 3 (r2F b3 b4) ∧ w.rowIs b3 37 3 (plF pa) ∧ w.rowIs b4 37 3 (plF pb)
  | 6, vs, w => ∃ b1 b2 b3 b4, vs 6 = .slice (some ⟨b1, 0, none⟩) 1 1 ∧ Pl3 B pa pb b1 b2 b3 b4 w
  | 7, vs, w => vs 7 = ve
  | 8, vs, w => ∃ b1 b2 b3 b4, vs 8 = .agg #[.slice (some ⟨b1, 0, none⟩) 1 1, ve, .int .i64 3] ∧ Pl3 B pa pb b1 b2 b3 b4 w
  | 9, vs, w => w.rowIs (N + 3) 25 2 (fun q => if q = 0 then .slice (some ⟨c, 0, none⟩) 1 1 else .slice (some ⟨d, 0, none⟩) 1 1)
  | 10, vs, w => w.rowIs (N + 3) 25 2 (fun q => if q = 0 then .slice (some ⟨c, 0, none⟩) 1 1 else .slice (some ⟨d, 0, none⟩) 1 1) ∧ ∃ b1 b2 b3 b4, w.rowIs (N + 4) 32 3 (fun q => if q = 0 then .slice (some ⟨b1, 0, none⟩) 1 1 else if q = 1 then ve else .int .i64 3) ∧ Pl3 B pa pb b1 b2 b3 b4 w
  | _, _, _ => True
theorem Pr2.keep {N B c d : Nat} {pa pb : Pl} {ve : Value} {vs : Nat → Value} {w w' : World} {L : Nat → Bool} {i : Nat} {v : Value} (hB : ∀ q, B ≤ q → q < w.heap.size → w'.heap[q]? = w.heap[q]?) (h3 : i ≠ 9 → w'.heap[N + 3]? = w.heap[N + 3]?) (h2 : i = 2 → ∀ b, v = .slice (some ⟨b, 0, none⟩) 1 1 → w.heap.size ≤ b) (h : ∀ j, j < 10 → L j = true → Pr2 N B c d pa pb ve j vs w) : ∀ j, j < 10 → j ≠ i → L j = true → Pr2 N B c d pa pb ve j (upV vs i v) w' := fun j hj hji hl => by
  have h1 := h j hj hl
  match j, hj with
  | 0, _ => exact (upV_ne vs v hji).trans h1
  | 1, _ => exact (upV_ne vs v hji).trans h1
  | 2, _ => obtain ⟨b, e, l, r⟩ := h1; exact ⟨b, (upV_ne vs v hji).trans e, l, r.of_block (hB _ l r.lt)⟩
  | 3, _ => exact (upV_ne vs v hji).trans h1
  | 4, _ =>
    obtain ⟨b, e, l, r, n⟩ := h1
    refine ⟨b, (upV_ne vs v hji).trans e, l, r.of_block (hB _ l r.lt), fun b' hb' => ?_⟩
    by_cases e2 : i = 2
    · subst e2
      rw [upV_same] at hb'
      have := h2 rfl b' hb'
      have := r.lt
      omega
    · rw [upV_ne vs v (Ne.symm e2)] at hb'
      exact n b' hb'
  | 5, _ => obtain ⟨b2, b3, b4, e, l2, l3, l4, n, r2, r3, r4⟩ := h1; exact ⟨b2, b3, b4, (upV_ne vs v hji).trans e, l2, l3, l4, n, r2.of_block (hB _ l2 r2.lt), r3.of_block (hB _ l3 r3.lt), r4.of_block (hB _ l4 r4.lt)⟩
  | 6, _ => obtain ⟨b1, b2, b3, b4, e, p⟩ := h1; exact ⟨b1, b2, b3, b4, (upV_ne vs v hji).trans e, p.agree hB⟩
  | 7, _ => exact (upV_ne vs v hji).trans h1
  | 8, _ => obtain ⟨b1, b2, b3, b4, e, p⟩ := h1; exact ⟨b1, b2, b3, b4, (upV_ne vs v hji).trans e, p.agree hB⟩
  | 9, _ => exact World.rowIs.of_block h1 (h3 (Ne.symm hji))
/-- What 'pair' leaves behind. -/
structure PairR (w0 : World) (blk : Blk) (pa pb : Pl) (bv bb b1 b2 b3 b4 : Nat) (w : World) : Prop where
  low : Below w0.heap.size w0 w
  pls : ∃ B, w0.heap.size ≤ B ∧ Pl3 B pa pb b1 b2 b3 b4 w ∧ ∃ wq, SlOf wq 1 RInt (.slice (some ⟨bv, 0, none⟩) 1 1) [0] ∧ SlOf wq 3 (RBlk wq) (.slice (some ⟨bb, 0, none⟩) 1 1) [blk] ∧ ∀ w', (∀ q, q < B → w'.heap[q]? = w.heap[q]?) → CI wq w'
theorem ciA {N : Nat} {w : World} {o : Obj} (hN : N + 5 ≤ w.heap.size) : CI (clr N w) (clr N (w.alloc o)) := clr_below ((Below.refl _ _).alloc (Nat.le_refl _) _)
theorem newC {α : Type} {N : Nat} {w : World} {k n c : Nat} {R : List Value → α → Prop} {cs : Array Value} {t : Nat} (hN : N + 5 ≤ w.heap.size) (css : List (List Value)) (l : List α) (hn : l.length = n) (hcs : cs.toList = css.flatten) (hl : css.length = l.length) (hk : ∀ x ∈ css, x.length = k) (hR : ∀ i (h : i < css.length) (h' : i < l.length), R css[i] l[i]) (hlong : n ≤ longest) : SlOf (clr N (w.alloc (.cells cs t))) k R (.slice (some ⟨w.heap.size, 0, none⟩) n c) l := by
  have hs : (clr N w).heap.size = w.heap.size := by unfold clr; simp
  have h := sl_newL (w := clr N w) (c := c) (t := t) css l hn hcs hl hk hR hlong
  rw [hs] at h
  exact (clr_alloc hN).sl h fun _ _ h => h
set_option maxRecDepth 8000 in
set_option maxHeartbeats 16000000 in
theorem mpair_any (op : Int) (ao asp ae : Option Addr) (no co nsp csp ne ce : Nat) (os : List Opr) (sp : List Rg) (pa pb : Pl) (w0 : World) (hos : SlOf w0 5 ROpr (.slice ao no co) os) (hsp : SlOf w0 2 RRg (.slice asp nsp csp) sp) :
    Calls Try.prog 12 #[.agg #[.int .i64 op, .slice ao no co, .slice asp nsp csp], .agg #[.int .i64 pa.kind, .int .i64 pa.cls, .int .i64 pa.n], .agg #[.int .i64 pb.kind, .int .i64 pb.cls, .int .i64 pb.n], .slice ae ne ce] w0 fun e w' => ∃ bv bb b1 b2 b3 b4, e = .returned (.tuple #[.agg #[.slice (some ⟨bv, 0, none⟩) 1 1, .slice (some ⟨bb, 0, none⟩) 1 1], .agg #[.slice (some ⟨b1, 0, none⟩) 1 1, .slice ae ne ce, .int .i64 3]]) ∧ PairR w0 ⟨[], [⟨1, [dOp], []⟩, ⟨op, os, sp⟩, ⟨3, [uOp], []⟩], []⟩ pa pb bv bb b1 b2 b3 b4 w' := by
  obtain ⟨N, hN⟩ : ∃ N, w0.heap.size = N := ⟨_, rfl⟩
  obtain ⟨W1, hW1⟩ : ∃ W1, W1 = w0.alloc (.cells #[.int .i64 op, .slice ao no co, .slice asp nsp csp] 45) := ⟨_, rfl⟩
  obtain ⟨W2, hW2⟩ : ∃ W2, W2 = W1.alloc (.cells #[.int .i64 pa.kind, .int .i64 pa.cls, .int .i64 pa.n] 37) := ⟨_, rfl⟩
  obtain ⟨W3, hW3⟩ : ∃ W3, W3 = W2.alloc (.cells #[.int .i64 pb.kind, .int .i64 pb.cls, .int .i64 pb.n] 37) := ⟨_, rfl⟩
  obtain ⟨W4, hW4⟩ : ∃ W4, W4 = W3.alloc (.cells #[.slice none 0 0, .slice none 0 0] 25) := ⟨_, rfl⟩
  obtain ⟨W, hW⟩ : ∃ W, W = W4.alloc (.cells #[.slice none 0 0, .slice none 0 0, .int .i64 0] 32) := ⟨_, rfl⟩
  have s1 : W1.heap.size = N + 1 := by rw [hW1]; simp [hN]
  have s2 : W2.heap.size = N + 2 := by rw [hW2]; simp [s1]
  have s3 : W3.heap.size = N + 3 := by rw [hW3]; simp [s2]
  have s4 : W4.heap.size = N + 4 := by rw [hW4]; simp [s3]
  have s5 : W.heap.size = N + 5 := by rw [hW]; simp [s4]
  have b1 : Below w0.heap.size w0 W1 := by rw [hW1]; exact (Below.refl _ _).alloc (Nat.le_refl _) _
  have b2 : Below W1.heap.size W1 W2 := by rw [hW2]; exact (Below.refl _ _).alloc (Nat.le_refl _) _
  have b3 : Below W2.heap.size W2 W3 := by rw [hW3]; exact (Below.refl _ _).alloc (Nat.le_refl _) _
  have b4 : Below W3.heap.size W3 W4 := by rw [hW4]; exact (Below.refl _ _).alloc (Nat.le_refl _) _
  have b5 : Below W4.heap.size W4 W := by rw [hW]; exact (Below.refl _ _).alloc (Nat.le_refl _) _
  have b35 : Below W3.heap.size W3 W := b4.trans (b5.mono (by omega))
  have b25 : Below W2.heap.size W2 W := b3.trans (b35.mono (by omega))
  have b15 : Below W1.heap.size W1 W := b2.trans (b25.mono (by omega))
  have b05 : Below w0.heap.size w0 W := b1.trans (b15.mono (by omega))
  have rX : W.rowIs N 45 3 (fun q => if q = 0 then .int .i64 op else if q = 1 then .slice ao no co else .slice asp nsp csp) := by
    have h : W1.rowIs N 45 3 (fun q => if q = 0 then .int .i64 op else if q = 1 then .slice ao no co else .slice asp nsp csp) := by
      rw [hW1, ← hN]
      exact World.rowIs_alloc _ _ _ _ fun i hi => by
        simp at hi
        match i, hi with | 0, _ => rfl | 1, _ => rfl | 2, _ => rfl
    exact h.of_block (b15.block _ h.lt)
  have rA : W.rowIs (N + 1) 37 3 (plF pa) := by
    have h : W2.rowIs (N + 1) 37 3 (plF pa) := by
      rw [hW2, ← s1]
      exact World.rowIs_alloc _ _ _ _ fun i hi => by
        simp at hi
        match i, hi with | 0, _ => rfl | 1, _ => rfl | 2, _ => rfl
    exact h.of_block (b25.block _ h.lt)
  have rB : W.rowIs (N + 2) 37 3 (plF pb) := by
    have h : W3.rowIs (N + 2) 37 3 (plF pb) := by
      rw [hW3, ← s2]
      exact World.rowIs_alloc _ _ _ _ fun i hi => by
        simp at hi
        match i, hi with | 0, _ => rfl | 1, _ => rfl | 2, _ => rfl
    exact h.of_block (b35.block _ h.lt)
  have rF : W.rowIs (N + 3) 25 2 (fun _ => .slice none 0 0) := by
    have h : W4.rowIs (N + 3) 25 2 (fun _ => .slice none 0 0) := by
      rw [hW4, ← s3]
      exact World.rowIs_alloc _ _ _ _ fun i hi => by
        simp at hi
        match i, hi with | 0, _ => rfl | 1, _ => rfl
    exact h.of_block (b5.block _ h.lt)
  have rO : W.rowIs (N + 4) 32 3 (fun q => if q = 2 then .int .i64 0 else .slice none 0 0) := by
    rw [hW, ← s4]
    exact World.rowIs_alloc _ _ _ _ fun i hi => by
      simp at hi
      match i, hi with | 0, _ => rfl | 1, _ => rfl | 2, _ => rfl
  have HW : Hid (W = ((((w0.alloc (.cells #[.int .i64 op, .slice ao no co, .slice asp nsp csp] 45)).alloc (.cells #[.int .i64 pa.kind, .int .i64 pa.cls, .int .i64 pa.n] 37)).alloc (.cells #[.int .i64 pb.kind, .int .i64 pb.cls, .int .i64 pb.n] 37)).alloc (.cells #[.slice none 0 0, .slice none 0 0] 25)).alloc (.cells #[.slice none 0 0, .slice none 0 0, .int .i64 0] 32)) := by rw [← hW1, ← hW2, ← hW3, ← hW4]; exact hW
  have HN : Hid (w0.heap.size = N) := hN
  have HX : Hid (∀ w', Below W.heap.size W w' → w'.cell? ⟨N, 0, none⟩ = some (.int .i64 op) ∧ w'.cell? ⟨N, 1, none⟩ = some (.slice ao no co) ∧ w'.cell? ⟨N, 2, none⟩ = some (.slice asp nsp csp)) := fun w' hh => by
    have h := rX.of_block (hh.block _ rX.lt)
    exact ⟨h.cell (i := 0) (by omega), h.cell (i := 1) (by omega), h.cell (i := 2) (by omega)⟩
  have HB : Hid (Below w0.heap.size w0 W) := b05
  have HZ : Hid (w0.heap.size ≤ N ∧ N + 5 ≤ W.heap.size ∧ W.heap.size ≤ N + 5) := ⟨Nat.le_of_eq hN, Nat.le_of_eq s5.symm, Nat.le_of_eq s5⟩
  have HO : Hid (SlOf w0 5 ROpr (.slice ao no co) os ∧ SlOf w0 2 RRg (.slice asp nsp csp) sp) := ⟨hos, hsp⟩
  have HRW : Hid (W.rowIs (N + 1) 37 3 (plF pa) ∧ W.rowIs (N + 2) 37 3 (plF pb) ∧ W.rowIs (N + 3) 25 2 (fun _ => .slice none 0 0) ∧ W.rowIs (N + 4) 32 3 (fun q => if q = 2 then .int .i64 0 else .slice none 0 0)) := ⟨rA, rB, rF, rO⟩
  clear hN hW1 hW2 hW3 hW4 hW s1 s2 s3 s4 s5 b1 b2 b3 b4 b5 b35 b25 b15 b05 rX rA rB rF rO hos hsp
  go_enter Try.func12, Try.ntmps12
  go_upto_region 1 with fail
  rw [← HW.out, HN.out]
  clear HW W1 W2 W3 W4
  --CUT1
  refine wp_region_T (fun vs => ⟨#[.agg #[.int .i64 op, .slice ao no co, .slice asp nsp csp], .agg #[.int .i64 pa.kind, .int .i64 pa.cls, .int .i64 pa.n], .agg #[.int .i64 pb.kind, .int .i64 pb.cls, .int .i64 pb.n], .slice ae ne ce, .pointer (some ⟨N, 0, none⟩), .pointer (some ⟨N + 1, 0, none⟩), .pointer (some ⟨N + 2, 0, none⟩), undef, .pointer (some ⟨N + 3, 0, none⟩), .pointer (some ⟨N + 4, 0, none⟩), vs 12, vs 0, vs 1, vs 2, vs 3, vs 4, vs 5, vs 6, vs 7, vs 8, vs 9, vs 10, vs 11, undef, undef, undef, undef, undef, undef, undef, undef, undef], []⟩) (fun _ => undef) (PrR N op ao no co asp nsp csp os sp) (fun w' => Below W.heap.size W w') 14 13 (by kernel_rfl) (by kernel_rfl) (by omega) (by kernel_rfl) (by kernel_rfl) (fun i hi o ho => ?_) (Below.refl _ _).drew (fun i hi o ho => ?_) (fun i hi1 hi o ho => ?_) (fun vs w hS hR => ?_) rfl
  · match i, hi with
    | 0, _ => obtain rfl := Option.some.inj (ho.symm.trans (rfl : _ = some _)); exact fun _ _ => rfl
    | 1, _ => obtain rfl := Option.some.inj (ho.symm.trans (rfl : _ = some _)); exact fun _ _ => rfl
    | 2, _ => obtain rfl := Option.some.inj (ho.symm.trans (rfl : _ = some _)); exact fun _ _ => rfl
    | 3, _ => obtain rfl := Option.some.inj (ho.symm.trans (rfl : _ = some _)); exact fun _ _ => rfl
    | 4, _ => obtain rfl := Option.some.inj (ho.symm.trans (rfl : _ = some _)); exact fun _ _ => rfl
    | 5, _ => obtain rfl := Option.some.inj (ho.symm.trans (rfl : _ = some _)); exact fun _ _ => rfl
    | 6, _ => obtain rfl := Option.some.inj (ho.symm.trans (rfl : _ = some _)); exact fun _ _ => rfl
    | 7, _ => obtain rfl := Option.some.inj (ho.symm.trans (rfl : _ = some _)); exact fun _ _ => rfl
    | 8, _ => obtain rfl := Option.some.inj (ho.symm.trans (rfl : _ = some _)); exact fun _ _ => rfl
    | 9, _ => obtain rfl := Option.some.inj (ho.symm.trans (rfl : _ = some _)); exact fun _ _ => rfl
    | 10, _ => obtain rfl := Option.some.inj (ho.symm.trans (rfl : _ = some _)); exact fun _ _ => rfl
    | 11, _ => obtain rfl := Option.some.inj (ho.symm.trans (rfl : _ = some _)); exact fun _ _ => rfl
    | 12, _ => obtain rfl := Option.some.inj (ho.symm.trans (rfl : _ = some _)); exact fun _ _ => rfl
    | 13, _ => obtain rfl := Option.some.inj (ho.symm.trans (rfl : _ = some _)); exact fun _ _ => rfl
    | n + 14, h => exact absurd h (by omega)
  · match i, hi with
    | 0, _ =>
      obtain rfl := Option.some.inj (ho.symm.trans (rfl : _ = some _))
      intro L vs w hLi hv0 hd hS hR K hK
      have hN5 : N + 5 ≤ w.heap.size := Nat.le_trans HZ.out.2.1 hS.size
      go_simp
      have hE := hK.out (.slice (some ⟨w.heap.size, 0, none⟩) 1 1) (w.alloc (.cells #[.int .i64 0] 3)) (hS.alloc hS.size _) (PrR.keep ((Below.refl _ _).alloc (Nat.le_refl _) _) hR) (⟨w.heap.size, upV_same _ _ _, newC hN5 [[.int .i64 0]] [0] rfl (by simp) rfl (by simp) (fun i h h' => by
        match i, h with
        | 0, _ => rfl) (by decide)⟩)
      simp only [Act.put, List.setIfInBounds_toArray, List.set_cons_zero, List.set_cons_succ] at hE
      exact hE
    | 1, _ =>
      obtain rfl := Option.some.inj (ho.symm.trans (rfl : _ = some _))
      intro L vs w hLi hv0 hd hS hR K hK
      have hN5 : N + 5 ≤ w.heap.size := Nat.le_trans HZ.out.2.1 hS.size
      go_simp
      refine (def_weak 0 w).mono ?_
      rintro e w' ⟨rfl, hb⟩
      have hE := hK.out (.agg #[.int .i64 2, .int .i64 0, .bool true, .int .i64 1, .int .i64 0]) (w') (hS.trans (hb.mono hS.size)) (PrR.keep hb hR) (upV_same _ _ _)
      simp only [Act.put, List.setIfInBounds_toArray, List.set_cons_zero, List.set_cons_succ] at hE
      exact hE
    | 2, _ =>
      obtain rfl := Option.some.inj (ho.symm.trans (rfl : _ = some _))
      intro L vs w hLi hv0 hd hS hR K hK
      have hN5 : N + 5 ≤ w.heap.size := Nat.le_trans HZ.out.2.1 hS.size
      have r1 := hR 1 (by omega) (hd 1 (by kernel_rfl))
      have e1 : vs 1 = _ := r1
      go_simp
      have hE := hK.out (.slice (some ⟨w.heap.size, 0, none⟩) 1 1) (w.alloc (.cells #[.int .i64 2, .int .i64 0, .bool true, .int .i64 1, .int .i64 0] 78)) (hS.alloc hS.size _) (PrR.keep ((Below.refl _ _).alloc (Nat.le_refl _) _) hR) (⟨w.heap.size, upV_same _ _ _, newC hN5 [[.int .i64 2, .int .i64 0, .bool true, .int .i64 1, .int .i64 0]] [dOp] rfl (by simp) rfl (by simp) (fun i h h' => by
        match i, h with
        | 0, _ => rfl) (by decide)⟩)
      simp only [Act.put, List.setIfInBounds_toArray, List.set_cons_zero, List.set_cons_succ, e1] at hE
      exact hE
    | 3, _ =>
      obtain rfl := Option.some.inj (ho.symm.trans (rfl : _ = some _))
      intro L vs w hLi hv0 hd hS hR K hK
      have hN5 : N + 5 ≤ w.heap.size := Nat.le_trans HZ.out.2.1 hS.size
      have r2 := hR 2 (by omega) (hd 2 (by kernel_rfl))
      obtain ⟨b, e2, s⟩ := r2
      go_simp
      refine (op_weak 1 b 1 1 w).mono ?_
      rintro e w' ⟨rfl, hb⟩
      have hE := hK.out (.agg #[.int .i64 1, .slice (some ⟨b, 0, none⟩) 1 1, .slice none 0 0]) (w') (hS.trans (hb.mono hS.size)) (PrR.keep hb hR) (⟨b, upV_same _ _ _, (clr_below hb).sl s fun _ _ h => h⟩)
      simp only [Act.put, List.setIfInBounds_toArray, List.set_cons_zero, List.set_cons_succ, e2] at hE
      exact hE
    | 4, _ =>
      obtain rfl := Option.some.inj (ho.symm.trans (rfl : _ = some _))
      intro L vs w hLi hv0 hd hS hR K hK
      have hN5 : N + 5 ≤ w.heap.size := Nat.le_trans HZ.out.2.1 hS.size
      obtain ⟨x0, x1, x2⟩ := HX.out w hS
      go_simp
      have hE := hK.out (.agg #[.int .i64 op, .slice ao no co, .slice asp nsp csp]) (w) hS (PrR.keep (Below.refl _ _) hR) (⟨upV_same _ _ _, (clr_old (HB.out.trans (hS.mono HB.out.size)) HZ.out.1).sl HO.out.1 fun _ _ h => h, (clr_old (HB.out.trans (hS.mono HB.out.size)) HZ.out.1).sl HO.out.2 fun _ _ h => h⟩)
      simp only [Act.put, List.setIfInBounds_toArray, List.set_cons_zero, List.set_cons_succ] at hE
      exact hE
    | 5, _ =>
      obtain rfl := Option.some.inj (ho.symm.trans (rfl : _ = some _))
      intro L vs w hLi hv0 hd hS hR K hK
      have hN5 : N + 5 ≤ w.heap.size := Nat.le_trans HZ.out.2.1 hS.size
      go_simp
      refine (use_weak 0 w).mono ?_
      rintro e w' ⟨rfl, hb⟩
      have hE := hK.out (.agg #[.int .i64 1, .int .i64 0, .bool false, .int .i64 1, .int .i64 0]) (w') (hS.trans (hb.mono hS.size)) (PrR.keep hb hR) (upV_same _ _ _)
      simp only [Act.put, List.setIfInBounds_toArray, List.set_cons_zero, List.set_cons_succ] at hE
      exact hE
    | 6, _ =>
      obtain rfl := Option.some.inj (ho.symm.trans (rfl : _ = some _))
      intro L vs w hLi hv0 hd hS hR K hK
      have hN5 : N + 5 ≤ w.heap.size := Nat.le_trans HZ.out.2.1 hS.size
      have r5 := hR 5 (by omega) (hd 5 (by kernel_rfl))
      have e5 : vs 5 = _ := r5
      go_simp
      have hE := hK.out (.slice (some ⟨w.heap.size, 0, none⟩) 1 1) (w.alloc (.cells #[.int .i64 1, .int .i64 0, .bool false, .int .i64 1, .int .i64 0] 78)) (hS.alloc hS.size _) (PrR.keep ((Below.refl _ _).alloc (Nat.le_refl _) _) hR) (⟨w.heap.size, upV_same _ _ _, newC hN5 [[.int .i64 1, .int .i64 0, .bool false, .int .i64 1, .int .i64 0]] [uOp] rfl (by simp) rfl (by simp) (fun i h h' => by
        match i, h with
        | 0, _ => rfl) (by decide)⟩)
      simp only [Act.put, List.setIfInBounds_toArray, List.set_cons_zero, List.set_cons_succ, e5] at hE
      exact hE
    | 7, _ =>
      obtain rfl := Option.some.inj (ho.symm.trans (rfl : _ = some _))
      intro L vs w hLi hv0 hd hS hR K hK
      have hN5 : N + 5 ≤ w.heap.size := Nat.le_trans HZ.out.2.1 hS.size
      have r6 := hR 6 (by omega) (hd 6 (by kernel_rfl))
      obtain ⟨b, e6, s⟩ := r6
      go_simp
      refine (op_weak 3 b 1 1 w).mono ?_
      rintro e w' ⟨rfl, hb⟩
      have hE := hK.out (.agg #[.int .i64 3, .slice (some ⟨b, 0, none⟩) 1 1, .slice none 0 0]) (w') (hS.trans (hb.mono hS.size)) (PrR.keep hb hR) (⟨b, upV_same _ _ _, (clr_below hb).sl s fun _ _ h => h⟩)
      simp only [Act.put, List.setIfInBounds_toArray, List.set_cons_zero, List.set_cons_succ, e6] at hE
      exact hE
    | 8, _ =>
      obtain rfl := Option.some.inj (ho.symm.trans (rfl : _ = some _))
      intro L vs w hLi hv0 hd hS hR K hK
      have hN5 : N + 5 ≤ w.heap.size := Nat.le_trans HZ.out.2.1 hS.size
      have r3 := hR 3 (by omega) (hd 3 (by kernel_rfl))
      have r4 := hR 4 (by omega) (hd 4 (by kernel_rfl))
      have r7 := hR 7 (by omega) (hd 7 (by kernel_rfl))
      obtain ⟨b, e3, s3⟩ := r3
      obtain ⟨e4, s4, t4⟩ := r4
      obtain ⟨c, e7, s7⟩ := r7
      have hnew : SlOf (clr N (w.alloc (.cells #[.int .i64 1, .slice (some ⟨b, 0, none⟩) 1 1, .slice none 0 0, .int .i64 op, .slice ao no co, .slice asp nsp csp, .int .i64 3, .slice (some ⟨c, 0, none⟩) 1 1, .slice none 0 0] 45))) 3 (RIns (clr N (w.alloc (.cells #[.int .i64 1, .slice (some ⟨b, 0, none⟩) 1 1, .slice none 0 0, .int .i64 op, .slice ao no co, .slice asp nsp csp, .int .i64 3, .slice (some ⟨c, 0, none⟩) 1 1, .slice none 0 0] 45)))) (.slice (some ⟨w.heap.size, 0, none⟩) 3 3) [⟨1, [dOp], []⟩, ⟨op, os, sp⟩, ⟨3, [uOp], []⟩] := by
        refine newC hN5 [[.int .i64 1, .slice (some ⟨b, 0, none⟩) 1 1, .slice none 0 0], [.int .i64 op, .slice ao no co, .slice asp nsp csp], [.int .i64 3, .slice (some ⟨c, 0, none⟩) 1 1, .slice none 0 0]] _ rfl (by simp) rfl (by simp) (fun i h h' => ?_) (by decide)
        match i, h with
        | 0, _ => exact ⟨_, _, rfl, (ciA hN5).sl s3 fun _ _ h => h, sl_none _ _ _⟩
        | 1, _ => exact ⟨_, _, rfl, (ciA hN5).sl s4 fun _ _ h => h, (ciA hN5).sl t4 fun _ _ h => h⟩
        | 2, _ => exact ⟨_, _, rfl, (ciA hN5).sl s7 fun _ _ h => h, sl_none _ _ _⟩
      go_simp
      have hE := hK.out (.slice (some ⟨w.heap.size, 0, none⟩) 3 3) (w.alloc (.cells #[.int .i64 1, .slice (some ⟨b, 0, none⟩) 1 1, .slice none 0 0, .int .i64 op, .slice ao no co, .slice asp nsp csp, .int .i64 3, .slice (some ⟨c, 0, none⟩) 1 1, .slice none 0 0] 45)) (hS.alloc hS.size _) (PrR.keep ((Below.refl _ _).alloc (Nat.le_refl _) _) hR) (⟨w.heap.size, upV_same _ _ _, hnew⟩)
      simp only [Act.put, List.setIfInBounds_toArray, List.set_cons_zero, List.set_cons_succ, e3, e4, e7] at hE
      exact hE
    | 9, _ =>
      obtain rfl := Option.some.inj (ho.symm.trans (rfl : _ = some _))
      intro L vs w hLi hv0 hd hS hR K hK
      have hN5 : N + 5 ≤ w.heap.size := Nat.le_trans HZ.out.2.1 hS.size
      have r8 := hR 8 (by omega) (hd 8 (by kernel_rfl))
      obtain ⟨b, e8, s⟩ := r8
      go_simp
      have hE := hK.out (.agg #[.slice none 0 0, .slice (some ⟨b, 0, none⟩) 3 3, .slice none 0 0]) (w) hS (PrR.keep (Below.refl _ _) hR) (⟨b, upV_same _ _ _, s⟩)
      simp only [Act.put, List.setIfInBounds_toArray, List.set_cons_zero, List.set_cons_succ, e8] at hE
      exact hE
    | 10, _ =>
      obtain rfl := Option.some.inj (ho.symm.trans (rfl : _ = some _))
      intro L vs w hLi hv0 hd hS hR K hK
      have hN5 : N + 5 ≤ w.heap.size := Nat.le_trans HZ.out.2.1 hS.size
      have r9 := hR 9 (by omega) (hd 9 (by kernel_rfl))
      obtain ⟨b, e9, s⟩ := r9
      have hnew : SlOf (clr N (w.alloc (.cells #[.slice none 0 0, .slice (some ⟨b, 0, none⟩) 3 3, .slice none 0 0] 75))) 3 (RBlk (clr N (w.alloc (.cells #[.slice none 0 0, .slice (some ⟨b, 0, none⟩) 3 3, .slice none 0 0] 75)))) (.slice (some ⟨w.heap.size, 0, none⟩) 1 1) [⟨[], [⟨1, [dOp], []⟩, ⟨op, os, sp⟩, ⟨3, [uOp], []⟩], []⟩] := by
        refine newC hN5 [[.slice none 0 0, .slice (some ⟨b, 0, none⟩) 3 3, .slice none 0 0]] _ rfl (by simp) rfl (by simp) (fun i h h' => ?_) (by decide)
        match i, h with
        | 0, _ => exact ⟨_, _, _, rfl, sl_none _ _ _, (ciA hN5).sl s (ciA hN5).ins, sl_none _ _ _⟩
      go_simp
      have hE := hK.out (.slice (some ⟨w.heap.size, 0, none⟩) 1 1) (w.alloc (.cells #[.slice none 0 0, .slice (some ⟨b, 0, none⟩) 3 3, .slice none 0 0] 75)) (hS.alloc hS.size _) (PrR.keep ((Below.refl _ _).alloc (Nat.le_refl _) _) hR) (⟨w.heap.size, upV_same _ _ _, hnew⟩)
      simp only [Act.put, List.setIfInBounds_toArray, List.set_cons_zero, List.set_cons_succ, e9] at hE
      exact hE
    | 11, _ =>
      obtain rfl := Option.some.inj (ho.symm.trans (rfl : _ = some _))
      intro L vs w hLi hv0 hd hS hR K hK
      have hN5 : N + 5 ≤ w.heap.size := Nat.le_trans HZ.out.2.1 hS.size
      have r0 := hR 0 (by omega) (hd 0 (by kernel_rfl))
      have r10 := hR 10 (by omega) (hd 10 (by kernel_rfl))
      obtain ⟨b, e0, s0⟩ := r0
      obtain ⟨c, e10, s10⟩ := r10
      go_simp
      have hE := hK.out (.agg #[.slice (some ⟨b, 0, none⟩) 1 1, .slice (some ⟨c, 0, none⟩) 1 1]) (w) hS (PrR.keep (Below.refl _ _) hR) (⟨b, c, upV_same _ _ _, s0, s10⟩)
      simp only [Act.put, List.setIfInBounds_toArray, List.set_cons_zero, List.set_cons_succ, e0, e10] at hE
      exact hE
    | 12, _ =>
      obtain rfl := Option.some.inj (ho.symm.trans (rfl : _ = some _))
      intro L vs w hLi hv0 hd hS hR K hK
      have hN5 : N + 5 ≤ w.heap.size := Nat.le_trans HZ.out.2.1 hS.size
      go_simp
      have hE := hK.out (.pointer (some ⟨w.heap.size, 0, none⟩)) (w.alloc (.cells #[.slice none 0 0, .slice none 0 0] 25)) (hS.alloc hS.size _) (PrR.keep ((Below.refl _ _).alloc (Nat.le_refl _) _) hR) (⟨w.heap.size, upV_same _ _ _, hN5, World.rowIs_alloc _ _ _ _ fun i hi => by
        simp at hi
        match i, hi with | 0, _ => rfl | 1, _ => rfl⟩)
      simp only [Act.put, List.setIfInBounds_toArray, List.set_cons_zero, List.set_cons_succ] at hE
      exact hE
    | n + 13, h => exact absurd h (by omega)
  · match i, hi1, hi with
    | 13, _, _ =>
      obtain rfl := Option.some.inj (ho.symm.trans (rfl : _ = some _))
      intro vs w hS hall hprev K hK
      have hR := hall rfl
      obtain ⟨b, c, e11, s11, t11⟩ := hR 11 (by omega)
      obtain ⟨q, e12, hq, hrow⟩ := hR 12 (by omega)
      have c0 := hrow.cell (i := 0) (by omega)
      have c1 := hrow.cell (i := 1) (by omega)
      have z0 := hrow.frozen 0
      have z1 := hrow.frozen 1
      have lq := hrow.lt
      have hf : ∀ i, i < 2 → ∃ a n c, (fun _ : Nat => Value.slice none 0 0) i = .slice a n c := fun i _ => ⟨_, _, _, rfl⟩
      have hrc := clr_row hrow hq
      have HR : Hid (PrR N op ao no co asp nsp csp os sp 13 (upV vs 13 undef) ((w.setCell ⟨q, 0, none⟩ (.slice (some ⟨b, 0, none⟩) 1 1)).setCell ⟨q, 1, none⟩ (.slice (some ⟨c, 0, none⟩) 1 1))) := by
        have hk0 : ∀ p, p ≠ q → ((w.setCell ⟨q, 0, none⟩ (.slice (some ⟨b, 0, none⟩) 1 1)).setCell ⟨q, 1, none⟩ (.slice (some ⟨c, 0, none⟩) 1 1)).heap[p]? = w.heap[p]? := fun p hp => (Below.heap_setCell _ _ _ _ (by show p ≠ q; exact hp)).trans (Below.heap_setCell _ _ _ _ (by show p ≠ q; exact hp))
        have hk : ∀ p, p ≠ q → (clr N ((w.setCell ⟨q, 0, none⟩ (.slice (some ⟨b, 0, none⟩) 1 1)).setCell ⟨q, 1, none⟩ (.slice (some ⟨c, 0, none⟩) 1 1))).heap[p]? = (clr N w).heap[p]? := fun p hp => by
          unfold clr
          simp only [Array.getElem?_mapIdx, hk0 p hp]
        refine ⟨q, b, c, (upV_ne vs undef (by omega)).trans e12, hq, ((hrow.set 0 _).set 1 _).congr fun i hi => ?_, sl_off s11 hk (sl_apart s11 hintI hrc hf) fun _ _ h => h, sl_off t11 hk (fun _ e => sl_apart3 (off := 0) t11 (by simp) hrc (by simpa [Value.ownBlock] using e)) (RBlk.off hrc hf hk)⟩
        match i, hi with | 0, _ => rfl | 1, _ => rfl
      clear hrow hrc s11 t11 hR hall hprev
      go_simp
      have hE := hK.out undef _ ((hS.setCell (Nat.le_trans HZ.out.2.2 hq) _).setCell (Nat.le_trans HZ.out.2.2 hq) _) HR.out
      simp only [Act.put, e11, e12] at hE
      exact hE
    | n + 14, _, h => exact absurd h (by omega)
    | 0, h, _ => exact absurd h (by omega)
    | 1, h, _ => exact absurd h (by omega)
    | 2, h, _ => exact absurd h (by omega)
    | 3, h, _ => exact absurd h (by omega)
    | 4, h, _ => exact absurd h (by omega)
    | 5, h, _ => exact absurd h (by omega)
    | 6, h, _ => exact absurd h (by omega)
    | 7, h, _ => exact absurd h (by omega)
    | 8, h, _ => exact absurd h (by omega)
    | 9, h, _ => exact absurd h (by omega)
    | 10, h, _ => exact absurd h (by omega)
    | 11, h, _ => exact absurd h (by omega)
    | 12, h, _ => exact absurd h (by omega)
  · obtain ⟨q, c, d, e12, hq, hrow, s1, t1⟩ := hR
    have rA := HRW.out.1.of_block (hS.block _ HRW.out.1.lt)
    have rB := HRW.out.2.1.of_block (hS.block _ HRW.out.2.1.lt)
    have rF := HRW.out.2.2.1.of_block (hS.block _ HRW.out.2.2.1.lt)
    have rO := HRW.out.2.2.2.of_block (hS.block _ HRW.out.2.2.2.lt)
    have c0 := hrow.cell (i := 0) (by omega)
    have c1 := hrow.cell (i := 1) (by omega)
    have hN5 : N + 5 ≤ w.heap.size := Nat.le_trans HZ.out.2.1 hS.size
    have HRO : Hid (w.rowIs (N + 1) 37 3 (plF pa) ∧ w.rowIs (N + 2) 37 3 (plF pb) ∧ w.rowIs (N + 3) 25 2 (fun _ => .slice none 0 0) ∧ w.rowIs (N + 4) 32 3 (fun q => if q = 2 then .int .i64 0 else .slice none 0 0)) := ⟨rA, rB, rF, rO⟩
    have HQ : Hid (w.rowIs q 25 2 (fun q => if q = 0 then .slice (some ⟨c, 0, none⟩) 1 1 else .slice (some ⟨d, 0, none⟩) 1 1) ∧ SlOf (clr N w) 1 RInt (.slice (some ⟨c, 0, none⟩) 1 1) [0] ∧ SlOf (clr N w) 3 (RBlk (clr N w)) (.slice (some ⟨d, 0, none⟩) 1 1) [⟨[], [⟨1, [dOp], []⟩, ⟨op, os, sp⟩, ⟨3, [uOp], []⟩], []⟩] ∧ N + 5 ≤ q) := ⟨hrow, s1, t1, hq⟩
    have HS : Hid (Below W.heap.size W w) := hS
    clear rA rB rF rO hrow s1 t1 hq hS
    have HNB : Hid (N ≤ w.heap.size ∧ N + 5 ≤ w.heap.size) := ⟨by omega, hN5⟩
    have HPS : Hid (PrS w0 N w w.drew) := by
      have hd : Below w.heap.size w w.drew := (Below.refl _ _).drew
      have hl : Below w0.heap.size w0 w := HB.out.trans (HS.out.mono HB.out.size)
      rw [HN.out] at hl
      exact PrS.below (w := w) ⟨hl, Nat.le_refl _, fun _ _ _ _ => rfl, ⟨_, HRO.out.2.2.1⟩, ⟨_, HRO.out.2.2.2⟩⟩ hd (by omega)
    have HQC : Hid (∀ v, PrS w0 N w v → v.cell? ⟨q, 0, none⟩ = some (.slice (some ⟨c, 0, none⟩) 1 1) ∧ v.cell? ⟨q, 1, none⟩ = some (.slice (some ⟨d, 0, none⟩) 1 1)) := fun v hv => by
      have h := HQ.out.1.of_block (hv.same q HQ.out.1.lt (by have := HQ.out.2.2.2; omega) (by have := HQ.out.2.2.2; omega))
      exact ⟨h.cell (i := 0) (by omega), h.cell (i := 1) (by omega)⟩
    have HPA : Hid (∀ v, PrS w0 N w v → v.cell? ⟨N + 1, 0, none⟩ = some (.int .i64 pa.kind) ∧ v.cell? ⟨N + 1, 1, none⟩ = some (.int .i64 pa.cls) ∧ v.cell? ⟨N + 1, 2, none⟩ = some (.int .i64 pa.n)) := fun v hv => by
      have h := HRO.out.1.of_block (hv.same _ HRO.out.1.lt (by omega) (by omega))
      exact ⟨h.cell (i := 0) (by omega), h.cell (i := 1) (by omega), h.cell (i := 2) (by omega)⟩
    have HPB : Hid (∀ v, PrS w0 N w v → v.cell? ⟨N + 2, 0, none⟩ = some (.int .i64 pb.kind) ∧ v.cell? ⟨N + 2, 1, none⟩ = some (.int .i64 pb.cls) ∧ v.cell? ⟨N + 2, 2, none⟩ = some (.int .i64 pb.n)) := fun v hv => by
      have h := HRO.out.2.1.of_block (hv.same _ HRO.out.2.1.lt (by omega) (by omega))
      exact ⟨h.cell (i := 0) (by omega), h.cell (i := 1) (by omega), h.cell (i := 2) (by omega)⟩
    clear hN5 c0 c1
    go_upto_region 2 with fail
    generalize vs = us at *
    --CUT2
    refine wp_region_T (fun vs => ⟨#[.agg #[.int .i64 op, .slice ao no co, .slice asp nsp csp], .agg #[.int .i64 pa.kind, .int .i64 pa.cls, .int .i64 pa.n], .agg #[.int .i64 pb.kind, .int .i64 pb.cls, .int .i64 pb.n], .slice ae ne ce, .pointer (some ⟨N, 0, none⟩), .pointer (some ⟨N + 1, 0, none⟩), .pointer (some ⟨N + 2, 0, none⟩), undef, .pointer (some ⟨N + 3, 0, none⟩), .pointer (some ⟨N + 4, 0, none⟩), us 12, us 0, us 1, us 2, us 3, us 4, us 5, us 6, us 7, us 8, us 9, us 10, us 11, vs 0, vs 1, vs 2, vs 3, vs 4, vs 5, vs 6, vs 7, vs 8], []⟩) (fun _ => undef) (Pr2 N w.heap.size c d pa pb (.slice ae ne ce)) (PrS w0 N w) 11 10 (by kernel_rfl) (by kernel_rfl) (by omega) (by kernel_rfl) (by kernel_rfl) (fun i hi o ho => ?_) HPS.out (fun i hi o ho => ?_) (fun i hi1 hi o ho => ?_) (fun vs v hS hR => ?_) rfl
    · match i, hi with
      | 0, _ => obtain rfl := Option.some.inj (ho.symm.trans (rfl : _ = some _)); exact fun _ _ => rfl
      | 1, _ => obtain rfl := Option.some.inj (ho.symm.trans (rfl : _ = some _)); exact fun _ _ => rfl
      | 2, _ => obtain rfl := Option.some.inj (ho.symm.trans (rfl : _ = some _)); exact fun _ _ => rfl
      | 3, _ => obtain rfl := Option.some.inj (ho.symm.trans (rfl : _ = some _)); exact fun _ _ => rfl
      | 4, _ => obtain rfl := Option.some.inj (ho.symm.trans (rfl : _ = some _)); exact fun _ _ => rfl
      | 5, _ => obtain rfl := Option.some.inj (ho.symm.trans (rfl : _ = some _)); exact fun _ _ => rfl
      | 6, _ => obtain rfl := Option.some.inj (ho.symm.trans (rfl : _ = some _)); exact fun _ _ => rfl
      | 7, _ => obtain rfl := Option.some.inj (ho.symm.trans (rfl : _ = some _)); exact fun _ _ => rfl
      | 8, _ => obtain rfl := Option.some.inj (ho.symm.trans (rfl : _ = some _)); exact fun _ _ => rfl
      | 9, _ => obtain rfl := Option.some.inj (ho.symm.trans (rfl : _ = some _)); exact fun _ _ => rfl
      | 10, _ => obtain rfl := Option.some.inj (ho.symm.trans (rfl : _ = some _)); exact fun _ _ => rfl
      | n + 11, h => exact absurd h (by omega)
    · match i, hi with
      | 0, _ =>
        obtain rfl := Option.some.inj (ho.symm.trans (rfl : _ = some _))
        intro L vs v hLi hv0 hd hS hR K hK
        have hNv : N ≤ v.heap.size := Nat.le_trans HNB.out.1 hS.size
        have hNv5 : N + 5 ≤ v.heap.size := Nat.le_trans HNB.out.2 hS.size
        have hBv : w.heap.size ≤ v.heap.size := hS.size
        obtain ⟨x0, x1⟩ := HQC.out v hS
        go_simp
        have hE := hK.out (.agg #[.slice (some ⟨c, 0, none⟩) 1 1, .slice (some ⟨d, 0, none⟩) 1 1]) (v) hS (Pr2.keep (i := 0) (fun q _ h => (Below.refl v.heap.size v).block q h) (fun _ => (Below.refl v.heap.size v).block _ (by omega)) (fun e => absurd e (by omega)) hR) (upV_same _ _ _)
        simp only [Act.put, List.setIfInBounds_toArray, List.set_cons_zero, List.set_cons_succ, e12] at hE
        exact hE
      | 1, _ =>
        obtain rfl := Option.some.inj (ho.symm.trans (rfl : _ = some _))
        intro L vs v hLi hv0 hd hS hR K hK
        have hNv : N ≤ v.heap.size := Nat.le_trans HNB.out.1 hS.size
        have hNv5 : N + 5 ≤ v.heap.size := Nat.le_trans HNB.out.2 hS.size
        have hBv : w.heap.size ≤ v.heap.size := hS.size
        obtain ⟨x0, x1, x2⟩ := HPA.out v hS
        go_simp
        have hE := hK.out (.agg #[.int .i64 pa.kind, .int .i64 pa.cls, .int .i64 pa.n]) (v) hS (Pr2.keep (i := 1) (fun q _ h => (Below.refl v.heap.size v).block q h) (fun _ => (Below.refl v.heap.size v).block _ (by omega)) (fun e => absurd e (by omega)) hR) (upV_same _ _ _)
        simp only [Act.put, List.setIfInBounds_toArray, List.set_cons_zero, List.set_cons_succ, e12] at hE
        exact hE
      | 2, _ =>
        obtain rfl := Option.some.inj (ho.symm.trans (rfl : _ = some _))
        intro L vs v hLi hv0 hd hS hR K hK
        have hNv : N ≤ v.heap.size := Nat.le_trans HNB.out.1 hS.size
        have hNv5 : N + 5 ≤ v.heap.size := Nat.le_trans HNB.out.2 hS.size
        have hBv : w.heap.size ≤ v.heap.size := hS.size
        have r1 := hR 1 (by omega) (hd 1 (by kernel_rfl))
        have e1 : vs 1 = _ := r1
        go_simp
        have hE := hK.out (.slice (some ⟨v.heap.size, 0, none⟩) 1 1) (v.alloc (.cells #[.int .i64 pa.kind, .int .i64 pa.cls, .int .i64 pa.n] 37)) (hS.below ((Below.refl v.heap.size v).alloc (Nat.le_refl _) _) hNv) (Pr2.keep (i := 2) (fun q _ h => ((Below.refl v.heap.size v).alloc (Nat.le_refl _) _).block q h) (fun _ => ((Below.refl v.heap.size v).alloc (Nat.le_refl _) _).block _ (by omega)) (fun _ b hb => by simp at hb; omega) hR) (⟨v.heap.size, upV_same _ _ _, hBv, World.rowIs_alloc _ _ _ _ fun i hi => by
          simp at hi
          match i, hi with | 0, _ => rfl | 1, _ => rfl | 2, _ => rfl⟩)
        simp only [Act.put, List.setIfInBounds_toArray, List.set_cons_zero, List.set_cons_succ, e1, e12] at hE
        exact hE
      | 3, _ =>
        obtain rfl := Option.some.inj (ho.symm.trans (rfl : _ = some _))
        intro L vs v hLi hv0 hd hS hR K hK
        have hNv : N ≤ v.heap.size := Nat.le_trans HNB.out.1 hS.size
        have hNv5 : N + 5 ≤ v.heap.size := Nat.le_trans HNB.out.2 hS.size
        have hBv : w.heap.size ≤ v.heap.size := hS.size
        obtain ⟨x0, x1, x2⟩ := HPB.out v hS
        go_simp
        have hE := hK.out (.agg #[.int .i64 pb.kind, .int .i64 pb.cls, .int .i64 pb.n]) (v) hS (Pr2.keep (i := 3) (fun q _ h => (Below.refl v.heap.size v).block q h) (fun _ => (Below.refl v.heap.size v).block _ (by omega)) (fun e => absurd e (by omega)) hR) (upV_same _ _ _)
        simp only [Act.put, List.setIfInBounds_toArray, List.set_cons_zero, List.set_cons_succ, e12] at hE
        exact hE
      | 4, _ =>
        obtain rfl := Option.some.inj (ho.symm.trans (rfl : _ = some _))
        intro L vs v hLi hv0 hd hS hR K hK
        have hNv : N ≤ v.heap.size := Nat.le_trans HNB.out.1 hS.size
        have hNv5 : N + 5 ≤ v.heap.size := Nat.le_trans HNB.out.2 hS.size
        have hBv : w.heap.size ≤ v.heap.size := hS.size
        have r3 := hR 3 (by omega) (hd 3 (by kernel_rfl))
        have e3 : vs 3 = _ := r3
        have hne : ∀ b', vs 2 = .slice (some ⟨b', 0, none⟩) 1 1 → b' ≠ v.heap.size := fun b' hb' => by
          cases hL2 : L 2 with
          | false =>
            have := hv0 2 (by omega) hL2
            rw [this] at hb'
            cases hb'
          | true =>
            obtain ⟨b, e, _, r⟩ := hR 2 (by omega) hL2
            have hlt := r.lt
            rw [e] at hb'
            simp at hb'
            omega
        go_simp
        have hE := hK.out (.slice (some ⟨v.heap.size, 0, none⟩) 1 1) (v.alloc (.cells #[.int .i64 pb.kind, .int .i64 pb.cls, .int .i64 pb.n] 37)) (hS.below ((Below.refl v.heap.size v).alloc (Nat.le_refl _) _) hNv) (Pr2.keep (i := 4) (fun q _ h => ((Below.refl v.heap.size v).alloc (Nat.le_refl _) _).block q h) (fun _ => ((Below.refl v.heap.size v).alloc (Nat.le_refl _) _).block _ (by omega)) (fun e => absurd e (by omega)) hR) (⟨v.heap.size, upV_same _ _ _, hBv, World.rowIs_alloc _ _ _ _ fun i hi => by
          simp at hi
          match i, hi with | 0, _ => rfl | 1, _ => rfl | 2, _ => rfl, fun b' hb' => hne b' (by rw [upV_ne vs _ (by omega)] at hb'; exact hb')⟩)
        simp only [Act.put, List.setIfInBounds_toArray, List.set_cons_zero, List.set_cons_succ, e3, e12] at hE
        exact hE
      | 5, _ =>
        obtain rfl := Option.some.inj (ho.symm.trans (rfl : _ = some _))
        intro L vs v hLi hv0 hd hS hR K hK
        have hNv : N ≤ v.heap.size := Nat.le_trans HNB.out.1 hS.size
        have hNv5 : N + 5 ≤ v.heap.size := Nat.le_trans HNB.out.2 hS.size
        have hBv : w.heap.size ≤ v.heap.size := hS.size
        have r2 := hR 2 (by omega) (hd 2 (by kernel_rfl))
        have r4 := hR 4 (by omega) (hd 4 (by kernel_rfl))
        obtain ⟨b3, e2, l3, q3⟩ := r2
        obtain ⟨b4, e4, l4, q4, n4⟩ := r4
        have n34 := n4 b3 e2
        go_simp
        have hE := hK.out (.slice (some ⟨v.heap.size, 0, none⟩) 3 3) (v.alloc (.cells #[.slice (some ⟨b3, 0, none⟩) 1 1, .slice none 0 0, .slice (some ⟨b4, 0, none⟩) 1 1] 64)) (hS.below ((Below.refl v.heap.size v).alloc (Nat.le_refl _) _) hNv) (Pr2.keep (i := 5) (fun q _ h => ((Below.refl v.heap.size v).alloc (Nat.le_refl _) _).block q h) (fun _ => ((Below.refl v.heap.size v).alloc (Nat.le_refl _) _).block _ (by omega)) (fun e => absurd e (by omega)) hR) (⟨v.heap.size, b3, b4, upV_same _ _ _, hBv, l3, l4, n34, World.rowIs_alloc _ _ _ _ fun i hi => by
          simp at hi
          match i, hi with | 0, _ => rfl | 1, _ => rfl | 2, _ => rfl, q3.alloc _, q4.alloc _⟩)
        simp only [Act.put, List.setIfInBounds_toArray, List.set_cons_zero, List.set_cons_succ, e2, e4, e12] at hE
        exact hE
      | 6, _ =>
        obtain rfl := Option.some.inj (ho.symm.trans (rfl : _ = some _))
        intro L vs v hLi hv0 hd hS hR K hK
        have hNv : N ≤ v.heap.size := Nat.le_trans HNB.out.1 hS.size
        have hNv5 : N + 5 ≤ v.heap.size := Nat.le_trans HNB.out.2 hS.size
        have hBv : w.heap.size ≤ v.heap.size := hS.size
        have r5 := hR 5 (by omega) (hd 5 (by kernel_rfl))
        obtain ⟨b2, b3, b4, e5, l2, l3, l4, n34, q2, q3, q4⟩ := r5
        have hp : Pl3 w.heap.size pa pb v.heap.size b2 b3 b4 (v.alloc (.cells #[.slice (some ⟨b2, 0, none⟩) 3 3] 65)) := ⟨World.rowIs_alloc _ _ _ _ fun i hi => by
          simp at hi
          match i, hi with | 0, _ => rfl, q2.alloc _, q3.alloc _, q4.alloc _, hBv, l2, l3, l4, n34⟩
        go_simp
        have hE := hK.out (.slice (some ⟨v.heap.size, 0, none⟩) 1 1) (v.alloc (.cells #[.slice (some ⟨b2, 0, none⟩) 3 3] 65)) (hS.below ((Below.refl v.heap.size v).alloc (Nat.le_refl _) _) hNv) (Pr2.keep (i := 6) (fun q _ h => ((Below.refl v.heap.size v).alloc (Nat.le_refl _) _).block q h) (fun _ => ((Below.refl v.heap.size v).alloc (Nat.le_refl _) _).block _ (by omega)) (fun e => absurd e (by omega)) hR) (⟨v.heap.size, b2, b3, b4, upV_same _ _ _, hp⟩)
        simp only [Act.put, List.setIfInBounds_toArray, List.set_cons_zero, List.set_cons_succ, e5, e12] at hE
        exact hE
      | 7, _ =>
        obtain rfl := Option.some.inj (ho.symm.trans (rfl : _ = some _))
        intro L vs v hLi hv0 hd hS hR K hK
        have hNv : N ≤ v.heap.size := Nat.le_trans HNB.out.1 hS.size
        have hNv5 : N + 5 ≤ v.heap.size := Nat.le_trans HNB.out.2 hS.size
        have hBv : w.heap.size ≤ v.heap.size := hS.size
        go_simp
        have hE := hK.out (.slice ae ne ce) (v) hS (Pr2.keep (i := 7) (fun q _ h => (Below.refl v.heap.size v).block q h) (fun _ => (Below.refl v.heap.size v).block _ (by omega)) (fun e => absurd e (by omega)) hR) (upV_same _ _ _)
        simp only [Act.put, List.setIfInBounds_toArray, List.set_cons_zero, List.set_cons_succ, e12] at hE
        exact hE
      | 8, _ =>
        obtain rfl := Option.some.inj (ho.symm.trans (rfl : _ = some _))
        intro L vs v hLi hv0 hd hS hR K hK
        have hNv : N ≤ v.heap.size := Nat.le_trans HNB.out.1 hS.size
        have hNv5 : N + 5 ≤ v.heap.size := Nat.le_trans HNB.out.2 hS.size
        have hBv : w.heap.size ≤ v.heap.size := hS.size
        have r6 := hR 6 (by omega) (hd 6 (by kernel_rfl))
        have r7 := hR 7 (by omega) (hd 7 (by kernel_rfl))
        obtain ⟨b1, b2, b3, b4, e6, p⟩ := r6
        have e7 : vs 7 = _ := r7
        go_simp
        have hE := hK.out (.agg #[.slice (some ⟨b1, 0, none⟩) 1 1, .slice ae ne ce, .int .i64 3]) (v) hS (Pr2.keep (i := 8) (fun q _ h => (Below.refl v.heap.size v).block q h) (fun _ => (Below.refl v.heap.size v).block _ (by omega)) (fun e => absurd e (by omega)) hR) (⟨b1, b2, b3, b4, upV_same _ _ _, p⟩)
        simp only [Act.put, List.setIfInBounds_toArray, List.set_cons_zero, List.set_cons_succ, e6, e7, e12] at hE
        exact hE
      | 9, _ =>
        obtain rfl := Option.some.inj (ho.symm.trans (rfl : _ = some _))
        intro L vs v hLi hv0 hd hS hR K hK
        have hNv : N ≤ v.heap.size := Nat.le_trans HNB.out.1 hS.size
        have hNv5 : N + 5 ≤ v.heap.size := Nat.le_trans HNB.out.2 hS.size
        have hBv : w.heap.size ≤ v.heap.size := hS.size
        have r0 := hR 0 (by omega) (hd 0 (by kernel_rfl))
        have e0 : vs 0 = _ := r0
        obtain ⟨f, hf⟩ := hS.f3
        have x0 := hf.cell (i := 0) (by omega)
        have x1 := hf.cell (i := 1) (by omega)
        have z0 := hf.frozen 0
        have z1 := hf.frozen 1
        have lf := hf.lt
        have hr : ((v.setCell ⟨N + 3, 0, none⟩ (.slice (some ⟨c, 0, none⟩) 1 1)).setCell ⟨N + 3, 1, none⟩ (.slice (some ⟨d, 0, none⟩) 1 1)).rowIs (N + 3) 25 2 (fun q => if q = 0 then .slice (some ⟨c, 0, none⟩) 1 1 else .slice (some ⟨d, 0, none⟩) 1 1) := ((hf.set 0 _).set 1 _).congr fun i hi => by
          match i, hi with | 0, _ => rfl | 1, _ => rfl
        have hk : ∀ p, p ≠ N + 3 → ((v.setCell ⟨N + 3, 0, none⟩ (.slice (some ⟨c, 0, none⟩) 1 1)).setCell ⟨N + 3, 1, none⟩ (.slice (some ⟨d, 0, none⟩) 1 1)).heap[p]? = v.heap[p]? := fun p hp => (Below.heap_setCell _ _ _ _ (by show p ≠ N + 3; exact hp)).trans (Below.heap_setCell _ _ _ _ (by show p ≠ N + 3; exact hp))
        have hs : PrS w0 N w ((v.setCell ⟨N + 3, 0, none⟩ (.slice (some ⟨c, 0, none⟩) 1 1)).setCell ⟨N + 3, 1, none⟩ (.slice (some ⟨d, 0, none⟩) 1 1)) := ⟨(hS.low.setCell (by simp) _).setCell (by simp) _, by simp [World.setCell]; exact hS.size, fun q h1 h2 h3 => (hk q h2).trans (hS.same q h1 h2 h3), ⟨_, hr⟩, by obtain ⟨f4, h4⟩ := hS.f4; exact ⟨f4, h4.of_block (hk _ (by omega))⟩⟩
        go_simp
        have hE := hK.out (undef) ((v.setCell ⟨N + 3, 0, none⟩ (.slice (some ⟨c, 0, none⟩) 1 1)).setCell ⟨N + 3, 1, none⟩ (.slice (some ⟨d, 0, none⟩) 1 1)) hs (Pr2.keep (i := 9) (fun q h1 _ => hk q (by have := HNB.out.2; omega)) (fun e => absurd rfl e) (fun e => absurd e (by omega)) hR) (hr)
        simp only [Act.put, e0, e12] at hE
        exact hE
      | n + 10, h => exact absurd h (by omega)
    · match i, hi1, hi with
      | 10, _, _ =>
        obtain rfl := Option.some.inj (ho.symm.trans (rfl : _ = some _))
        intro vs v hS hall hprev K hK
        have hR := hall rfl
        obtain ⟨b1, b2, b3, b4, e8, p⟩ := hR 8 (by omega)
        have r9 : v.rowIs (N + 3) 25 2 (fun q => if q = 0 then .slice (some ⟨c, 0, none⟩) 1 1 else .slice (some ⟨d, 0, none⟩) 1 1) := hR 9 (by omega)
        obtain ⟨f, hf⟩ := hS.f4
        have x0 := hf.cell (i := 0) (by omega)
        have x1 := hf.cell (i := 1) (by omega)
        have x2 := hf.cell (i := 2) (by omega)
        have z0 := hf.frozen 0
        have z1 := hf.frozen 1
        have z2 := hf.frozen 2
        have lf := hf.lt
        have hr : (((v.setCell ⟨N + 4, 0, none⟩ (.slice (some ⟨b1, 0, none⟩) 1 1)).setCell ⟨N + 4, 1, none⟩ (.slice ae ne ce)).setCell ⟨N + 4, 2, none⟩ (.int .i64 3)).rowIs (N + 4) 32 3 (fun q => if q = 0 then .slice (some ⟨b1, 0, none⟩) 1 1 else if q = 1 then .slice ae ne ce else .int .i64 3) := (((hf.set 0 _).set 1 _).set 2 _).congr fun i hi => by
          match i, hi with | 0, _ => rfl | 1, _ => rfl | 2, _ => rfl
        have hk : ∀ p, p ≠ N + 4 → (((v.setCell ⟨N + 4, 0, none⟩ (.slice (some ⟨b1, 0, none⟩) 1 1)).setCell ⟨N + 4, 1, none⟩ (.slice ae ne ce)).setCell ⟨N + 4, 2, none⟩ (.int .i64 3)).heap[p]? = v.heap[p]? := fun p hp => ((Below.heap_setCell _ _ _ _ (by show p ≠ N + 4; exact hp)).trans (Below.heap_setCell _ _ _ _ (by show p ≠ N + 4; exact hp))).trans (Below.heap_setCell _ _ _ _ (by show p ≠ N + 4; exact hp))
        have hs : PrS w0 N w (((v.setCell ⟨N + 4, 0, none⟩ (.slice (some ⟨b1, 0, none⟩) 1 1)).setCell ⟨N + 4, 1, none⟩ (.slice ae ne ce)).setCell ⟨N + 4, 2, none⟩ (.int .i64 3)) := ⟨((hS.low.setCell (by simp) _).setCell (by simp) _).setCell (by simp) _, by simp [World.setCell]; exact hS.size, fun q h1 h2 h3 => (hk q h3).trans (hS.same q h1 h2 h3), ⟨_, r9.of_block (hk _ (by omega))⟩, ⟨_, hr⟩⟩
        have hfin : Pr2 N w.heap.size c d pa pb (.slice ae ne ce) 10 (upV vs 10 undef) (((v.setCell ⟨N + 4, 0, none⟩ (.slice (some ⟨b1, 0, none⟩) 1 1)).setCell ⟨N + 4, 1, none⟩ (.slice ae ne ce)).setCell ⟨N + 4, 2, none⟩ (.int .i64 3)) := ⟨r9.of_block (hk _ (by omega)), b1, b2, b3, b4, hr, p.agree fun q h1 _ => hk q (by have := HNB.out.2; omega)⟩
        clear hf r9 p hR hall hprev hr hk
        go_simp
        have hE := hK.out undef _ hs hfin
        simp only [Act.put, e8, e12] at hE
        exact hE
      | n + 11, _, h => exact absurd h (by omega)
      | 0, h, _ => exact absurd h (by omega)
      | 1, h, _ => exact absurd h (by omega)
      | 2, h, _ => exact absurd h (by omega)
      | 3, h, _ => exact absurd h (by omega)
      | 4, h, _ => exact absurd h (by omega)
      | 5, h, _ => exact absurd h (by omega)
      | 6, h, _ => exact absurd h (by omega)
      | 7, h, _ => exact absurd h (by omega)
      | 8, h, _ => exact absurd h (by omega)
      | 9, h, _ => exact absurd h (by omega)
    · obtain ⟨r9, b1, b2, b3, b4, r10, p⟩ := hR
      have y0 := r9.cell (i := 0) (by omega)
      have y1 := r9.cell (i := 1) (by omega)
      have y2 := r10.cell (i := 0) (by omega)
      have y3 := r10.cell (i := 1) (by omega)
      have y4 := r10.cell (i := 2) (by omega)
      have y0 : v.cell? ⟨N + 3, 0, none⟩ = some (.slice (some ⟨c, 0, none⟩) 1 1) := y0
      have y1 : v.cell? ⟨N + 3, 1, none⟩ = some (.slice (some ⟨d, 0, none⟩) 1 1) := y1
      have y2 : v.cell? ⟨N + 4, 0, none⟩ = some (.slice (some ⟨b1, 0, none⟩) 1 1) := y2
      have y3 : v.cell? ⟨N + 4, 1, none⟩ = some (.slice ae ne ce) := y3
      have y4 : v.cell? ⟨N + 4, 2, none⟩ = some (.int .i64 3) := y4
      have HE : Hid (PairR w0 ⟨[], [⟨1, [dOp], []⟩, ⟨op, os, sp⟩, ⟨3, [uOp], []⟩], []⟩ pa pb c d b1 b2 b3 b4 v) := ⟨by rw [HN.out]; exact hS.low, w.heap.size, by rw [HN.out]; exact HNB.out.1, p, clr N w, HQ.out.2.1, HQ.out.2.2.1, fun w' h => clr_to fun q h1 h2 => (h q h1).trans (hS.same q h1 (by omega) (by omega))⟩
      clear hS p r9 r10
      --CUT3
      go_wp2
      refine bodyPost_ret (v := .tuple #[.agg #[.slice (some ⟨c, 0, none⟩) 1 1, .slice (some ⟨d, 0, none⟩) 1 1], .agg #[.slice (some ⟨b1, 0, none⟩) 1 1, .slice ae ne ce, .int .i64 3]]) (by simp [results, Try.results12, go_sem, y0, y1, y2, y3, y4]) rfl ?_
      first | exact ⟨c, d, b1, b2, b3, b4, rfl, HE.out⟩ | exact ⟨c, d, b1, rfl, b2, b3, b4, HE.out⟩

end Go.Proofs.Ytjbjnndmpheedaa
