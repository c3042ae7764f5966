/-
  What is done with a function that is one's own: a block more.
  A block more to which nothing comes: it is told. No Go in here.
-/
import Derived.Test.YtanhfkpphdbaaaaO2
import Derived.Test.YtanhfkpphdbaaaaB3
import Derived.Test.YtanhfkpphdbaaaaO1
namespace Go.Proofs.Ytanhfkpphdbaaaa
open Go.RowKit
set_option linter.unusedVariables false

section
variable {N : Nat} {κ κ' : Nat → Nat} {w w' wa wb : World} {f : Fn} {vv vb : Value} {bx : Nat → Value × Value × Value} {S : Nat → Prop}
theorem OwR.only (h : OwR N κ w f vv vb bx) (ho : Only S κ κ' w w') (hS : ∀ r, S r → r = 5) (hf : ∀ b, w'.heap.size ≤ b → κ' b = 0) : OwR N κ' w' f vv vb bx := by
  have no : ∀ r, r ≠ 5 → ¬ S r := fun r h1 hs => h1 (hS r hs)
  have o1 := own_only h.ov h.kv ho (no 2 (by omega))
  have o2 := own_only h.ob h.kb ho (no 4 (by omega))
  exact ⟨o1.1, o1.2, o2.1, o2.2, fun j hj => (h.blk j hj).only ho (no 0 (by omega)) (no _ (by omega)) (no _ (by omega)), hf, fun b hb => by rw [ho.role b (by have := h.szN; omega)]; exact h.lowN b hb, Nat.le_trans h.szN ho.size⟩
theorem OwR.below (h : OwR N κ w f vv vb bx) (hb : Below w.heap.size w w') : OwR N κ w' f vv vb bx := h.only (Only.of_below (S := fun r => r = 5) hb) (fun r hr => hr) fun b hb' => h.fresh b (Nat.le_trans hb.size hb')
/-- A box that may be written to. -/
theorem OwR.box (h : OwR N κ w f vv vb bx) (o : Obj) : OwR N (upK κ w.heap.size 5) (w.alloc o) f vv vb bx := by
  refine h.only (S := fun r => r = 5) ((Only.of_below ((Below.refl _ _).alloc (Nat.le_refl _) _)).tag (upK_old (Or.inr (Nat.le_refl _)))) (fun r hr => hr) fun b hb => ?_
  simp at hb
  unfold upK
  rw [if_neg (by omega)]
  exact h.fresh b (by omega)
theorem OwR.set (h : OwR N κ w f vv vb bx) {Y : Nat} (hY : κ Y = 5) (i : Nat) (v : Value) : OwR N κ (w.setCell ⟨Y, i, none⟩ v) f vv vb bx :=
  h.only (S := fun r => r = 5) ((Only.refl _ _ _).set (Or.inr hY) i v) (fun r hr => hr) fun b hb => h.fresh b (by simpa [World.setCell] using hb)
/-- A block more, whatever lies in it, if it lies there. -/
theorem OwR.pushB {g cap : Nat} (h : OwR N κ w f vv vb bx) (hwa : Below w.heap.size w wa) (hgrow : wa.grownBy wb vb.ownBlock) (b : Blk) (x : Value × Value × Value) (hx : BlkS N κ wa f.blocks.length x b)
    (hown : wb.ownsRow N 45 3 (.slice (some ⟨g, 0, none⟩) (f.blocks.length + 1) cap) (f.blocks.length + 1) (((List.range f.blocks.length).flatMap fun j => c3 (bx j)) ++ c3 x)) (hat : vb.ownBlock = some g ∨ g = wa.heap.size) :
    OwR N (upK κ g 4) wb ⟨f.values, f.blocks ++ [b]⟩ vv (.slice (some ⟨g, 0, none⟩) (f.blocks.length + 1) cap) (fun j => if j = f.blocks.length then x else bx j) ∧ Only (fun r => r = 4) κ (upK κ g 4) w wb := by
  have hza := hwa.size
  have hz1 := hgrow.size
  have hgl : g < wb.heap.size := (own_base hown (g := g) rfl).2
  have hga : (g < wa.heap.size ∧ κ g = 4) ∨ wa.heap.size ≤ g := by
    rcases hat with e | e
    · exact Or.inl ⟨by have := (own_base h.ob e).2; omega, h.kb g e⟩
    · right; omega
  have hg : (g < w.heap.size ∧ κ g = 4) ∨ w.heap.size ≤ g := by
    rcases hat with e | e
    · exact Or.inl ⟨(own_base h.ob e).2, h.kb g e⟩
    · right; omega
  have ho : Only (fun r => r = 4) κ (upK κ g 4) w wb := ((Only.of_below hwa).grown hgrow fun q hq => Or.inr (h.kb q hq)).tag (upK_old hg)
  have hoa : Only (fun r => r = 4) κ (upK κ g 4) wa wb := ((Only.refl _ _ _).grown hgrow fun q hq => Or.inr (h.kb q hq)).tag (upK_old hga)
  have o1 := own_only h.ov h.kv ho (by omega)
  refine ⟨⟨o1.1, o1.2, ?_, fun q hq => ?_, fun j hj => ?_, fun b hb => ?_, fun b hb => ?_, Nat.le_trans h.szN ho.size⟩, ho⟩
  · simp only [List.length_append, List.length_singleton, List.range_succ, List.flatMap_append]
    have e : ((List.range f.blocks.length).flatMap fun j => c3 (if j = f.blocks.length then x else bx j)) = (List.range f.blocks.length).flatMap fun j => c3 (bx j) := by
      simp only [List.flatMap_def]
      congr 1
      exact List.map_congr_left fun q hq => by rw [if_neg (by have := List.mem_range.1 hq; omega)]
    rw [e]
    have e2 : ([f.blocks.length].flatMap fun j => c3 (if j = f.blocks.length then x else bx j)) = c3 x := by simp
    rw [e2]
    exact hown
  · simp [Value.ownBlock] at hq
    simp [upK, hq]
  · simp only [List.length_append, List.length_singleton] at hj
    by_cases e : j = f.blocks.length
    · subst e
      simp only [if_true, List.getElem_append_right (Nat.le_refl _), Nat.sub_self, List.getElem_cons_zero]
      exact hx.only hoa (by omega) (by omega) (by omega)
    · have hj' : j < f.blocks.length := by omega
      simp only [if_neg e, List.getElem_append_left hj']
      exact (h.blk j hj').only ho (by omega) (by omega) (by omega)
  · unfold upK
    rw [if_neg (by omega)]
    exact h.fresh b (by omega)
  · rw [ho.role b (by have := h.szN; omega)]
    exact h.lowN b hb
theorem blkS_bare (j : Nat) : BlkS N κ w j (.slice none 0 0, .slice none 0 0, .slice none 0 0) ⟨[], [], []⟩ :=
  ⟨SlK.nil _ _ _ _, ⟨[], rfl, World.ownsRow_nil _ _ _ _, by simp⟩, fun g hg => by simp [Value.ownBlock] at hg, ⟨[], rfl, World.ownsRow_nil _ _ _ _, by simp⟩, fun g hg => by simp [Value.ownBlock] at hg⟩
end
end Go.Proofs.Ytanhfkpphdbaaaa
namespace Go.Proofs.Ytanhfkpphdbaaaa
open Go.RowKit
set_option linter.unusedVariables false

theorem edgeErr_len {values : List Int} {bs : List Blk} {e : Edg} (h : edgeErr values bs e = 0) : ∃ b ∈ bs, e.args.length = b.params.length := by
  unfold edgeErr at h
  split at h
  · cases h
  · split at h
    · cases h
    · rename_i b hb
      split at h
      · rename_i h3
        exact ⟨b, List.mem_of_getElem? hb, h3⟩
      · cases h
/-- What has a right shape is not too long. -/
theorem fit_of {f : Fn} {m0 m1 : Int} (h : shapeErr f m0 m1 = 0) : FnFit f := by
  have S := shape_in h
  have F : ∀ b ∈ f.blocks, (b.params.length ≤ 5 ∧ b.instrs.length ≤ 40 ∧ b.edges.length ≤ 3) ∧ ∀ x ∈ b.instrs, x.operands.length ≤ 6 ∧ x.spoils.length ≤ 20 := fun b hb => by
    have := S.fits b hb
    simp only [blkFits, Bool.and_eq_true, decide_eq_true_eq, List.all_eq_true, insFits] at this
    exact this
  refine ⟨by have := S.nv; omega, by have := S.nb; omega, fun b hb => by have := (F b hb).1; omega, fun b hb x hx => by have := (F b hb).2 x hx; omega, fun b hb e he => ?_⟩
  obtain ⟨c, hc, e2⟩ := edgeErr_len (S.edg b hb e he)
  have := (F c hc).1
  omega
theorem mach_ok {m0 m1 : Int} (h0 : 2 ≤ m0 ∧ m0 ≤ 10) (h1 : 2 ≤ m1 ∧ m1 ≤ 10) : machErr m0 m1 = 0 := by unfold machErr; rw [if_pos ⟨h0.1, h0.2, h1.1, h1.2⟩]
theorem size_told {f : Fn} {m0 m1 : Int} (hm : machErr m0 m1 = 0) (hb : 16 < f.blocks.length) (K : Nat) : flowE f m0 m1 K = 1 ∧ shapeErr f m0 m1 = 1 := by
  have hs : shapeErr f m0 m1 = 1 := by
    unfold shapeErr
    rw [if_neg (by simp [hm]), if_pos]
    unfold sizesB
    rw [if_pos (Or.inr (Or.inl hb))]
  unfold flowE
  rw [hs, if_pos (by simp)]
  exact ⟨rfl, rfl⟩
theorem Gi.reach_lt {n : Nat} {sc D : Nat → List Nat} (h : Gi n sc D) {b : Nat} (hb : Reach sc b) : b < n := by
  cases hb with
  | zero => exact h.pos
  | step _ ht => exact (h.lt _ _ ht).2
theorem block_f (s : Ms) : (blockM s []).1.f = ⟨s.f.values, s.f.blocks ++ [⟨[], [], []⟩]⟩ := by simp [blockM]
theorem dead_told (m0 m1 : Int) (h0 : 2 ≤ m0 ∧ m0 ≤ 10) (h1 : 2 ≤ m1 ∧ m1 ≤ 10) (l : List Pc) (hb : (masonM m0 m1 l).blocks.length + 1 ≤ 16) (K : Nat) :
    shapeErr ⟨(masonM m0 m1 l).values, (masonM m0 m1 l).blocks ++ [⟨[], [], []⟩]⟩ m0 m1 = 0 ∧ flowE ⟨(masonM m0 m1 l).values, (masonM m0 m1 l).blocks ++ [⟨[], [], []⟩]⟩ m0 m1 K = 16 := by
  obtain ⟨g, _, gv, gb, gi⟩ := end_good m0 m1 h0 h1 l
  obtain ⟨D, h⟩ := end_hang m0 m1 h0 h1 l
  have hm := end_m m0 m1 l
  rw [masonM_eq] at hb ⊢
  generalize endM m0 m1 l = s at *
  have G := g.block [] (by simp) (by simp)
  have hlen : (blockM s []).1.f.blocks.length = s.f.blocks.length + 1 := blockM_len s []
  have hsh := shape_ok G (by rw [block_f]; show s.f.values.length ≤ 160; omega) (by omega) (fun j => by
    by_cases hj : j < s.f.blocks.length
    · rw [blockM_at s [] j hj]; have := gi j; omega
    · by_cases e : j = s.f.blocks.length
      · rw [e, blockM_new]; simp
      · rw [blkAt_out (by omega)]; simp)
  have e0 : (blockM s []).1.m0 = m0 := hm.1
  have e1 : (blockM s []).1.m1 = m1 := hm.2
  rw [e0, e1] at hsh
  rw [block_f] at hsh
  refine ⟨hsh, ?_⟩
  have S := shape_in hsh
  have I := flowIn_all hsh
  unfold flowE
  rw [hsh, if_neg (by simp), if_pos]
  apply Nat.lt_of_not_le
  intro hle
  have hr := (order_full _ S.pos I.suc).1 hle s.f.blocks.length (by simp)
  have hsc : ∀ b t, t ∈ succM (s.f.blocks ++ [⟨[], [], []⟩]) b → t ∈ scM s b := fun b t ht => by
    have e : succM (s.f.blocks ++ [⟨[], [], []⟩]) b = scM (blockM s []).1 b := by
      rw [scM_eq, block_f]
    rw [e] at ht
    unfold scM at ht ⊢
    by_cases hj : b < s.f.blocks.length
    · rw [blockM_at s [] b hj] at ht; exact ht
    · by_cases e2 : b = s.f.blocks.length
      · rw [e2, blockM_new] at ht; simp at ht
      · rw [blkAt_out (by omega)] at ht; simp at ht
  have := h.gi.reach_lt (hr.mono hsc)
  omega
end Go.Proofs.Ytanhfkpphdbaaaa
