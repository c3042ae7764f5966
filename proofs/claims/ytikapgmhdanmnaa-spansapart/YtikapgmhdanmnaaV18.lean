/-
  Where flow finds no fault each stay lies within its block, and each value has one. No Go in here.
-/
import Derived.Test.YtikapgmhdanmnaaV17
namespace Go.Proofs.Ytikapgmhdanmnaa
open Go.RowKit
set_option linter.unusedVariables false

theorem instrErr_kind {values : List Int} {m0 m1 : Int} {x : Ins} (h : instrErr values m0 m1 x = 0) : ∀ o ∈ x.operands, o.kind = 1 ∨ o.kind = 2 := fun o ho => by
  unfold instrErr at h
  split at h
  · cases h
  · split at h
    · contradiction
    · rename_i h1
      have h2 := firstE_zero _ _ (by simpa using h1) o ho
      unfold oprErr at h2
      split at h2
      · cases h2
      · rename_i h3
        exact Decidable.not_not.1 h3
theorem spU_par {bs : List Blk} {k : Nat} (hk : k < bs.length) {v : Int} (h : v ∈ (blkA bs k).params) : (v, ((k : Int), (-1 : Int))) ∈ spU bs bs.length := by
  unfold spU
  refine List.mem_flatMap.2 ⟨k, List.mem_range.2 hk, ?_⟩
  exact List.mem_append_left _ (List.mem_map.2 ⟨v, h, rfl⟩)
theorem spU_ins {bs : List Blk} {k : Nat} (hk : k < bs.length) {v : Int} {i : Nat} {x : Ins} (hi : (blkA bs k).instrs[i]? = some x) (h : v ∈ oprM x.operands) : (v, ((k : Int), (i : Int))) ∈ spU bs bs.length := by
  unfold spU
  refine List.mem_flatMap.2 ⟨k, List.mem_range.2 hk, ?_⟩
  obtain ⟨hl, he⟩ := List.getElem?_eq_some_iff.1 hi
  refine List.mem_append_right _ (List.mem_flatMap.2 ⟨i, List.mem_range.2 hl, ?_⟩)
  refine List.mem_map.2 ⟨v, ?_, rfl⟩
  show v ∈ oprM (((blkA bs k).instrs).getD i ⟨0, [], []⟩).operands
  rw [List.getD_eq_getElem?_getD, hi]
  exact h
theorem insM_at {is : List Ins} {v : Int} (h : v ∈ insM is) : ∃ (i : Nat) (x : Ins), is[i]? = some x ∧ v ∈ oprM x.operands := by
  obtain ⟨x, hx, hv⟩ := List.mem_flatMap.1 h
  obtain ⟨i, hi, he⟩ := List.getElem_of_mem hx
  exact ⟨i, x, by rw [List.getElem?_eq_getElem hi, he], hv⟩
/-- The stays of one block. -/
theorem stay_blk {f : Fn} {m0 m1 : Int} (h : flowE f m0 m1 (f.blocks.length * f.blocks.length + 1) = 0) {I O : Tb} (ht : (∀ b v, v < f.values.length → (I b v = true ↔ NeedIn f.blocks b v)) ∧ ∀ b v, v < f.values.length → (O b v = true ↔ NeedOut f.blocks b v)) (k : Nat) (hk : k < f.blocks.length) :
    (∀ v, v < f.values.length → (v : Int) ∈ makersOf (blkA f.blocks k) → Hs (startM f.blocks k) (startM f.blocks (k + 1)) (stayM (blkA f.blocks k) I O k f.values.length (startM f.blocks k) v)) ∧ ∀ v, v < f.values.length → Zs (startM f.blocks k) (startM f.blocks (k + 1)) (stayM (blkA f.blocks k) I O k f.values.length (startM f.blocks k) v) := by
  obtain ⟨hs, hlen, hmade⟩ := flowE_all h
  have S := shape_in hs
  have hb := List.getElem_mem hk
  have eb : blkA f.blocks k = f.blocks[k] := blkA_at hk
  have hnd := (marks_free _ _ _ S.mks).2
  have hst := startM_succ f.blocks k hk
  rw [← eb] at hst
  have hval : ∀ x ∈ (blkA f.blocks k).instrs, ∀ o ∈ x.operands, 0 ≤ o.value ∧ o.value < f.values.length := fun x hx o ho => by
    rw [eb] at hx
    exact isValue_bd (instrErr_val (S.ins _ hb x hx) o ho)
  have hkind : ∀ x ∈ (blkA f.blocks k).instrs, ∀ o ∈ x.operands, o.kind = 1 ∨ o.kind = 2 := fun x hx => by
    rw [eb] at hx
    exact instrErr_kind (S.ins _ hb x hx)
  have hpar : ∀ v ∈ (blkA f.blocks k).params, 0 ≤ v := fun v hv => by
    rw [eb] at hv
    exact (isValue_bd (marks_val _ _ _ S.mks v (mem_all hb (List.mem_append_left _ hv)))).1
  generalize startM f.blocks (k + 1) = hi at *
  generalize hfst : startM f.blocks k = fst at *
  have hni : (0 : Int) ≤ ((blkA f.blocks k).instrs.length : Int) := by omega
  have p2 : fst + 1 ≤ hi := by omega
  obtain ⟨s0, hs0⟩ : ∃ s0, stIn I k fst f.values.length = s0 := ⟨_, rfl⟩
  have in0 : ∀ u, u < f.values.length → I k u = true → Hs fst hi (s0 u) := fun u hu hi' => by
    rw [← hs0]
    unfold stIn
    rw [if_pos ⟨hu, hi'⟩]
    exact ⟨Int.le_refl _, by simp only; omega, p2⟩
  have z0 : ∀ u, Zs fst hi (s0 u) := fun u => by
    rw [← hs0]
    unfold stIn
    split
    · exact Or.inr ⟨Int.le_refl _, by simp only; omega, p2⟩
    · exact Or.inl rfl
  obtain ⟨s1, hs1⟩ : ∃ s1, stPar fst s0 (blkA f.blocks k).params = s1 := ⟨_, rfl⟩
  have in1 : ∀ u, u < f.values.length → I k u = true → Hs fst hi (s1 u) := fun u hu h1 => by rw [← hs1]; exact par_keep (Int.le_refl _) p2 _ _ (in0 u hu h1)
  have pa1 : ∀ u : Nat, (u : Int) ∈ (blkA f.blocks k).params → Hs fst hi (s1 u) := fun u h1 => by rw [← hs1]; exact par_def (Int.le_refl _) p2 _ _ hpar h1
  have z1 : ∀ u, Zs fst hi (s1 u) := fun u => by rw [← hs1]; exact par_zero (Int.le_refl _) p2 _ _ (z0 u)
  have hA := ins_all (lo := fst) (hi := hi) (fst := fst) (s := s1) (is := (blkA f.blocks k).instrs) (Int.le_refl _) (by omega) (fun x hx o ho => (hval x hx o ho).1) (fun i x o hx ho hk2 => ?_) _ (Nat.le_refl _)
  · obtain ⟨g1, g2, g3⟩ := hA
    have fin1 : ∀ v, v < f.values.length → (v : Int) ∈ makersOf (blkA f.blocks k) ∨ I k v = true → Hs fst hi (stMid (blkA f.blocks k) I k f.values.length fst v) := fun v hv hm => by
      unfold stMid
      rw [hs0, hs1]
      rcases hm with hm | hm
      · rcases List.mem_append.1 hm with hm | hm
        · exact g1 v (pa1 v hm)
        · obtain ⟨i, x, hx, hm⟩ := insM_at hm
          exact g2 i x v (List.getElem?_eq_some_iff.1 hx).1 hx hm
      · exact g1 v (in1 v hv hm)
    have outH : ∀ x : Sp, Hs fst hi x → Hs fst hi (x.1, max x.2 (fst + 1 + 2 * ((blkA f.blocks k).instrs.length : Int) + 1)) := fun x hx => by
      obtain ⟨a1, a2, a3⟩ := hx
      exact ⟨a1, by simp only; omega, by simp only; omega⟩
    refine ⟨fun v hv hm => ?_, fun v hv => ?_⟩
    · have h1 := fin1 v hv (Or.inl hm)
      unfold stayM stOut
      split
      · exact outH _ h1
      · exact h1
    · unfold stayM stOut
      split
      · rename_i hO
        refine Or.inr (outH _ (fin1 v hv ?_))
        by_cases hm : (v : Int) ∈ makersOf (blkA f.blocks k)
        · exact Or.inl hm
        · exact Or.inr ((ht.1 k v hv).2 (NeedIn.iff.2 ⟨hk, hm, Or.inr ((ht.2 k v hv).1 hO.2)⟩))
      · unfold stMid
        rw [hs0, hs1]
        exact g3 v (z1 v)
  · obtain ⟨hil, hix⟩ := List.getElem?_eq_some_iff.1 hx
    have hxm : x ∈ (blkA f.blocks k).instrs := by rw [← hix]; exact List.getElem_mem hil
    have hv := hval x hxm o ho
    have hk1 : o.kind = 1 := (hkind x hxm o ho).resolve_right hk2
    obtain ⟨v, hvv⟩ : ∃ v : Nat, o.value = v := ⟨o.value.toNat, by omega⟩
    have hvl : v < f.values.length := by omega
    rw [hvv, Int.toNat_natCast]
    by_cases hm : (v : Int) ∈ makersOf (blkA f.blocks k)
    · rcases List.mem_append.1 hm with hm | hm
      · exact Or.inl (pa1 v hm)
      · obtain ⟨i', x', hx', hm'⟩ := insM_at hm
        refine Or.inr ⟨i', x', ?_, hx', hm'⟩
        have hsp := spot_is hnd (by omega) (spU_ins hk hx' hm')
        rw [Int.toNat_natCast] at hsp
        unfold madeL at hmade
        rw [List.all_eq_true] at hmade
        have h1 := hmade k (List.mem_range.2 hk)
        unfold blkOk at h1
        simp only [Bool.and_eq_true, List.all_eq_true, List.mem_range] at h1
        have h2 := h1.1 i hil
        unfold insOk at h2
        rw [List.all_eq_true] at h2
        have h3 := h2 o (by
          show o ∈ (((blkA f.blocks k).instrs).getD i ⟨0, [], []⟩).operands
          rw [List.getD_eq_getElem?_getD, hx]; exact ho)
        unfold useOk at h3
        simp only [hk1, BEq.rfl, Bool.not_true, Bool.false_or, hvv, Int.toNat_natCast, hsp] at h3
        unfold aheadM at h3
        simp only [if_true, decide_eq_true_eq] at h3
        omega
    · refine Or.inl (in1 v hvl ((ht.1 k v hvl).2 (.use k v hk hm (Or.inl ?_))))
      refine List.mem_flatMap.2 ⟨x, hxm, ?_⟩
      unfold oprU
      exact List.mem_map.2 ⟨o, List.mem_filter.2 ⟨ho, by simp [hk1]⟩, hvv⟩
theorem stays_in {f : Fn} {m0 m1 : Int} (h : flowE f m0 m1 (f.blocks.length * f.blocks.length + 1) = 0) {I O : Tb} (ht : (∀ b v, v < f.values.length → (I b v = true ↔ NeedIn f.blocks b v)) ∧ ∀ b v, v < f.values.length → (O b v = true ↔ NeedOut f.blocks b v)) : StIn f.blocks f.values.length I O := fun k hk v hv hlt => by
  rcases (stay_blk h ht k hk).2 v hv with h1 | h1
  · rw [h1] at hlt
    simp at hlt
  · exact ⟨h1.1, h1.2.2⟩
/-- Each value has a span, and its spans stand apart. -/
theorem spans_good {f : Fn} {m0 m1 : Int} (h : flowE f m0 m1 (f.blocks.length * f.blocks.length + 1) = 0) {I O : Tb} (ht : (∀ b v, v < f.values.length → (I b v = true ↔ NeedIn f.blocks b v)) ∧ ∀ b v, v < f.values.length → (O b v = true ↔ NeedOut f.blocks b v)) (v : Nat) (hv : v < f.values.length) : spansM f.blocks f.values.length I O f.blocks.length v ≠ [] ∧ Aprt (spansM f.blocks f.values.length I O f.blocks.length v) := by
  obtain ⟨d, hd, _, hm⟩ := spot_made (flowE_all h).1 v hv
  exact ⟨spans_some v d ((stay_blk h ht d hd).1 v hv hm).2.1 _ hd, (spans_aprt (stays_in h ht) v hv _ (Nat.le_refl _)).1⟩
end Go.Proofs.Ytikapgmhdanmnaa
