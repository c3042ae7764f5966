/-
  A value that is made never, and one that is made twice: both are told. No Go in here.
-/
import Derived.Test.YtanhfkpphdbaaaaO3
namespace Go.Proofs.Ytanhfkpphdbaaaa
open Go.RowKit
set_option linter.unusedVariables false

theorem marks_dup (n : Nat) : ∀ (l : List Int) (md : Nat → Bool), (∀ v ∈ l, isValueB n v = true) → (¬ l.Nodup ∨ ∃ v ∈ l, md v.toNat = true) → marks n md l = 7
  | [], md, _, h => by
    rcases h with h | ⟨v, hv, _⟩
    · exact absurd List.nodup_nil h
    · cases hv
  | v :: r, md, hv, h => by
    have hvv := hv v List.mem_cons_self
    by_cases hm : md v.toNat = true
    · have e : markE n md v = 7 := by unfold markE; rw [if_neg (by simp [hvv]), if_pos hm]
      simp only [marks]
      rw [e, if_neg (by omega)]
    · have e : markE n md v = 0 := by unfold markE; rw [if_neg (by simp [hvv]), if_neg hm]
      simp only [marks]
      rw [if_pos e]
      refine marks_dup n r _ (fun u hu => hv u (List.mem_cons_of_mem _ hu)) ?_
      rcases h with h | ⟨u, hu, hmu⟩
      · by_cases hin : v ∈ r
        · exact Or.inr ⟨v, hin, by simp [markS]⟩
        · exact Or.inl fun hn => h (List.nodup_cons.2 ⟨hin, hn⟩)
      · rcases List.mem_cons.1 hu with rfl | hu
        · exact absurd hmu hm
        · refine Or.inr ⟨u, hu, ?_⟩
          unfold markS
          split
          · rfl
          · exact hmu
theorem shape_go {f : Fn} {m0 m1 : Int} (h : shapeErr f m0 m1 = 0) : sizesGo 0 f.blocks = true := by
  have S := shape_in h
  unfold shapeErr at h
  rw [if_neg (by simp [S.mach])] at h
  split at h
  · cases h
  · rename_i hs
    simp only [Bool.not_eq_false] at hs
    unfold sizesB at hs
    split at hs
    · cases hs
    · exact hs
/-- Made never: one too few. -/
theorem never_told {f : Fn} {m0 m1 : Int} (h : shapeErr f m0 m1 = 0) (hv : f.values.length + 1 ≤ 160) (hl : (allM f.blocks).length = f.values.length) : shapeErr ⟨f.values ++ [0], f.blocks⟩ m0 m1 = 6 := by
  have S := shape_in h
  have hmk : marks (f.values ++ [0]).length (fun _ => false) (allM f.blocks) = 0 := marks_ok _ _ _ (marks_free _ _ _ S.mks).2 fun v hm => ⟨isValue_app (marks_val _ _ _ S.mks v hm), rfl⟩
  unfold shapeErr
  rw [if_neg (by simp [S.mach]), if_neg, if_neg, if_neg, if_neg]
  · unfold madeErr
    rw [if_pos hmk, if_pos (by simp; omega)]
  · simp only [ne_eq, Decidable.not_not]
    refine firstE_all _ _ fun b hm => ?_
    unfold blockErr
    have h1 : firstE (instrErr (f.values ++ [0]) m0 m1) b.instrs = 0 := firstE_all _ _ fun x hx => instrErr_app _ (S.ins b hm x hx)
    rw [h1, if_neg (by simp), if_neg (by have := S.two b hm; omega)]
    exact firstE_all _ _ fun e he => edgeErr_mono [0] (Nat.le_refl _) (fun i b hb => ⟨b, hb, rfl⟩) (S.edg b hm e he)
  · have := S.first
    have e : firstParams ⟨f.values ++ [0], f.blocks⟩ = firstParams f := rfl
    rw [e]
    omega
  · simp only [Bool.not_eq_false]
    rw [List.all_append, List.all_eq_true.2 S.cls]
    rfl
  · simp only [Bool.not_eq_false]
    unfold sizesB
    simp only [List.length_append, List.length_singleton]
    rw [if_neg (by have := S.pos; have := S.nb; omega)]
    exact shape_go h
/-- The instruction that makes v again. -/
def yV (v : Int) : Ins := ⟨0, [⟨2, v, false, 1, 0⟩], []⟩
theorem yV_ok {values : List Int} {m0 m1 : Int} {v : Int} (hv : isValueB values.length v = true) (h0 : 2 ≤ m0) (h1 : 2 ≤ m1) : instrErr values m0 m1 (yV v) = 0 := by
  unfold instrErr yV
  have ho : oprErr values m0 m1 ⟨2, v, false, 1, 0⟩ = 0 := by unfold oprErr; simp [hv]
  have hf : fixedOf values [⟨2, v, false, 1, 0⟩] ⟨2, v, false, 1, 0⟩ = none := by simp [fixedOf, named]
  have hfn : ∀ c, fullN values ⟨0, [⟨2, v, false, 1, 0⟩], []⟩ c = 0 := fun c => by simp [fullN, opIn]
  have hcl : clashB values ⟨0, [⟨2, v, false, 1, 0⟩], []⟩ = false := by simp [clashB, clashAt, spoilAt, opAt, fixedOf, named, List.range_succ]
  have hfu : fullB values m0 m1 ⟨0, [⟨2, v, false, 1, 0⟩], []⟩ = false := by unfold fullB; rw [hfn, hfn]; simp; omega
  simp [firstE, ho, reE, spErr, hcl, hfu]
/-- Made twice: one too many. -/
theorem twice_told {B : Nat} {s : Ms} (g : Good B s) (hv : s.f.values.length + 1 ≤ 160) (hb : s.f.blocks.length ≤ 16) (hi : ∀ j, (blkAt s j).instrs.length + 1 ≤ 40) (k : Nat) (hk : k < s.f.blocks.length) (v : Int) (hm : v ∈ allM s.f.blocks) : shapeErr ⟨s.f.values, setBlk s.f.blocks k (addI (yV v))⟩ s.m0 s.m1 = 7 := by
  have ok := g.ok
  have hval : ∀ u ∈ allM s.f.blocks, isValueB s.f.values.length u = true := fun u hu => by
    rw [ok.made.mem_iff] at hu
    obtain ⟨j, hj, rfl⟩ := List.mem_map.1 hu
    have := List.mem_range.1 hj
    simp only [isValueB, decide_eq_true_eq]
    omega
  have hvv := hval v hm
  have hall : (allM s.f.blocks).length = s.f.values.length := by rw [ok.made.length_eq]; simp
  have hperm : (allM (setBlk s.f.blocks k (addI (yV v)))).Perm (allM s.f.blocks ++ [v]) := by
    rw [setBlk_eq _ _ _ hk]
    refine allM_set s.f.blocks k hk _ [v] ?_
    unfold makersOf addI
    simp only
    rw [insM_snoc, List.append_assoc]
    exact List.Perm.refl _
  have hlen : (allM (setBlk s.f.blocks k (addI (yV v)))).length = s.f.values.length + 1 := by rw [hperm.length_eq, List.length_append, hall]; rfl
  have hmem : ∀ b ∈ setBlk s.f.blocks k (addI (yV v)), b ∈ s.f.blocks ∨ b = addI (yV v) s.f.blocks[k] := fun b hb' => setBlk_mem hk hb'
  have hin : ∀ b ∈ s.f.blocks, b.instrs.length + 1 ≤ 40 := fun b hb' => by
    obtain ⟨j, hj, rfl⟩ := List.getElem_of_mem hb'
    have := hi j
    rw [blkAt_eq hj] at this
    exact this
  have hins : ∀ b ∈ setBlk s.f.blocks k (addI (yV v)), ∀ x ∈ b.instrs, instrErr s.f.values s.m0 s.m1 x = 0 ∧ x.operands.length ≤ 6 ∧ x.spoils.length ≤ 20 ∧ 1 ≤ (oprM x.operands).length := fun b hb' x hx => by
    have old : ∀ b ∈ s.f.blocks, ∀ x ∈ b.instrs, instrErr s.f.values s.m0 s.m1 x = 0 ∧ x.operands.length ≤ 6 ∧ x.spoils.length ≤ 20 ∧ 1 ≤ (oprM x.operands).length := fun b hb' x hx => by
      have := ok.ins b hb' x hx
      exact ⟨this.1, by omega, by omega, this.2.2.2⟩
    rcases hmem b hb' with h | rfl
    · exact old b h x hx
    · simp only [addI] at hx
      rcases List.mem_append.1 hx with hx | hx
      · exact old _ (List.getElem_mem hk) x hx
      · rw [List.mem_singleton.1 hx]
        exact ⟨yV_ok hvv ok.m0.1 ok.m1.1, by simp [yV], by simp [yV], by simp [yV, oprM]⟩
  have hm0 : machErr s.m0 s.m1 = 0 := mach_ok ok.m0 ok.m1
  have hpos : 0 < s.f.blocks.length := by omega
  unfold shapeErr
  rw [if_neg (by simp [hm0]), if_neg, if_neg, if_neg, if_neg]
  · unfold madeErr
    have h7 : marks s.f.values.length (fun _ => false) (allM (setBlk s.f.blocks k (addI (yV v)))) = 7 := by
      refine marks_dup _ _ _ (fun u hu => ?_) (Or.inl fun hn => ?_)
      · rw [hperm.mem_iff] at hu
        rcases List.mem_append.1 hu with hu | hu
        · exact hval u hu
        · rw [List.mem_singleton.1 hu]; exact hvv
      · rw [hperm.nodup_iff, List.nodup_append] at hn
        exact hn.2.2 v hm v (by simp) rfl
    simp only
    rw [h7, if_neg (by omega)]
  · simp only [ne_eq, Decidable.not_not]
    refine firstE_all _ _ fun b hb' => ?_
    unfold blockErr
    have h1 : firstE (instrErr s.f.values s.m0 s.m1) b.instrs = 0 := firstE_all _ _ fun x hx => (hins b hb' x hx).1
    have he : ∀ b ∈ s.f.blocks, ∀ e ∈ b.edges, edgeErr s.f.values (setBlk s.f.blocks k (addI (yV v))) e = 0 := fun b hb' e he => by
      have := edgeErr_mono [] (bs := s.f.blocks) (bs' := setBlk s.f.blocks k (addI (yV v))) (by rw [setBlk_len]; exact Nat.le_refl _) (fun i b hb => setBlk_params (g := addI (yV v)) hk (fun _ => rfl) i b hb) (ok.edg b hb' e he)
      rw [List.append_nil] at this
      exact this
    rw [h1, if_neg (by simp)]
    rcases hmem b hb' with h | rfl
    · rw [if_neg (by have := (ok.two b h).2; omega)]
      exact firstE_all _ _ fun e h2 => he b h e h2
    · rw [if_neg (by simp [addI])]
      exact firstE_all _ _ fun e h2 => he _ (List.getElem_mem hk) e h2
  · have h0 := ok.ent
    have e : firstParams ⟨s.f.values, setBlk s.f.blocks k (addI (yV v))⟩ = 0 := by
      rw [firstParams_eq _ (by simp [setBlk_len]; omega)]
      have e2 : (setBlk s.f.blocks k (addI (yV v)))[0]'(by rw [setBlk_len]; exact hpos) = if 0 = k then addI (yV v) s.f.blocks[0] else s.f.blocks[0] := by
        simp only [setBlk_eq _ _ _ hk, List.getElem_set]
        split
        · rename_i e3
          subst e3
          simp
        · rename_i e3
          rw [if_neg (fun h => e3 h.symm)]
      have e3 : ((setBlk s.f.blocks k (addI (yV v)))[0]'(by rw [setBlk_len]; exact hpos)).params = s.f.blocks[0].params := by
        rw [e2]
        split <;> rfl
      show ((setBlk s.f.blocks k (addI (yV v)))[0]'(by rw [setBlk_len]; exact hpos)).params.length = 0
      rw [e3, h0 _ (List.getElem?_eq_getElem hpos)]
      rfl
    omega
  · simp only [Bool.not_eq_false]
    rw [List.all_eq_true]
    intro c hc
    unfold isClassB
    have := ok.cls c hc
    simp only [decide_eq_true_eq]
    omega
  · simp only [Bool.not_eq_false]
    unfold sizesB
    simp only [setBlk_len]
    rw [if_neg (by omega)]
    refine sizesGo_ok _ 0 (by omega) (fun b hb' => ?_) (fun b hb' x hx => (hins b hb' x hx).2.2.2)
    unfold blkFits
    simp only [Bool.and_eq_true, decide_eq_true_eq, List.all_eq_true]
    have hpar : b.params.length ≤ 5 ∧ b.instrs.length ≤ 40 ∧ b.edges.length ≤ 3 := by
      rcases hmem b hb' with h | rfl
      · have h1 := ok.par b h
        have h2 := (ok.two b h).1
        have h3 := hin b h
        omega
      · have h1 := ok.par _ (List.getElem_mem hk)
        have h2 := (ok.two _ (List.getElem_mem hk)).1
        have h3 := hin _ (List.getElem_mem hk)
        simp only [addI, List.length_append, List.length_singleton]
        omega
    refine ⟨hpar, fun x hx => ?_⟩
    unfold insFits
    simp only [decide_eq_true_eq]
    have := hins b hb' x hx
    omega
end Go.Proofs.Ytanhfkpphdbaaaa
