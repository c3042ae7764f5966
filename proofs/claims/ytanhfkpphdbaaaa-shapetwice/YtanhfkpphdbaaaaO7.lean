/-
  What is done with a function that is one's own: a value more, an instruction more; and which place 'spot' finds.
-/
import Derived.Test.YtanhfkpphdbaaaaO3
import Derived.Test.YtanhfkpphdbaaaaO5
namespace Go.Proofs.Ytanhfkpphdbaaaa
open Go.RowKit
set_option linter.unusedVariables false

section
variable {N : Nat} {κ κ' : Nat → Nat} {w w' wa wb : World} {f : Fn} {vv vb : Value} {bx : Nat → Value × Value × Value} {S : Nat → Prop}
/-- A value more. -/
theorem OwR.pushV {g cap : Nat} {c : Int} (h : OwR N κ w f vv vb bx) (hwa : Below w.heap.size w wa) (hgrow : wa.grownBy wb vv.ownBlock) (hown : wb.ownsRow N 3 1 (.slice (some ⟨g, 0, none⟩) (f.values.length + 1) cap) (f.values.length + 1) (f.values.flatMap cI ++ [.int .i64 c])) (hat : vv.ownBlock = some g ∨ g = wa.heap.size) :
    OwR N (upK κ g 2) wb ⟨f.values ++ [c], f.blocks⟩ (.slice (some ⟨g, 0, none⟩) (f.values.length + 1) cap) vb bx ∧ Only (fun r => r = 2) κ (upK κ g 2) w wb := by
  have hza := hwa.size
  have hz1 := hgrow.size
  have hgl : g < wb.heap.size := (own_base hown (g := g) rfl).2
  have hg : (g < w.heap.size ∧ κ g = 2) ∨ w.heap.size ≤ g := by
    rcases hat with e | e
    · exact Or.inl ⟨(own_base h.ov e).2, h.kv g e⟩
    · right; omega
  have ho : Only (fun r => r = 2) κ (upK κ g 2) w wb := ((Only.of_below hwa).grown hgrow fun q hq => Or.inr (h.kv q hq)).tag (upK_old hg)
  have o2 := own_only h.ob h.kb ho (by omega)
  refine ⟨⟨?_, fun q hq => ?_, o2.1, o2.2, fun j hj => (h.blk j hj).only ho (by omega) (by omega) (by omega), fun b hb => ?_, fun b hb => ?_, Nat.le_trans h.szN ho.size⟩, ho⟩
  · simp only [List.length_append, List.length_singleton, List.flatMap_append]
    exact hown
  · simp [Value.ownBlock] at hq
    simp [upK, hq]
  · unfold upK
    rw [if_neg (by omega)]
    exact h.fresh b (by omega)
  · rw [ho.role b (by have := h.szN; omega)]
    exact h.lowN b hb
/-- An instruction more in block c. -/
theorem OwR.pushI {gb cb c g cap : Nat} {x : Ins} {vo vs : Value} (h : OwR N κ w f vv (.slice (some ⟨gb, 0, none⟩) f.blocks.length cb) bx) (hc : c < f.blocks.length) (hwa : Below w.heap.size w wa) (hgrow : wa.grownBy wb (bx c).2.1.ownBlock)
    (L : List (Ins × Value × Value)) (hL : L.map (·.1) = f.blocks[c].instrs) (hLs : ∀ p ∈ L, SlK κ w 5 ROpr p.2.1 p.1.operands ∧ SlK κ w 2 RRg p.2.2 p.1.spoils)
    (hown : wb.ownsRow N 41 3 (.slice (some ⟨g, 0, none⟩) (L.length + 1) cap) (L.length + 1) (L.flatMap cX ++ [.int .i64 x.op, vo, vs])) (hat : (bx c).2.1.ownBlock = some g ∨ g = wa.heap.size) (h5 : SlK κ wa 5 ROpr vo x.operands) (h2 : SlK κ wa 2 RRg vs x.spoils) :
    OwR N (upK κ g (6 + 2 * c)) (wb.setCell ⟨gb, c * 3 + 1, none⟩ (.slice (some ⟨g, 0, none⟩) (L.length + 1) cap)) ⟨f.values, setBlk f.blocks c (addI x)⟩ vv (.slice (some ⟨gb, 0, none⟩) f.blocks.length cb) (fun j => if j = c then ((bx j).1, .slice (some ⟨g, 0, none⟩) (L.length + 1) cap, (bx j).2.2) else bx j) ∧
    Only (fun r => r = 4 ∨ r = 6 + 2 * c) κ (upK κ g (6 + 2 * c)) w (wb.setCell ⟨gb, c * 3 + 1, none⟩ (.slice (some ⟨g, 0, none⟩) (L.length + 1) cap)) := by
  have hB := h.blk c hc
  have hza := hwa.size
  have hz1 := hgrow.size
  obtain ⟨L0, hL0, hown0, _⟩ := hB.ins
  have hg : (g < w.heap.size ∧ κ g = 6 + 2 * c) ∨ w.heap.size ≤ g := by
    rcases hat with e | e
    · exact Or.inl ⟨(own_base hown0 e).2, hB.ki g e⟩
    · right; omega
  have hga : (g < wa.heap.size ∧ κ g = 6 + 2 * c) ∨ wa.heap.size ≤ g := by
    rcases hat with e | e
    · exact Or.inl ⟨by have := (own_base hown0 e).2; omega, hB.ki g e⟩
    · right; omega
  have hgl : g < wb.heap.size := (own_base hown (g := g) rfl).2
  have kgb : κ gb = 4 := h.kb gb rfl
  have lgb : gb < w.heap.size := (own_base h.ob (g := gb) rfl).2
  have o1 : Only (fun r => r = 4 ∨ r = 6 + 2 * c) κ (upK κ g (6 + 2 * c)) w wb := ((Only.of_below hwa).grown hgrow fun q hq => Or.inr (by rw [hB.ki q hq]; omega)).tag (upK_old hg)
  have hO := o1.set (a := gb) (Or.inr (by rw [kgb]; omega)) (c * 3 + 1) (.slice (some ⟨g, 0, none⟩) (L.length + 1) cap)
  have oa : Only (fun r => r = 4 ∨ r = 6 + 2 * c) κ (upK κ g (6 + 2 * c)) wa wb := ((Only.refl _ _ _).grown hgrow fun q hq => Or.inr (by rw [hB.ki q hq]; omega)).tag (upK_old hga)
  have hOa := oa.set (a := gb) (Or.inr (by rw [kgb]; omega)) (c * 3 + 1) (.slice (some ⟨g, 0, none⟩) (L.length + 1) cap)
  have hgb : gb ≠ g := fun e => by
    rcases hg with h1 | h1
    · rw [← e, kgb] at h1; omega
    · omega
  have o2 := own_only h.ov h.kv hO (by omega)
  have hgbB : some gb ≠ (bx c).2.1.ownBlock := fun e => by have := hB.ki gb e.symm; rw [kgb] at this; omega
  refine ⟨⟨o2.1, o2.2, ?_, fun g' hg' => ?_, fun i hi => ?_, fun b hb => ?_, fun b hb => ?_, Nat.le_trans h.szN hO.size⟩, hO⟩
  · have hob1 : wb.ownsRow N 45 3 (.slice (some ⟨gb, 0, none⟩) f.blocks.length cb) f.blocks.length ((List.range f.blocks.length).flatMap fun j => c3 (bx j)) := own_keep h.ob fun b hb _ hlt => by
      simp [Value.ownBlock] at hb
      subst hb
      exact (hgrow.block gb (by omega) hgbB).trans (hwa.block gb hlt)
    have := own_set3 hob1 (c * 3 + 1) (.slice (some ⟨g, 0, none⟩) (L.length + 1) cap)
    rw [flat3_set bx _ 1 (by omega) (fun x => (x.1, .slice (some ⟨g, 0, none⟩) (L.length + 1) cap, x.2.2)) (fun _ => rfl) c f.blocks.length hc] at this
    simp only [setBlk_len]
    exact this
  · simp [Value.ownBlock] at hg'
    rw [hO.role g' (by rw [← hg']; exact lgb), ← hg']
    exact kgb
  · have hi2 : i < f.blocks.length := by simpa [setBlk_len] using hi
    simp only [setBlk_eq _ _ _ hc]
    by_cases e : i = c
    · subst e
      simp only [if_true, List.getElem_set_self]
      obtain ⟨M, m1, m2, m3⟩ := hB.edg
      have he := own_only m2 hB.ke hO (by omega)
      refine ⟨hB.par.only hO (by omega), ⟨L ++ [(x, vo, vs)], ?_, ?_, fun p hp => ?_⟩, fun g' hg' => ?_, ⟨M, m1, he.1, fun p hp => (m3 p hp).only hO (by omega)⟩, he.2⟩
      · rw [List.map_append, hL]
        rfl
      · rw [List.length_append, List.flatMap_append]
        exact own_keep hown fun b hb _ _ => Below.heap_setCell _ _ _ _ (by simp [Value.ownBlock] at hb; simp; omega)
      · rcases List.mem_append.1 hp with hp | hp
        · exact ⟨(hLs p hp).1.only hO (by omega), (hLs p hp).2.only hO (by omega)⟩
        · rw [List.mem_singleton.1 hp]
          exact ⟨h5.only hOa (by omega), h2.only hOa (by omega)⟩
      · simp [Value.ownBlock] at hg'
        simp [upK, hg']
    · simp only [if_neg e]
      rw [List.getElem_set_ne (fun h => e h.symm)]
      exact (h.blk i hi2).only hO (by omega) (by omega) (by omega)
  · have hb' : wb.heap.size ≤ b := by simpa [World.setCell] using hb
    unfold upK
    rw [if_neg (by omega)]
    exact h.fresh b (by omega)
  · rw [hO.role b (by have := h.szN; omega)]
    exact h.lowN b hb
end
/-- The place is there. -/
theorem spotGo_in : ∀ (bs : List Blk) (b : Nat) (k : Int), 0 ≤ k → k < (totI bs : Int) → ∃ (j i : Nat) (hj : j < bs.length), spotGo bs b k = (((b + j : Nat) : Int), (i : Int)) ∧ i < bs[j].instrs.length
  | [], b, k, h0, h1 => by simp [totI] at h1; omega
  | x :: r, b, k, h0, h1 => by
    simp only [spotGo]
    by_cases hk : k < (x.instrs.length : Int)
    · rw [if_pos hk]
      refine ⟨0, k.toNat, by simp, ?_, ?_⟩
      · rw [Int.toNat_of_nonneg h0]
        simp
      · simp
        omega
    · rw [if_neg hk]
      have ht : (totI (x :: r) : Int) = (x.instrs.length : Int) + (totI r : Int) := by simp [totI]
      obtain ⟨j, i, hj, e, hi⟩ := spotGo_in r (b + 1) (k - (x.instrs.length : Int)) (by omega) (by omega)
      refine ⟨j + 1, i, by simpa using hj, ?_, by simpa using hi⟩
      rw [e]
      simp
      omega
theorem spotM_in (bs : List Blk) (n : Int) (h : 1 ≤ totI bs) : ∃ (j i : Nat) (hj : j < bs.length), spotM bs n = ((j : Int), (i : Int)) ∧ i < bs[j].instrs.length := by
  have hm : max (totI bs : Int) 1 = (totI bs : Int) := by omega
  have hp := pickedOf_bd n (totI bs : Int) (by omega)
  obtain ⟨j, i, hj, e, hi⟩ := spotGo_in bs 0 (pickedOf n (totI bs : Int)) hp.1 hp.2
  refine ⟨j, i, hj, ?_, hi⟩
  unfold spotM
  rw [hm, e]
  simp
/-- The last value that an instruction makes. -/
def lastDef (os : List Opr) : Int := os.foldl (fun v o => if o.kind = 2 then o.value else v) 0
theorem lastDef_snoc (os : List Opr) (o : Opr) : lastDef (os ++ [o]) = if o.kind = 2 then o.value else lastDef os := by
  unfold lastDef
  rw [List.foldl_append]
  rfl
theorem lastDef_mem (os : List Opr) (h : oprM os ≠ []) : lastDef os ∈ oprM os := by
  have key : ∀ (l : List Opr) (v : Int), l.foldl (fun v o => if o.kind = 2 then o.value else v) v ∈ oprM l ∨ (oprM l = [] ∧ l.foldl (fun v o => if o.kind = 2 then o.value else v) v = v) := fun l => by
    induction l with
    | nil => intro v; exact Or.inr ⟨rfl, rfl⟩
    | cons o r ih =>
      intro v
      rw [List.foldl_cons]
      by_cases hk : o.kind = 2
      · rw [if_pos hk]
        have e : oprM (o :: r) = o.value :: oprM r := by simp [oprM, hk]
        rw [e]
        rcases ih o.value with h | ⟨_, h⟩
        · exact Or.inl (List.mem_cons_of_mem _ h)
        · rw [h]; exact Or.inl List.mem_cons_self
      · rw [if_neg hk]
        have e : oprM (o :: r) = oprM r := by simp [oprM, hk]
        rw [e]
        exact ih v
  rcases key os 0 with h1 | ⟨h1, _⟩
  · exact h1
  · exact absurd h1 h
end Go.Proofs.Ytanhfkpphdbaaaa
