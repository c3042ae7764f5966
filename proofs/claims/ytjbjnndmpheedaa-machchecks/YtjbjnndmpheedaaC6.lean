/-
  Who is above whom, told by ways that pass a block by; where what is used was made (P2.2 to P2.4). No Go in here.
-/
import Derived.Test.YtjbjnndmpheedaaF7
import Derived.Test.YtjbjnndmpheedaaF5
namespace Go.Proofs.Ytjbjnndmpheedaa
open Go.RowKit
set_option linter.unusedVariables false

/-- One comes to a block from the first one, and not by way of block a. -/
inductive ReachW (sc : Nat → List Nat) (a : Int) : Nat → Prop
  | zero (h : a ≠ 0) : ReachW sc a 0
  | step {b t : Nat} (h : ReachW sc a b) (ht : t ∈ sc b) (hne : (t : Int) ≠ a) : ReachW sc a t

theorem reachW_all {sc : Nat → List Nat} {t : Nat} : ReachW sc (-1) t ↔ Reach sc t := by
  constructor
  · intro h
    induction h with
    | zero _ => exact .zero
    | step _ ht _ ih => exact .step ih ht
  · intro h
    induction h with
    | zero => exact .zero (by omega)
    | step _ ht ih => exact .step ih ht (by omega)
theorem succ_in {bs : List Blk} {b t : Nat} (h : t ∈ succM bs b) : b < bs.length := by
  rcases Nat.lt_or_ge b bs.length with h1 | h1
  · exact h1
  · unfold succM at h
    simp [List.getD, h1] at h
/-- What the tree tells is what ways tell. -/
theorem above_iff {bs : List Blk} (hpos : 0 < bs.length) (hsc : ∀ b t, t ∈ succM bs b → t < bs.length) (hlen : bs.length ≤ (orderM bs).length) {K : Nat} (hK : 0 < K) (hf : FixAt (predsL bs) (orderM bs) bs.length K) {a : Int} {b : Nat} (ha : 0 ≤ a) (hb : b < bs.length) :
    domM (roundsM (predL (predsL bs)) (orderM bs) bs.length K) (bs.length + 1) a b = true ↔ ¬ ReachW (succM bs) a b := by
  have g := gr_of bs hpos hsc hlen
  have h0 := order_first bs hpos hsc
  rw [dom_end g hK ha (by omega) (by omega)]
  constructor
  · intro hu hr
    have hB := fix_back g hK hf
    have go : ∀ t, ReachW (succM bs) a t → t < bs.length → ¬ Up ((orderM bs).getD 0 0) (roundsM (predL (predsL bs)) (orderM bs) bs.length K) (t : Int) a := by
      intro t h
      induction h with
      | zero hne =>
        intro _ hx
        have h2 := hB.top a
        simp only [h0] at h2 hx
        exact hne (h2 hx)
      | step hr' ht hne ih =>
        rename_i b' t'
        intro hlt hx
        have hb' := succ_in ht
        refine ih hb' ?_
        refine hB.back a t' b' (by omega) (by omega) hx (fun e => hne e.symm) ?_
        refine (mem_preds (by simpa using hlt)).2 ⟨by omega, by omega, ?_⟩
        simpa using ht
    exact go b hr hb hu
  · intro hr
    obtain ⟨t, rfl⟩ : ∃ t, K = t + 1 := ⟨K - 1, by omega⟩
    have hR : Back bs.length (predsL bs) ((orderM bs).getD 0 0) (fun x v => ¬ ReachW (succM bs) x v.toNat) := by
      refine ⟨fun x v p v0 v1 h hxv hp hq => h ?_, fun x h => ?_⟩
      · obtain ⟨p0, p1, p2⟩ := (mem_preds (by omega)).1 hp
        exact .step hq p2 (by omega)
      · rw [h0] at h ⊢
        apply Classical.byContradiction
        intro hne
        exact h (.zero hne)
    exact back_up g hR t (rankM (orderM bs) b).toNat b a (by omega) (by omega) (by simp; omega) (by simpa using hr)

/-- What was made there is made ahead of where it is used. -/
def AheadR (sc : Nat → List Nat) (s u : Spot) : Prop := (s.1 = u.1 ∧ s.2 < u.2) ∨ (s.1 ≠ u.1 ∧ ¬ ReachW sc s.1 u.1.toNat)
theorem ahead_iff {bs : List Blk} (hpos : 0 < bs.length) (hsc : ∀ b t, t ∈ succM bs b → t < bs.length) (hlen : bs.length ≤ (orderM bs).length) {K : Nat} (hK : 0 < K) (hf : FixAt (predsL bs) (orderM bs) bs.length K) {s : Spot} {b i : Nat} (hs : 0 ≤ s.1) (hb : b < bs.length) :
    aheadM (roundsM (predL (predsL bs)) (orderM bs) bs.length K) bs.length s ((b : Int), (i : Int)) = true ↔ AheadR (succM bs) s ((b : Int), (i : Int)) := by
  unfold aheadM AheadR
  by_cases h : s.1 = (b : Int)
  · simp [h]
  · simp only [h, if_false, false_and, false_or, true_and, ne_eq, not_false_eq_true, Int.toNat_natCast]
    exact above_iff hpos hsc hlen hK hf hs hb

theorem spU_mem {bs : List Blk} {k : Nat} {v : Int} {sp : Spot} (h : (v, sp) ∈ spU bs k) : ∃ b, b < k ∧ sp.1 = (b : Int) := by
  unfold spU at h
  obtain ⟨b, hb, h⟩ := List.mem_flatMap.1 h
  refine ⟨b, List.mem_range.1 hb, ?_⟩
  unfold blkSp at h
  rcases List.mem_append.1 h with h | h
  · unfold parSp at h
    obtain ⟨u, _, hu⟩ := List.mem_map.1 h
    cases hu
    rfl
  · unfold insSpU at h
    obtain ⟨i, _, h⟩ := List.mem_flatMap.1 h
    unfold insSp at h
    obtain ⟨u, _, hu⟩ := List.mem_map.1 h
    cases hu
    rfl
theorem made_some {f : Fn} {m0 m1 : Int} (h : ShapeIn f m0 m1) {v : Int} (hv : isValueB f.values.length v = true) : ∃ sp, (v, sp) ∈ spU f.blocks f.blocks.length := by
  have hv' := isValue_bd hv
  have hnd := (marks_free _ _ _ h.mks).2
  have hval := marks_val _ _ _ h.mks
  have hm : v ∈ allM f.blocks := by
    have hn2 : ((allM f.blocks).map Int.toNat).Nodup := by
      have gen : ∀ l : List Int, (∀ u ∈ l, 0 ≤ u) → l.Nodup → (l.map Int.toNat).Nodup := by
        intro l
        induction l with
        | nil => intro _ _; simp
        | cons x r ih =>
          intro hp hd
          rw [List.nodup_cons] at hd
          rw [List.map_cons, List.nodup_cons]
          refine ⟨fun hc => ?_, ih (fun u hu => hp u (List.mem_cons_of_mem _ hu)) hd.2⟩
          obtain ⟨u, hu, he⟩ := List.mem_map.1 hc
          have h1 := hp u (List.mem_cons_of_mem _ hu)
          have h2 := hp x List.mem_cons_self
          have : u = x := by omega
          subst this
          exact hd.1 hu
      exact gen _ (fun u hu => (isValue_bd (hval u hu)).1) hnd
    have hall := all_of_full hn2 (n := f.values.length) (fun x hx => by
      obtain ⟨u, hu, he⟩ := List.mem_map.1 hx
      have := isValue_bd (hval u hu)
      omega) (by simpa using h.all) v.toNat (by omega)
    obtain ⟨u, hu, he⟩ := List.mem_map.1 hall
    have := isValue_bd (hval u hu)
    have e : u = v := by omega
    rw [← e]
    exact hu
  rw [← sp_vals] at hm
  obtain ⟨⟨u, sp⟩, hu, he⟩ := List.mem_map.1 hm
  cases he
  exact ⟨sp, hu⟩

/-- How the document's answer looks for the ways: what was found so far. -/
structure Found (sc : Nat → List Nat) (a : Int) (n : Nat) (R : Nat → Bool) : Prop where
  only : ∀ t, t < n → R t = true → ReachW sc a t
  first : a ≠ 0 → R 0 = true
theorem Found.up {sc : Nat → List Nat} {a : Int} {n : Nat} {R : Nat → Bool} (h : Found sc a n R) {b t : Nat} (hb : b < n) (hR : R b = true) (ht : t ∈ sc b) (hne : (t : Int) ≠ a) : Found sc a n (upB R t true) := by
  refine ⟨fun u hu hr => ?_, fun h0 => ?_⟩
  · unfold upB at hr
    by_cases e : u = t
    · rw [e]
      exact .step (h.only b hb hR) ht hne
    · rw [if_neg e] at hr
      exact h.only u hu hr
  · unfold upB
    by_cases e : 0 = t
    · rw [if_pos e]
    · rw [if_neg e]
      exact h.first h0
/-- Nothing more is found. -/
def ShutW (sc : Nat → List Nat) (a : Int) (R : Nat → Bool) (b : Nat) : Prop := R b = true → ∀ t ∈ sc b, (t : Int) ≠ a → R t = true
theorem Found.end {sc : Nat → List Nat} {a : Int} {n : Nat} {R : Nat → Bool} (h : Found sc a n R) (hsc : ∀ b t, t ∈ sc b → b < n) (hc : ∀ b, b < n → ShutW sc a R b) (t : Nat) (ht : t < n) : R t = true ↔ ReachW sc a t := by
  constructor
  · exact h.only t ht
  · intro hr
    clear ht
    induction hr with
    | zero h0 => exact h.first h0
    | step _ hm hne ih => exact hc _ (hsc _ _ hm) ih _ hm hne
/-- How many are not found yet. -/
def unfB (n : Nat) (R : Nat → Bool) : Nat := (List.range n).countP fun t => !R t
theorem unfB_up {n : Nat} {R : Nat → Bool} {t : Nat} (ht : t < n) (h : R t = false) : unfB n (upB R t true) < unfB n R := by
  unfold unfB
  have gen : ∀ l : List Nat, l.countP (fun u => !upB R t true u) ≤ l.countP (fun u => !R u) ∧ (t ∈ l → l.countP (fun u => !upB R t true u) < l.countP (fun u => !R u)) := by
    intro l
    induction l with
    | nil => simp
    | cons x r ih =>
      by_cases e : x = t
      · subst e
        have e1 : (upB R x true x) = true := by unfold upB; rw [if_pos rfl]
        rw [List.countP_cons_of_neg (by simp [e1]), List.countP_cons_of_pos (by simp [h])]
        exact ⟨by omega, fun _ => by omega⟩
      · have e1 : (upB R t true x) = R x := by unfold upB; rw [if_neg e]
        cases hx : R x
        · rw [List.countP_cons_of_pos (by simp [e1, hx]), List.countP_cons_of_pos (by simp [hx])]
          refine ⟨by omega, fun hm => ?_⟩
          rcases List.mem_cons.1 hm with hm | hm
          · exact absurd hm.symm e
          · have := ih.2 hm; omega
        · rw [List.countP_cons_of_neg (by simp [e1, hx]), List.countP_cons_of_neg (by simp [hx])]
          refine ⟨ih.1, fun hm => ?_⟩
          rcases List.mem_cons.1 hm with hm | hm
          · exact absurd hm.symm e
          · exact ih.2 hm
  exact (gen _).2 (List.mem_range.2 ht)
theorem unfB_congr {n : Nat} {R R' : Nat → Bool} (h : ∀ t, t < n → R t = R' t) : unfB n R = unfB n R' := by
  unfold unfB
  refine List.countP_congr fun t ht => ?_
  rw [h t (List.mem_range.1 ht)]
end Go.Proofs.Ytjbjnndmpheedaa
