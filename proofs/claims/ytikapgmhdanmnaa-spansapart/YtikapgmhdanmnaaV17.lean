/-
  How stays lie within their block, where each use is of what is there. No Go in here.
-/
import Derived.Test.YtikapgmhdanmnaaV16
namespace Go.Proofs.Ytikapgmhdanmnaa
open Go.RowKit
set_option linter.unusedVariables false

/-- A stay between two points. -/
def Hs (lo hi : Int) (x : Sp) : Prop := lo ≤ x.1 ∧ x.1 < x.2 ∧ x.2 ≤ hi
def Zs (lo hi : Int) (x : Sp) : Prop := x = (0, 0) ∨ Hs lo hi x
theorem opr_keep {lo hi early : Int} {s : Nat → Sp} {o : Opr} (h1 : lo ≤ early) (h2 : early + 2 ≤ hi) {u : Nat} (h : Hs lo hi (s u)) : Hs lo hi (stOpr early s o u) := by
  unfold stOpr
  have hp : (if o.late = true then early + 1 else early) ≤ early + 1 ∧ early ≤ (if o.late = true then early + 1 else early) := by split <;> omega
  generalize (if o.late = true then early + 1 else early) = p at *
  split
  · unfold upS
    split
    · exact ⟨by simp only; omega, by simp only; omega, by simp only; omega⟩
    · exact h
  · unfold upS
    split
    · rename_i e
      rw [← e]
      obtain ⟨a1, a2, a3⟩ := h
      exact ⟨a1, by simp only; omega, by simp only; omega⟩
    · exact h
theorem opr_def {lo hi early : Int} {s : Nat → Sp} {o : Opr} (h1 : lo ≤ early) (h2 : early + 2 ≤ hi) (hk : o.kind = 2) : Hs lo hi (stOpr early s o o.value.toNat) := by
  unfold stOpr
  have hp : (if o.late = true then early + 1 else early) ≤ early + 1 ∧ early ≤ (if o.late = true then early + 1 else early) := by split <;> omega
  generalize (if o.late = true then early + 1 else early) = p at *
  rw [if_pos hk]
  unfold upS
  rw [if_pos rfl]
  exact ⟨by simp only; omega, by simp only; omega, by simp only; omega⟩
theorem opr_zero {lo hi early : Int} {s : Nat → Sp} {o : Opr} (h1 : lo ≤ early) (h2 : early + 2 ≤ hi) (hu : ¬ o.kind = 2 → Hs lo hi (s o.value.toNat)) {u : Nat} (h : Zs lo hi (s u)) : Zs lo hi (stOpr early s o u) := by
  rcases h with h | h
  · by_cases e : u = o.value.toNat
    · subst e
      by_cases hk : o.kind = 2
      · exact Or.inr (opr_def h1 h2 hk)
      · exact Or.inr (opr_keep h1 h2 (hu hk))
    · left
      unfold stOpr
      split <;> (unfold upS; rw [if_neg e]; exact h)
  · exact Or.inr (opr_keep h1 h2 h)
theorem oprs_keep {lo hi early : Int} (h1 : lo ≤ early) (h2 : early + 2 ≤ hi) {u : Nat} : ∀ (os : List Opr) (s : Nat → Sp), Hs lo hi (s u) → Hs lo hi (stOprs early s os u)
  | [], s, h => h
  | o :: r, s, h => oprs_keep h1 h2 r (stOpr early s o) (opr_keep h1 h2 h)
theorem oprs_def {lo hi early : Int} (h1 : lo ≤ early) (h2 : early + 2 ≤ hi) {u : Nat} : ∀ (os : List Opr) (s : Nat → Sp), (∀ o ∈ os, 0 ≤ o.value) → (u : Int) ∈ oprM os → Hs lo hi (stOprs early s os u)
  | [], s, _, h => by cases h
  | o :: r, s, h0, h => by
    by_cases hk : o.kind = 2
    · rw [oprM_def o r hk] at h
      rcases List.mem_cons.1 h with h | h
      · have e : o.value.toNat = u := by omega
        have := opr_def (s := s) h1 h2 hk
        rw [e] at this
        exact oprs_keep h1 h2 r (stOpr early s o) this
      · exact oprs_def h1 h2 r _ (fun q hq => h0 q (List.mem_cons_of_mem _ hq)) h
    · rw [oprM_use o r hk] at h
      exact oprs_def h1 h2 r _ (fun q hq => h0 q (List.mem_cons_of_mem _ hq)) h
theorem oprs_zero {lo hi early : Int} (h1 : lo ≤ early) (h2 : early + 2 ≤ hi) {u : Nat} : ∀ (os : List Opr) (s : Nat → Sp), (∀ o ∈ os, ¬ o.kind = 2 → Hs lo hi (s o.value.toNat)) → Zs lo hi (s u) → Zs lo hi (stOprs early s os u)
  | [], s, _, h => h
  | o :: r, s, hu, h => oprs_zero h1 h2 r (stOpr early s o) (fun q hq hk => opr_keep h1 h2 (hu q (List.mem_cons_of_mem _ hq) hk)) (opr_zero h1 h2 (hu o List.mem_cons_self) h)
theorem par_keep {lo hi fst : Int} (h1 : lo ≤ fst) (h2 : fst + 1 ≤ hi) {u : Nat} : ∀ (ps : List Int) (s : Nat → Sp), Hs lo hi (s u) → Hs lo hi (stPar fst s ps u)
  | [], s, h => h
  | v :: r, s, h => par_keep h1 h2 r (upS s v.toNat (fst, fst + 1)) (by
    unfold upS
    split
    · exact ⟨h1, by simp only; omega, h2⟩
    · exact h)
theorem par_def {lo hi fst : Int} (h1 : lo ≤ fst) (h2 : fst + 1 ≤ hi) {u : Nat} : ∀ (ps : List Int) (s : Nat → Sp), (∀ v ∈ ps, 0 ≤ v) → (u : Int) ∈ ps → Hs lo hi (stPar fst s ps u)
  | [], s, _, h => by cases h
  | v :: r, s, h0, h => by
    rcases List.mem_cons.1 h with h | h
    · refine par_keep h1 h2 r (upS s v.toNat (fst, fst + 1)) ?_
      unfold upS
      rw [if_pos (by omega)]
      exact ⟨h1, by simp only; omega, h2⟩
    · exact par_def h1 h2 r _ (fun q hq => h0 q (List.mem_cons_of_mem _ hq)) h
theorem par_zero {lo hi fst : Int} (h1 : lo ≤ fst) (h2 : fst + 1 ≤ hi) {u : Nat} : ∀ (ps : List Int) (s : Nat → Sp), Zs lo hi (s u) → Zs lo hi (stPar fst s ps u)
  | [], s, h => h
  | v :: r, s, h => par_zero h1 h2 r (upS s v.toNat (fst, fst + 1)) (by
    unfold upS
    split
    · exact Or.inr ⟨h1, by simp only; omega, h2⟩
    · exact h)
/-- Through the instructions: what is there stays there, what is made is there. -/
theorem ins_all {lo hi fst : Int} {s : Nat → Sp} {is : List Ins} (h1 : lo ≤ fst) (h2 : fst + 1 + 2 * (is.length : Int) ≤ hi) (h0 : ∀ i ∈ is, ∀ o ∈ i.operands, 0 ≤ o.value) (hu : ∀ (i : Nat) (x : Ins) (o : Opr), is[i]? = some x → o ∈ x.operands → ¬ o.kind = 2 → Hs lo hi (s o.value.toNat) ∨ ∃ (i' : Nat) (x' : Ins), i' < i ∧ is[i']? = some x' ∧ o.value ∈ oprM x'.operands) :
    ∀ k, k ≤ is.length → (∀ u, Hs lo hi (s u) → Hs lo hi (stIns fst s is k u)) ∧ (∀ (i : Nat) (x : Ins) (u : Nat), i < k → is[i]? = some x → (u : Int) ∈ oprM x.operands → Hs lo hi (stIns fst s is k u)) ∧ ∀ u, Zs lo hi (s u) → Zs lo hi (stIns fst s is k u)
  | 0, _ => ⟨fun u h => h, fun i x u hi => by omega, fun u h => h⟩
  | k + 1, hk => by
    obtain ⟨g1, g2, g3⟩ := ins_all h1 h2 h0 hu k (by omega)
    have hkl : k < is.length := by omega
    rw [stIns_succ fst s is k hkl]
    have e1 : lo ≤ fst + 1 + 2 * (k : Int) := by omega
    have e2 : fst + 1 + 2 * (k : Int) + 2 ≤ hi := by omega
    have hge : is[k]? = some is[k] := List.getElem?_eq_getElem hkl
    refine ⟨fun u h => oprs_keep e1 e2 _ _ (g1 u h), fun i x u hi hx hm => ?_, fun u h => oprs_zero e1 e2 _ _ (fun o ho hk2 => ?_) (g3 u h)⟩
    · by_cases e : i = k
      · subst e
        rw [hge] at hx
        simp only [Option.some.injEq] at hx
        subst hx
        exact oprs_def e1 e2 _ _ (h0 _ (List.getElem_mem hkl)) hm
      · exact oprs_keep e1 e2 _ _ (g2 i x u (by omega) hx hm)
    · rcases hu k is[k] o hge ho hk2 with h | ⟨i', x', hi', hx', hm⟩
      · exact g1 _ h
      · have hv := h0 _ (List.getElem_mem hkl) o ho
        have : ((o.value.toNat : Nat) : Int) = o.value := by omega
        exact g2 i' x' o.value.toNat hi' hx' (by rw [this]; exact hm)
end Go.Proofs.Ytikapgmhdanmnaa
