/-
  A round through the order keeps what is known a tree. No Go in here.
-/
import Derived.Test.YtengmgdnpojfjaaFlowB
namespace Go.Proofs.Ytengmgdnpojfjaa
open Go.RowKit
set_option linter.unusedVariables false

/-- An order of all blocks in which each but the first has an edge from one ahead of it. -/
structure Gr (n : Nat) (preds : List (List Int)) (order : List Int) : Prop where
  pos : 0 < n
  len : preds.length = n
  olen : order.length = n
  nod : order.Nodup
  rng : ∀ x ∈ order, 0 ≤ x ∧ x < (n : Int)
  all : ∀ a : Int, 0 ≤ a → a < n → a ∈ order
  inn : ∀ t : Nat, ∀ p ∈ preds.getD t [], 0 ≤ p ∧ p < (n : Int)
  fwd : ∀ i, 0 < i → i < n → ∃ p ∈ preds.getD (order.getD i 0).toNat [], rankM order p.toNat < i

theorem rank_mem {order : List Int} {a : Int} (h0 : 0 ≤ a) : rankM order a.toNat = (order.idxOf a : Nat) := by
  unfold rankM
  rw [Int.toNat_of_nonneg h0]
theorem Gr.rank_at {n : Nat} {preds : List (List Int)} {order : List Int} (h : Gr n preds order) (i : Nat) (hi : i < n) : rankM order (order.getD i 0).toNat = i := by
  have hi' : i < order.length := by rw [h.olen]; exact hi
  have e : order.getD i 0 = order[i] := by rw [List.getD_eq_getElem?_getD, List.getElem?_eq_getElem hi']; rfl
  have h0 := (h.rng _ (List.getElem_mem hi')).1
  rw [e, rank_mem h0, h.nod.idxOf_getElem i hi']
theorem Gr.root {n : Nat} {preds : List (List Int)} {order : List Int} (h : Gr n preds order) : 0 ≤ order.getD 0 0 ∧ order.getD 0 0 < (n : Int) := by
  have hi' : 0 < order.length := by rw [h.olen]; exact h.pos
  have e : order.getD 0 0 = order[0] := by rw [List.getD_eq_getElem?_getD, List.getElem?_eq_getElem hi']; rfl
  rw [e]
  exact h.rng _ (List.getElem_mem hi')
theorem Gr.inj {n : Nat} {preds : List (List Int)} {order : List Int} (h : Gr n preds order) (a b : Int) (a0 : 0 ≤ a) (a1 : a < n) (b0 : 0 ≤ b) (b1 : b < n) (e : rankM order a.toNat = rankM order b.toNat) : a = b := by
  rw [rank_mem a0, rank_mem b0] at e
  have e' : order.idxOf a = order.idxOf b := by omega
  have ha := List.idxOf_lt_length_of_mem (h.all a a0 a1)
  have hb := List.idxOf_lt_length_of_mem (h.all b b0 b1)
  have h1 := List.getElem_idxOf ha
  have h2 := List.getElem_idxOf hb
  rw [← h1, ← h2]
  congr 1
theorem Gr.kt0 {n : Nat} {preds : List (List Int)} {order : List Int} (h : Gr n preds order) : KT n (order.getD 0 0) (rankM order) (fun _ => -1) := by
  refine ⟨fun a ha hne => ?_, fun a b a0 a1 b0 b1 e => h.inj a b a0 a1 b0 b1 e, h.root, fun a a0 a1 => ?_, fun a a0 a1 => ?_⟩
  · rcases ha.2.2 with h1 | h1
    · exact absurd h1 hne
    · exact absurd rfl h1
  · have := h.rank_at 0 h.pos
    rw [this, rank_mem a0]
    omega
  · rw [rank_mem a0]
    have := List.idxOf_lt_length_of_mem (h.all a a0 a1)
    have := h.olen
    omega

/-- What is nearest: known, and not below any of those that are known. -/
theorem near_fold {n : Nat} {root : Int} {rank idom : Nat → Int} (hk : KT n root rank idom) : ∀ (l : List Int) (next : Int), (∀ p ∈ l, 0 ≤ p ∧ p < (n : Int)) → (next = -1 ∨ Kn n root idom next) →
    (l.foldl (nearStep root rank idom n) next = -1 ∨ Kn n root idom (l.foldl (nearStep root rank idom n) next)) ∧
    (next ≠ -1 → l.foldl (nearStep root rank idom n) next ≠ -1 ∧ rank (l.foldl (nearStep root rank idom n) next).toNat ≤ rank next.toNat) ∧
    ∀ p ∈ l, Kn n root idom p → l.foldl (nearStep root rank idom n) next ≠ -1 ∧ rank (l.foldl (nearStep root rank idom n) next).toNat ≤ rank p.toNat
  | [], next, _, hn => ⟨hn, fun h => ⟨h, Int.le_refl _⟩, fun p hp => by simp at hp⟩
  | p :: r, next, hin, hn => by
    have hp := hin p List.mem_cons_self
    have hs := nearStep_kn hk next p hn hp
    have ih := near_fold hk r (nearStep root rank idom n next p) (fun q hq => hin q (List.mem_cons_of_mem _ hq)) hs
    have h1 : next ≠ -1 → nearStep root rank idom n next p ≠ -1 ∧ rank (nearStep root rank idom n next p).toNat ≤ rank next.toNat := by
      intro hne
      have kx := hn.resolve_left hne
      unfold nearStep
      by_cases h : p ≠ root ∧ idom p.toNat = -1
      · rw [if_pos h]; exact ⟨hne, Int.le_refl _⟩
      · rw [if_neg h, if_neg hne]
        have kp : Kn n root idom p := ⟨hp.1, hp.2, by by_cases e : p = root; exact Or.inl e; exact Or.inr fun e2 => h ⟨e, e2⟩⟩
        have r1 := hk.rng _ kx.1 kx.2.1
        have r2 := hk.rng _ kp.1 kp.2.1
        have m := meetM_kn hk (2 * n) _ _ kx kp (by omega)
        exact ⟨by have := m.1.1; omega, m.2.1⟩
    have h2 : Kn n root idom p → nearStep root rank idom n next p ≠ -1 ∧ rank (nearStep root rank idom n next p).toNat ≤ rank p.toNat := by
      intro kp
      unfold nearStep
      rw [if_neg (by rintro ⟨h3, h4⟩; rcases kp.2.2 with h5 | h5; exact h3 h5; exact h5 h4)]
      by_cases hne : next = -1
      · rw [if_pos hne]; exact ⟨by have := kp.1; omega, Int.le_refl _⟩
      · rw [if_neg hne]
        have kx := hn.resolve_left hne
        have r1 := hk.rng _ kx.1 kx.2.1
        have r2 := hk.rng _ kp.1 kp.2.1
        have m := meetM_kn hk (2 * n) _ _ kx kp (by omega)
        exact ⟨by have := m.1.1; omega, m.2.2⟩
    refine ⟨ih.1, fun hne => ?_, fun q hq kq => ?_⟩
    · have a := h1 hne
      have b := ih.2.1 a.1
      exact ⟨b.1, by have := b.2; have := a.2; simp only [List.foldl_cons]; omega⟩
    · rcases List.mem_cons.1 hq with rfl | hq
      · have a := h2 kq
        have b := ih.2.1 a.1
        exact ⟨b.1, by have := b.2; have := a.2; simp only [List.foldl_cons]; omega⟩
      · exact ih.2.2 q hq kq

/-- A block's dominator is set to a known block of lower rank. -/
theorem KT.upd {n : Nat} {root : Int} {rank idom : Nat → Int} (hk : KT n root rank idom) (b next : Int) (b0 : 0 ≤ b) (b1 : b < n) (hbr : b ≠ root) (hn : Kn n root idom next) (hl : rank next.toNat < rank b.toNat) :
    KT n root rank (upI idom b.toNat next) ∧ Kn n root (upI idom b.toNat next) b ∧ ∀ a, Kn n root idom a → Kn n root (upI idom b.toNat next) a := by
  have hne : next ≠ -1 := by have := hn.1; omega
  have kb : Kn n root (upI idom b.toNat next) b := ⟨b0, b1, Or.inr (by simp [upI, hne])⟩
  have keep : ∀ a, Kn n root idom a → Kn n root (upI idom b.toNat next) a := by
    intro a ha
    refine ⟨ha.1, ha.2.1, ?_⟩
    rcases ha.2.2 with h | h
    · exact Or.inl h
    · right
      unfold upI
      split
      · exact hne
      · exact h
  refine ⟨⟨fun a ha har => ?_, hk.inj, hk.rt, hk.low, hk.rng⟩, kb, keep⟩
  by_cases hab : a = b
  · subst hab
    simp only [upI, if_true]
    exact ⟨keep _ hn, hl⟩
  · have hn2 : ¬ a.toNat = b.toNat := by have := ha.1; omega
    have e : upI idom b.toNat next a.toNat = idom a.toNat := by simp [upI, hn2]
    have ka : Kn n root idom a := ⟨ha.1, ha.2.1, ha.2.2.imp id fun h => by rw [e] at h; exact h⟩
    have := hk.up a ka har
    rw [e]
    exact ⟨keep _ this.1, this.2⟩

/-- One step of a round. -/
def stepR (pred : Nat → List Int) (root : Int) (rank : Nat → Int) (n : Nat) (idom : Nat → Int) (b : Int) : Nat → Int := upI idom b.toNat (nearM root rank idom n (pred b.toNat))
theorem roundM_eq (pred : Nat → List Int) (root : Int) (rank : Nat → Int) (n : Nat) (bs : List Int) (idom : Nat → Int) : roundM pred root rank n bs idom = bs.foldl (stepR pred root rank n) idom := rfl

/-- What holds where j blocks behind the first have been gone through. -/
structure RI (n : Nat) (order : List Int) (idom : Nat → Int) (j : Nat) : Prop where
  kt : KT n (order.getD 0 0) (rankM order) idom
  kn : ∀ i, i < j + 1 → i < n → Kn n (order.getD 0 0) idom (order.getD i 0)
  rt : idom (order.getD 0 0).toNat = -1
  out : ∀ i, n ≤ i → idom i = -1
def predL (preds : List (List Int)) (t : Nat) : List Int := preds.getD t []
theorem Gr.getD_ne {n : Nat} {preds : List (List Int)} {order : List Int} (h : Gr n preds order) (i j : Nat) (hi : i < n) (hj : j < n) (hij : i ≠ j) : order.getD i 0 ≠ order.getD j 0 := by
  intro e
  have h1 := h.rank_at i hi
  have h2 := h.rank_at j hj
  rw [e, h2] at h1
  omega
theorem Gr.getD_rng {n : Nat} {preds : List (List Int)} {order : List Int} (h : Gr n preds order) (i : Nat) (hi : i < n) : 0 ≤ order.getD i 0 ∧ order.getD i 0 < (n : Int) := by
  have hi' : i < order.length := by rw [h.olen]; exact hi
  have e : order.getD i 0 = order[i] := by rw [List.getD_eq_getElem?_getD, List.getElem?_eq_getElem hi']; rfl
  rw [e]
  exact h.rng _ (List.getElem_mem hi')
theorem RI.start {n : Nat} {preds : List (List Int)} {order : List Int} (h : Gr n preds order) : RI n order (fun _ => -1) 0 := by
  refine ⟨h.kt0, fun i hi _ => ?_, rfl, fun _ _ => rfl⟩
  have : i = 0 := by omega
  subst this
  exact ⟨h.root.1, h.root.2, Or.inl rfl⟩
theorem RI.again {n j : Nat} {order : List Int} {idom : Nat → Int} (h : RI n order idom j) : RI n order idom 0 := ⟨h.kt, fun i hi hn => h.kn i (by omega) hn, h.rt, h.out⟩
/-- The block behind the first j + 1 is gone through. -/
theorem RI.step {n j : Nat} {preds : List (List Int)} {order : List Int} {idom : Nat → Int} (h : RI n order idom j) (g : Gr n preds order) (hj : j + 1 < n) : RI n order (stepR (predL preds) (order.getD 0 0) (rankM order) n idom (order.getD (j + 1) 0)) (j + 1) := by
  obtain ⟨p, hp, hr⟩ := g.fwd (j + 1) (by omega) hj
  have hpi := g.inn _ p hp
  have hpo : order.getD (order.idxOf p) 0 = p := by
    have hm := List.idxOf_lt_length_of_mem (g.all p hpi.1 hpi.2)
    rw [List.getD_eq_getElem?_getD, List.getElem?_eq_getElem hm]
    exact List.getElem_idxOf hm
  have hlt : order.idxOf p < j + 1 := by rw [rank_mem hpi.1] at hr; omega
  have kp : Kn n (order.getD 0 0) idom p := by rw [← hpo]; exact h.kn _ hlt (by omega)
  have nf := near_fold h.kt (preds.getD (order.getD (j + 1) 0).toNat []) (-1) (g.inn _) (Or.inl rfl)
  have np := nf.2.2 p hp kp
  have kx := nf.1.resolve_left np.1
  have hb := g.getD_rng (j + 1) hj
  have hbr := g.getD_ne (j + 1) 0 hj (by omega) (by omega)
  have hrk := g.rank_at (j + 1) hj
  have u := h.kt.upd (order.getD (j + 1) 0) _ hb.1 hb.2 hbr kx (by rw [hrk]; have := np.2; omega)
  have r0 := g.root
  refine ⟨u.1, fun i hi hn => ?_, ?_, fun i hi => ?_⟩
  · by_cases e : i = j + 1
    · subst e; exact u.2.1
    · exact u.2.2 _ (h.kn i (by omega) hn)
  · show upI _ _ _ _ = _
    have hne : ¬ (order.getD 0 0).toNat = (order.getD (j + 1) 0).toNat := by omega
    unfold upI
    rw [if_neg hne]
    exact h.rt
  · show upI _ _ _ _ = _
    have hne : ¬ i = (order.getD (j + 1) 0).toNat := by omega
    unfold upI
    rw [if_neg hne]
    exact h.out i hi
theorem RI.domOk {n j : Nat} {preds : List (List Int)} {order : List Int} {idom : Nat → Int} (h : RI n order idom j) (g : Gr n preds order) (hj : n ≤ j + 1) : DomOk n (rankM order) idom := by
  refine ⟨fun a a0 a1 => ?_, h.kt.rng⟩
  by_cases e : a = order.getD 0 0
  · left; rw [e]; exact h.rt
  · right
    have hm := List.idxOf_lt_length_of_mem (g.all a a0 a1)
    have hol := g.olen
    have ho : order.getD (order.idxOf a) 0 = a := by
      rw [List.getD_eq_getElem?_getD, List.getElem?_eq_getElem hm]
      exact List.getElem_idxOf hm
    have ka := h.kn (order.idxOf a) (by omega) (by omega)
    rw [ho] at ka
    have := h.kt.up a ka e
    exact ⟨this.1.1, this.1.2.1, this.2⟩
end Go.Proofs.Ytengmgdnpojfjaa
