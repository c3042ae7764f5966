/-
  Loops and depths; who stands above whom, by the tree. No Go in here.
-/
import Derived.Test.YtanhfkpphdbaaabF7
namespace Go.Proofs.Ytanhfkpphdbaaab
open Go.RowKit
set_option linter.unusedVariables false

/-- Up the tree from b: is a there? -/
def domG (idom : Nat → Int) : Nat → Int → Int → Bool
  | 0, _, _ => false
  | k + 1, a, b => if b < 0 then false else if a = b then true else domG idom k a (idom b.toNat)
theorem domG_neg (idom : Nat → Int) (a b : Int) (h : b < 0) : ∀ k, domG idom k a b = false
  | 0 => rfl
  | k + 1 => by simp only [domG]; rw [if_pos h]
theorem domG_iff {n : Nat} {root : Int} {rank idom : Nat → Int} (hk : KT n root rank idom) (hr : idom root.toNat = -1) {a : Int} : ∀ (k : Nat) (b : Int), Kn n root idom b → rank b.toNat < k → (domG idom k a b = true ↔ Up root idom b a)
  | 0, b, hb, h => by have := hk.rng b hb.1 hb.2.1; omega
  | k + 1, b, hb, h => by
    have h0 := hb.1
    simp only [domG]
    rw [if_neg (by omega)]
    by_cases e : a = b
    · rw [if_pos e, e]
      exact ⟨fun _ => .refl _, fun _ => rfl⟩
    · rw [if_neg e]
      by_cases er : b = root
      · rw [er, hr, domG_neg _ _ _ (by omega)]
        exact ⟨fun h => (by cases h), fun h => absurd rfl (h.cases_ne (fun e2 => e (by rw [e2, er]))).1⟩
      · have hup := hk.up b hb er
        rw [domG_iff hk hr k _ hup.1 (by have := hup.2; omega)]
        exact ⟨fun h => .step er h, fun h => (h.cases_ne e).2⟩

structure Ent (pred : Nat → List Int) (Q : Nat → Prop) (s s' : Nat → Bool) : Prop where
  mono : ∀ i, s i = true → s' i = true
  shut : ∀ i, s' i = true → s i = false → ∀ p ∈ pred i, s' p.toNat = true
  new : ∀ i, s' i = true → s i = false → Q i
theorem Ent.refl (pred : Nat → List Int) (Q : Nat → Prop) (s : Nat → Bool) : Ent pred Q s s := ⟨fun _ h => h, fun i h k => (by rw [h] at k; cases k), fun i h k => (by rw [h] at k; cases k)⟩
theorem Ent.trans {pred : Nat → List Int} {Q : Nat → Prop} {s s' s'' : Nat → Bool} (h : Ent pred Q s s') (k : Ent pred Q s' s'') : Ent pred Q s s'' := by
  refine ⟨fun i hi => k.mono i (h.mono i hi), fun i h1 h2 p hp => ?_, fun i h1 h2 => ?_⟩
  · cases e : s' i
    · exact k.shut i h1 e p hp
    · exact k.mono _ (h.shut i e h2 p hp)
  · cases e : s' i
    · exact k.new i h1 e
    · exact h.new i e h2
theorem enter_fold_ent {n : Nat} {pred : Nat → List Int} {Q : Nat → Prop} {h : Nat} (k : Nat) (hv : ∀ (b : Nat) (s : Nat → Bool), b < n → Q b → s h = true → unb n s < k → Ent pred Q s (enterM pred k b s) ∧ enterM pred k b s b = true) :
    ∀ (l : List Int) (s : Nat → Bool), (∀ p ∈ l, p.toNat < n ∧ Q p.toNat) → s h = true → unb n s < k → Ent pred Q s (l.foldl (fun s p => enterM pred k p.toNat s) s) ∧ ∀ p ∈ l, l.foldl (fun s p => enterM pred k p.toNat s) s p.toNat = true
  | [], s, _, _, _ => ⟨Ent.refl _ _ _, by simp⟩
  | p :: r, s, hl, hs, hu => by
    have hp := hl p List.mem_cons_self
    obtain ⟨e1, m1⟩ := hv p.toNat s hp.1 hp.2 hs hu
    obtain ⟨e2, m2⟩ := enter_fold_ent k hv r (enterM pred k p.toNat s) (fun q hq => hl q (List.mem_cons_of_mem _ hq)) (e1.mono _ hs) (Nat.lt_of_le_of_lt (unb_mono e1.mono) hu)
    rw [List.foldl_cons]
    refine ⟨e1.trans e2, fun q hq => ?_⟩
    rcases List.mem_cons.1 hq with rfl | hq
    · exact e2.mono _ m1
    · exact m2 q hq
theorem enter_ent {n : Nat} {pred : Nat → List Int} {Q : Nat → Prop} {h : Nat} (hin : ∀ t : Nat, ∀ p ∈ pred t, p.toNat < n) (hQ : ∀ x, Q x → x ≠ h → ∀ p ∈ pred x, Q p.toNat) :
    ∀ (k b : Nat) (s : Nat → Bool), b < n → Q b → s h = true → unb n s < k → Ent pred Q s (enterM pred k b s) ∧ enterM pred k b s b = true
  | 0, b, s, _, _, _, hu => by omega
  | k + 1, b, s, hb, hq, hs, hu => by
    simp only [enterM]
    cases e : s b
    · have hne : b ≠ h := fun e2 => by rw [e2, hs] at e; cases e
      have h2 := unb_up hb e
      obtain ⟨e1, m1⟩ := enter_fold_ent k (fun b s => enter_ent hin hQ k b s) (pred b) (upB s b true) (fun p hp => ⟨hin b p hp, hQ b hq hne p hp⟩) (by unfold upB; split <;> first | rfl | exact hs) (by omega)
      rw [if_neg (by simp)]
      generalize (pred b).foldl (fun s p => enterM pred k p.toNat s) (upB s b true) = r at *
      have hub : ∀ i, i ≠ b → upB s b true i = s i := fun i hi => by unfold upB; rw [if_neg hi]
      have hbb : upB s b true b = true := by simp [upB]
      refine ⟨⟨fun i hi => e1.mono i ?_, fun i h1 h2 p hp => ?_, fun i h1 h2 => ?_⟩, e1.mono b hbb⟩
      · by_cases e3 : i = b
        · rw [e3]; exact hbb
        · rw [hub i e3]; exact hi
      · by_cases e3 : i = b
        · rw [e3] at hp; exact m1 p hp
        · exact e1.shut i h1 (by rw [hub i e3]; exact h2) p hp
      · by_cases e3 : i = b
        · rw [e3]; exact hq
        · exact e1.new i h1 (by rw [hub i e3]; exact h2)
    · rw [if_pos rfl]
      exact ⟨Ent.refl _ _ _, e⟩
/-- What a loop's blocks are, as far as its edges were looked at. -/
structure LoopI (pred : Nat → List Int) (Q : Nat → Prop) (h : Nat) (s : Nat → Bool) : Prop where
  q : ∀ i, s i = true → Q i
  shut : ∀ i, s i = true → i ≠ h → ∀ p ∈ pred i, s p.toNat = true
theorem loop_fold {n : Nat} {pred : Nat → List Int} {idom : Nat → Int} {Q : Nat → Prop} {h : Nat} (hin : ∀ t : Nat, ∀ p ∈ pred t, p.toNat < n) (hQ : ∀ x, Q x → x ≠ h → ∀ p ∈ pred x, Q p.toNat) (hd : ∀ p : Int, p ∈ pred h → domM idom (n + 1) h p = true → Q p.toNat) (hh : Q h) (hn : h < n) :
    ∀ (l : List Int) (s : Nat → Bool), (∀ p ∈ l, p ∈ pred h) → LoopI pred Q h s → LoopI pred Q h (l.foldl (fun s p => if domM idom (n + 1) h p then enterM pred (n + 1) p.toNat (upB s h true) else s) s) ∧ ∀ p ∈ l, domM idom (n + 1) h p = true → l.foldl (fun s p => if domM idom (n + 1) h p then enterM pred (n + 1) p.toNat (upB s h true) else s) s h = true ∧ l.foldl (fun s p => if domM idom (n + 1) h p then enterM pred (n + 1) p.toNat (upB s h true) else s) s p.toNat = true
  | [], s, _, hI => ⟨hI, by simp⟩
  | p :: r, s, hl, hI => by
    rw [List.foldl_cons]
    by_cases e : domM idom (n + 1) h p = true
    · rw [if_pos e]
      have hu : upB s h true h = true := by simp [upB]
      have hub : ∀ i, i ≠ h → upB s h true i = s i := fun i hi => by unfold upB; rw [if_neg hi]
      have hpm := hl p List.mem_cons_self
      have hlt : unb n (upB s h true) < n + 1 := by
        have := List.countP_le_length (p := fun i => !upB s h true i) (l := List.range n)
        unfold unb
        simp at this
        omega
      obtain ⟨e1, m1⟩ := enter_ent hin hQ (n + 1) p.toNat (upB s h true) (hin h p hpm) (hd p hpm e) hu hlt
      have hI' : LoopI pred Q h (enterM pred (n + 1) p.toNat (upB s h true)) := by
        refine ⟨fun i hi => ?_, fun i hi hne q hq => ?_⟩
        · cases e2 : upB s h true i
          · exact e1.new i hi e2
          · by_cases e3 : i = h
            · rw [e3]; exact hh
            · rw [hub i e3] at e2
              exact hI.q i e2
        · cases e2 : upB s h true i
          · exact e1.shut i hi e2 q hq
          · rw [hub i hne] at e2
            have := hI.shut i e2 hne q hq
            refine e1.mono _ ?_
            by_cases e3 : q.toNat = h
            · rw [e3]; exact hu
            · rw [hub _ e3]; exact this
      obtain ⟨hJ, hm⟩ := loop_fold hin hQ hd hh hn r (enterM pred (n + 1) p.toNat (upB s h true)) (fun q hq => hl q (List.mem_cons_of_mem _ hq)) hI'
      refine ⟨hJ, fun q hq hdq => ?_⟩
      rcases List.mem_cons.1 hq with rfl | hq
      · exact ⟨loop_mono pred idom n h (n + 1) r _ h (e1.mono h hu), loop_mono pred idom n h (n + 1) r _ _ m1⟩
      · exact hm q hq hdq
    · rw [if_neg e]
      obtain ⟨hJ, hm⟩ := loop_fold hin hQ hd hh hn r s (fun q hq => hl q (List.mem_cons_of_mem _ hq)) hI
      refine ⟨hJ, fun q hq hdq => ?_⟩
      rcases List.mem_cons.1 hq with rfl | hq
      · exact absurd hdq e
      · exact hm q hq hdq
theorem loop_none (pred : Nat → List Int) (idom : Nat → Int) (n h : Nat) : ∀ (l : List Int) (s : Nat → Bool), (∀ p ∈ l, ¬ domM idom (n + 1) h p = true) → l.foldl (fun s p => if domM idom (n + 1) h p then enterM pred (n + 1) p.toNat (upB s h true) else s) s = s
  | [], s, _ => rfl
  | p :: r, s, hl => by
    rw [List.foldl_cons, if_neg (hl p List.mem_cons_self)]
    exact loop_none pred idom n h r s fun q hq => hl q (List.mem_cons_of_mem _ hq)

section
variable {n K : Nat} {preds : List (List Int)} {order : List Int}
/-- What the tree and the loops of a graph are like. -/
theorem loop_facts (g : Gr n preds order) (hK : 0 < K) (hf : FixAt preds order n K) (h : Nat) (hh : h < n) : (∀ b, loopM (predL preds) (roundsM (predL preds) order n K) n h b = true → Up (order.getD 0 0) (roundsM (predL preds) order n K) b h ∧ b < n ∧ ∃ p ∈ predL preds h, True) ∧
    (∀ b, loopM (predL preds) (roundsM (predL preds) order n K) n h b = true → b ≠ h → ∀ p ∈ predL preds b, loopM (predL preds) (roundsM (predL preds) order n K) n h p.toNat = true) ∧
    (∀ p ∈ predL preds h, Up (order.getD 0 0) (roundsM (predL preds) order n K) p h → loopM (predL preds) (roundsM (predL preds) order n K) n h h = true ∧ loopM (predL preds) (roundsM (predL preds) order n K) n h p.toNat = true) := by
  have hb := fix_back g hK hf
  have hin : ∀ t : Nat, ∀ p ∈ predL preds t, p.toNat < n := fun t p hp => by have := g.inn t p hp; omega
  have hdom : ∀ p ∈ predL preds h, domM (roundsM (predL preds) order n K) (n + 1) h p = true ↔ Up (order.getD 0 0) (roundsM (predL preds) order n K) p h := fun p hp => by
    have := g.inn h p hp
    exact dom_end g hK (by omega) this.1 this.2
  have L := loop_fold (n := n) (pred := predL preds) (idom := roundsM (predL preds) order n K) (Q := fun b => Up (order.getD 0 0) (roundsM (predL preds) order n K) b h ∧ b < n) (h := h) hin (fun x hx hne p hp => by
    have hp' := g.inn x p hp
    have := hb.back h x p (by omega) (by omega) hx.1 (by omega) (by rw [Int.toNat_natCast]; exact hp)
    rw [Int.toNat_of_nonneg hp'.1]
    exact ⟨this, by omega⟩) (fun p hp hd => by
    have hp' := g.inn h p hp
    rw [Int.toNat_of_nonneg hp'.1]
    exact ⟨(hdom p hp).1 hd, by omega⟩) ⟨.refl _, hh⟩ hh (predL preds h) (fun _ => false) (fun p hp => hp) ⟨fun i hi => (by cases hi), fun i hi => (by cases hi)⟩
  refine ⟨fun b hl => ?_, fun b hl hne p hp => L.1.shut b hl hne p hp, fun p hp hu => L.2 p hp ((hdom p hp).2 hu)⟩
  have := L.1.q b hl
  refine ⟨this.1, this.2, ?_⟩
  cases e : predL preds h with
  | nil =>
    have hl' : loopM (predL preds) (roundsM (predL preds) order n K) n h b = true := hl
    unfold loopM at hl'
    rw [e] at hl'
    cases hl'
  | cons p r => exact ⟨p, List.mem_cons_self, trivial⟩
theorem count_or (P : Nat → Bool) (d : Nat) : ∀ k, (List.range k).countP (fun h => P h || decide (h = d)) ≤ (List.range k).countP P + 1 := fun k => by
  have key : (List.range k).countP (fun h => P h || decide (h = d)) ≤ (List.range k).countP P + if d < k then 1 else 0 := by
    induction k with
    | zero => simp
    | succ k ih =>
      rw [List.range_succ, List.countP_append, List.countP_append, List.countP_singleton, List.countP_singleton]
      by_cases e : k = d
      · have h1 : ¬ d < k := by omega
        have h2 : d < k + 1 := by omega
        have h3 : (P k || decide (k = d)) = true := by simp [e]
        rw [if_neg h1] at ih
        rw [if_pos h2, if_pos h3]
        omega
      · have h3 : (P k || decide (k = d)) = P k := by simp [e]
        rw [h3]
        by_cases h1 : d < k
        · have h2 : d < k + 1 := by omega
          rw [if_pos h1] at ih
          rw [if_pos h2]
          omega
        · have h2 : ¬ d < k + 1 := by omega
          rw [if_neg h1] at ih
          rw [if_neg h2]
          omega
  split at key <;> omega
/-- Depths along an edge p -> t. -/
theorem depth_edge (g : Gr n preds order) (hK : 0 < K) (hf : FixAt preds order n K) (t : Nat) (ht : t < n) (p : Int) (hp : p ∈ predL preds t) :
    depthM (predL preds) (roundsM (predL preds) order n K) n t ≤ depthM (predL preds) (roundsM (predL preds) order n K) n p.toNat + 1 ∧
    (Up (order.getD 0 0) (roundsM (predL preds) order n K) p t → 1 ≤ depthM (predL preds) (roundsM (predL preds) order n K) n t ∧ depthM (predL preds) (roundsM (predL preds) order n K) n t ≤ depthM (predL preds) (roundsM (predL preds) order n K) n p.toNat) := by
  have step : ∀ h, h < n → h ≠ t → loopM (predL preds) (roundsM (predL preds) order n K) n h t = true → loopM (predL preds) (roundsM (predL preds) order n K) n h p.toNat = true := fun h hh hne hl => (loop_facts g hK hf h hh).2.1 t hl (fun e => hne e.symm) p hp
  unfold depthM
  refine ⟨?_, fun hu => ?_⟩
  · have h1 : (List.range n).countP (fun h => loopM (predL preds) (roundsM (predL preds) order n K) n h t) ≤ (List.range n).countP (fun h => loopM (predL preds) (roundsM (predL preds) order n K) n h p.toNat || decide (h = t)) := List.countP_mono_left fun h hh hl => by
      by_cases e : h = t
      · simp [e]
      · simp [step h (List.mem_range.1 hh) e hl]
    have h2 := count_or (fun h => loopM (predL preds) (roundsM (predL preds) order n K) n h p.toNat) t n
    omega
  · have L := (loop_facts g hK hf t ht).2.2 p hp hu
    refine ⟨?_, ?_⟩
    · have : 0 < (List.range n).countP (fun h => loopM (predL preds) (roundsM (predL preds) order n K) n h t) := List.countP_pos_iff.2 ⟨t, List.mem_range.2 ht, L.1⟩
      omega
    · have h1 : (List.range n).countP (fun h => loopM (predL preds) (roundsM (predL preds) order n K) n h t) ≤ (List.range n).countP (fun h => loopM (predL preds) (roundsM (predL preds) order n K) n h p.toNat) := List.countP_mono_left fun h hh hl => by
        by_cases e : h = t
        · rw [e]; exact L.2
        · exact step h (List.mem_range.1 hh) e hl
      omega
/-- At the root one is in no loop, if nothing leads there. -/
theorem depth_root (g : Gr n preds order) (hK : 0 < K) (hf : FixAt preds order n K) (h0 : order.getD 0 0 = 0) (hp : predL preds 0 = []) : depthM (predL preds) (roundsM (predL preds) order n K) n 0 = 0 := by
  unfold depthM
  have : (List.range n).countP (fun h => loopM (predL preds) (roundsM (predL preds) order n K) n h 0) = 0 := List.countP_eq_zero.2 fun h hh hl => by
    obtain ⟨h1, _, p, hp', _⟩ := (loop_facts g hK hf h (List.mem_range.1 hh)).1 0 hl
    rw [show ((0 : Nat) : Int) = order.getD 0 0 by rw [h0]; rfl] at h1
    have hb := (fix_back g hK hf).top h h1
    rw [h0] at hb
    have e : h = 0 := by omega
    rw [e, hp] at hp'
    cases hp'
  omega
theorem up_root (g : Gr n preds order) (hK : 0 < K) : ∀ (m : Nat) (b : Int), 0 ≤ b → b < n → rankM order b.toNat ≤ m → Up (order.getD 0 0) (roundsM (predL preds) order n K) b (order.getD 0 0)
  | m, b, b0, b1, hm => by
    by_cases e : b = order.getD 0 0
    · rw [e]; exact .refl _
    · have hk := kt_at g K
      have hup := hk.up b (all_kn g K hK b b0 b1) e
      have hr := hk.rng b b0 b1
      have hr2 := hk.rng _ hup.1.1 hup.1.2.1
      match m, hm with
      | 0, hm => have := hup.2; omega
      | m + 1, hm => exact .step e (up_root g hK m _ hup.1.1 hup.1.2.1 (by have := hup.2; omega))
end
end Go.Proofs.Ytanhfkpphdbaaab
