/-
  The contract of 'idoms': the tree of dominators, where the rounds come to an end.
-/
import Derived.Test.YtengmgdnpojfjaaFlowN
import Derived.Shelf.RegionOpenPlain
import Derived.Deep.OwnRows
namespace Go.Proofs.Ytengmgdnpojfjaa
open Go.RowKit
set_option linter.unusedVariables false

/-- The graph in its box, ranks and dominators in their rows. -/
structure ISt (w : World) (N : Nat) (vp vo vd : Value) (n : Nat) (rank idom : Nat → Int) : Prop where
  g : w.rowIs N 59 3 (fun i => if i = 0 then vp else if i = 1 then vo else vd)
  t : TSt w (N + 1 + 1) (N + 1 + 1 + 1 + 1) (N + 1) (N + 1 + 1 + 1) n rank idom
theorem ISt.below {w w' : World} {N n : Nat} {vp vo vd : Value} {rank idom : Nat → Int} (h : ISt w N vp vo vd n rank idom) (hb : Below w.heap.size w w') : ISt w' N vp vo vd n rank idom :=
  ⟨h.g.of_block (hb.block _ h.g.lt), h.t.below hb⟩
theorem ISt.drew {w : World} {N n : Nat} {vp vo vd : Value} {rank idom : Nat → Int} (h : ISt w N vp vo vd n rank idom) : ISt w.drew N vp vo vd n rank idom := ⟨h.g, ⟨h.t.pr, h.t.pi, h.t.rr, h.t.ri⟩⟩
theorem ISt.rank {w : World} {N n : Nat} {vp vo vd : Value} {rank idom : Nat → Int} (h : ISt w N vp vo vd n rank idom) (i : Nat) (v : Int) : ISt (w.setCell ⟨N + 1, i, none⟩ (.int .i64 v)) N vp vo vd n (upI rank i v) idom := by
  refine ⟨h.g.setOther (by simp; try omega) _, ⟨h.t.pr.setOther (by simp; try omega) _, h.t.pi.setOther (by simp; try omega) _, (h.t.rr.set i _).congr fun j hj => ?_, h.t.ri.setOther (by simp; try omega) _⟩⟩
  unfold upI
  split <;> rfl
theorem ISt.idom {w : World} {N n : Nat} {vp vo vd : Value} {rank idom : Nat → Int} (h : ISt w N vp vo vd n rank idom) (i : Nat) (v : Int) : ISt (w.setCell ⟨N + 1 + 1 + 1, i, none⟩ (.int .i64 v)) N vp vo vd n rank (upI idom i v) := by
  refine ⟨h.g.setOther (by simp; try omega) _, ⟨h.t.pr.setOther (by simp; try omega) _, h.t.pi.setOther (by simp; try omega) _, h.t.rr.setOther (by simp; try omega) _, (h.t.ri.set i _).congr fun j hj => ?_⟩⟩
  unfold upI
  split <;> rfl
theorem ISt.congr {w : World} {N n : Nat} {vp vo vd : Value} {rank idom rank' idom' : Nat → Int} (h : ISt w N vp vo vd n rank idom) (h1 : ∀ i, i < n → rank i = rank' i) (h2 : ∀ i, i < n → idom i = idom' i) : ISt w N vp vo vd n rank' idom' :=
  ⟨h.g, ⟨h.t.pr, h.t.pi, h.t.rr.congr fun i hi => by rw [h1 i hi], h.t.ri.congr fun i hi => by rw [h2 i hi]⟩⟩

def rkU (order : List Int) (k : Nat) : Nat → Int := (List.range k).foldl (fun f i => upI f (order.getD i 0).toNat i) (fun _ => 0)
def idU (order : List Int) (k : Nat) : Nat → Int := (List.range k).foldl (fun f i => upI f (order.getD i 0).toNat (-1)) (fun _ => 0)
theorem rkU_succ (order : List Int) (k : Nat) : rkU order (k + 1) = upI (rkU order k) (order.getD k 0).toNat k := by simp [rkU, List.range_succ]
theorem idU_succ (order : List Int) (k : Nat) : idU order (k + 1) = upI (idU order k) (order.getD k 0).toNat (-1) := by simp [idU, List.range_succ]
theorem rkU_at {n : Nat} {preds : List (List Int)} {order : List Int} (g : Gr n preds order) : ∀ (k : Nat), k ≤ n → ∀ i, i < n → rankM order i < k → rkU order k i = rankM order i ∧ idU order k i = -1
  | 0, _, i, _, h => by unfold rankM at h; omega
  | k + 1, hk, i, hi, h => by
    rw [rkU_succ, idU_succ]
    unfold upI
    have hr := g.rank_at k (by omega)
    have hb := g.getD_rng k (by omega)
    by_cases e : i = (order.getD k 0).toNat
    · rw [if_pos e, if_pos e, e, hr]
      exact ⟨rfl, rfl⟩
    · rw [if_neg e, if_neg e]
      refine rkU_at g k (by omega) i hi ?_
      have hne : rankM order i ≠ k := by
        intro h2
        have := g.inj (i : Int) (order.getD k 0) (by omega) (by omega) hb.1 hb.2 (by rw [Int.toNat_natCast, h2, hr])
        omega
      omega
theorem rkU_all {n : Nat} {preds : List (List Int)} {order : List Int} (g : Gr n preds order) (i : Nat) (hi : i < n) : rkU order n i = rankM order i ∧ idU order n i = -1 := by
  refine rkU_at g n (Nat.le_refl _) i hi ?_
  have := g.kt0.rng (i : Int) (by omega) (by omega)
  rw [Int.toNat_natCast] at this
  exact this.2

/-- The rounds come to an end at K. -/
def FixAt (preds : List (List Int)) (order : List Int) (n K : Nat) : Prop := ∀ i, i < n → roundsM (predL preds) order n (K + 1) i = roundsM (predL preds) order n K i
theorem RI.steps {n : Nat} {preds : List (List Int)} {order : List Int} (g : Gr n preds order) : ∀ (j : Nat) (idom : Nat → Int), j < n → RI n order idom 0 → RI n order ((order.tail.take j).foldl (stepR (predL preds) (order.getD 0 0) (rankM order) n) idom) j
  | 0, idom, _, h => by simpa using h
  | j + 1, idom, hj, h => by
    have ih := RI.steps g j idom (by omega) h
    have hl : j < order.tail.length := by rw [List.length_tail, g.olen]; omega
    rw [take_step _ _ _ _ hl]
    have e : order.tail[j] = order.getD (j + 1) 0 := by
      rw [List.getElem_tail, List.getD_eq_getElem?_getD, List.getElem?_eq_getElem (by rw [g.olen]; omega)]; rfl
    rw [e]
    exact ih.step g hj
theorem RI.rounds {n : Nat} {preds : List (List Int)} {order : List Int} (g : Gr n preds order) : ∀ t, RI n order (roundsM (predL preds) order n t) 0 ∧ (0 < t → RI n order (roundsM (predL preds) order n t) (n - 1))
  | 0 => ⟨RI.start g, fun h => absurd h (by omega)⟩
  | t + 1 => by
    have ih := (RI.rounds g t).1
    have h := RI.steps g (n - 1) _ (by have := g.pos; omega) ih
    have e : order.tail.take (n - 1) = order.tail := List.take_of_length_le (by rw [List.length_tail, g.olen]; omega)
    rw [e] at h
    exact ⟨h.again, fun _ => h⟩
theorem fix_all {n K : Nat} {preds : List (List Int)} {order : List Int} (g : Gr n preds order) (h : FixAt preds order n K) : roundsM (predL preds) order n (K + 1) = roundsM (predL preds) order n K := by
  funext i
  by_cases hi : i < n
  · exact h i hi
  · rw [(RI.rounds g (K + 1)).1.out i (by omega), (RI.rounds g K).1.out i (by omega)]
theorem fix_on {n t : Nat} {preds : List (List Int)} {order : List Int} (h : roundsM (predL preds) order n (t + 1) = roundsM (predL preds) order n t) : ∀ d, roundsM (predL preds) order n (t + d) = roundsM (predL preds) order n t
  | 0 => rfl
  | d + 1 => by
    show roundM _ _ _ _ _ (roundsM (predL preds) order n (t + d)) = _
    rw [fix_on h d]
    exact h
/-- Steps over other blocks leave a block's dominator alone. -/
theorem steps_other (pred : Nat → List Int) (root : Int) (rank : Nat → Int) (n : Nat) : ∀ (l : List Int) (idom : Nat → Int) (b : Nat), (∀ x ∈ l, x.toNat ≠ b) → l.foldl (stepR pred root rank n) idom b = idom b
  | [], _, _, _ => rfl
  | x :: r, idom, b, h => by
    rw [List.foldl_cons, steps_other pred root rank n r _ b fun y hy => h y (List.mem_cons_of_mem _ hy)]
    show upI _ _ _ _ = _
    unfold upI
    rw [if_neg (fun e => h x List.mem_cons_self e.symm)]
theorem upI_same (f : Nat → Int) (i : Nat) : upI f i (f i) = f := by
  funext j
  unfold upI
  split
  · rename_i e; rw [e]
  · rfl

/-- Behind t rounds, and j blocks of the next. -/
def idJ (preds : List (List Int)) (order : List Int) (n t j : Nat) : Nat → Int := (order.tail.take j).foldl (stepR (predL preds) (order.getD 0 0) (rankM order) n) (roundsM (predL preds) order n t)
def nextJ (preds : List (List Int)) (order : List Int) (n t j : Nat) : Int := nearM (order.getD 0 0) (rankM order) (idJ preds order n t j) n (predL preds (order.getD (j + 1) 0).toNat)
/-- Whether something was changed in this round. -/
def ChOk (preds : List (List Int)) (order : List Int) (n t j : Nat) (cb : Bool) : Prop := (cb = false → idJ preds order n t j = roundsM (predL preds) order n t) ∧ (cb = true → ∃ b : Nat, (∀ x ∈ order.tail.drop j, x.toNat ≠ b) ∧ idJ preds order n t j b ≠ roundsM (predL preds) order n t b)
theorem Gr.tail_at {n : Nat} {preds : List (List Int)} {order : List Int} (g : Gr n preds order) (j : Nat) (hj : j < order.tail.length) : order.tail[j] = order.getD (j + 1) 0 := by
  rw [List.length_tail, g.olen] at hj
  rw [List.getElem_tail, List.getD_eq_getElem?_getD, List.getElem?_eq_getElem (by rw [g.olen]; omega)]
  rfl
theorem idJ_succ {n : Nat} {preds : List (List Int)} {order : List Int} (g : Gr n preds order) (t j : Nat) (hj : j + 1 < n) : idJ preds order n t (j + 1) = upI (idJ preds order n t j) (order.getD (j + 1) 0).toNat (nextJ preds order n t j) := by
  have hl : j < order.tail.length := by rw [List.length_tail, g.olen]; omega
  unfold idJ
  rw [take_step _ _ _ _ hl, g.tail_at j hl]
  rfl
theorem idJ_old {n : Nat} {preds : List (List Int)} {order : List Int} (g : Gr n preds order) (t j : Nat) (hj : j + 1 < n) : idJ preds order n t j (order.getD (j + 1) 0).toNat = roundsM (predL preds) order n t (order.getD (j + 1) 0).toNat := by
  refine steps_other _ _ _ _ _ _ _ fun x hx e => ?_
  obtain ⟨i, hi, rfl⟩ := List.getElem_of_mem hx
  have hi' : i < j := by rw [List.length_take] at hi; omega
  rw [List.getElem_take, g.tail_at] at e
  have h1 := g.getD_rng (i + 1) (by omega)
  have h2 := g.getD_rng (j + 1) hj
  exact g.getD_ne (i + 1) (j + 1) (by omega) hj (by omega) (by omega)
theorem drop_ne {n : Nat} {preds : List (List Int)} {order : List Int} (g : Gr n preds order) (j : Nat) (hj : j + 1 < n) : ∀ x ∈ order.tail.drop (j + 1), x.toNat ≠ (order.getD (j + 1) 0).toNat := by
  intro x hx e
  obtain ⟨i, hi, rfl⟩ := List.getElem_of_mem hx
  have hi' : i + (j + 1) < n - 1 := by rw [List.length_drop, List.length_tail, g.olen] at hi; omega
  rw [List.getElem_drop, g.tail_at] at e
  have h1 := g.getD_rng (j + 1 + i + 1) (by omega)
  have h2 := g.getD_rng (j + 1) hj
  exact g.getD_ne (j + 1 + i + 1) (j + 1) (by omega) hj (by omega) (by omega)
theorem ch_keep {n t j : Nat} {cb : Bool} {preds : List (List Int)} {order : List Int} (g : Gr n preds order) (hj : j + 1 < n) (h : ChOk preds order n t j cb) (he : nextJ preds order n t j = idJ preds order n t j (order.getD (j + 1) 0).toNat) : idJ preds order n t (j + 1) = idJ preds order n t j ∧ ChOk preds order n t (j + 1) cb := by
  have e : idJ preds order n t (j + 1) = idJ preds order n t j := by rw [idJ_succ g t j hj, he, upI_same]
  refine ⟨e, fun hc => by rw [e]; exact h.1 hc, fun hc => ?_⟩
  obtain ⟨b, h1, h2⟩ := h.2 hc
  refine ⟨b, fun x hx => h1 x ?_, by rw [e]; exact h2⟩
  have hl : j < order.tail.length := by rw [List.length_tail, g.olen]; omega
  rw [List.drop_eq_getElem_cons hl]
  exact List.mem_cons_of_mem _ hx
theorem ch_new {n t j : Nat} {preds : List (List Int)} {order : List Int} (g : Gr n preds order) (hj : j + 1 < n) (he : nextJ preds order n t j ≠ idJ preds order n t j (order.getD (j + 1) 0).toNat) : ChOk preds order n t (j + 1) true := by
  refine ⟨fun hc => by simp at hc, fun _ => ⟨(order.getD (j + 1) 0).toNat, drop_ne g j hj, ?_⟩⟩
  rw [idJ_succ g t j hj, ← idJ_old g t j hj]
  unfold upI
  rw [if_pos rfl]
  exact he
theorem idJ_end {n : Nat} {preds : List (List Int)} {order : List Int} (g : Gr n preds order) (t j : Nat) (hj : n - 1 ≤ j) : idJ preds order n t j = roundsM (predL preds) order n (t + 1) := by
  unfold idJ
  rw [List.take_of_length_le (by rw [List.length_tail, g.olen]; omega)]
  rfl
/-- The end of a round: there is a further one, or all is done. -/
theorem ch_end {n t j K m : Nat} {cb : Bool} {preds : List (List Int)} {order : List Int} (g : Gr n preds order) (hF : roundsM (predL preds) order n (K + 1) = roundsM (predL preds) order n K) (hj : n - 1 ≤ j) (h : ChOk preds order n t j cb) (ht : t ≤ K) (hm : K + 1 - t ≤ m) :
    (cb = true → t + 1 ≤ K ∧ K + 1 - (t + 1) ≤ m - 1) ∧ (cb = false → roundsM (predL preds) order n (t + 1) = roundsM (predL preds) order n K) := by
  refine ⟨fun hc => ?_, fun hc => ?_⟩
  · obtain ⟨b, _, hb⟩ := h.2 hc
    rw [idJ_end g t j hj] at hb
    have : t ≠ K := by
      intro e
      rw [e, hF] at hb
      exact hb rfl
    omega
  · have h5 := h.1 hc
    rw [idJ_end g t j hj] at h5
    have h6 := fix_on h5 (K - t)
    rw [show t + (K - t) = K by omega] at h6
    rw [h5, h6]
theorem idJ_kt {n : Nat} {preds : List (List Int)} {order : List Int} (g : Gr n preds order) (t j : Nat) (hj : j < n) : KT n (order.getD 0 0) (rankM order) (idJ preds order n t j) := (RI.steps g j _ hj (RI.rounds g t).1).kt
end Go.Proofs.Ytengmgdnpojfjaa
