/-
  Two that change places in a loop (plain); a slice that was just laid.
-/
import Derived.Test.YtmanjojjncjaiaaR7
import Derived.Test.YtmanjojjncjaiaaN1
import Derived.OpenShut
namespace Go.Proofs.Ytmanjojjncjaiaa
open Go.RowKit Go.ChangeShapes Go.WideShapes
set_option linter.unusedVariables false

theorem flat_atL {β : Type} (k : Nat) : ∀ (l : List (List β)) (i j : Nat) (hi : i < l.length), (∀ x ∈ l, x.length = k) → j < k → l.flatten[i * k + j]? = l[i][j]?
  | [], i, j, hi, _, _ => by simp at hi
  | x :: r, 0, j, _, hk, hj => by
    simp only [List.flatten_cons, Nat.zero_mul, Nat.zero_add, List.getElem_cons_zero]
    rw [List.getElem?_append_left (by rw [hk x (by simp)]; exact hj)]
  | x :: r, i + 1, j, hi, hk, hj => by
    have e : (i + 1) * k + j = k + (i * k + j) := by rw [Nat.succ_mul]; omega
    have h := flat_atL k r i j (by simpa using hi) (fun y hy => hk y (by simp [hy])) hj
    rw [List.flatten_cons, e, List.getElem?_append_right (by rw [hk x (by simp)]; omega), hk x (by simp), Nat.add_sub_cancel_left, h]
    rfl
/-- A slice that was just laid. -/
theorem sl_newL {α : Type} {w : World} {k n c : Nat} {R : List Value → α → Prop} {cs : Array Value} {t : Nat} (css : List (List Value)) (l : List α) (hn : l.length = n) (hcs : cs.toList = css.flatten) (hl : css.length = l.length) (hk : ∀ x ∈ css, x.length = k) (hR : ∀ i (h : i < css.length) (h' : i < l.length), R css[i] l[i]) (hlong : n ≤ longest) : SlOf (w.alloc (.cells cs t)) k R (.slice (some ⟨w.heap.size, 0, none⟩) n c) l := by
  subst hn
  refine ⟨_, c, rfl, hlong, Or.inr ⟨w.heap.size, 0, rfl, fun i hi => ?_⟩⟩
  have hi' : i < css.length := by omega
  refine ⟨css[i], hk _ (List.getElem_mem hi'), hR i hi' hi, fun j hj => ?_⟩
  have hjk : j < k := by rw [← hk _ (List.getElem_mem hi')]; exact hj
  have h := flat_atL k css i j hi' hk hjk
  rw [← hcs, List.getElem?_eq_getElem hj] at h
  have e : (w.alloc (.cells cs t)).heap[w.heap.size]? = some (.cells cs t) := heap_alloc_new w _
  simp only [World.cell?, e, Nat.zero_add]
  simpa using h

def swO (b : Bool) : List Opr := [⟨2, if b then 1 else 0, true, 1, 0⟩]
def swB : List Blk := [⟨[], [⟨1, [⟨2, 0, true, 1, 0⟩], []⟩, ⟨2, [⟨2, 1, true, 1, 0⟩], []⟩], [⟨1, [0, 1]⟩]⟩, ⟨[2, 3], [⟨5, [⟨1, 2, false, 1, 0⟩, ⟨1, 3, false, 1, 0⟩], []⟩], [⟨1, [3, 2]⟩]⟩]
def swF : Fn := ⟨[0, 0, 0, 0], swB⟩
theorem sw_flow : flowE swF 10 10 (2 * 2 + 1) = 0 := by decide +kernel
def pick2 (i : Nat) (x y : Int) : Int := if i % 2 = 0 then x else y
theorem sw_three (seed : Int) : runM swB 4 seed 3 = ⟨.come 1, [mixL 7 ([seed, 1, 0] ++ []), mixL 7 ([seed, 2, 0] ++ []), mixL 7 ([seed, 1, 0] ++ []), mixL 7 ([seed, 2, 0] ++ [])], [⟨0, 0, [], -1⟩, ⟨0, 1, [], 0⟩]⟩ := by
  have t0 : takesM seed (swB.getD 0 emptyB).instrs 1 ((0 : Nat) : Int) [] = -1 := by unfold takesM; rw [if_pos (by simp [swB])]
  have t1 : takesM seed (swB.getD 0 emptyB).instrs 1 ((1 : Nat) : Int) [] = 0 := by unfold takesM; rw [if_neg (by simp [swB])]; omega
  have e1 : runM swB 4 seed 1 = ⟨.ins 0 0, [0, 0, 0, 0], []⟩ := rfl
  have e2 : runM swB 4 seed 2 = ⟨.ins 0 1, [mixL 7 ([seed, 1, 0] ++ []), 0, 0, 0], [⟨0, 0, [], -1⟩]⟩ := by
    show srStep swB seed (runM swB 4 seed 1) = _
    rw [e1, ← t0]
    rfl
  show srStep swB seed (runM swB 4 seed 2) = _
  rw [e2]
  have e3 : srStep swB seed ⟨.ins 0 1, [mixL 7 ([seed, 1, 0] ++ []), 0, 0, 0], [⟨0, 0, [], -1⟩]⟩ = settle swB 0 2 (takesM seed (swB.getD 0 emptyB).instrs 1 ((1 : Nat) : Int) []) [mixL 7 ([seed, 1, 0] ++ []), mixL 7 ([seed, 2, 0] ++ []), 0, 0] ([⟨0, 0, [], -1⟩] ++ [⟨0, 1, [], takesM seed (swB.getD 0 emptyB).instrs 1 ((1 : Nat) : Int) []⟩]) := rfl
  rw [e3, t1]
  rfl
theorem sw_two (seed a b x y : Int) (evs : List Evt) : srStep swB seed (srStep swB seed ⟨.come 1, [a, b, x, y], evs⟩) = ⟨.come 1, [a, b, y, x], evs ++ [⟨1, 0, [x, y], 0⟩]⟩ := by
  have t1 : takesM seed (swB.getD 1 emptyB).instrs 1 ((0 : Nat) : Int) [x, y] = 0 := by unfold takesM; rw [if_neg (by simp [swB])]; omega
  have e1 : srStep swB seed ⟨.come 1, [a, b, x, y], evs⟩ = ⟨.ins 1 0, [a, b, x, y], evs⟩ := rfl
  rw [e1]
  have e3 : srStep swB seed ⟨.ins 1 0, [a, b, x, y], evs⟩ = settle swB 1 1 (takesM seed (swB.getD 1 emptyB).instrs 1 ((0 : Nat) : Int) [x, y]) [a, b, x, y] (evs ++ [⟨1, 0, [x, y], takesM seed (swB.getD 1 emptyB).instrs 1 ((0 : Nat) : Int) [x, y]⟩]) := rfl
  rw [e3, t1]
  rfl
theorem sw_run (seed a b : Int) (ha : mixL 7 ([seed, 1, 0] ++ []) = a) (hb : mixL 7 ([seed, 2, 0] ++ []) = b) : ∀ i : Nat, ∃ evs, runM swB 4 seed (3 + 2 * i) = ⟨.come 1, [a, b, pick2 i a b, pick2 i b a], evs⟩ ∧ evs.length = 2 + i ∧ ∀ j, j < i → ∃ e, evs[2 + j]? = some e ∧ e.read = [pick2 j a b, pick2 j b a]
  | 0 => ⟨_, by rw [show 3 + 2 * 0 = 3 from rfl, sw_three, ha, hb]; rfl, rfl, fun j h => by omega⟩
  | i + 1 => by
    obtain ⟨evs, h1, h2, h3⟩ := sw_run seed a b ha hb i
    refine ⟨evs ++ [⟨1, 0, [pick2 i a b, pick2 i b a], 0⟩], ?_, by rw [List.length_append, h2]; rfl, fun j hj => ?_⟩
    · rw [show 3 + 2 * (i + 1) = (3 + 2 * i + 1) + 1 by omega]
      show srStep swB seed (srStep swB seed (runM swB 4 seed (3 + 2 * i))) = _
      rw [h1, sw_two]
      have e1 : pick2 i b a = pick2 (i + 1) a b := by unfold pick2; split <;> split <;> first | rfl | omega
      have e2 : pick2 i a b = pick2 (i + 1) b a := by unfold pick2; split <;> split <;> first | rfl | omega
      rw [← e1, ← e2]
    · by_cases e : j = i
      · subst e
        exact ⟨⟨1, 0, [pick2 j a b, pick2 j b a], 0⟩, by rw [List.getElem?_append_right (by omega), h2]; simp, rfl⟩
      · obtain ⟨ev, h4, h5⟩ := h3 j (by omega)
        exact ⟨ev, by rw [List.getElem?_append_left (by omega)]; exact h4, h5⟩
end Go.Proofs.Ytmanjojjncjaiaa
