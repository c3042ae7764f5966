/-
  Groups of a ring, by computing: what a loop hands on to itself is one group with what it began with, where nothing is needed twice. No Go in here.
-/
import Derived.Test.YtdlnofjmonpmgaaG10
import Derived.Test.YtdlnofjmonpmgaaN3
namespace Go.Proofs.Ytdlnofjmonpmgaa
open Go.RowKit
set_option linter.unusedVariables false

theorem insG_none {nv : Nat} {S : Nat → List Sp} : ∀ {is : List Ins} {q : Nat → Nat}, (∀ x ∈ is, ∀ o ∈ x.operands, ¬ o.limit = 5) → insG nv S is q = q
  | [], q, _ => rfl
  | x :: r, q, h => by
    have h1 : ∀ (l : List Opr) (m : List Opr) (q : Nat → Nat), (∀ o ∈ l, ¬ o.limit = 5) → l.foldl (reStep nv S m) q = q := fun l => by
      induction l with
      | nil => intro m q _; rfl
      | cons o t ih =>
        intro m q hq
        rw [List.foldl_cons, show reStep nv S m q o = q by unfold reStep; rw [if_neg (hq o (by simp))]]
        exact ih m q fun o ho => hq o (List.mem_cons_of_mem _ ho)
    unfold insG
    rw [List.foldl_cons, show reuseG nv S x.operands q = q from h1 _ _ _ (h x (by simp))]
    exact insG_none fun y hy => h y (List.mem_cons_of_mem _ hy)
theorem ring_groups (nv : Nat) (S : Nat → List Sp) (x0 x1 x2 x3 : List Ins) (n : Nat) (h0 : ∀ x ∈ x0, ∀ o ∈ x.operands, ¬ o.limit = 5) (h1 : ∀ x ∈ x1, ∀ o ∈ x.operands, ¬ o.limit = 5) (h2 : ∀ x ∈ x2, ∀ o ∈ x.operands, ¬ o.limit = 5) (h3 : ∀ x ∈ x3, ∀ o ∈ x.operands, ¬ o.limit = 5) :
    groupsM nv S [⟨[], x0, [⟨1, [0]⟩]⟩, ⟨[1], x1, [⟨2, []⟩, ⟨3, []⟩]⟩, ⟨[], x2, [⟨1, [(n : Int) + 1]⟩]⟩, ⟨[], x3, []⟩] = joinG nv S (joinG nv S id 1 0) 1 (n + 1) := by
  have e : ((n : Int) + 1).toNat = n + 1 := by omega
  unfold groupsM
  simp only [List.foldl_cons, List.foldl_nil, blockG, edgG, insG_none h0, insG_none h1, insG_none h2, insG_none h3]
  show joinG nv S (joinG nv S id 1 0) 1 ((n : Int) + 1).toNat = _
  rw [e]
theorem rgI_none (n : Nat) : ∀ x ∈ (List.range n).map rgI, ∀ o ∈ x.operands, ¬ o.limit = 5 := by
  intro x hx o ho
  obtain ⟨k, _, rfl⟩ := List.mem_map.1 hx
  unfold rgI rgO at ho
  simp at ho
  rcases ho with rfl | rfl <;> simp
def rgF (a : Nat) : Fn := ringG (a + 1) (List.replicate (a + 1 + 2) 0) [] ringI1 1 [0]
set_option maxRecDepth 100000 in
theorem rg_flow : ∀ a : Nat, a < 20 → flowE (rgF a) 10 10 (4 * 4 + 1) = 0 := by decide +kernel
set_option maxRecDepth 100000 in
theorem rg_closed : ∀ a : Nat, a < 20 → ∀ b, b < 4 → ∀ v, v < a + 1 + 2 → needN (rgF a).blocks 7 b v = true → needN (rgF a).blocks 6 b v = true := by decide +kernel
def spN (f : Fn) (nv : Nat) : Nat → List Sp := spansM f.blocks nv (fun b v => needN f.blocks 6 b v) (fun b v => outN f.blocks 6 b v) 4
set_option maxRecDepth 100000 in
theorem rg_meets : ∀ a : Nat, a < 20 → meetL (spN (rgF a) (a + 1 + 2) 1) (spN (rgF a) (a + 1 + 2) 0) = false ∧ meetL (spN (rgF a) (a + 1 + 2) 0) (spN (rgF a) (a + 1 + 2) (a + 1 + 1)) = false ∧ meetL (spN (rgF a) (a + 1 + 2) 1) (spN (rgF a) (a + 1 + 2) (a + 1 + 1)) = false := by decide +kernel
set_option maxRecDepth 100000 in
theorem rs_meets : ∀ a : Nat, a < 20 → meetL (spN (rsF (a + 1)) (a + 1 + 2) 1) (spN (rsF (a + 1)) (a + 1 + 2) 0) = true ∧ meetL (spN (rsF (a + 1)) (a + 1 + 2) 1) (spN (rsF (a + 1)) (a + 1 + 2) (a + 1 + 1)) = false := by decide +kernel
theorem joinG_not {nv : Nat} {S : Nat → List Sp} {q : Nat → Nat} {v w : Nat} (h1 : q v ≠ q w) (h2 : ∀ x y, x < nv → y < nv → q x = q v → q y = q w → meetL (S x) (S y) = false) : joinG nv S q v w = uniG q v w := by
  unfold joinG
  rw [if_neg]
  rintro (h | ⟨x, y, hx, hy, e1, e2, h3⟩)
  · exact h1 h
  · rw [h2 x y hx hy e1 e2] at h3
    cases h3
/-- The ring's groups: one of the first value, the param, and what is handed on. -/
theorem rg_groups {a : Nat} (ha : a < 20) {I O : Tb} (h : (∀ b v, v < a + 1 + 2 → (I b v = true ↔ NeedIn (rgF a).blocks b v)) ∧ ∀ b v, v < a + 1 + 2 → (O b v = true ↔ NeedOut (rgF a).blocks b v)) : ∀ q, groupsM (a + 1 + 2) (spansM (rgF a).blocks (a + 1 + 2) I O 4) (rgF a).blocks = q → q 0 = 0 ∧ q 1 = 0 ∧ q (a + 2) = 0 := by
  rintro q rfl
  have e1 : spansM (rgF a).blocks (a + 1 + 2) I O 4 = spN (rgF a) (a + 1 + 2) := spansM_congr (told_is (bs := (rgF a).blocks) (k := 6) (fun b hb v hv => rg_closed a ha b hb v hv) h) 4
  rw [e1]
  obtain ⟨m1, m2, m3⟩ := rg_meets a ha
  generalize spN (rgF a) (a + 1 + 2) = S at *
  have e2 : groupsM (a + 1 + 2) S (rgF a).blocks = joinG (a + 1 + 2) S (joinG (a + 1 + 2) S id 1 0) 1 (a + 1 + 1) := ring_groups (a + 1 + 2) S _ _ _ _ (a + 1) (by decide) (by decide) (rgI_none _) (by decide)
  rw [e2]
  have e3 : joinG (a + 1 + 2) S id 1 0 = uniG id 1 0 := joinG_not (by decide) fun x y _ _ h1 h2 => by
    have : x = 1 := h1
    have : y = 0 := h2
    subst_vars
    exact m1
  have u : ∀ i, uniG id 1 0 i = if i = 1 then 0 else i := fun i => rfl
  rw [e3]
  have e4 : joinG (a + 1 + 2) S (uniG id 1 0) 1 (a + 1 + 1) = uniG (uniG id 1 0) 1 (a + 1 + 1) := joinG_not (by rw [u, u]; simp) fun x y _ _ h1 h2 => by
    rw [u, u] at h1 h2
    have hx : x = 0 ∨ x = 1 := by
      split at h1 <;> simp at h1 <;> omega
    have hy : y = a + 1 + 1 := by
      split at h2 <;> simp at h2 <;> omega
    rcases hx with rfl | rfl
    · rw [hy]; exact m2
    · rw [hy]; exact m3
  rw [e4]
  refine ⟨?_, ?_, ?_⟩ <;> simp [uniG]
theorem rs_groups {a : Nat} (ha : a < 20) {I O : Tb} (h : (∀ b v, v < a + 1 + 2 → (I b v = true ↔ NeedIn (rsF (a + 1)).blocks b v)) ∧ ∀ b v, v < a + 1 + 2 → (O b v = true ↔ NeedOut (rsF (a + 1)).blocks b v)) : ∀ q, groupsM (a + 1 + 2) (spansM (rsF (a + 1)).blocks (a + 1 + 2) I O 4) (rsF (a + 1)).blocks = q → q 1 = 1 ∧ q (a + 2) = 1 := by
  rintro q rfl
  have e1 : spansM (rsF (a + 1)).blocks (a + 1 + 2) I O 4 = spN (rsF (a + 1)) (a + 1 + 2) := spansM_congr (told_is (bs := (rsF (a + 1)).blocks) (k := 6) (fun b hb v hv => rs_closed a ha b hb v hv) h) 4
  rw [e1]
  obtain ⟨m1, m2⟩ := rs_meets a ha
  generalize spN (rsF (a + 1)) (a + 1 + 2) = S at *
  have e2 : groupsM (a + 1 + 2) S (rsF (a + 1)).blocks = joinG (a + 1 + 2) S (joinG (a + 1 + 2) S id 1 0) 1 (a + 1 + 1) := ring_groups (a + 1 + 2) S _ _ _ _ (a + 1) (by decide) (by decide) (rgI_none _) (by decide)
  rw [e2]
  have e3 : joinG (a + 1 + 2) S id 1 0 = id := by
    unfold joinG
    rw [if_pos (Or.inr ⟨1, 0, by omega, by omega, rfl, rfl, m1⟩)]
  rw [e3]
  have e4 : joinG (a + 1 + 2) S id 1 (a + 1 + 1) = uniG id 1 (a + 1 + 1) := joinG_not (by simp) fun x y _ _ h1 h2 => by
    have : x = 1 := h1
    have : y = a + 1 + 1 := h2
    subst_vars
    exact m2
  rw [e4]
  refine ⟨?_, ?_⟩ <;> simp [uniG]
end Go.Proofs.Ytdlnofjmonpmgaa
