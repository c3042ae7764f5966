/-
  Slices that a call has made by append: how they are kept, and how they read as lists.
-/
import Derived.Test.YtdlglinbjkaokabRep
import Derived.Test.YtdlglinbjkaokabMach
import Derived.Deep.AppendLies
namespace Go.Proofs.Ytdlglinbjkaokab
open Go.RowKit
set_option linter.unusedVariables false

theorem flat_at {α β : Type} (f : α → List β) (k : Nat) (hk : ∀ x, (f x).length = k) : ∀ (l : List α) (i j : Nat) (hi : i < l.length), j < k → (l.flatMap f)[i * k + j]? = (f l[i])[j]?
  | [], i, j, hi, _ => by simp at hi
  | x :: r, 0, j, _, hj => by
    simp only [List.flatMap_cons, Nat.zero_mul, Nat.zero_add, List.getElem_cons_zero]
    rw [List.getElem?_append_left (by rw [hk]; exact hj)]
  | x :: r, i + 1, j, hi, hj => by
    have e : (i + 1) * k + j = k + (i * k + j) := by rw [Nat.succ_mul]; omega
    have h := flat_at f k hk r i j (by simpa using hi) hj
    rw [List.flatMap_cons, e, List.getElem?_append_right (by rw [hk]; omega), hk, Nat.add_sub_cancel_left, h]
    rfl
theorem flat_length {α β : Type} (f : α → List β) (k : Nat) (hk : ∀ x, (f x).length = k) : ∀ (l : List α), (l.flatMap f).length = l.length * k
  | [] => by simp
  | x :: r => by
    have h := flat_length f k hk r
    rw [List.flatMap_cons, List.length_append, hk, h, List.length_cons, Nat.succ_mul]
    omega

/-- What owns the cells of a list reads as that list. -/
theorem own_sl {α : Type} {w : World} {base e k n : Nat} {v : Value} {R : List Value → α → Prop} (f : α → List Value) (hk : ∀ x, (f x).length = k) (hk0 : 0 < k) (hR : ∀ x, R (f x) x) (l : List α) (h : w.ownsRow base e k v n (l.flatMap f)) (hn : n ≤ longest) : SlOf w k R v l := by
  obtain ⟨hlen, h⟩ := h
  rw [flat_length f k hk] at hlen
  have hl : l.length = n := Nat.eq_of_mul_eq_mul_right hk0 hlen
  rcases h with ⟨rfl, rfl⟩ | ⟨g, cap, cur, rfl, hb, hg, hnc, hc, hcs, htake⟩
  · refine ⟨none, 0, by rw [hl], by rw [hl]; exact hn, Or.inl (List.length_eq_zero_iff.1 hl)⟩
  · refine ⟨_, cap, by rw [hl], by rw [hl]; exact hn, Or.inr ⟨g, 0, rfl, fun i hi => ⟨f l[i], hk _, hR _, fun j hj => ?_⟩⟩⟩
    rw [hk] at hj
    have h1 := flat_at f k hk l i j hi hj
    rw [← htake, List.getElem?_take] at h1
    have hlt : i * k + j < n * k := by
      have : (i + 1) * k ≤ n * k := Nat.mul_le_mul_right k (by omega)
      rw [Nat.succ_mul] at this
      omega
    have h2 : (f l[i])[j]? = some (f l[i])[j] := List.getElem?_eq_getElem (by rw [hk]; exact hj)
    rw [if_pos hlt, h2] at h1
    simp only [World.cell?, hg, Nat.zero_add]
    simpa using h1
/-- It is kept where its block is. -/
theorem own_keep {w w' : World} {base e k n : Nat} {v : Value} {xs : List Value} (h : w.ownsRow base e k v n xs) (hb : ∀ g, v.ownBlock = some g → base ≤ g → g < w.heap.size → w'.heap[g]? = w.heap[g]?) : w'.ownsRow base e k v n xs := by
  obtain ⟨hlen, h⟩ := h
  refine ⟨hlen, ?_⟩
  rcases h with h | ⟨g, cap, cur, rfl, hbg, hg, rest⟩
  · exact Or.inl h
  · have hlt : g < w.heap.size := by
      rcases Nat.lt_or_ge g w.heap.size with h1 | h1
      · exact h1
      · rw [Array.getElem?_eq_none h1] at hg; cases hg
    exact Or.inr ⟨g, cap, cur, rfl, hbg, by rw [hb g rfl hbg hlt]; exact hg, rest⟩
theorem own_base {w : World} {base e k n g : Nat} {v : Value} {xs : List Value} (h : w.ownsRow base e k v n xs) (hg : v.ownBlock = some g) : base ≤ g ∧ g < w.heap.size := by
  rcases h.2 with ⟨rfl, _⟩ | ⟨g', cap, cur, rfl, hb, hh, _⟩
  · simp [Value.ownBlock] at hg
  · simp [Value.ownBlock] at hg
    subst hg
    refine ⟨hb, ?_⟩
    rcases Nat.lt_or_ge g' w.heap.size with h1 | h1
    · exact h1
    · rw [Array.getElem?_eq_none h1] at hh; cases hh

def cI (n : Int) : List Value := [.int .i64 n]
def cO (o : Opr) : List Value := [.int .i64 o.kind, .int .i64 o.value, .bool o.late, .int .i64 o.limit, .int .i64 o.n]
def cR (r : Rg) : List Value := [.int .i64 r.cls, .int .i64 r.n]
theorem own_ints {w : World} {base e n : Nat} {v : Value} (l : List Int) (h : w.ownsRow base e 1 v n (l.flatMap cI)) (hn : n ≤ longest) : SlOf w 1 RInt v l := own_sl (k := 1) cI (fun _ => rfl) (by decide) (fun _ => rfl) l h hn
theorem own_oprs {w : World} {base e n : Nat} {v : Value} (l : List Opr) (h : w.ownsRow base e 5 v n (l.flatMap cO)) (hn : n ≤ longest) : SlOf w 5 ROpr v l := own_sl (k := 5) cO (fun _ => rfl) (by decide) (fun _ => rfl) l h hn
theorem own_rgs {w : World} {base e n : Nat} {v : Value} (l : List Rg) (h : w.ownsRow base e 2 v n (l.flatMap cR)) (hn : n ≤ longest) : SlOf w 2 RRg v l := own_sl (k := 2) cR (fun _ => rfl) (by decide) (fun _ => rfl) l h hn
end Go.Proofs.Ytdlglinbjkaokab
