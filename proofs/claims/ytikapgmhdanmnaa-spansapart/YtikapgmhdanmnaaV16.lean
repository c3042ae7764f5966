/-
  Spans stand apart: what joining keeps; how stays lie within their block. No Go in here.
-/
import Derived.Test.YtikapgmhdanmnaaV15
import Derived.Test.YtikapgmhdanmnaaV8
namespace Go.Proofs.Ytikapgmhdanmnaa
open Go.RowKit
set_option linter.unusedVariables false

/-- Spans in their order, apart, none empty, all of them up to a point. -/
def Aprt : List Sp → Prop
  | [] => True
  | [x] => x.1 < x.2
  | x :: y :: r => x.1 < x.2 ∧ x.2 < y.1 ∧ Aprt (y :: r)
def UpTo (l : List Sp) (p : Int) : Prop := ∀ x ∈ l, x.2 ≤ p
theorem aprt_snoc : ∀ {l : List Sp} {y x : Sp}, Aprt (l ++ [y]) → x.1 < x.2 → y.2 < x.1 → Aprt (l ++ [y] ++ [x])
  | [], y, x, h, hx, hy => ⟨h, hy, hx⟩
  | [z], y, x, h, hx, hy => ⟨h.1, h.2.1, h.2.2, hy, hx⟩
  | z :: u :: r, y, x, h, hx, hy => by
    have h1 : Aprt (u :: r ++ [y]) := h.2.2
    exact ⟨h.1, h.2.1, aprt_snoc (l := u :: r) h1 hx hy⟩
theorem aprt_merge : ∀ {l : List Sp} {y : Sp} {e : Int}, Aprt (l ++ [y]) → y.2 < e → Aprt (l ++ [(y.1, e)])
  | [], y, e, h, he => by
    have h1 : y.1 < y.2 := h
    show y.1 < e
    omega
  | [z], y, e, h, he => by
    have h1 : y.1 < y.2 := h.2.2
    refine ⟨h.1, h.2.1, ?_⟩
    show y.1 < e
    omega
  | z :: u :: r, y, e, h, he => by
    have h1 : Aprt (u :: r ++ [y]) := h.2.2
    exact ⟨h.1, h.2.1, aprt_merge (l := u :: r) h1 he⟩
theorem join_aprt {l : List Sp} {x : Sp} {p : Int} (h : Aprt l) (hp : UpTo l p) (hx : x.1 < x.2) (hpx : p ≤ x.1) : Aprt (joinL l x) ∧ UpTo (joinL l x) x.2 ∧ joinL l x ≠ [] := by
  rcases List.eq_nil_or_concat l with rfl | ⟨m, y, rfl⟩
  · rw [joinL_nil]
    exact ⟨hx, fun z hz => by rw [List.mem_singleton.1 hz]; exact Int.le_refl _, by simp⟩
  · rw [List.concat_eq_append] at h hp ⊢
    rw [joinL_snoc]
    have hy := hp y (by simp)
    split
    · rename_i e
      refine ⟨aprt_merge h (by omega), fun z hz => ?_, by simp⟩
      rcases List.mem_append.1 hz with hz | hz
      · have := hp z (List.mem_append_left _ hz)
        omega
      · rw [List.mem_singleton.1 hz]
        exact Int.le_refl _
    · rename_i e
      refine ⟨aprt_snoc h hx (by omega), fun z hz => ?_, by simp⟩
      rcases List.mem_append.1 hz with hz | hz
      · have := hp z hz
        omega
      · rw [List.mem_singleton.1 hz]
        exact Int.le_refl _
/-- What holds of the stays of all blocks: each lies within its own, if it is one. -/
def StIn (bs : List Blk) (nv : Nat) (I O : Tb) : Prop := ∀ k, k < bs.length → ∀ v, v < nv → (stayM (blkA bs k) I O k nv (startM bs k) v).1 < (stayM (blkA bs k) I O k nv (startM bs k) v).2 → startM bs k ≤ (stayM (blkA bs k) I O k nv (startM bs k) v).1 ∧ (stayM (blkA bs k) I O k nv (startM bs k) v).2 ≤ startM bs (k + 1)
theorem start_mono {bs : List Blk} (k : Nat) (hk : k < bs.length) : startM bs k ≤ startM bs (k + 1) := by
  rw [startM_succ bs k hk]
  omega
theorem spans_aprt {bs : List Blk} {nv : Nat} {I O : Tb} (h : StIn bs nv I O) (v : Nat) (hv : v < nv) : ∀ k, k ≤ bs.length → Aprt (spansM bs nv I O k v) ∧ UpTo (spansM bs nv I O k v) (startM bs k)
  | 0, _ => ⟨trivial, fun x hx => by cases hx⟩
  | k + 1, hk => by
    obtain ⟨h1, h2⟩ := spans_aprt h v hv k (by omega)
    simp only [spansM, stepL]
    split
    · rename_i hlt
      have h3 := h k (by omega) v hv hlt
      have h4 := join_aprt h1 h2 hlt h3.1
      exact ⟨h4.1, fun x hx => Int.le_trans (h4.2.1 x hx) h3.2⟩
    · exact ⟨h1, fun x hx => Int.le_trans (h2 x hx) (start_mono k (by omega))⟩
/-- Once there is one there is one. -/
theorem spans_some {bs : List Blk} {nv : Nat} {I O : Tb} (v : Nat) (k : Nat) (hk : (stayM (blkA bs k) I O k nv (startM bs k) v).1 < (stayM (blkA bs k) I O k nv (startM bs k) v).2) : ∀ n, k < n → spansM bs nv I O n v ≠ []
  | 0, h => by omega
  | n + 1, h => by
    have hj : ∀ (l : List Sp) (x : Sp), joinL l x ≠ [] := fun l x => by
      rcases List.eq_nil_or_concat l with rfl | ⟨m, y, rfl⟩
      · simp [joinL]
      · rw [List.concat_eq_append, joinL_snoc]
        split <;> simp
    simp only [spansM, stepL]
    by_cases e : n = k
    · subst e
      rw [if_pos hk]
      exact hj _ _
    · split
      · exact hj _ _
      · exact spans_some v k hk n (by omega)
end Go.Proofs.Ytikapgmhdanmnaa
