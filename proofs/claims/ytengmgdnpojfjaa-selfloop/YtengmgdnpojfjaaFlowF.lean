/-
  Depth first through the blocks: the closure of 'orderOf'.
-/
import Derived.Test.YtengmgdnpojfjaaFlowE
import Derived.Test.YtengmgdnpojfjaaFlowR
namespace Go.Proofs.Ytengmgdnpojfjaa
open Go.RowKit
set_option linter.unusedVariables false

/-- How many blocks are not begun. -/
def unb (n : Nat) (bg : Nat → Bool) : Nat := (List.range n).countP fun i => !bg i
theorem unb_up {n : Nat} {bg : Nat → Bool} {b : Nat} (hb : b < n) (h : bg b = false) : unb n (upB bg b true) + 1 ≤ unb n bg := by
  unfold unb
  induction n with
  | zero => omega
  | succ m ih =>
    rw [List.range_succ, List.countP_append, List.countP_append]
    by_cases e : b = m
    · subst e
      have h1 : (List.range b).countP (fun i => !upB bg b true i) ≤ (List.range b).countP (fun i => !bg i) := by
        refine List.countP_mono_left fun i hi h2 => ?_
        unfold upB at h2
        split at h2
        · simp at h2
        · exact h2
      have e1 : [b].countP (fun i => !upB bg b true i) = 0 := by simp [upB]
      have e2 : [b].countP (fun i => !bg i) = 1 := by simp [h]
      omega
    · have := ih (by omega)
      have e1 : [m].countP (fun i => !upB bg b true i) = [m].countP (fun i => !bg i) := by
        simp [List.countP_cons, upB, show ¬ m = b by omega]
      omega
theorem unb_mono {n : Nat} {bg bg' : Nat → Bool} (h : ∀ i, bg i = true → bg' i = true) : unb n bg' ≤ unb n bg := by
  refine List.countP_mono_left fun i hi h2 => ?_
  cases e : bg i
  · rfl
  · rw [h i e] at h2; simp at h2
theorem unb_pos {n : Nat} {bg : Nat → Bool} {b : Nat} (hb : b < n) (h : bg b = false) : 0 < unb n bg := by
  have := unb_up hb h
  omega

/-- One state is behind another one. -/
def Beh (n : Nat) (s s' : (Nat → Bool) × List Int) : Prop := (∀ i, s.1 i = true → s'.1 i = true) ∧ unb n s'.1 + s'.2.length ≤ unb n s.1 + s.2.length
theorem Beh.refl (n : Nat) (s : (Nat → Bool) × List Int) : Beh n s s := ⟨fun _ h => h, Nat.le_refl _⟩
theorem Beh.trans {n : Nat} {a b c : (Nat → Bool) × List Int} (h : Beh n a b) (k : Beh n b c) : Beh n a c := ⟨fun i hi => k.1 i (h.1 i hi), Nat.le_trans k.2 h.2⟩
def stepV (sc : Nat → List Nat) (k : Nat) (s : (Nat → Bool) × List Int) (t : Nat) : (Nat → Bool) × List Int := if s.1 t then s else visitM sc k t s
theorem fold_beh {n : Nat} (sc : Nat → List Nat) (k : Nat) (hv : ∀ b s, b < n → s.1 b = false → Beh n s (visitM sc k b s)) : ∀ (l : List Nat) (s : (Nat → Bool) × List Int), (∀ t ∈ l, t < n) → Beh n s (l.foldl (stepV sc k) s)
  | [], s, _ => Beh.refl n s
  | t :: r, s, h => by
    refine Beh.trans ?_ (fold_beh sc k hv r _ fun x hx => h x (List.mem_cons_of_mem _ hx))
    unfold stepV
    cases e : s.1 t
    · exact hv t s (h t List.mem_cons_self) e
    · exact Beh.refl n s
theorem visit_beh {n : Nat} (sc : Nat → List Nat) (hsc : ∀ b t, t ∈ sc b → t < n) : ∀ (k b : Nat) (s : (Nat → Bool) × List Int), b < n → s.1 b = false → Beh n s (visitM sc k b s)
  | 0, b, s, _, _ => Beh.refl n s
  | k + 1, b, s, hb, h => by
    have h1 : Beh n (upB s.1 b true, s.2) ((sc b).foldl (stepV sc k) (upB s.1 b true, s.2)) := fold_beh sc k (fun b s hb h => visit_beh sc hsc k b s hb h) _ _ fun t ht => hsc b t ht
    have h2 := unb_up hb h
    show Beh n s (((sc b).foldl (stepV sc k) (upB s.1 b true, s.2)).1, ((sc b).foldl (stepV sc k) (upB s.1 b true, s.2)).2 ++ [(b : Int)])
    refine ⟨fun i hi => h1.1 i ?_, ?_⟩
    · show upB s.1 b true i = true
      unfold upB
      split
      · rfl
      · exact hi
    · have := h1.2
      simp only [List.length_append, List.length_singleton] at this ⊢
      omega
theorem visitM_succ (sc : Nat → List Nat) (k b : Nat) (s : (Nat → Bool) × List Int) : visitM sc (k + 1) b s = (((sc b).foldl (stepV sc k) (upB s.1 b true, s.2)).1, ((sc b).foldl (stepV sc k) (upB s.1 b true, s.2)).2 ++ [(b : Int)]) := rfl

/-- What the closure looks at. -/
structure VSt (w0 : World) (N n : Nat) (vb : Value) (w : World) (bg : Nat → Bool) (od : List Int) (v : Value) : Prop where
  pb : w.rowIs N 23 1 (fun _ => vb)
  rr : w.rowIs (N + 1) 4 n (fun i => .bool (bg i))
  pr : w.rowIs (N + 1 + 1) 62 1 (fun _ => .slice (some ⟨N + 1, 0, none⟩) n n)
  po : w.rowIs (N + 1 + 1 + 1 + 1) 22 1 (fun _ => v)
  pv : w.rowIs (N + 1 + 1 + 1 + 1 + 1) 87 1 (fun _ => .func (.func 52) #[] #[.pointer (some ⟨N + 1 + 1, 0, none⟩), .pointer (some ⟨N, 0, none⟩), .pointer (some ⟨N + 1 + 1 + 1 + 1 + 1, 0, none⟩), .pointer (some ⟨N + 1 + 1 + 1 + 1, 0, none⟩)])
  own : w.ownsRow (N + 1 + 1 + 1) 3 1 v od.length (od.flatMap cI)
  far : ∀ g, v.ownBlock = some g → g = N + 1 + 1 + 1 ∨ N + 1 + 1 + 1 + 1 + 1 < g
  low : Below N w0 w
  base : w0.heap.size = N
theorem VSt.below {w0 : World} {N n : Nat} {vb : Value} {w w' : World} {bg : Nat → Bool} {od : List Int} {v : Value} (h : VSt w0 N n vb w bg od v) (hb : Below w.heap.size w w') : VSt w0 N n vb w' bg od v :=
  ⟨h.pb.of_block (hb.block _ h.pb.lt), h.rr.of_block (hb.block _ h.rr.lt), h.pr.of_block (hb.block _ h.pr.lt), h.po.of_block (hb.block _ h.po.lt), h.pv.of_block (hb.block _ h.pv.lt), own_keep h.own fun g _ _ hg => hb.block g hg, h.far, h.low.trans (hb.mono (by have := h.pb.lt; omega)), h.base⟩
theorem VSt.mark {w0 : World} {N n : Nat} {vb : Value} {w : World} {bg : Nat → Bool} {od : List Int} {v : Value} (h : VSt w0 N n vb w bg od v) (b : Nat) : VSt w0 N n vb (w.setCell ⟨N + 1, b, none⟩ (.bool true)) (upB bg b true) od v := by
  refine ⟨h.pb.setOther (by simp; try omega) _, (h.rr.set b _).congr fun j hj => ?_, h.pr.setOther (by simp; try omega) _, h.po.setOther (by simp; try omega) _, h.pv.setOther (by simp; try omega) _, own_keep h.own fun g hg _ _ => ?_, h.far, h.low.setCell (by simp) _, h.base⟩
  · unfold upB
    split <;> rfl
  · refine Below.heap_setCell _ _ _ _ ?_
    have := h.far g hg
    show g ≠ N + 1
    omega
theorem VSt.push {w0 : World} {N n g cap H : Nat} {vb : Value} {w wa w1 : World} {bg : Nat → Bool} {od : List Int} {v : Value} {b : Nat} (h : VSt w0 N n vb w bg od v) (hwa : Below w.heap.size w wa) (hgrow : wa.grownBy w1 v.ownBlock)
    (hown : w1.ownsRow (N + 1 + 1 + 1) 3 1 (.slice (some ⟨g, 0, none⟩) (od.length + 1) cap) (od.length + 1) (od.flatMap cI ++ [.int .i64 b])) (hat : v.ownBlock = some g ∨ g = H) (hH : w.heap.size ≤ H) :
    VSt w0 N n vb (w1.setCell ⟨N + 1 + 1 + 1 + 1, 0, none⟩ (.slice (some ⟨g, 0, none⟩) (od.length + 1) cap)) bg (od ++ [(b : Int)]) (.slice (some ⟨g, 0, none⟩) (od.length + 1) cap) := by
  have hza := hwa.size
  have kept : ∀ b, b < w.heap.size → some b ≠ v.ownBlock → w1.heap[b]? = w.heap[b]? := fun b hb hne => (hgrow.block b (by omega) hne).trans (hwa.block b hb)
  have nv : ∀ b, b ≠ N + 1 + 1 + 1 → b ≤ N + 1 + 1 + 1 + 1 + 1 → some b ≠ v.ownBlock := fun b h1 h2 e => by have := h.far b e.symm; omega
  have hl := h.pv.lt
  have hg : g = N + 1 + 1 + 1 ∨ N + 1 + 1 + 1 + 1 + 1 < g := by
    rcases hat with h1 | h1
    · exact h.far g h1
    · omega
  have hst : ∀ (b : Nat), b ≠ N + 1 + 1 + 1 + 1 → (w1.setCell ⟨N + 1 + 1 + 1 + 1, 0, none⟩ (.slice (some ⟨g, 0, none⟩) (od.length + 1) cap)).heap[b]? = w1.heap[b]? := fun b hb => Below.heap_setCell _ _ _ _ hb
  refine ⟨h.pb.of_block ((hst _ (by omega)).trans (kept _ (by omega) (nv _ (by omega) (by omega)))), h.rr.of_block ((hst _ (by omega)).trans (kept _ (by omega) (nv _ (by omega) (by omega)))), h.pr.of_block ((hst _ (by omega)).trans (kept _ (by omega) (nv _ (by omega) (by omega)))), ?_, h.pv.of_block ((hst _ (by omega)).trans (kept _ (by omega) (nv _ (by omega) (by omega)))), ?_, fun g' hg' => ?_, ?_, h.base⟩
  · refine ((h.po.of_block (kept _ (by omega) (nv _ (by omega) (by omega)))).set 0 _).congr fun j hj => ?_
    have : j = 0 := by omega
    simp [this]
  · rw [List.length_append, List.length_singleton, List.flatMap_append]
    exact own_keep hown fun b hb h1 h2 => hst b (by simp [Value.ownBlock] at hb; omega)
  · simp [Value.ownBlock] at hg'
    omega
  · refine Below.setCell (Below.grown (h.low.trans (hwa.mono (by omega))) hgrow (by omega) fun k hk => ?_) (by simp; omega) _
    have := h.far k hk
    omega
end Go.Proofs.Ytengmgdnpojfjaa
