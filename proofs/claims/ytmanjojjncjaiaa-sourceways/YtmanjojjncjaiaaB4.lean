/-
  What is built of pieces has an instruction in its first block. No Go in here.
-/
import Derived.Test.YtmanjojjncjaiaaB2
namespace Go.Proofs.Ytmanjojjncjaiaa
open Go.RowKit
set_option linter.unusedVariables false

/-- The first block has an instruction. -/
def H0 (l : List Blk) : Prop := ∃ b r, l = b :: r ∧ b.instrs ≠ []
def Fb (s : Ms) : Prop := H0 s.f.blocks
theorem H0.set {l : List Blk} (h : H0 l) (i : Nat) (g : Blk → Blk) (hg : ∀ b, b.instrs ≠ [] → (g b).instrs ≠ []) : H0 (setBlk l i g) := by
  obtain ⟨b, r, rfl, hb⟩ := h
  unfold setBlk
  cases i with
  | zero => exact ⟨g b, r, rfl, hg b hb⟩
  | succ i => exact ⟨b, _, rfl, hb⟩
theorem H0.app {l : List Blk} (h : H0 l) (m : List Blk) : H0 (l ++ m) := by
  obtain ⟨b, r, rfl, hb⟩ := h
  exact ⟨b, r ++ m, rfl, hb⟩
theorem lay_f {s : Ms} {p : Pc} (h : Fb s) : Fb (layM s p) := H0.set h _ _ fun b hb => by simp [addI]
theorem lay_f0 {s : Ms} {p : Pc} (hc : s.cur = 0) (hb : s.f.blocks ≠ []) : Fb (layM s p) := by
  unfold Fb layM
  simp only [hc]
  cases h : s.f.blocks with
  | nil => exact absurd h hb
  | cons b r => exact ⟨_, r, rfl, by simp [addI]⟩
theorem edge_f {s : Ms} {a b : Nat} {l : List Int} (h : Fb s) : Fb (edgeM s a b l) := H0.set h _ _ fun b hb => by simpa [addE] using hb
theorem block_z {s : Ms} {l : List Int} (h : Fb s) : Fb (blockM s l).1 := H0.app h _
theorem newest_f {s : Ms} {c : Int} {p : Pc} (h : Fb s) : Fb (newestM s c p).1 := by
  unfold newestM
  split
  · exact h
  · exact lay_f h
theorem way_f {c : Int} {kn : List Int} {e : Nat} {s : Ms} {p : Pc} {k : Nat} {more : Bool} (h : Fb s) : Fb (wayM c kn e s p k more).1 := by
  unfold wayM
  cases more
  · exact edge_f (s := (newestM (newestM _ _ _).1 _ _).1) (newest_f (newest_f (s := { s with cur := k }) h))
  · exact edge_f (s := (newestM (newestM _ _ _).1 _ _).1) (newest_f (newest_f (lay_f (s := { s with cur := k }) h)))
theorem fork_f {s : Ms} {p : Pc} (h : Fb (layM s p)) : Fb (forkM s p) := by
  rw [forkM_eq]
  exact way_f (kn := (layM s p).known) (way_f (kn := (layM s p).known) (edge_f (edge_f (block_z (block_z (block_z h))))))
theorem ring_f {s : Ms} {p : Pc} (h : Fb (newestM s (pickedOf p.c 2) p).1) : Fb (ringM s p) := by
  unfold ringM
  simp only
  refine edge_f (s := (newestM (newestM _ _ _).1 _ _).1) (newest_f (newest_f (lay_f (s := { edgeM (edgeM _ _ _ _) _ _ _ with cur := _ }) (edge_f (edge_f (block_z (block_z (lay_f (s := { edgeM _ _ _ _ with cur := _, known := _ }) (edge_f (block_z (newest_f h)))))))))))
def Zss (s : Ms) : Prop := Fb s ∨ (s.cur = 0 ∧ s.known = [] ∧ s.f.blocks ≠ [])
theorem Zss.lay {s : Ms} (h : Zss s) (p : Pc) : Fb (layM s p) := by
  rcases h with h | ⟨h1, _, h3⟩
  · exact lay_f h
  · exact lay_f0 h1 h3
theorem Zss.newest {s : Ms} (h : Zss s) (c : Int) (p : Pc) : Fb (newestM s c p).1 := by
  rcases h with h | ⟨h1, h2, h3⟩
  · exact newest_f h
  · have h0 := (pickedOf_bd p.b 3 (by decide)).1
    have e : ((s.known.length : Int) - pickedOf p.b 3).toNat = 0 := by rw [h2]; simp; omega
    unfold newestM
    rw [e]
    exact lay_f0 h1 h3
theorem Zss.step {s : Ms} (h : Zss s) (p : Pc) : Zss (stepM s p) := by
  unfold stepM
  simp only
  split
  · exact Or.inl (fork_f (h.lay p))
  · split
    · exact Or.inl (ring_f (h.newest _ p))
    · split
      · exact Or.inl (h.lay p)
      · exact h
theorem Zss.fold : ∀ (l : List Pc) {s : Ms}, Zss s → Zss (l.foldl stepM s)
  | [], _, h => h
  | p :: r, s, h => by rw [List.foldl_cons]; exact Zss.fold r (h.step p)
theorem mason_first (m0 m1 : Int) (l : List Pc) : H0 (masonM m0 m1 l).blocks := by
  have h0 : Zss (blockM ⟨m0, m1, ⟨[], []⟩, 0, []⟩ []).1 := Or.inr ⟨rfl, rfl, by simp [blockM]⟩
  exact (Zss.fold (l.take 24) h0).lay _
end Go.Proofs.Ytmanjojjncjaiaa
