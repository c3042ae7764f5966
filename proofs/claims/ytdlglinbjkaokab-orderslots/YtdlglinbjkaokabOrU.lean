/-
  Lists of moves that a statement builds by append; which of them may be.
-/
import Derived.Test.YtdlglinbjkaokabOrT
namespace Go.Proofs.Ytdlglinbjkaokab
open Go.RowKit
set_option linter.unusedVariables false

theorem ordGo_zero {r0 r1 fr : Int} : ∀ (ps : List (Mv × Int)) (seen : List Pl), (∀ p ∈ ps, chkE r0 r1 fr p.1 p.2 = 0) → (seen ++ pDst ps).Nodup → ordGo r0 r1 fr seen ps = 0
  | [], _, _, _ => rfl
  | p :: ps, seen, h, hn => by
    have h0 := h p (by simp)
    have hns : p.1.dst ∉ seen := fun hin => by
      have := (List.nodup_append.1 hn).2.2 _ hin p.1.dst (by simp [pDst])
      exact this rfl
    rw [ordGo, if_neg (by rw [h0]; simp), if_neg hns]
    refine ordGo_zero ps _ (fun q hq => h q (List.mem_cons_of_mem _ hq)) ?_
    have e : seen ++ [p.1.dst] ++ pDst ps = seen ++ pDst (p :: ps) := by simp [pDst]
    rw [e]
    exact hn
theorem zip_rep : ∀ (l : List Mv) (c : Int), ∀ p ∈ l.zip (List.replicate l.length c), p.1 ∈ l ∧ p.2 = c
  | [], _, p, hp => by simp at hp
  | m :: l, c, p, hp => by
    simp only [List.length_cons, List.replicate_succ, List.zip_cons_cons] at hp
    rcases List.mem_cons.1 hp with rfl | hp
    · simp
    · obtain ⟨a, b⟩ := zip_rep l c p hp
      exact ⟨List.mem_cons_of_mem _ a, b⟩
theorem mach_okU {R : Int} (h1 : 2 ≤ R) (h2 : R ≤ 10) : machErr R R = 0 := by unfold machErr; rw [if_pos ⟨h1, h2, h1, h2⟩]
theorem ordE_rep {R fr : Int} {l : List Mv} {c : Int} (h1 : 2 ≤ R) (h2 : R ≤ 10) (hf : 0 ≤ fr ∧ fr < 1000) (hl : l.length ≤ 5000) (hk : ∀ m ∈ l, chkE R R fr m c = 0) (hn : (dsts l).Nodup) : ordE R R fr l (List.replicate l.length c) = 0 := by
  unfold ordE
  rw [if_neg (by rw [mach_okU h1 h2]; simp), if_neg (by omega), if_neg (by simp)]
  refine ordGo_zero _ _ (fun p hp => ?_) ?_
  · obtain ⟨a, b⟩ := zip_rep l c p hp
    rw [b]
    exact hk _ a
  · rw [List.nil_append, zip_fst _ _ (by simp)]
    exact hn
/-- The first so many moves of a kind. -/
def mvF (f : Nat → Mv) (j : Nat) : List Mv := (List.range j).map f
theorem mvF_succ (f : Nat → Mv) (j : Nat) : mvF f (j + 1) = mvF f j ++ [f j] := by unfold mvF; rw [List.range_succ, List.map_append]; rfl
theorem mvF_len (f : Nat → Mv) (j : Nat) : (mvF f j).length = j := by simp [mvF]
theorem mvF_mem {f : Nat → Mv} {j : Nat} {m : Mv} : m ∈ mvF f j ↔ ∃ i, i < j ∧ f i = m := by simp [mvF]
theorem mvF_nd {f : Nat → Mv} {j : Nat} (h : ∀ a b, a < j → b < j → (f a).dst = (f b).dst → a = b) : (dsts (mvF f j)).Nodup := by
  unfold dsts mvF
  rw [List.map_map]
  have hr : (List.range j).Nodup := List.nodup_range
  have : ∀ (xs : List Nat), xs.Nodup → (∀ a ∈ xs, a < j) → (xs.map (Mv.dst ∘ f)).Nodup := fun xs => by
    induction xs with
    | nil => intro _ _; exact List.nodup_nil
    | cons x xs ih =>
      intro hn hx
      obtain ⟨n1, n2⟩ := List.nodup_cons.1 hn
      refine List.nodup_cons.2 ⟨fun hin => ?_, ih n2 fun a ha => hx a (List.mem_cons_of_mem _ ha)⟩
      obtain ⟨y, hy, e⟩ := List.mem_map.1 hin
      exact n1 (h y x (hx y (List.mem_cons_of_mem _ hy)) (hx x (by simp)) e ▸ hy)
  exact this _ hr fun a ha => List.mem_range.1 ha
/-- Two rows that grow: moves, and their classes. -/
structure GrT (W : World) (N : Nat) (v6 v7 : Value) (l : List Mv) (cs : List Int) (w : World) : Prop where
  o6 : w.ownsRow N 29 6 v6 l.length (l.flatMap cMv)
  o7 : w.ownsRow N 3 1 v7 cs.length (cs.flatMap cI)
  ne : ∀ g, v6.ownBlock = some g → v7.ownBlock ≠ some g
  low : Below N W w
  le : N ≤ w.heap.size
theorem GrT.below {W : World} {N : Nat} {v6 v7 : Value} {l : List Mv} {cs : List Int} {w w' : World} (h : GrT W N v6 v7 l cs w) (hb : Below w.heap.size w w') : GrT W N v6 v7 l cs w' :=
  ⟨own_keep h.o6 fun g _ _ hg => hb.block g hg, own_keep h.o7 fun g _ _ hg => hb.block g hg, h.ne, h.low.trans (hb.mono h.le), Nat.le_trans h.le hb.size⟩
theorem GrT.push6 {W : World} {N : Nat} {v6 v7 : Value} {l : List Mv} {cs : List Int} {w w' : World} {m : Mv} {ob : Obj} {g cap : Nat} (h : GrT W N v6 v7 l cs w) (ho : w'.ownsRow N 29 6 (.slice (some ⟨g, 0, none⟩) (l.length + 1) cap) (l.length + 1) (l.flatMap cMv ++ [m].flatMap cMv)) (hg : (w.alloc ob).grownBy w' v6.ownBlock) (hat : v6.ownBlock = some g ∨ w.heap.size ≤ g) : GrT W N (.slice (some ⟨g, 0, none⟩) (l.length + 1) cap) v7 (l ++ [m]) cs w' := by
  have ha := h.below ((Below.refl w.heap.size w).alloc (Nat.le_refl _) ob)
  refine ⟨?_, own_keep ha.o7 fun q hq _ hlt => hg.block q hlt fun e => h.ne q e.symm hq, fun q hq e => ?_, ha.low.grown hg ha.le fun q hq => (own_base h.o6 hq).1, Nat.le_trans ha.le hg.size⟩
  · rw [List.length_append, List.flatMap_append]
    exact ho
  · have e2 : g = q := by simpa [Value.ownBlock] using hq
    subst e2
    rcases hat with h1 | h1
    · exact h.ne g h1 e
    · have := (own_base h.o7 e).2
      omega
theorem app_int {B n : Nat} {w : World} {v : Value} {xs : List Value} (hown : w.ownsRow B 3 1 v n xs) (hB : B ≤ w.heap.size) (x : Int) (hn : n + 1 ≤ 1000000) (ty : Nat) :
    ∃ g cap w', (Builtin.append_ #[24, 24] ty #[v, .slice (some ⟨w.heap.size, 0, none⟩) 1 1]).run Try.prog (w.alloc (.cells #[.int .i64 x] 3)) = .ok (.slice (some ⟨g, 0, none⟩) (n + 1) cap) w' ∧
      w'.ownsRow B 3 1 (.slice (some ⟨g, 0, none⟩) (n + 1) cap) (n + 1) (xs ++ [.int .i64 x]) ∧ (w.alloc (.cells #[.int .i64 x] 3)).grownBy w' v.ownBlock ∧ (v.ownBlock = some g ∨ w.heap.size ≤ g) := by
  have hinfo : (Try.prog.info? 3).map (fun i => (i.zero, i.size, i.bytes)) = some (some (.int .i64 0), 1, 8) := by kernel_rfl
  obtain ⟨i, hi, hz⟩ := Option.map_eq_some_iff.1 hinfo
  simp only [Prod.mk.injEq] at hz
  obtain ⟨hz0, hz1, hz2⟩ := hz
  have hown' : (w.alloc (.cells #[.int .i64 x] 3)).ownsRow B 3 1 v n xs := own_keep hown fun g _ _ hg => ((Below.refl w.heap.size w).alloc (Nat.le_refl _) _).block g hg
  obtain ⟨g, cap, w', h1, h2, h3, h4, _⟩ := run_append_lies (P := Try.prog) (w.alloc (.cells #[.int .i64 x] 3)) 24 ty B 3 i _ 1 8 Try.underlying24 hi hz0 hz1 hz2 rfl (by decide) v n xs hown' ⟨w.heap.size, 0, none⟩ 1 1 [.int .i64 x] rfl (fun j u hu => newsO j u hu) (fun u hu => by rw [List.mem_singleton.1 hu]; rfl) (by omega) (by unfold maxLen; omega) (by omega) (by simp; omega) _ rfl
  exact ⟨g, cap, w', h1, h2, h3, h4.imp id fun e => by rw [e]; simp⟩
theorem GrT.push7 {W : World} {N : Nat} {v6 v7 : Value} {l : List Mv} {cs : List Int} {w w' : World} {x : Int} {ob : Obj} {g cap : Nat} (h : GrT W N v6 v7 l cs w) (ho : w'.ownsRow N 3 1 (.slice (some ⟨g, 0, none⟩) (cs.length + 1) cap) (cs.length + 1) (cs.flatMap cI ++ [.int .i64 x])) (hg : (w.alloc ob).grownBy w' v7.ownBlock) (hat : v7.ownBlock = some g ∨ w.heap.size ≤ g) : GrT W N v6 (.slice (some ⟨g, 0, none⟩) (cs.length + 1) cap) l (cs ++ [x]) w' := by
  have ha := h.below ((Below.refl w.heap.size w).alloc (Nat.le_refl _) ob)
  refine ⟨own_keep ha.o6 fun q hq _ hlt => hg.block q hlt fun e => h.ne q hq e.symm, ?_, fun q hq e => ?_, ha.low.grown hg ha.le fun q hq => (own_base h.o7 hq).1, Nat.le_trans ha.le hg.size⟩
  · rw [List.length_append, List.flatMap_append]
    exact ho
  · have e2 : g = q := by simpa [Value.ownBlock] using e
    subst e2
    rcases hat with h1 | h1
    · exact h.ne g hq h1
    · have := (own_base h.o6 hq).2
      omega
theorem GrT.nil (w : World) : GrT w w.heap.size (.slice none 0 0) (.slice none 0 0) [] [] w := ⟨⟨rfl, Or.inl ⟨rfl, rfl⟩⟩, ⟨rfl, Or.inl ⟨rfl, rfl⟩⟩, fun g hg => by simp [Value.ownBlock] at hg, Below.refl _ _, Nat.le_refl _⟩
theorem GrT.sl {W : World} {N : Nat} {v6 v7 : Value} {l : List Mv} {cs : List Int} {w : World} (h : GrT W N v6 v7 l cs w) (h1 : l.length ≤ longest) (h2 : cs.length ≤ longest) : SlOf w 6 RMv v6 l ∧ SlOf w 1 RInt v7 cs :=
  ⟨own_sl cMv (fun _ => rfl) (by decide) (fun _ => rfl) l h.o6 h1, own_ints cs h.o7 h2⟩
theorem rep_succ (j : Nat) (c : Int) : List.replicate (j + 1) c = List.replicate j c ++ [c] := by rw [List.replicate_succ']
end Go.Proofs.Ytdlglinbjkaokab
