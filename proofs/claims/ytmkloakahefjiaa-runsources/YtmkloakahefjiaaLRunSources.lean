/-
  The walk through 'RunSources': run.Source and the document's answer are one, for whatever function, machine, seed and steps.
-/
import Derived.Test.YtmkloakahefjiaaRS4
import Derived.Test.YtmkloakahefjiaaLOpen
namespace Go.Proofs.Ytmkloakahefjiaa
open Go.RowKit
set_option linter.unusedVariables false

/-- What both answer: the events, or an error and nothing. -/
def SrAns (f : Fn) (m0 m1 seed st : Int) (e : Int) (l : List Evt) : Prop :=
  (flowE f m0 m1 (f.blocks.length * f.blocks.length + 1) ≠ 0 ∧ e = flowE f m0 m1 (f.blocks.length * f.blocks.length + 1) ∧ l = []) ∨
  (flowE f m0 m1 (f.blocks.length * f.blocks.length + 1) = 0 ∧ (st < 0 ∨ 5000 < st) ∧ e = 2 ∧ l = []) ∨
  (flowE f m0 m1 (f.blocks.length * f.blocks.length + 1) = 0 ∧ ∃ steps : Nat, st = steps ∧ steps ≤ 5000 ∧ e = 0 ∧ l = (runM f.blocks f.values.length seed steps).evs)
theorem srAns_all (f : Fn) (m0 m1 seed st : Int) : ∃ e l, SrAns f m0 m1 seed st e l := by
  by_cases h : flowE f m0 m1 (f.blocks.length * f.blocks.length + 1) = 0
  · by_cases h1 : st < 0 ∨ 5000 < st
    · exact ⟨2, [], Or.inr (Or.inl ⟨h, h1, rfl, rfl⟩)⟩
    · exact ⟨0, _, Or.inr (Or.inr ⟨h, st.toNat, by omega, by omega, rfl, rfl⟩)⟩
  · exact ⟨_, [], Or.inl ⟨h, rfl, rfl⟩⟩
theorem source_all (f : Fn) (m0 m1 seed st e : Int) (l : List Evt) (hA : SrAns f m0 m1 seed st e l) (av ab : Option Addr) (cv cb : Nat) (w : World) (hv : SlOf w 1 RInt (.slice av f.values.length cv) f.values) (hb : SlOf w 3 (RBlk w) (.slice ab f.blocks.length cb) f.blocks) :
    Calls Try.prog 4 #[.agg #[.slice av f.values.length cv, .slice ab f.blocks.length cb], .agg #[.int .i64 m0, .int .i64 m1], .int .i64 seed, .int .i64 st] w fun x w' => ∃ a n c, n = l.length ∧ x = .returned (.tuple #[.slice a n c, .int .i64 e]) ∧ SlOf w' 4 (REv w') (.slice a n c) l ∧ Below w.heap.size w w' := by
  rcases hA with ⟨h0, rfl, rfl⟩ | ⟨h0, h1, rfl, rfl⟩ | ⟨h0, steps, rfl, h1, rfl, rfl⟩
  · exact (source_err f _ _ m0 m1 seed st _ av ab cv cb rfl h0 rfl rfl w hv hb).mono fun x w' h => ⟨none, 0, 0, rfl, h.1, SlOf_nil _ _ _ _ _, h.2⟩
  · exact (source_rng f _ _ m0 m1 seed st av ab cv cb h0 h1 rfl rfl w hv hb).mono fun x w' h => ⟨none, 0, 0, rfl, h.1, SlOf_nil _ _ _ _ _, h.2⟩
  · exact (source_any f _ _ steps m0 m1 seed av ab cv cb h0 rfl rfl h1 w hv hb).mono fun x w' ⟨a, n, c, h1, _, h2, h3, h4⟩ => ⟨a, n, c, h1, h2, h3, h4⟩
theorem sourceRun_all (f : Fn) (m0 m1 seed st e : Int) (l : List Evt) (hA : SrAns f m0 m1 seed st e l) (av ab : Option Addr) (cv cb : Nat) (w : World) (hv : SlOf w 1 RInt (.slice av f.values.length cv) f.values) (hb : SlOf w 3 (RBlk w) (.slice ab f.blocks.length cb) f.blocks) :
    Calls Try.prog 5 #[.agg #[.slice av f.values.length cv, .slice ab f.blocks.length cb], .agg #[.int .i64 m0, .int .i64 m1], .int .i64 seed, .int .i64 st] w fun x w' => ∃ a n c, n = l.length ∧ x = .returned (.tuple #[.slice a n c, .int .i64 e]) ∧ SlOf w' 4 (REv w') (.slice a n c) l ∧ Below w.heap.size w w' := by
  rcases hA with ⟨h0, rfl, rfl⟩ | ⟨h0, h1, rfl, rfl⟩ | ⟨h0, steps, rfl, h1, rfl, rfl⟩
  · exact (sourceRun_err f _ _ m0 m1 seed st _ av ab cv cb rfl h0 rfl rfl w hv hb).mono fun x w' h => ⟨none, 0, 0, rfl, h.1, SlOf_nil _ _ _ _ _, h.2⟩
  · exact (sourceRun_rng f _ _ m0 m1 seed st av ab cv cb h0 h1 rfl rfl w hv hb).mono fun x w' h => ⟨none, 0, 0, rfl, h.1, SlOf_nil _ _ _ _ _, h.2⟩
  · exact sourceRun_any f _ _ steps m0 m1 seed av ab cv cb h0 h1 rfl rfl w hv hb

set_option maxHeartbeats 4000000 in
theorem runSources_walk (f : Fn) (m0 m1 seed st : Int) (vv vb : Value) (w : World) (hv0 : SlOf w 1 RInt vv f.values) (hb0 : SlOf w 3 (RBlk w) vb f.blocks) :
    Calls Try.prog 3 #[.agg #[vv, vb], .agg #[.int .i64 m0, .int .i64 m1], .int .i64 seed, .int .i64 st] w fun e w' => e = .returned (.bool true) ∧ Below w.heap.size w w' := by
  obtain ⟨av, cv, rfl, lv⟩ := hv0.out
  obtain ⟨ab, cb, rfl, lb⟩ := hb0.out
  obtain ⟨r, l, hA⟩ := srAns_all f m0 m1 seed st
  have HA : Hid (SrAns f m0 m1 seed st r l) := hA
  obtain ⟨W, hW⟩ : ∃ W, W = (w.alloc (.cells #[.slice av f.values.length cv, .slice ab f.blocks.length cb] 25)).alloc (.cells #[.int .i64 m0, .int .i64 m1] 28) := ⟨_, rfl⟩
  have hbw : Below w.heap.size w W := by rw [hW]; exact ((Below.refl _ _).alloc (Nat.le_refl _) _).alloc (by simp) _
  have zW : w.heap.size + 1 < W.heap.size := by rw [hW]; simp
  obtain ⟨t0, t1⟩ := two_at w #[.slice av f.values.length cv, .slice ab f.blocks.length cb] #[.int .i64 m0, .int .i64 m1] 25 28
  have f0 : W.cell? ⟨w.heap.size, 0, none⟩ = some (.slice av f.values.length cv) := by rw [hW]; exact t0 0
  have f1 : W.cell? ⟨w.heap.size, 1, none⟩ = some (.slice ab f.blocks.length cb) := by rw [hW]; exact t0 1
  have e0 : W.cell? ⟨w.heap.size + 1, 0, none⟩ = some (.int .i64 m0) := by rw [hW]; exact t1 0
  have e1 : W.cell? ⟨w.heap.size + 1, 1, none⟩ = some (.int .i64 m1) := by rw [hW]; exact t1 1
  have HW : Hid (W = (w.alloc (.cells #[.slice av f.values.length cv, .slice ab f.blocks.length cb] 25)).alloc (.cells #[.int .i64 m0, .int .i64 m1] 28)) := hW
  have HC := source_all f m0 m1 seed st r l hA av ab cv cb W (hv0.below hbw fun _ _ h => h) (hb0.below hbw (RBlk.below hbw))
  clear hW t0 t1 hA
  go_enter Try.func3, Try.ntmps3
  go_upto_region 1 with fail
  rw [← HW.out]
  go_wp2_with fail
  refine HC.mono ?_
  clear HC HW
  rintro e w1 ⟨a1, n1, c1, hn1, rfl, hs1, hb1⟩
  have hbw1 : Below w.heap.size w w1 := hbw.trans (hb1.mono hbw.size)
  have f0' := (hb1.cell (p := ⟨w.heap.size, 0, none⟩) (by simp; omega)).trans f0
  have f1' := (hb1.cell (p := ⟨w.heap.size, 1, none⟩) (by simp; omega)).trans f1
  have e0' := (hb1.cell (p := ⟨w.heap.size + 1, 0, none⟩) (by simp; omega)).trans e0
  have e1' := (hb1.cell (p := ⟨w.heap.size + 1, 1, none⟩) (by simp; omega)).trans e1
  have HN1 : Hid (l.length = n1) := hn1.symm
  have HS1 : Hid (SlOf w1 4 (REv w1) (.slice a1 n1 c1) l) := hs1
  have HC := sourceRun_all f m0 m1 seed st r l HA.out av ab cv cb w1 (hv0.below hbw1 fun _ _ h => h) (hb0.below hbw1 (RBlk.below hbw1))
  clear f0 f1 e0 e1 hn1 hs1
  go_wp2_with fail
  refine HC.mono ?_
  clear HC
  rintro e w2 ⟨a2, n2, c2, hn2, rfl, hs2, hb2⟩
  have hbw2 : Below w.heap.size w w2 := hbw1.trans (hb2.mono hbw1.size)
  have hnn : n2 = n1 := by rw [hn2]; exact HN1.out
  subst hnn
  have HC := ksame_evs l a1 a2 n2 c1 c2 w2 HN1.out (HS1.out.below hb2 (REv.below hb2)) hs2
  clear f0' f1' e0' e1' hn2 hs2
  go_wp2_with fail
  refine HC.mono ?_
  clear HC
  rintro e w3 ⟨rfl, hb3⟩
  go_wp2
  go_ret
  exact ⟨by simp, hbw2.trans (Below.mono hb3 hbw2.size)⟩
end Go.Proofs.Ytmkloakahefjiaa
