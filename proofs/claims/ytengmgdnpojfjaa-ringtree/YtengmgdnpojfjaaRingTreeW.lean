/-
  The walk through 'RingTree': it answers true for all numbers, and writes to nothing that was there.
-/
import Derived.Test.YtengmgdnpojfjaaFlowT
import Derived.Test.YtengmgdnpojfjaaRingU
namespace Go.Proofs.Ytengmgdnpojfjaa
open Go.RowKit
set_option linter.unusedVariables false

def rtF (a : Nat) : Fn := ringG (a + 1) (List.replicate (a + 1 + 2) 0) [] ringI1 1 [0]
set_option maxRecDepth 100000 in
theorem rt_in : ∀ a : Nat, a < 20 → flowInB (rtF a) 1 = true := by decide +kernel
set_option maxRecDepth 100000 in
theorem rt_err : ∀ a : Nat, a < 20 → flowE (rtF a) 10 10 1 = 0 := by decide +kernel
set_option maxRecDepth 100000 in
theorem rt_tree : ∀ a : Nat, a < 20 → orderM (rtF a).blocks = [0, 1, 3, 2] ∧ fnL 4 (idomF (rtF a) 1) = [-1, 0, 1, 1] ∧ fnL 4 (depthF (rtF a) 1) = [0, 1, 1, 0] := by decide +kernel
theorem rt_len (a : Nat) : (rtF a).values.length = a + 1 + 2 ∧ (rtF a).blocks.length = 4 := by
  unfold rtF ringG
  simp
/-- A row of four numbers that has just been laid. -/
theorem four_sl (w : World) (x0 x1 x2 x3 : Int) (t : Nat) : SlOf (w.alloc (.cells #[.int .i64 x0, .int .i64 x1, .int .i64 x2, .int .i64 x3] t)) 1 RInt (.slice (some ⟨w.heap.size, 0, none⟩) 4 4) [x0, x1, x2, x3] := by
  have r : (w.alloc (.cells #[.int .i64 x0, .int .i64 x1, .int .i64 x2, .int .i64 x3] t)).rowIs w.heap.size t 4 (fun i => .int .i64 ([x0, x1, x2, x3].getD i 0)) := World.rowIs_alloc _ _ _ _ fun i hi => by
    simp at hi
    match i, hi with | 0, _ => rfl | 1, _ => rfl | 2, _ => rfl | 3, _ => rfl
  refine ⟨_, 4, rfl, by unfold longest; simp, Or.inr ⟨w.heap.size, 0, rfl, fun i hi => ?_⟩⟩
  have hi' : i < 4 := by simpa using hi
  refine ⟨[.int .i64 ([x0, x1, x2, x3].getD i 0)], rfl, ?_, fun j hj => ?_⟩
  · unfold RInt
    match i, hi' with | 0, _ => rfl | 1, _ => rfl | 2, _ => rfl | 3, _ => rfl
  · have : j = 0 := by simp at hj; exact hj
    subst this
    simp only [Nat.mul_one, Nat.add_zero, Nat.zero_add, List.getElem_cons_zero]
    exact r.cell hi'

set_option maxHeartbeats 8000000 in
theorem ringTree_walk (c : Int) (w : World) (u0 : -9223372036854775808 ≤ c) (u0' : c ≤ 9223372036854775807) :
    Calls Try.prog 6 #[.int .i64 c] w fun e w' => e = .returned (.bool true) ∧ Below w.heap.size w w' := by
  obtain ⟨q0, q0'⟩ := pickedOf_bd c 20 (by omega)
  go_enter Try.func6, Try.ntmps6
  go_wp2_with fail
  refine (picked_any _ _ _ u0 u0' (by omega) (by omega)).mono ?_
  rintro e w ⟨rfl, rfl⟩
  generalize pickedOf c 20 = kk at *
  obtain ⟨a, rfl⟩ : ∃ a : Nat, kk = a := ⟨kk.toNat, by omega⟩
  have ha : a < 20 := by omega
  go_wp2_with fail
  refine (ring_is _ (a + 1) _ (by omega) (by omega) (by omega)).mono ?_
  rintro e w1 ⟨gv, cv, gi, ci, eb, ab, ob, rfl, hR1, hb1⟩
  obtain ⟨sv1, sb1⟩ := hR1.sl (by omega) (by simp; omega) (SlOf_nil _ _ _ none 0) hR1.i1 hR1.a0
  rw [List.length_replicate] at sv1
  clear hR1
  generalize w.heap.size + 1 + 1 + 1 + 1 + 1 + 1 + 1 + 1 + 1 + 1 + 1 + 1 + 1 + 1 + 1 + 1 + 1 + 1 = BB at *
  go_wp2_with fail
  refine (big_any _).mono ?_
  rintro e w2 ⟨rfl, hb2⟩
  have hb2' : Below w.heap.size w w2 := hb1.trans (hb2.mono hb1.size)
  obtain ⟨hl1, hl2⟩ := rt_len a
  have HC := dominators_any (rtF a) 1 10 10 (some ⟨gv, 0, none⟩) (some ⟨BB, 0, none⟩) cv 4 0 (rt_err a ha) w2 (by rw [hl1]; exact sv1.below hb2 fun _ _ h => h) (by rw [hl2]; exact sb1.below hb2 (RBlk.below hb2)) (fun _ => flowIn_of (rt_in a ha))
  rw [hl1, hl2] at HC
  clear sv1 sb1 hb1 hb2
  go_wp2_with fail
  refine HC.mono ?_
  clear HC
  rintro e w3 ⟨v, rfl, hT, _, hb3⟩
  obtain ⟨ao, ad, an, co, cd, cn, rfl, h1, h2, h3⟩ := hT (by first | trivial | rfl)
  rw [hl2] at h1 h2 h3
  have htr := rt_tree a ha
  rw [htr.1] at h1
  rw [htr.2.1] at h2
  rw [htr.2.2] at h3
  rw [hl2]
  have hb3' : Below w.heap.size w w3 := hb2'.trans (hb3.mono hb2'.size)
  clear htr hl1 hl2 hT hb2' hb3
  have HS : Hid (SlOf w3 1 RInt (.slice ao 4 co) [0, 1, 3, 2] ∧ SlOf w3 1 RInt (.slice ad 4 cd) [-1, 0, 1, 1] ∧ SlOf w3 1 RInt (.slice an 4 cn) [0, 1, 1, 0] ∧ Below w.heap.size w w3) := ⟨h1, h2, h3, hb3'⟩
  clear h1 h2 h3 hb3'
  go_upto_region 2 with fail
  obtain ⟨Y, hY⟩ : ∃ Y, Y = w3.heap.size := ⟨_, rfl⟩
  obtain ⟨D, hD⟩ : ∃ D, D = w3.alloc (.cells #[.slice ao 4 co, .slice ad 4 cd, .slice an 4 cn] 33) := ⟨_, rfl⟩
  have hDb : Below w3.heap.size w3 D := by rw [hD]; exact (Below.refl _ _).alloc (Nat.le_refl _) _
  have y0 : D.cell? ⟨Y, 0, none⟩ = some (.slice ao 4 co) := by rw [hD, hY]; simp
  have y1 : D.cell? ⟨Y, 1, none⟩ = some (.slice ad 4 cd) := by rw [hD, hY]; simp
  have y2 : D.cell? ⟨Y, 2, none⟩ = some (.slice an 4 cn) := by rw [hD, hY]; simp
  have hYD : Y < D.heap.size := by rw [hD, hY]; simp
  rw [← hD, ← hY]
  have HD : Hid (SlOf D 1 RInt (.slice ao 4 co) [0, 1, 3, 2] ∧ SlOf D 1 RInt (.slice ad 4 cd) [-1, 0, 1, 1] ∧ SlOf D 1 RInt (.slice an 4 cn) [0, 1, 1, 0] ∧ Below w.heap.size w D) := ⟨HS.out.1.below hDb fun _ _ h => h, HS.out.2.1.below hDb fun _ _ h => h, HS.out.2.2.1.below hDb fun _ _ h => h, HS.out.2.2.2.trans (hDb.mono HS.out.2.2.2.size)⟩
  clear hD hY hDb HS
  have hA1 : Below D.heap.size D (D.alloc (.cells #[.int .i64 0, .int .i64 1, .int .i64 3, .int .i64 2] 3)) := (Below.refl _ _).alloc (Nat.le_refl _) _
  have HC1 := sameInts_true [0, 1, 3, 2] ao (some ⟨D.heap.size, 0, none⟩) 4 co 4 (D.alloc (.cells #[.int .i64 0, .int .i64 1, .int .i64 3, .int .i64 2] 3)) rfl (HD.out.1.below hA1 fun _ _ h => h) (four_sl D 0 1 3 2 3)
  go_wp2_with fail
  refine HC1.mono ?_
  rintro e E ⟨rfl, hE⟩
  have hDE : Below D.heap.size D E := hA1.trans (hE.mono hA1.size)
  clear HC1 y0 hE hA1
  have y1' := (hDE.cell (p := ⟨Y, 1, none⟩) hYD).trans y1
  have hA2 : Below E.heap.size E (E.alloc (.cells #[.int .i64 (-1), .int .i64 0, .int .i64 1, .int .i64 1] 3)) := (Below.refl _ _).alloc (Nat.le_refl _) _
  have hDA := hDE.trans (hA2.mono hDE.size)
  have HC2 := sameInts_true [-1, 0, 1, 1] ad (some ⟨E.heap.size, 0, none⟩) 4 cd 4 (E.alloc (.cells #[.int .i64 (-1), .int .i64 0, .int .i64 1, .int .i64 1] 3)) rfl (HD.out.2.1.below hDA fun _ _ h => h) (four_sl E (-1) 0 1 1 3)
  go_wp2_with fail
  refine HC2.mono ?_
  rintro e F ⟨rfl, hF⟩
  have hDF : Below D.heap.size D F := hDA.trans (hF.mono hDA.size)
  clear HC2 y1 y1' hF hA2 hDA
  have y2' := (hDF.cell (p := ⟨Y, 2, none⟩) hYD).trans y2
  have hA3 : Below F.heap.size F (F.alloc (.cells #[.int .i64 0, .int .i64 1, .int .i64 1, .int .i64 0] 3)) := (Below.refl _ _).alloc (Nat.le_refl _) _
  have hDA := hDF.trans (hA3.mono hDF.size)
  have HC3 := sameInts_true [0, 1, 1, 0] an (some ⟨F.heap.size, 0, none⟩) 4 cn 4 (F.alloc (.cells #[.int .i64 0, .int .i64 1, .int .i64 1, .int .i64 0] 3)) rfl (HD.out.2.2.1.below hDA fun _ _ h => h) (four_sl F 0 1 1 0 3)
  go_wp2_with fail
  refine HC3.mono ?_
  rintro e G ⟨rfl, hG⟩
  have hDG : Below D.heap.size D G := hDA.trans (hG.mono hDA.size)
  clear HC3 y2 y2'
  go_wp2
  go_ret
  exact ⟨rfl, HD.out.2.2.2.trans (hDG.mono HD.out.2.2.2.size)⟩
end Go.Proofs.Ytengmgdnpojfjaa
