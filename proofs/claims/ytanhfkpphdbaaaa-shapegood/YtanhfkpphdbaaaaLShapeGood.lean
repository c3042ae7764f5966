/-
  The walk of ShapeGood: what is built of pieces has a right shape; an empty function has not.
-/
import Derived.Test.YtanhfkpphdbaaaaW6
namespace Go.Proofs.Ytanhfkpphdbaaaa
open Go.RowKit
set_option linter.unusedVariables false

set_option maxRecDepth 8000 in
set_option maxHeartbeats 4000000 in
theorem shapeGood_walk (a : Int) (wa : (Lit.int .i64 a).wf = true) (b : Int) (wb : (Lit.int .i64 b).wf = true) (l : List Pc) (vl : Value) (w : World) (hl : SlOf w 7 RPc vl l) (hp : ∀ p ∈ l, PcF p) :
    Calls Try.prog 3 #[.int .i64 a, .int .i64 b, vl] w fun e w' => e = .returned (.bool true) ∧ Below w.heap.size w w' := by
  obtain ⟨a0, a1⟩ := bounds_i64 wa
  obtain ⟨b0, b1⟩ := bounds_i64 wb
  have HMA := machine_any a b w a0 a1 b0 b1
  have hm0 := machine_bd a
  have hm1 := machine_bd b
  generalize 2 + pickedOf a 9 = m0 at *
  generalize 2 + pickedOf b 9 = m1 at *
  have HM : Hid ((2 ≤ m0 ∧ m0 ≤ 10) ∧ 2 ≤ m1 ∧ m1 ≤ 10) := ⟨hm0, hm1⟩
  have HSH : Hid (shapeErr (masonM m0 m1 l) m0 m1 = 0) := mason_shape m0 m1 hm0 hm1 l
  have HSE : Hid (shapeErr ⟨[], []⟩ m0 m1 = 1) := shape_empty m0 m1 hm0 hm1
  have HL : Hid (SlOf w 7 RPc vl l) := hl
  have HP : Hid (∀ p ∈ l, PcOk p ∧ -9223372036854775808 ≤ p.kind ∧ p.kind ≤ 9223372036854775807) := hp
  clear wa wb hl hp hm0 hm1
  go_enter Try.func3, Try.ntmps3
  go_upto_region 2 with (go_at_call 9; refine HMA.mono ?_; rintro e w1 ⟨rfl, hb1⟩)
  obtain ⟨W, hW⟩ : ∃ W, W = w1.alloc (.cells #[.int .i64 m0, .int .i64 m1] 25) := ⟨_, rfl⟩
  have r1 : W.rowIs w1.heap.size 25 2 (fun q => if q = 0 then .int .i64 m0 else .int .i64 m1) := by
    rw [hW]
    exact World.rowIs_alloc w1 #[.int .i64 m0, .int .i64 m1] 25 _ fun i hi => by
      simp at hi
      match i, hi with | 0, _ => rfl | 1, _ => rfl
  have HB0 : Hid (Below w.heap.size w W) := by
    show Below _ _ _
    rw [hW]
    exact hb1.alloc hb1.size _
  rw [← hW]
  clear hW HMA hb1
  obtain ⟨X, hX⟩ : ∃ X, w1.heap.size = X := ⟨_, rfl⟩
  rw [hX] at r1
  rw [hX]
  have f0 : W.cell? ⟨X, 0, none⟩ = some (.int .i64 m0) := r1.cell (i := 0) (by omega)
  have f1 : W.cell? ⟨X, 1, none⟩ = some (.int .i64 m1) := r1.cell (i := 1) (by omega)
  have lX := r1.lt
  clear hX r1
  have HSF : Hid (∀ w', Below W.heap.size W w' → (fun w' => w'.cell? ⟨X, 0, none⟩ = some (.int .i64 m0) ∧ w'.cell? ⟨X, 1, none⟩ = some (.int .i64 m1) ∧ Below W.heap.size W w') w') := fun w' hh => ⟨(hh.cell (by simp; omega)).trans f0, (hh.cell (by simp; omega)).trans f1, hh⟩
  have hbd : Below W.heap.size W W.drew := (Below.refl _ _).drew
  refine wp_region_X (fun w' => w'.cell? ⟨X, 0, none⟩ = some (.int .i64 m0) ∧ w'.cell? ⟨X, 1, none⟩ = some (.int .i64 m1) ∧ Below W.heap.size W w') 99 (by kernel_rfl) (HSF.out _ hbd) (fun hHeld => ?_)
  refine wpX_takeg0 (v := ?_) (by kernel_rfl) (fun _ _ _ h => h) (by rfl) ?_ hHeld ?_
  rotate_left
  · intro w' hSw
    go_simp <;> with_reducible rfl
  try simp only [Act.put, List.setIfInBounds_toArray, List.set_cons_zero, List.set_cons_succ]
  refine wpX_takeg1 (v := ?_) (by kernel_rfl) (fun _ _ _ h => h) (by rfl) ?_ hHeld ?_
  rotate_left
  · intro w' hSw
    go_simp <;> with_reducible rfl
  try simp only [Act.put, List.setIfInBounds_toArray, List.set_cons_zero, List.set_cons_succ]
  refine wpX_takeg3 (v := ?_) (by kernel_rfl) (fun _ _ _ h => h) (by rfl) ?_ hHeld ?_
  rotate_left
  · intro w' hSw
    go_simp <;> with_reducible rfl
  try simp only [Act.put, List.setIfInBounds_toArray, List.set_cons_zero, List.set_cons_succ]
  refine wpX_step2 (by kernel_rfl) (fun K hK => ?_)
  go_simp
  refine (ma_func m0 m1 l vl _ HM.out.1 HM.out.2 (HL.out.below (HB0.out.trans (hbd.mono HB0.out.size)) fun _ _ h => h) HP.out).mono ?_
  rintro e w2 ⟨vv, vb, rfl, hv, hb, hb2⟩
  have hc2 : Below W.heap.size W w2 := hbd.trans (hb2.mono hbd.size)
  refine hK.out _ _ (HSF.out _ hc2) (fun hHeld => ?_)
  clear hK K
  try simp only [Act.put, List.setIfInBounds_toArray, List.set_cons_zero, List.set_cons_succ]
  refine wpX_step4 (by kernel_rfl) (fun K hK => ?_)
  go_simp
  refine (shape_is2 (masonM m0 m1 l) m0 m1 _ _ _ 0 HSH.out hv hb).mono ?_
  rintro e w3 ⟨rfl, hb3'⟩
  have hc3 : Below W.heap.size W w3 := hc2.trans (hb3'.mono hc2.size)
  refine hK.out _ _ (HSF.out _ hc3) (fun hHeld => ?_)
  clear hK K
  try simp only [Act.put, List.setIfInBounds_toArray, List.set_cons_zero, List.set_cons_succ]
  refine wpX_step5 (by kernel_rfl) (fun K hK => ?_)
  go_simp
  refine hK.out _ _ (HSF.out _ hc3) (fun hHeld => ?_)
  clear hK K
  try simp only [Act.put, List.setIfInBounds_toArray, List.set_cons_zero, List.set_cons_succ]
  refine wpX_step6 (by kernel_rfl) (fun K hK => ?_)
  go_simp
  refine hK.out _ _ (HSF.out _ hc3) (fun hHeld => ?_)
  clear hK K
  try simp only [Act.put, List.setIfInBounds_toArray, List.set_cons_zero, List.set_cons_succ]
  refine wpX_takeg7 (v := ?_) (by kernel_rfl) (fun _ _ _ h => h) (by rfl) ?_ hHeld ?_
  rotate_left
  · intro w' hSw
    go_simp <;> with_reducible rfl
  try simp only [Act.put, List.setIfInBounds_toArray, List.set_cons_zero, List.set_cons_succ]
  refine wpX_takeg8 (v := ?_) (by kernel_rfl) (fun _ _ _ h => h) (by rfl) ?_ hHeld ?_
  rotate_left
  · intro w' hSw
    go_simp <;> with_reducible rfl
  try simp only [Act.put, List.setIfInBounds_toArray, List.set_cons_zero, List.set_cons_succ]
  refine wpX_step9 (by kernel_rfl) (fun K hK => ?_)
  go_simp
  refine (shape_is2 ⟨[], []⟩ m0 m1 _ _ _ 1 HSE.out (SlOf_nil _ _ _ _ _) (SlOf_nil _ _ _ _ _)).mono ?_
  rintro e w4 ⟨rfl, hb4'⟩
  have hc4 : Below W.heap.size W w4 := hc3.trans (hb4'.mono hc3.size)
  refine hK.out _ _ (HSF.out _ hc4) (fun hHeld => ?_)
  clear hK K
  try simp only [Act.put, List.setIfInBounds_toArray, List.set_cons_zero, List.set_cons_succ]
  refine wpX_step10 (by kernel_rfl) (fun K hK => ?_)
  go_simp
  refine hK.out _ _ (HSF.out _ hc4) (fun hHeld => ?_)
  clear hK K
  try simp only [Act.put, List.setIfInBounds_toArray, List.set_cons_zero, List.set_cons_succ]
  refine wpX_step11 (by kernel_rfl) (fun K hK => ?_)
  go_simp
  refine hK.out _ _ (HSF.out _ hc4) (fun hHeld => ?_)
  clear hK K
  try simp only [Act.put, List.setIfInBounds_toArray, List.set_cons_zero, List.set_cons_succ]
  refine wpX_step12 (by kernel_rfl) (fun K hK => ?_)
  go_simp
  refine hK.out _ _ (HSF.out _ hc4) (fun hHeld => ?_)
  clear hK K
  try simp only [Act.put, List.setIfInBounds_toArray, List.set_cons_zero, List.set_cons_succ]
  refine wpAnyX_done (by kernel_rfl) ?_ _

  have hbe : Below w.heap.size w w4 := HB0.out.trans (hc4.mono HB0.out.size)
  go_wp2
  go_ret
  exact ⟨rfl, hbe⟩
end Go.Proofs.Ytanhfkpphdbaaaa
