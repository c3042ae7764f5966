/-
  The walk through 'EntryBare': it answers true for all numbers, and writes to nothing that was there.
-/
import Derived.Test.YtnghhhlcifpiaacRingU
namespace Go.Proofs.Ytnghhhlcifpiaac
open Go.RowKit
set_option linter.unusedVariables false

theorem entryF_ok : ∀ a : Nat, a < 5 → shapeErr (ringG (a + 1) (List.replicate (a + 1 + 2) 0) [0] ringI1 1 [0]) 10 10 = 4 := by decide +kernel
theorem entryG_ok : shapeErr (ringG 1 [0, 0, 0] [] [] 1 [0]) 10 10 = 4 := by decide +kernel

set_option maxHeartbeats 8000000 in
theorem entryBare_walk (c : Int) (w : World) (u0 : -9223372036854775808 ≤ c) (u0' : c ≤ 9223372036854775807) :
    Calls Try.prog 7 #[.int .i64 c] w fun e w' => e = .returned (.bool true) ∧ Below w.heap.size w w' := by
  obtain ⟨q0, q0'⟩ := pickedOf_bd c 5 (by omega)
  go_enter Try.func7, Try.ntmps7
  go_wp2_with fail
  refine (picked_any _ _ _ u0 u0' (by omega) (by omega)).mono ?_
  rintro e w ⟨rfl, rfl⟩
  generalize pickedOf c 5 = kk at *
  obtain ⟨a, rfl⟩ : ∃ a : Nat, kk = a := ⟨kk.toNat, by omega⟩
  go_wp2_with fail
  refine (ring_is _ (a + 1) _ (by omega) (by omega) (by omega)).mono ?_
  rintro e w1 ⟨gv, cv, gi, ci, eb, ab, ob, rfl, hR1, hb1⟩
  have z1 := hb1.size
  have big1 := hR1.big
  go_wp2_with fail
  obtain ⟨wf, hwf⟩ : ∃ wf, wf = w1.alloc (.cells #[.slice (some ⟨gv, 0, none⟩) (a + 1 + 2) cv, .slice (some ⟨w.heap.size + 1 + 1 + 1 + 1 + 1 + 1 + 1 + 1 + 1 + 1 + 1 + 1 + 1 + 1 + 1 + 1 + 1 + 1, 0, none⟩) 4 4] 25) := ⟨_, rfl⟩
  have f0 : wf.cell? ⟨w1.heap.size, 0, none⟩ = some (.slice (some ⟨gv, 0, none⟩) (a + 1 + 2) cv) := by rw [hwf]; go_simp
  have f1 : wf.cell? ⟨w1.heap.size, 1, none⟩ = some (.slice (some ⟨w.heap.size + 1 + 1 + 1 + 1 + 1 + 1 + 1 + 1 + 1 + 1 + 1 + 1 + 1 + 1 + 1 + 1 + 1 + 1, 0, none⟩) 4 4) := by rw [hwf]; go_simp
  have hbf : Below w1.heap.size w1 wf := by rw [hwf]; exact (Below.refl _ _).alloc (Nat.le_refl _) _
  have zf : w1.heap.size < wf.heap.size := by rw [hwf]; simp
  rw [← hwf]
  clear hwf
  refine (ring_is _ 1 _ rfl (by omega) (by omega)).mono ?_
  rintro e w2 ⟨gv2, cv2, gi2, ci2, eb2, ab2, ob2, rfl, hR2, hb2⟩
  have z2 := hb2.size
  have big2 := hR2.big
  have hbw : Below w1.heap.size w1 w2 := hbf.trans (hb2.mono (by omega))
  have h0 : w2.cell? ⟨w1.heap.size, 0, none⟩ = some (.slice (some ⟨gv, 0, none⟩) (a + 1 + 2) cv) := (hb2.cell (by show w1.heap.size < _; omega)).trans f0
  have h1 : w2.cell? ⟨w1.heap.size, 1, none⟩ = some (.slice (some ⟨w.heap.size + 1 + 1 + 1 + 1 + 1 + 1 + 1 + 1 + 1 + 1 + 1 + 1 + 1 + 1 + 1 + 1 + 1 + 1, 0, none⟩) 4 4) := (hb2.cell (by show w1.heap.size < _; omega)).trans f1
  have r1 := hR1.r1.of_block (hbw.block _ hR1.r1.lt)
  have c0 : w2.cell? ⟨w.heap.size + 1 + 1 + 1 + 1 + 1 + 1 + 1 + 1 + 1 + 1 + 1 + 1 + 1 + 1 + 1 + 1 + 1 + 1, 0, none⟩ = some (.slice none 0 0) := r1.cell (i := 0) (by omega)
  have s0 := r1.frozen 0
  have c4 : w2.cell? ⟨wf.heap.size + 1 + 1 + 1 + 1 + 1 + 1 + 1 + 1 + 1 + 1 + 1 + 1 + 1 + 1 + 1 + 1 + 1 + 1, 4, none⟩ = some (.slice (some ⟨wf.heap.size + 1 + 1 + 1 + 1 + 1 + 1 + 1 + 1 + 1 + 1 + 1 + 1, 0, none⟩) 1 1) := hR2.r1.cell (i := 4) (by omega)
  have s4 := hR2.r1.frozen 4
  have LB1 := old_cell (w.heap.size + 1 + 1 + 1 + 1 + 1 + 1 + 1 + 1 + 1 + 1 + 1 + 1 + 1 + 1 + 1 + 1 + 1 + 1)
  have LB2 := old_cell (wf.heap.size + 1 + 1 + 1 + 1 + 1 + 1 + 1 + 1 + 1 + 1 + 1 + 1 + 1 + 1 + 1 + 1 + 1 + 1)
  have LF1 := old_cell w1.heap.size
  have l1 : w.heap.size + 1 + 1 + 1 + 1 + 1 + 1 + 1 + 1 + 1 + 1 + 1 + 1 + 1 + 1 + 1 + 1 + 1 + 1 < w2.heap.size := by omega
  have l2 : wf.heap.size + 1 + 1 + 1 + 1 + 1 + 1 + 1 + 1 + 1 + 1 + 1 + 1 + 1 + 1 + 1 + 1 + 1 + 1 < w2.heap.size := by omega
  have l3 : w1.heap.size < w2.heap.size := by omega
  have l1' : w.heap.size + 1 + 1 + 1 + 1 + 1 + 1 + 1 + 1 + 1 + 1 + 1 + 1 + 1 + 1 + 1 + 1 + 1 + 1 < w2.heap.size + 1 := by omega
  have l2' : wf.heap.size + 1 + 1 + 1 + 1 + 1 + 1 + 1 + 1 + 1 + 1 + 1 + 1 + 1 + 1 + 1 + 1 + 1 + 1 < w2.heap.size + 1 := by omega
  have l3' : w1.heap.size < w2.heap.size + 1 := by omega
  have d1 : ¬ w.heap.size + 1 + 1 + 1 + 1 + 1 + 1 + 1 + 1 + 1 + 1 + 1 + 1 + 1 + 1 + 1 + 1 + 1 + 1 = wf.heap.size + 1 + 1 + 1 + 1 + 1 + 1 + 1 + 1 + 1 + 1 + 1 + 1 + 1 + 1 + 1 + 1 + 1 + 1 := by omega
  have d2 : ¬ w.heap.size + 1 + 1 + 1 + 1 + 1 + 1 + 1 + 1 + 1 + 1 + 1 + 1 + 1 + 1 + 1 + 1 + 1 + 1 = w1.heap.size := by omega
  have d3 : ¬ w.heap.size + 1 + 1 + 1 + 1 + 1 + 1 + 1 + 1 + 1 + 1 + 1 + 1 + 1 + 1 + 1 + 1 + 1 + 1 = w2.heap.size := by omega
  have d4 : ¬ wf.heap.size + 1 + 1 + 1 + 1 + 1 + 1 + 1 + 1 + 1 + 1 + 1 + 1 + 1 + 1 + 1 + 1 + 1 + 1 = w1.heap.size := by omega
  have d5 : ¬ wf.heap.size + 1 + 1 + 1 + 1 + 1 + 1 + 1 + 1 + 1 + 1 + 1 + 1 + 1 + 1 + 1 + 1 + 1 + 1 = w2.heap.size := by omega
  go_upto_region 5 with fail
  obtain ⟨W, hW⟩ : ∃ W, W = (((w2.setCell ⟨w.heap.size + 1 + 1 + 1 + 1 + 1 + 1 + 1 + 1 + 1 + 1 + 1 + 1 + 1 + 1 + 1 + 1 + 1 + 1, 0, none⟩ (.slice (some ⟨w2.heap.size + 1, 0, none⟩) 1 1)).setCell ⟨wf.heap.size + 1 + 1 + 1 + 1 + 1 + 1 + 1 + 1 + 1 + 1 + 1 + 1 + 1 + 1 + 1 + 1 + 1 + 1, 4, none⟩ (.slice none 0 0)).alloc (.cells #[.slice (some ⟨gv2, 0, none⟩) 3 cv2, .slice (some ⟨wf.heap.size + 1 + 1 + 1 + 1 + 1 + 1 + 1 + 1 + 1 + 1 + 1 + 1 + 1 + 1 + 1 + 1 + 1 + 1, 0, none⟩) 4 4] 25)).alloc (.cells #[.int .i64 0] 3) := ⟨_, rfl⟩
  have zW : W.heap.size = w2.heap.size + 1 + 1 := by rw [hW]; simp
  have kW : ∀ b, b < w2.heap.size → b ≠ w.heap.size + 1 + 1 + 1 + 1 + 1 + 1 + 1 + 1 + 1 + 1 + 1 + 1 + 1 + 1 + 1 + 1 + 1 + 1 → b ≠ wf.heap.size + 1 + 1 + 1 + 1 + 1 + 1 + 1 + 1 + 1 + 1 + 1 + 1 + 1 + 1 + 1 + 1 + 1 + 1 → W.heap[b]? = w2.heap[b]? := fun b h0 h1 h2 => by
    rw [hW, Below.heap_alloc _ _ _ (by simp; omega), Below.heap_alloc _ _ _ (by simp; omega), Below.heap_setCell _ _ _ _ (by simpa using h2), Below.heap_setCell _ _ _ _ (by simpa using h1)]
  have rW1 : W.rowIs (w.heap.size + 1 + 1 + 1 + 1 + 1 + 1 + 1 + 1 + 1 + 1 + 1 + 1 + 1 + 1 + 1 + 1 + 1 + 1) 44 12 (fun q => (rgL w.heap.size (.slice (some ⟨w2.heap.size + 1, 0, none⟩) 1 1) (.slice (some ⟨w.heap.size + 1 + 1 + 1 + 1 + 1 + 1 + 1 + 1 + 1 + 1 + 1 + 1, 0, none⟩) 1 1) (.slice (some ⟨gi, 0, none⟩) (a + 1) ci) (.slice (some ⟨eb, 0, none⟩) 1 1)).getD q undef) := by
    rw [hW]
    refine ((((r1.set 0 _).setOther (by show w.heap.size + 1 + 1 + 1 + 1 + 1 + 1 + 1 + 1 + 1 + 1 + 1 + 1 + 1 + 1 + 1 + 1 + 1 + 1 ≠ wf.heap.size + 1 + 1 + 1 + 1 + 1 + 1 + 1 + 1 + 1 + 1 + 1 + 1 + 1 + 1 + 1 + 1 + 1 + 1; omega) _).alloc _).alloc _).congr fun q hq => ?_
    match q, hq with | 0, _ => rfl | 1, _ => rfl | 2, _ => rfl | 3, _ => rfl | 4, _ => rfl | 5, _ => rfl | 6, _ => rfl | 7, _ => rfl | 8, _ => rfl | 9, _ => rfl | 10, _ => rfl | 11, _ => rfl
  have rW2 : W.rowIs (wf.heap.size + 1 + 1 + 1 + 1 + 1 + 1 + 1 + 1 + 1 + 1 + 1 + 1 + 1 + 1 + 1 + 1 + 1 + 1) 44 12 (fun q => (rgL wf.heap.size (.slice none 0 0) (.slice none 0 0) (.slice (some ⟨gi2, 0, none⟩) 1 ci2) (.slice (some ⟨eb2, 0, none⟩) 1 1)).getD q undef) := by
    rw [hW]
    refine ((((hR2.r1.setOther (by show wf.heap.size + 1 + 1 + 1 + 1 + 1 + 1 + 1 + 1 + 1 + 1 + 1 + 1 + 1 + 1 + 1 + 1 + 1 + 1 ≠ w.heap.size + 1 + 1 + 1 + 1 + 1 + 1 + 1 + 1 + 1 + 1 + 1 + 1 + 1 + 1 + 1 + 1 + 1 + 1; omega) _).set 4 _).alloc _).alloc _).congr fun q hq => ?_
    match q, hq with | 0, _ => rfl | 1, _ => rfl | 2, _ => rfl | 3, _ => rfl | 4, _ => rfl | 5, _ => rfl | 6, _ => rfl | 7, _ => rfl | 8, _ => rfl | 9, _ => rfl | 10, _ => rfl | 11, _ => rfl
  have hU1 := hR1.updB (W' := W) (by omega) (fun b h0 hb hne => (kW b (by omega) hne (by omega)).trans (hbw.block b hb)) rW1
  have hU2 := hR2.updB (W' := W) (by omega) (fun b h0 hb hne => kW b hb (by omega) hne) rW2
  have cP : W.cell? ⟨w2.heap.size + 1, 0, none⟩ = some (.int .i64 0) := by rw [hW]; go_simp
  have hP : SlOf W 1 RInt (.slice (some ⟨w2.heap.size + 1, 0, none⟩) 1 1) [0] := SlOf_one [.int .i64 0] rfl rfl (cells1 cP)
  obtain ⟨sv1, sb1⟩ := hU1.sl (by omega) (by simp; omega) hP hU1.i1 hU1.a0
  obtain ⟨sv2, sb2⟩ := hU2.sl (by omega) (by simp) (SlOf_nil _ _ _ none 0) (SlOf_nil _ _ _ none 0) hU2.a0
  rw [List.length_replicate] at sv1 sv2
  have HV1 : Hid (SlOf W 1 RInt (.slice (some ⟨gv, 0, none⟩) (a + 1 + 2) cv) (ringG (a + 1) (List.replicate (a + 1 + 2) 0) [0] ringI1 1 [0]).values) := sv1
  have HB1 : Hid (SlOf W 3 (RBlk W) (.slice (some ⟨w.heap.size + 1 + 1 + 1 + 1 + 1 + 1 + 1 + 1 + 1 + 1 + 1 + 1 + 1 + 1 + 1 + 1 + 1 + 1, 0, none⟩) 4 4) (ringG (a + 1) (List.replicate (a + 1 + 2) 0) [0] ringI1 1 [0]).blocks) := sb1
  have HV2 : Hid (SlOf W 1 RInt (.slice (some ⟨gv2, 0, none⟩) 3 cv2) (ringG 1 [0, 0, 0] [] [] 1 [0]).values) := sv2
  have HB2 : Hid (SlOf W 3 (RBlk W) (.slice (some ⟨wf.heap.size + 1 + 1 + 1 + 1 + 1 + 1 + 1 + 1 + 1 + 1 + 1 + 1 + 1 + 1 + 1 + 1 + 1 + 1, 0, none⟩) 4 4) (ringG 1 [0, 0, 0] [] [] 1 [0]).blocks) := sb2
  have HR1 : Hid (shapeErr (ringG (a + 1) (List.replicate (a + 1 + 2) 0) [0] ringI1 1 [0]) 10 10 = 4) := entryF_ok a (by omega)
  have HR2 : Hid (shapeErr (ringG 1 [0, 0, 0] [] [] 1 [0]) 10 10 = 4) := entryG_ok
  have k0 : W.cell? ⟨w1.heap.size, 0, none⟩ = some (.slice (some ⟨gv, 0, none⟩) (a + 1 + 2) cv) := (World.cell?_of_block (kW _ (by simp; omega) (by simp; omega) (by simp; omega))).trans h0
  have k1 : W.cell? ⟨w1.heap.size, 1, none⟩ = some (.slice (some ⟨w.heap.size + 1 + 1 + 1 + 1 + 1 + 1 + 1 + 1 + 1 + 1 + 1 + 1 + 1 + 1 + 1 + 1 + 1 + 1, 0, none⟩) 4 4) := (World.cell?_of_block (kW _ (by simp; omega) (by simp; omega) (by simp; omega))).trans h1
  have k2 : W.cell? ⟨w2.heap.size, 0, none⟩ = some (.slice (some ⟨gv2, 0, none⟩) 3 cv2) := by rw [hW]; go_simp
  have k3 : W.cell? ⟨w2.heap.size, 1, none⟩ = some (.slice (some ⟨wf.heap.size + 1 + 1 + 1 + 1 + 1 + 1 + 1 + 1 + 1 + 1 + 1 + 1 + 1 + 1 + 1 + 1 + 1 + 1, 0, none⟩) 4 4) := by rw [hW]; go_simp
  have hbW : Below w.heap.size w W := by
    rw [hW]
    exact (((hb1.trans (hbw.mono z1)).setCell (by simp <;> omega) _).setCell (by simp <;> omega) _ |>.alloc (by simp; omega) _).alloc (by simp; omega) _
  have HS : Hid (∀ w', Below W.heap.size W w' → (fun w' => w'.cell? ⟨w1.heap.size, 0, none⟩ = some (.slice (some ⟨gv, 0, none⟩) (a + 1 + 2) cv) ∧ w'.cell? ⟨w1.heap.size, 1, none⟩ = some (.slice (some ⟨w.heap.size + 1 + 1 + 1 + 1 + 1 + 1 + 1 + 1 + 1 + 1 + 1 + 1 + 1 + 1 + 1 + 1 + 1 + 1, 0, none⟩) 4 4) ∧ w'.cell? ⟨w2.heap.size, 0, none⟩ = some (.slice (some ⟨gv2, 0, none⟩) 3 cv2) ∧ w'.cell? ⟨w2.heap.size, 1, none⟩ = some (.slice (some ⟨wf.heap.size + 1 + 1 + 1 + 1 + 1 + 1 + 1 + 1 + 1 + 1 + 1 + 1 + 1 + 1 + 1 + 1 + 1 + 1, 0, none⟩) 4 4) ∧ Below W.heap.size W w') w') := fun w' hb => ⟨(hb.cell (by simp; omega)).trans k0, (hb.cell (by simp; omega)).trans k1, (hb.cell (by simp; omega)).trans k2, (hb.cell (by simp; omega)).trans k3, hb⟩
  rw [← hW]
  clear hW kW rW1 rW2 hU1 hU2 cP hP sv1 sb1 sv2 sb2 hR1 hR2 r1 c0 s0 c4 s4 LB1 LB2 LF1 h0 h1 f0 f1 hb2 hbf hbw d1 d2 d3 d4 d5 l1 l2 l3 l1' l2' l3'
  refine wp_region_X (fun w' => w'.cell? ⟨w1.heap.size, 0, none⟩ = some (.slice (some ⟨gv, 0, none⟩) (a + 1 + 2) cv) ∧ w'.cell? ⟨w1.heap.size, 1, none⟩ = some (.slice (some ⟨w.heap.size + 1 + 1 + 1 + 1 + 1 + 1 + 1 + 1 + 1 + 1 + 1 + 1 + 1 + 1 + 1 + 1 + 1 + 1, 0, none⟩) 4 4) ∧ w'.cell? ⟨w2.heap.size, 0, none⟩ = some (.slice (some ⟨gv2, 0, none⟩) 3 cv2) ∧ w'.cell? ⟨w2.heap.size, 1, none⟩ = some (.slice (some ⟨wf.heap.size + 1 + 1 + 1 + 1 + 1 + 1 + 1 + 1 + 1 + 1 + 1 + 1 + 1 + 1 + 1 + 1 + 1 + 1, 0, none⟩) 4 4) ∧ Below W.heap.size W w') 10 (by kernel_rfl) ⟨k0, k1, k2, k3, (Below.refl _ _).drew⟩ (fun hHeld => ?_)
  refine wpX_takeg0 (v := ?_) (by kernel_rfl) (fun _ _ _ h => h) (by rfl) ?_ hHeld ?_
  rotate_left
  · intro w' hSw
    go_simp <;> with_reducible rfl
  try simp only [Act.put, List.setIfInBounds_toArray, List.set_cons_zero, List.set_cons_succ]
  refine wpX_step1 (by kernel_rfl) (fun K hK => ?_)
  go_simp
  refine (big_is _ W ((Below.refl _ _).drew)).mono ?_
  rintro e w3a ⟨rfl, hc3a⟩
  refine hK.out _ _ (HS.out _ hc3a) (fun hHeld => ?_)
  clear hK K
  try simp only [Act.put, List.setIfInBounds_toArray, List.set_cons_zero, List.set_cons_succ]
  refine wpX_step2 (by kernel_rfl) (fun K hK => ?_)
  go_simp
  refine (check_is (ringG (a + 1) (List.replicate (a + 1 + 2) 0) [0] ringI1 1 [0]) 10 10 _ _ _ 4 HR1.out (HV1.out.below hc3a fun _ _ h => h) (HB1.out.below hc3a (RBlk.below hc3a))).mono ?_
  rintro e w4a ⟨rfl, hb4'a⟩
  have hb4a : Below W.heap.size W w4a := hc3a.trans (hb4'a.mono hc3a.size)
  refine hK.out _ _ (HS.out _ hb4a) (fun hHeld => ?_)
  clear hK K
  try simp only [Act.put, List.setIfInBounds_toArray, List.set_cons_zero, List.set_cons_succ]
  refine wpX_takeg3 (v := ?_) (by kernel_rfl) (fun _ _ _ h => h) (by rfl) ?_ hHeld ?_
  rotate_left
  · intro w' hSw
    go_simp <;> with_reducible rfl
  try simp only [Act.put, List.setIfInBounds_toArray, List.set_cons_zero, List.set_cons_succ]
  refine wpX_takeg4 (v := ?_) (by kernel_rfl) (fun _ _ _ h => h) (by rfl) ?_ hHeld ?_
  rotate_left
  · intro w' hSw
    go_simp <;> with_reducible rfl
  try simp only [Act.put, List.setIfInBounds_toArray, List.set_cons_zero, List.set_cons_succ]
  refine wpX_takeg5 (v := ?_) (by kernel_rfl) (fun _ _ _ h => h) (by rfl) ?_ hHeld ?_
  rotate_left
  · intro w' hSw
    go_simp <;> with_reducible rfl
  try simp only [Act.put, List.setIfInBounds_toArray, List.set_cons_zero, List.set_cons_succ]
  refine wpX_step6 (by kernel_rfl) (fun K hK => ?_)
  go_simp
  refine (big_is _ W hb4a).mono ?_
  rintro e w3b ⟨rfl, hc3b⟩
  refine hK.out _ _ (HS.out _ hc3b) (fun hHeld => ?_)
  clear hK K
  try simp only [Act.put, List.setIfInBounds_toArray, List.set_cons_zero, List.set_cons_succ]
  refine wpX_step7 (by kernel_rfl) (fun K hK => ?_)
  go_simp
  refine (check_is (ringG 1 [0, 0, 0] [] [] 1 [0]) 10 10 _ _ _ 4 HR2.out (HV2.out.below hc3b fun _ _ h => h) (HB2.out.below hc3b (RBlk.below hc3b))).mono ?_
  rintro e w4b ⟨rfl, hb4'b⟩
  have hb4b : Below W.heap.size W w4b := hc3b.trans (hb4'b.mono hc3b.size)
  refine hK.out _ _ (HS.out _ hb4b) (fun hHeld => ?_)
  clear hK K
  try simp only [Act.put, List.setIfInBounds_toArray, List.set_cons_zero, List.set_cons_succ]
  refine wpX_takeg8 (v := ?_) (by kernel_rfl) (fun _ _ _ h => h) (by rfl) ?_ hHeld ?_
  rotate_left
  · intro w' hSw
    go_simp <;> with_reducible rfl
  try simp only [Act.put, List.setIfInBounds_toArray, List.set_cons_zero, List.set_cons_succ]
  refine wpX_takeg9 (v := ?_) (by kernel_rfl) (fun _ _ _ h => h) (by rfl) ?_ hHeld ?_
  rotate_left
  · intro w' hSw
    go_simp <;> with_reducible rfl
  try simp only [Act.put, List.setIfInBounds_toArray, List.set_cons_zero, List.set_cons_succ]
  refine wpX_last10 (by kernel_rfl) rfl (by kernel_rfl) (fun K hK => ?_)
  go_simp
  refine hK.out _ _ ?_
  clear hK K
  go_wp2
  go_ret
  exact ⟨rfl, hbW.trans (hb4b.mono (by omega))⟩
end Go.Proofs.Ytnghhhlcifpiaac
