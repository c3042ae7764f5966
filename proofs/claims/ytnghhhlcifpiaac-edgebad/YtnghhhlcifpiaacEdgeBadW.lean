/-
  The walk through 'EdgeBad': it answers true for all numbers, and writes to nothing that was there.
-/
import Derived.Test.YtnghhhlcifpiaacRingU
import Derived.Deep.DeepCutAuto
import Derived.Deep.CutBlock
namespace Go.Proofs.Ytnghhhlcifpiaac
open Go.RowKit
set_option linter.unusedVariables false

theorem edgeG_ok : shapeErr (ringG 2 [0, 0, 0, 0] [] ringI1 1 [0]) 10 10 = 0 := by decide +kernel

set_option maxHeartbeats 8000000 in
theorem edgeBad_walk (c : Int) (w : World) (u0 : -9223372036854775808 ≤ c) (u0' : c ≤ 9223372036854775807) :
    Calls Try.prog 5 #[.int .i64 c] w fun e w' => e = .returned (.bool true) ∧ Below w.heap.size w w' := by
  obtain ⟨q0, q0'⟩ := pickedOf_bd c 4 (by omega)
  go_enter Try.func5, Try.ntmps5
  go_wp2_with fail
  refine (ring_is _ 2 _ rfl (by omega) (by omega)).mono ?_
  rintro e w1 ⟨gv, cv, gi, ci, eb, ab, ob, rfl, hR1, hb1⟩
  have z1 := hb1.size
  have big1 := hR1.big
  go_wp2_with fail
  obtain ⟨wf, hwf⟩ : ∃ wf, wf = w1.alloc (.cells #[.slice (some ⟨gv, 0, none⟩) 4 cv, .slice (some ⟨w.heap.size + 1 + 1 + 1 + 1 + 1 + 1 + 1 + 1 + 1 + 1 + 1 + 1 + 1 + 1 + 1 + 1 + 1 + 1, 0, none⟩) 4 4] 25) := ⟨_, rfl⟩
  have f0 : wf.cell? ⟨w1.heap.size, 0, none⟩ = some (.slice (some ⟨gv, 0, none⟩) 4 cv) := by rw [hwf]; go_simp
  have f1 : wf.cell? ⟨w1.heap.size, 1, none⟩ = some (.slice (some ⟨w.heap.size + 1 + 1 + 1 + 1 + 1 + 1 + 1 + 1 + 1 + 1 + 1 + 1 + 1 + 1 + 1 + 1 + 1 + 1, 0, none⟩) 4 4) := by rw [hwf]; go_simp
  have hbf : Below w1.heap.size w1 wf := by rw [hwf]; exact (Below.refl _ _).alloc (Nat.le_refl _) _
  have zf : w1.heap.size < wf.heap.size := by rw [hwf]; simp
  have hRg := hR1.below hbf
  have hbg := hb1.trans (hbf.mono z1)
  rw [← hwf]
  clear hwf hbf hR1
  refine (picked_any _ _ _ u0 u0' (by omega) (by omega)).mono ?_
  rintro e wg ⟨rfl, rfl⟩
  generalize pickedOf c 4 = q at *
  have b2 : wg.cell? ⟨w.heap.size + 1 + 1 + 1 + 1 + 1 + 1 + 1 + 1 + 1 + 1 + 1 + 1 + 1 + 1 + 1 + 1 + 1 + 1, 2, none⟩ = some (.slice (some ⟨w.heap.size + 1 + 1 + 1 + 1 + 1 + 1 + 1, 0, none⟩) 1 1) := hRg.r1.cell (i := 2) (by omega)
  have e0 : wg.cell? ⟨w.heap.size + 1 + 1 + 1 + 1 + 1 + 1 + 1, 0, none⟩ = some (.int .i64 1) := hRg.rE0.cell (i := 0) (by omega)
  have e1 : wg.cell? ⟨w.heap.size + 1 + 1 + 1 + 1 + 1 + 1 + 1, 1, none⟩ = some (.slice (some ⟨w.heap.size + 1 + 1 + 1 + 1 + 1 + 1, 0, none⟩) 1 1) := hRg.rE0.cell (i := 1) (by omega)
  have s0 := hRg.rE0.frozen 0
  have s1 := hRg.rE0.frozen 1
  have LB := old_cell (w.heap.size + 1 + 1 + 1 + 1 + 1 + 1 + 1 + 1 + 1 + 1 + 1 + 1 + 1 + 1 + 1 + 1 + 1 + 1)
  have LE := old_cell (w.heap.size + 1 + 1 + 1 + 1 + 1 + 1 + 1)
  have l1 : w.heap.size + 1 + 1 + 1 + 1 + 1 + 1 + 1 + 1 + 1 + 1 + 1 + 1 + 1 + 1 + 1 + 1 + 1 + 1 < wg.heap.size := by omega
  have l2 : w.heap.size + 1 + 1 + 1 + 1 + 1 + 1 + 1 < wg.heap.size := by omega
  go_upto_block 0 with fail
  go_cut [4] (fun want wx => ∃ (eb0 : Int) (la : List Int) (r : Int), want = .int .i64 r ∧ shapeErr (ringG 2 [0, 0, 0, 0] [] ringI1 eb0 la) 10 10 = r ∧ SlOf wx 1 RInt (.slice (some ⟨gv, 0, none⟩) 4 cv) (ringG 2 [0, 0, 0, 0] [] ringI1 eb0 la).values ∧ SlOf wx 3 (RBlk wx) (.slice (some ⟨w.heap.size + 1 + 1 + 1 + 1 + 1 + 1 + 1 + 1 + 1 + 1 + 1 + 1 + 1 + 1 + 1 + 1 + 1 + 1, 0, none⟩) 4 4) (ringG 2 [0, 0, 0, 0] [] ringI1 eb0 la).blocks ∧ wx.cell? ⟨w1.heap.size, 0, none⟩ = some (.slice (some ⟨gv, 0, none⟩) 4 cv) ∧ wx.cell? ⟨w1.heap.size, 1, none⟩ = some (.slice (some ⟨w.heap.size + 1 + 1 + 1 + 1 + 1 + 1 + 1 + 1 + 1 + 1 + 1 + 1 + 1 + 1 + 1 + 1 + 1 + 1, 0, none⟩) 4 4) ∧ w1.heap.size < wx.heap.size ∧ Below w.heap.size w wx)
  case first =>
    have h4 : q = 0 ∨ q = 1 ∨ q = 2 ∨ q = 3 := by omega
    rcases h4 with rfl | rfl | rfl | rfl
    · go_wp2
      go_meet
      obtain ⟨W, hW⟩ : ∃ W, W = wg.setCell ⟨w.heap.size + 1 + 1 + 1 + 1 + 1 + 1 + 1, 0, none⟩ (.int .i64 0) := ⟨_, rfl⟩
      have rE : W.rowIs (w.heap.size + 1 + 1 + 1 + 1 + 1 + 1 + 1) 47 2 (fun q => if q = 0 then .int .i64 0 else (.slice (some ⟨w.heap.size + 1 + 1 + 1 + 1 + 1 + 1, 0, none⟩) 1 1)) := by
        rw [hW]
        refine ((hRg.rE0.set 0 _)).congr fun q hq => ?_
        match q, hq with | 0, _ => rfl | 1, _ => rfl
      have hk : ∀ b, w.heap.size + 1 ≤ b → b < wg.heap.size → b ≠ w.heap.size + 1 + 1 + 1 + 1 + 1 + 1 + 1 → W.heap[b]? = wg.heap[b]? := fun b _ hb hne => by rw [hW]; exact Below.heap_setCell _ _ _ _ hne
      have hz : wg.heap.size ≤ W.heap.size := by rw [hW]; simp
      have hU := hRg.updE (W' := W) hz hk rE
      obtain ⟨sv, sb⟩ := hU.sl (by omega) (by simp) (SlOf_nil _ _ _ none 0) hU.i1 (hU.a0)
      rw [List.length_replicate] at sv
      have hbW : Below w.heap.size w W := by rw [hW]; exact (hbg.setCell (by simp <;> omega) _)
      rw [← hW]
      refine ⟨0, [0], 6, rfl, by decide +kernel, sv, sb, (World.cell?_of_block (hk _ (by simp; omega) (by simp; omega) (by simp; omega))).trans f0, (World.cell?_of_block (hk _ (by simp; omega) (by simp; omega) (by simp; omega))).trans f1, by omega, hbW⟩
    · go_wp2
      go_meet
      obtain ⟨W, hW⟩ : ∃ W, W = wg.setCell ⟨w.heap.size + 1 + 1 + 1 + 1 + 1 + 1 + 1, 0, none⟩ (.int .i64 4) := ⟨_, rfl⟩
      have rE : W.rowIs (w.heap.size + 1 + 1 + 1 + 1 + 1 + 1 + 1) 47 2 (fun q => if q = 0 then .int .i64 4 else (.slice (some ⟨w.heap.size + 1 + 1 + 1 + 1 + 1 + 1, 0, none⟩) 1 1)) := by
        rw [hW]
        refine ((hRg.rE0.set 0 _)).congr fun q hq => ?_
        match q, hq with | 0, _ => rfl | 1, _ => rfl
      have hk : ∀ b, w.heap.size + 1 ≤ b → b < wg.heap.size → b ≠ w.heap.size + 1 + 1 + 1 + 1 + 1 + 1 + 1 → W.heap[b]? = wg.heap[b]? := fun b _ hb hne => by rw [hW]; exact Below.heap_setCell _ _ _ _ hne
      have hz : wg.heap.size ≤ W.heap.size := by rw [hW]; simp
      have hU := hRg.updE (W' := W) hz hk rE
      obtain ⟨sv, sb⟩ := hU.sl (by omega) (by simp) (SlOf_nil _ _ _ none 0) hU.i1 (hU.a0)
      rw [List.length_replicate] at sv
      have hbW : Below w.heap.size w W := by rw [hW]; exact (hbg.setCell (by simp <;> omega) _)
      rw [← hW]
      refine ⟨4, [0], 6, rfl, by decide +kernel, sv, sb, (World.cell?_of_block (hk _ (by simp; omega) (by simp; omega) (by simp; omega))).trans f0, (World.cell?_of_block (hk _ (by simp; omega) (by simp; omega) (by simp; omega))).trans f1, by omega, hbW⟩
    · go_wp2
      go_meet
      obtain ⟨W, hW⟩ : ∃ W, W = (wg.setCell ⟨w.heap.size + 1 + 1 + 1 + 1 + 1 + 1 + 1, 1, none⟩ (.slice (some ⟨wg.heap.size, 0, none⟩) 2 2)).alloc (.cells #[.int .i64 0, .int .i64 0] 3) := ⟨_, rfl⟩
      have rE : W.rowIs (w.heap.size + 1 + 1 + 1 + 1 + 1 + 1 + 1) 47 2 (fun q => if q = 0 then .int .i64 1 else (.slice (some ⟨wg.heap.size, 0, none⟩) 2 2)) := by
        rw [hW]
        refine ((hRg.rE0.set 1 _).alloc _).congr fun q hq => ?_
        match q, hq with | 0, _ => rfl | 1, _ => rfl
      have hk : ∀ b, w.heap.size + 1 ≤ b → b < wg.heap.size → b ≠ w.heap.size + 1 + 1 + 1 + 1 + 1 + 1 + 1 → W.heap[b]? = wg.heap[b]? := fun b _ hb hne => by rw [hW, Below.heap_alloc _ _ _ (by simpa using hb)]; exact Below.heap_setCell _ _ _ _ hne
      have hz : wg.heap.size ≤ W.heap.size := by rw [hW]; simp
      have hU := hRg.updE (W' := W) hz hk rE
      have cA : W.cell? ⟨wg.heap.size, 0, none⟩ = some (.int .i64 0) := by rw [hW]; go_simp
      have cA1 : W.cell? ⟨wg.heap.size, 1, none⟩ = some (.int .i64 0) := by rw [hW]; go_simp
      obtain ⟨sv, sb⟩ := hU.sl (by omega) (by simp) (SlOf_nil _ _ _ none 0) hU.i1 (SlOf_two [.int .i64 0] [.int .i64 0] rfl rfl rfl rfl (cells1 cA) (cells1 cA1))
      rw [List.length_replicate] at sv
      have hbW : Below w.heap.size w W := by rw [hW]; exact (hbg.setCell (by simp <;> omega) _).alloc (by simp; omega) _
      rw [← hW]
      refine ⟨1, [0, 0], 4, rfl, by decide +kernel, sv, sb, (World.cell?_of_block (hk _ (by simp; omega) (by simp; omega) (by simp; omega))).trans f0, (World.cell?_of_block (hk _ (by simp; omega) (by simp; omega) (by simp; omega))).trans f1, by omega, hbW⟩
    · go_wp2
      go_meet
      obtain ⟨W, hW⟩ : ∃ W, W = (wg.setCell ⟨w.heap.size + 1 + 1 + 1 + 1 + 1 + 1 + 1, 1, none⟩ (.slice (some ⟨wg.heap.size, 0, none⟩) 1 1)).alloc (.cells #[.int .i64 (-1)] 3) := ⟨_, rfl⟩
      have rE : W.rowIs (w.heap.size + 1 + 1 + 1 + 1 + 1 + 1 + 1) 47 2 (fun q => if q = 0 then .int .i64 1 else (.slice (some ⟨wg.heap.size, 0, none⟩) 1 1)) := by
        rw [hW]
        refine ((hRg.rE0.set 1 _).alloc _).congr fun q hq => ?_
        match q, hq with | 0, _ => rfl | 1, _ => rfl
      have hk : ∀ b, w.heap.size + 1 ≤ b → b < wg.heap.size → b ≠ w.heap.size + 1 + 1 + 1 + 1 + 1 + 1 + 1 → W.heap[b]? = wg.heap[b]? := fun b _ hb hne => by rw [hW, Below.heap_alloc _ _ _ (by simpa using hb)]; exact Below.heap_setCell _ _ _ _ hne
      have hz : wg.heap.size ≤ W.heap.size := by rw [hW]; simp
      have hU := hRg.updE (W' := W) hz hk rE
      have cA : W.cell? ⟨wg.heap.size, 0, none⟩ = some (.int .i64 (-1)) := by rw [hW]; go_simp
      obtain ⟨sv, sb⟩ := hU.sl (by omega) (by simp) (SlOf_nil _ _ _ none 0) hU.i1 (SlOf_one [.int .i64 (-1)] rfl rfl (cells1 cA))
      rw [List.length_replicate] at sv
      have hbW : Below w.heap.size w W := by rw [hW]; exact (hbg.setCell (by simp <;> omega) _).alloc (by simp; omega) _
      rw [← hW]
      refine ⟨1, [-1], 2, rfl, by decide +kernel, sv, sb, (World.cell?_of_block (hk _ (by simp; omega) (by simp; omega) (by simp; omega))).trans f0, (World.cell?_of_block (hk _ (by simp; omega) (by simp; omega) (by simp; omega))).trans f1, by omega, hbW⟩
  case rest =>
    obtain ⟨eb0, la, r, rfl, hr, hv, hB, k0, k1, zW, hbW⟩ := hcut
    obtain ⟨W, hWc⟩ : ∃ W, W = wc := ⟨_, rfl⟩
    subst hWc
    have HR : Hid (shapeErr (ringG 2 [0, 0, 0, 0] [] ringI1 eb0 la) 10 10 = r) := hr
    have HV : Hid (SlOf W 1 RInt (.slice (some ⟨gv, 0, none⟩) 4 cv) (ringG 2 [0, 0, 0, 0] [] ringI1 eb0 la).values) := hv
    have HB : Hid (SlOf W 3 (RBlk W) (.slice (some ⟨w.heap.size + 1 + 1 + 1 + 1 + 1 + 1 + 1 + 1 + 1 + 1 + 1 + 1 + 1 + 1 + 1 + 1 + 1 + 1, 0, none⟩) 4 4) (ringG 2 [0, 0, 0, 0] [] ringI1 eb0 la).blocks) := hB
    have HS : Hid (∀ w', Below W.heap.size W w' → (fun w' => w'.cell? ⟨w1.heap.size, 0, none⟩ = some (.slice (some ⟨gv, 0, none⟩) 4 cv) ∧ w'.cell? ⟨w1.heap.size, 1, none⟩ = some (.slice (some ⟨w.heap.size + 1 + 1 + 1 + 1 + 1 + 1 + 1 + 1 + 1 + 1 + 1 + 1 + 1 + 1 + 1 + 1 + 1 + 1, 0, none⟩) 4 4) ∧ Below W.heap.size W w') w') := fun w' hb => ⟨(hb.cell (by simp; omega)).trans k0, (hb.cell (by simp; omega)).trans k1, hb⟩
    clear hr hv hB b2 e0 e1 s0 s1 LB LE l1 l2 hRg hbg f0 f1
    go_upto_region 13 with fail
    refine wp_region_X (fun w' => w'.cell? ⟨w1.heap.size, 0, none⟩ = some (.slice (some ⟨gv, 0, none⟩) 4 cv) ∧ w'.cell? ⟨w1.heap.size, 1, none⟩ = some (.slice (some ⟨w.heap.size + 1 + 1 + 1 + 1 + 1 + 1 + 1 + 1 + 1 + 1 + 1 + 1 + 1 + 1 + 1 + 1 + 1 + 1, 0, none⟩) 4 4) ∧ Below W.heap.size W w') 11 (by kernel_rfl) ⟨k0, k1, (Below.refl _ _).drew⟩ (fun hHeld => ?_)
    refine wpX_takeg0 (v := ?_) (by kernel_rfl) (fun _ _ _ h => h) (by rfl) ?_ hHeld ?_
    rotate_left
    · intro w' hSw
      go_simp <;> with_reducible rfl
    try simp only [Act.put, List.setIfInBounds_toArray, List.set_cons_zero, List.set_cons_succ]
    refine wpX_takeg3 (v := ?_) (by kernel_rfl) (fun _ _ _ h => h) (by rfl) ?_ hHeld ?_
    rotate_left
    · intro w' hSw
      go_simp <;> with_reducible rfl
    try simp only [Act.put, List.setIfInBounds_toArray, List.set_cons_zero, List.set_cons_succ]
    refine wpX_step1 (by kernel_rfl) (fun K hK => ?_)
    go_simp
    refine (big_is _ W ((Below.refl _ _).drew)).mono ?_
    rintro e w3a ⟨rfl, hc3a⟩
  
    refine hK.out _ _ (HS.out _ hc3a) (fun hHeld => ?_)
    clear hK K
    try simp only [Act.put, List.setIfInBounds_toArray, List.set_cons_zero, List.set_cons_succ]
    refine wpX_step2 (by kernel_rfl) (fun K hK => ?_)
    go_simp
    refine (check_is (ringG 2 [0, 0, 0, 0] [] ringI1 eb0 la) 10 10 _ _ _ r HR.out (HV.out.below hc3a fun _ _ h => h) (HB.out.below hc3a (RBlk.below hc3a))).mono ?_
    rintro e w4a ⟨rfl, hb4'⟩
    have hb4a : Below W.heap.size W w4a := hc3a.trans (hb4'.mono hc3a.size)
    refine hK.out _ _ (HS.out _ hb4a) (fun hHeld => ?_)
    clear hK K
    try simp only [Act.put, List.setIfInBounds_toArray, List.set_cons_zero, List.set_cons_succ]
    refine wpX_takeg4 (v := ?_) (by kernel_rfl) (fun _ _ _ h => h) (by rfl) ?_ hHeld ?_
    rotate_left
    · intro w' hSw
      go_simp <;> with_reducible rfl
    try simp only [Act.put, List.setIfInBounds_toArray, List.set_cons_zero, List.set_cons_succ]
    refine wpX_takeg5 (v := ?_) (by kernel_rfl) (fun _ _ _ h => h) (by rfl) ?_ hHeld ?_
    rotate_left
    · intro w' hSw
      go_simp <;> with_reducible rfl
    try simp only [Act.put, List.setIfInBounds_toArray, List.set_cons_zero, List.set_cons_succ]
    refine wpX_step6 (by kernel_rfl) (fun K hK => ?_)
    go_simp
    refine (ring_is _ 2 _ rfl (by omega) (by omega)).mono ?_
    rintro e w6 ⟨gv2, cv2, gi2, ci2, eb2, ab2, ob2, rfl, hR6, hb6'⟩
    have hb6 : Below W.heap.size W w6 := hb4a.trans (hb6'.mono hb4a.size)
    obtain ⟨sv, sb⟩ := hR6.sl (by omega) (by simp) (SlOf_nil _ _ _ none 0) hR6.i1 hR6.a0
    rw [List.length_replicate] at sv
    have HV2 : Hid (SlOf w6 1 RInt (.slice (some ⟨gv2, 0, none⟩) 4 cv2) (ringG 2 [0, 0, 0, 0] [] ringI1 1 [0]).values) := sv
    have HB2 : Hid (SlOf w6 3 (RBlk w6) (.slice (some ⟨w4a.heap.size + 1 + 1 + 1 + 1 + 1 + 1 + 1 + 1 + 1 + 1 + 1 + 1 + 1 + 1 + 1 + 1 + 1 + 1, 0, none⟩) 4 4) (ringG 2 [0, 0, 0, 0] [] ringI1 1 [0]).blocks) := sb
    have HR2 : Hid (shapeErr (ringG 2 [0, 0, 0, 0] [] ringI1 1 [0]) 10 10 = 0) := edgeG_ok
    clear sv sb hR6
    refine hK.out _ _ (HS.out _ hb6) (fun hHeld => ?_)
    clear hK K
    try simp only [Act.put, List.setIfInBounds_toArray, List.set_cons_zero, List.set_cons_succ]
    refine wpX_step7 (by kernel_rfl) (fun K hK => ?_)
    go_simp
    refine (big_is _ w6 (Below.refl _ _)).mono ?_
    rintro e w3b ⟨rfl, hd3⟩
    have hc3b : Below W.heap.size W w3b := hb6.trans (hd3.mono hb6.size)
    refine hK.out _ _ (HS.out _ hc3b) (fun hHeld => ?_)
    clear hK K
    try simp only [Act.put, List.setIfInBounds_toArray, List.set_cons_zero, List.set_cons_succ]
    refine wpX_step8 (by kernel_rfl) (fun K hK => ?_)
    go_simp
    refine (check_is (ringG 2 [0, 0, 0, 0] [] ringI1 1 [0]) 10 10 _ _ _ 0 HR2.out (HV2.out.below hd3 fun _ _ h => h) (HB2.out.below hd3 (RBlk.below hd3))).mono ?_
    rintro e w8 ⟨rfl, hb8'⟩
    have hb8 : Below W.heap.size W w8 := hc3b.trans (hb8'.mono hc3b.size)
    refine hK.out _ _ (HS.out _ hb8) (fun hHeld => ?_)
    clear hK K
    try simp only [Act.put, List.setIfInBounds_toArray, List.set_cons_zero, List.set_cons_succ]
    refine wpX_takeg9 (v := ?_) (by kernel_rfl) (fun _ _ _ h => h) (by rfl) ?_ hHeld ?_
    rotate_left
    · intro w' hSw
      go_simp <;> with_reducible rfl
    try simp only [Act.put, List.setIfInBounds_toArray, List.set_cons_zero, List.set_cons_succ]
    refine wpX_takeg10 (v := ?_) (by kernel_rfl) (fun _ _ _ h => h) (by rfl) ?_ hHeld ?_
    rotate_left
    · intro w' hSw
      go_simp <;> with_reducible rfl
    try simp only [Act.put, List.setIfInBounds_toArray, List.set_cons_zero, List.set_cons_succ]
    refine wpX_last11 (by kernel_rfl) rfl (by kernel_rfl) (fun K hK => ?_)
    go_simp
    refine hK.out _ _ ?_
    clear hK K
    go_wp2
    go_ret
    exact ⟨rfl, hbW.trans (hb8.mono (by omega))⟩
end Go.Proofs.Ytnghhhlcifpiaac
