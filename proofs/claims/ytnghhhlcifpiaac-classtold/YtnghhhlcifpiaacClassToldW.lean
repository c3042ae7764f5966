/-
  The walk through 'ClassTold': it answers true for all numbers, and writes to nothing that was there.
-/
import Derived.Test.YtnghhhlcifpiaacRingT
import Derived.Test.YtnghhhlcifpiaacReg2
namespace Go.Proofs.Ytnghhhlcifpiaac
open Go.RowKit
set_option linter.unusedVariables false

def classF (k : Int) : Fn := ⟨[0, k], [⟨[], [⟨0, [⟨2, 0, true, 1, 0⟩], []⟩, ⟨1, [⟨1, 0, false, 1, 0⟩, ⟨2, 1, true, 1, 0⟩], []⟩], []⟩]⟩
theorem classF_ok : ∀ a : Nat, a < 9 → shapeErr (classF ((a : Int) - 3)) 10 10 = if a = 3 ∨ a = 4 then 0 else 17 := by
  decide +kernel
theorem classG_ok : shapeErr (ringG 1 [1, 0, 0] [] ringI1 1 [0]) 10 10 = 17 := by decide +kernel

set_option maxHeartbeats 8000000 in
theorem classTold_walk (c : Int) (w : World) (u0 : -9223372036854775808 ≤ c) (u0' : c ≤ 9223372036854775807) :
    Calls Try.prog 3 #[.int .i64 c] w fun e w' => e = .returned (.bool true) ∧ Below w.heap.size w w' := by
  obtain ⟨q0, q0'⟩ := pickedOf_bd c 9 (by omega)
  go_enter Try.func3, Try.ntmps3
  go_wp2_with fail
  refine (line2_any _).mono ?_
  rintro e w1 ⟨gv, cv, gi, ci, o0, o1, rfl, hL1, hb1⟩
  have z1 := hb1.size
  go_wp2_with fail
  obtain ⟨wf, hwf⟩ : ∃ wf, wf = w1.alloc (.cells #[.slice (some ⟨gv, 0, none⟩) 2 cv, .slice (some ⟨w.heap.size + 1, 0, none⟩) 1 1] 25) := ⟨_, rfl⟩
  have f0 : wf.cell? ⟨w1.heap.size, 0, none⟩ = some (.slice (some ⟨gv, 0, none⟩) 2 cv) := by rw [hwf]; go_simp
  have f1 : wf.cell? ⟨w1.heap.size, 1, none⟩ = some (.slice (some ⟨w.heap.size + 1, 0, none⟩) 1 1) := by rw [hwf]; go_simp
  have hbf : Below w1.heap.size w1 wf := by rw [hwf]; exact (Below.refl _ _).alloc (Nat.le_refl _) _
  have zf : wf.heap.size = w1.heap.size + 1 := by rw [hwf]; simp
  have hL := hL1.below hbf
  have nFv : w1.heap.size ≠ gv := by have := hL1.lv; omega
  rw [← hwf]
  clear hwf
  refine (picked_any _ _ _ u0 u0' (by omega) (by omega)).mono ?_
  rintro e wg ⟨rfl, rfl⟩
  generalize pickedOf c 9 = kk at *
  obtain ⟨a, rfl⟩ : ∃ a : Nat, kk = a := ⟨kk.toNat, by omega⟩
  have c1 := hL.v1
  have s1 := hL.zv 1
  have dl := hL.lv
  go_upto_region 4 with fail
  obtain ⟨W2, hW2⟩ : ∃ W2, W2 = wg.setCell ⟨gv, 1, none⟩ (.int .i64 ((a : Int) - 3)) := ⟨_, rfl⟩
  have z2 : W2.heap.size = w1.heap.size + 1 := by rw [hW2]; simp [zf]
  have kp : ∀ x j, x ≠ gv → W2.cell? ⟨x, j, none⟩ = wg.cell? ⟨x, j, none⟩ := fun x j hx => by
    refine World.cell?_of_block ?_
    rw [hW2, Below.heap_setCell _ _ _ _ (by simpa using hx)]
  have n0 : W2.cell? ⟨gv, 0, none⟩ = some (.int .i64 0) := by
    rw [hW2, World.cell?_setCell_other _ _ _ _ (by simp)]
    exact hL.v0
  have n1 : W2.cell? ⟨gv, 1, none⟩ = some (.int .i64 ((a : Int) - 3)) := by rw [hW2]; go_simp
  have hbW : Below w.heap.size w W2 := by
    rw [hW2]
    exact (hb1.trans (hbf.mono z1)).setCell (by simp; omega) _
  have dd := hL.d
  have hv : SlOf W2 1 RInt (.slice (some ⟨gv, 0, none⟩) 2 cv) (classF ((a : Int) - 3)).values := SlOf_two [.int .i64 0] [.int .i64 ((a : Int) - 3)] rfl rfl rfl rfl (cells1 n0) (cells1 n1)
  have hO0 : SlOf W2 5 ROpr (.slice (some ⟨o0, 0, none⟩) 1 1) [⟨2, 0, true, 1, 0⟩] := SlOf_one [.int .i64 2, .int .i64 0, .bool true, .int .i64 1, .int .i64 0] rfl rfl (cells5 ((kp _ _ (Ne.symm dd.2.1)).trans hL.p0) ((kp _ _ (Ne.symm dd.2.1)).trans hL.p1) ((kp _ _ (Ne.symm dd.2.1)).trans hL.p2) ((kp _ _ (Ne.symm dd.2.1)).trans hL.p3) ((kp _ _ (Ne.symm dd.2.1)).trans hL.p4))
  have hO1 : SlOf W2 5 ROpr (.slice (some ⟨o1, 0, none⟩) 2 2) [⟨1, 0, false, 1, 0⟩, ⟨2, 1, true, 1, 0⟩] := SlOf_two [.int .i64 1, .int .i64 0, .bool false, .int .i64 1, .int .i64 0] [.int .i64 2, .int .i64 1, .bool true, .int .i64 1, .int .i64 0] rfl rfl rfl rfl (cells5 ((kp _ _ (Ne.symm dd.2.2.1)).trans hL.q0) ((kp _ _ (Ne.symm dd.2.2.1)).trans hL.q1) ((kp _ _ (Ne.symm dd.2.2.1)).trans hL.q2) ((kp _ _ (Ne.symm dd.2.2.1)).trans hL.q3) ((kp _ _ (Ne.symm dd.2.2.1)).trans hL.q4)) (cells5 ((kp _ _ (Ne.symm dd.2.2.1)).trans hL.q5) ((kp _ _ (Ne.symm dd.2.2.1)).trans hL.q6) ((kp _ _ (Ne.symm dd.2.2.1)).trans hL.q7) ((kp _ _ (Ne.symm dd.2.2.1)).trans hL.q8) ((kp _ _ (Ne.symm dd.2.2.1)).trans hL.q9))
  have hI : SlOf W2 3 (RIns W2) (.slice (some ⟨gi, 0, none⟩) 2 ci) [⟨0, [⟨2, 0, true, 1, 0⟩], []⟩, ⟨1, [⟨1, 0, false, 1, 0⟩, ⟨2, 1, true, 1, 0⟩], []⟩] := SlOf_two [.int .i64 0, .slice (some ⟨o0, 0, none⟩) 1 1, .slice none 0 0] [.int .i64 1, .slice (some ⟨o1, 0, none⟩) 2 2, .slice none 0 0] rfl rfl ⟨_, _, rfl, hO0, SlOf_nil _ _ _ _ _⟩ ⟨_, _, rfl, hO1, SlOf_nil _ _ _ _ _⟩ (cells3 ((kp _ _ (Ne.symm dd.1)).trans hL.i0) ((kp _ _ (Ne.symm dd.1)).trans hL.i1) ((kp _ _ (Ne.symm dd.1)).trans hL.i2)) (cells3 ((kp _ _ (Ne.symm dd.1)).trans hL.i3) ((kp _ _ (Ne.symm dd.1)).trans hL.i4) ((kp _ _ (Ne.symm dd.1)).trans hL.i5))
  have hB : SlOf W2 3 (RBlk W2) (.slice (some ⟨w.heap.size + 1, 0, none⟩) 1 1) (classF ((a : Int) - 3)).blocks := SlOf_one [.slice none 0 0, .slice (some ⟨gi, 0, none⟩) 2 ci, .slice none 0 0] rfl ⟨_, _, _, rfl, SlOf_nil _ _ _ _ _, hI, SlOf_nil _ _ _ _ _⟩ (cells3 ((kp _ _ (by omega)).trans hL.b0) ((kp _ _ (by omega)).trans hL.b1) ((kp _ _ (by omega)).trans hL.b2))
  have g0 : W2.cell? ⟨w1.heap.size, 0, none⟩ = some (.slice (some ⟨gv, 0, none⟩) 2 cv) := (kp _ _ nFv).trans f0
  have g1 : W2.cell? ⟨w1.heap.size, 1, none⟩ = some (.slice (some ⟨w.heap.size + 1, 0, none⟩) 1 1) := (kp _ _ nFv).trans f1
  rw [← hW2]
  clear hW2 kp n0 n1 hO0 hO1 hI dd f0 f1 hL hL1 c1 s1
  obtain ⟨r, hr⟩ : ∃ r, shapeErr (classF ((a : Int) - 3)) 10 10 = r := ⟨_, rfl⟩
  have HR : Hid (shapeErr (classF ((a : Int) - 3)) 10 10 = r) := hr
  have HV : Hid (SlOf W2 1 RInt (.slice (some ⟨gv, 0, none⟩) 2 cv) (classF ((a : Int) - 3)).values) := hv
  have HB : Hid (SlOf W2 3 (RBlk W2) (.slice (some ⟨w.heap.size + 1, 0, none⟩) 1 1) (classF ((a : Int) - 3)).blocks) := hB
  have hok := classF_ok a (by omega)
  rw [hr] at hok
  have Hok : Hid (r = if a = 3 ∨ a = 4 then 0 else 17) := hok
  clear hv hB hr hok
  refine wp_region_X (fun w' => w'.cell? ⟨w1.heap.size, 0, none⟩ = some (.slice (some ⟨gv, 0, none⟩) 2 cv) ∧ w'.cell? ⟨w1.heap.size, 1, none⟩ = some (.slice (some ⟨w.heap.size + 1, 0, none⟩) 1 1) ∧ Below W2.heap.size W2 w') 3 (by kernel_rfl) ⟨g0, g1, (Below.refl _ _).drew⟩ (fun hHeld => ?_)
  refine wpX_take0 (v := ?_) (by kernel_rfl) (fun _ _ _ h => h) rfl ?_ hHeld ?_
  rotate_left
  · intro w' hSw
    go_simp <;> with_reducible rfl
  try simp only [Act.put, List.setIfInBounds_toArray, List.set_cons_zero, List.set_cons_succ]
  refine wpX_step1 (by kernel_rfl) (fun K hK => ?_)
  go_simp
  refine (big_any _).mono ?_
  rintro e w3 ⟨rfl, hb3⟩
  have hc3 : Below W2.heap.size W2 w3 := ((Below.refl _ _).drew).trans hb3
  refine hK.out _ _ ⟨(hc3.cell (by simp; omega)).trans g0, (hc3.cell (by simp; omega)).trans g1, hc3⟩ (fun hHeld => ?_)
  clear hK K
  try simp only [Act.put, List.setIfInBounds_toArray, List.set_cons_zero, List.set_cons_succ]
  refine wpX_step2 (by kernel_rfl) (fun K hK => ?_)
  go_simp
  refine (check_is (classF ((a : Int) - 3)) 10 10 _ _ _ r HR.out (HV.out.below hc3 fun _ _ h => h) (HB.out.below hc3 (RBlk.below hc3))).mono ?_
  rintro e w4 ⟨rfl, hb4'⟩
  have hb4 : Below W2.heap.size W2 w4 := hc3.trans (hb4'.mono hc3.size)
  refine hK.out _ _ ⟨(hb4.cell (by simp; omega)).trans g0, (hb4.cell (by simp; omega)).trans g1, hb4⟩ (fun hHeld => ?_)
  clear hK K
  try simp only [Act.put, List.setIfInBounds_toArray, List.set_cons_zero, List.set_cons_succ]
  refine wpX_last3 (by kernel_rfl) rfl (by kernel_rfl) (fun K hK => ?_)
  go_simp
  refine hK.out _ _ ?_
  clear hK K
  have hbe : Below w.heap.size w w4 := hbW.trans (hb4.mono (by omega))
  clear g0 g1 HR HV HB hb3 hc3 hb4' hHeld
  have z4 := hbe.size
  go_wp2_with fail
  refine (ring_is 1 1 _ rfl (by omega) (by omega)).mono ?_
  rintro e w5 ⟨gv2, cv2, gi2, ci2, eb, ab, ob, rfl, hR5, hb5⟩
  have z5 := hb5.size
  have hlv := hR5.lv
  have c0 := hR5.v 0 (by simp)
  have zz := hR5.zv 0
  simp at c0
  have L5 := old_cell gv2
  go_upto_region 7 with fail
  obtain ⟨W5, hW5⟩ : ∃ W5, W5 = w5.setCell ⟨gv2, 0, none⟩ (.int .i64 1) := ⟨_, rfl⟩
  have hU : RingAt w4.heap.size 1 gv2 cv2 gi2 ci2 eb ab ob [1, 0, 0] (.slice none 0 0) (.slice (some ⟨w4.heap.size + 1 + 1 + 1 + 1 + 1 + 1 + 1 + 1 + 1 + 1 + 1 + 1, 0, none⟩) 1 1) 1 (.slice (some ⟨w4.heap.size + 1 + 1 + 1 + 1 + 1 + 1, 0, none⟩) 1 1) (ringW w4) W5 := by
    refine hR5.upd (X := gv2) (Or.inl rfl) (by rw [hW5]; simp) (fun b _ hb => by rw [hW5]; exact Below.heap_setCell _ _ _ _ (by simpa using hb)) (fun k hk => ?_) (fun k => ?_) ?_ ?_
    · rw [hW5]
      have hk' : k = 0 ∨ k = 1 ∨ k = 2 := by simp at hk; omega
      rcases hk' with rfl | rfl | rfl
      · exact World.cell?_setCell_same _ _ _ c0
      · exact (World.cell?_setCell_other _ _ _ _ (by simp)).trans (hR5.v 1 (by simp))
      · exact (World.cell?_setCell_other _ _ _ _ (by simp)).trans (hR5.v 2 (by simp))
    · rw [hW5, World.frozen?_setCell]
      exact hR5.zv k
    · rw [hW5]; exact hR5.r1.setOther (by show w4.heap.size + 1 + 1 + 1 + 1 + 1 + 1 + 1 + 1 + 1 + 1 + 1 + 1 + 1 + 1 + 1 + 1 + 1 + 1 ≠ gv2; omega) _
    · rw [hW5]; exact hR5.rE0.setOther (by show w4.heap.size + 1 + 1 + 1 + 1 + 1 + 1 + 1 ≠ gv2; omega) _
  obtain ⟨W6, hW6⟩ : ∃ W6, W6 = W5.alloc (.cells #[.slice (some ⟨gv2, 0, none⟩) 3 cv2, .slice (some ⟨w4.heap.size + 1 + 1 + 1 + 1 + 1 + 1 + 1 + 1 + 1 + 1 + 1 + 1 + 1 + 1 + 1 + 1 + 1 + 1, 0, none⟩) 4 4] 25) := ⟨_, rfl⟩
  have z55 : W5.heap.size = w5.heap.size := by rw [hW5]; simp
  have z6 : W6.heap.size = w5.heap.size + 1 := by rw [hW6]; simp [z55]
  have hb6 : Below W5.heap.size W5 W6 := by rw [hW6]; exact (Below.refl _ _).alloc (Nat.le_refl _) _
  have hU6 := hU.below hb6
  obtain ⟨sv, sb⟩ := hU6.sl (by omega) (by simp) (SlOf_nil _ _ _ none 0) hU6.i1 hU6.a0
  have HV2 : Hid (SlOf W6 1 RInt (.slice (some ⟨gv2, 0, none⟩) 3 cv2) (ringG 1 [1, 0, 0] [] ringI1 1 [0]).values) := sv
  have HB2 : Hid (SlOf W6 3 (RBlk W6) (.slice (some ⟨w4.heap.size + 1 + 1 + 1 + 1 + 1 + 1 + 1 + 1 + 1 + 1 + 1 + 1 + 1 + 1 + 1 + 1 + 1 + 1, 0, none⟩) 4 4) (ringG 1 [1, 0, 0] [] ringI1 1 [0]).blocks) := sb
  have HR2 : Hid (shapeErr (ringG 1 [1, 0, 0] [] ringI1 1 [0]) 10 10 = 17) := classG_ok
  have k0 : W6.cell? ⟨w5.heap.size, 0, none⟩ = some (.slice (some ⟨gv2, 0, none⟩) 3 cv2) := by rw [hW6, ← z55]; go_simp
  have k1 : W6.cell? ⟨w5.heap.size, 1, none⟩ = some (.slice (some ⟨w4.heap.size + 1 + 1 + 1 + 1 + 1 + 1 + 1 + 1 + 1 + 1 + 1 + 1 + 1 + 1 + 1 + 1 + 1 + 1, 0, none⟩) 4 4) := by rw [hW6, ← z55]; go_simp
  have hbW6 : Below w.heap.size w W6 := by
    refine Below.trans ?_ (hb6.mono (by omega))
    rw [hW5]
    exact (hbe.trans (hb5.mono z4)).setCell (by simp; omega) _
  rw [hW5] at hW6
  rw [← hW6]
  clear hW6 hW5 hU hU6 sv sb hR5 c0 zz L5 hb6
  by_cases h3 : a = 3
  · subst h3
    have hr : r = 0 := Hok.out
    subst hr
    refine wp_region_X (fun w' => w'.cell? ⟨w5.heap.size, 0, none⟩ = some (.slice (some ⟨gv2, 0, none⟩) 3 cv2) ∧ w'.cell? ⟨w5.heap.size, 1, none⟩ = some (.slice (some ⟨w4.heap.size + 1 + 1 + 1 + 1 + 1 + 1 + 1 + 1 + 1 + 1 + 1 + 1 + 1 + 1 + 1 + 1 + 1 + 1, 0, none⟩) 4 4) ∧ Below W6.heap.size W6 w') 23 (by kernel_rfl) ⟨k0, k1, (Below.refl _ _).drew⟩ (fun hHeld => ?_)
    refine wpX_takeg0 (v := ?_) (by kernel_rfl) (fun _ _ _ h => h) (by rfl) ?_ hHeld ?_
    rotate_left
    · intro w' hSw
      go_simp <;> with_reducible rfl
    try simp only [Act.put, List.setIfInBounds_toArray, List.set_cons_zero, List.set_cons_succ]
    refine wpX_takeg1 (v := ?_) (by kernel_rfl) (fun _ _ _ h => h) (by rfl) ?_ hHeld ?_
    rotate_left
    · intro w' hSw
      go_simp <;> with_reducible rfl
    try simp only [Act.put, List.setIfInBounds_toArray, List.set_cons_zero, List.set_cons_succ]
    refine wpX_takeg2 (v := ?_) (by kernel_rfl) (fun _ _ _ h => h) (by rfl) ?_ hHeld ?_
    rotate_left
    · intro w' hSw
      go_simp <;> with_reducible rfl
    try simp only [Act.put, List.setIfInBounds_toArray, List.set_cons_zero, List.set_cons_succ]
    refine wpX_takeg3 (v := ?_) (by kernel_rfl) (fun _ _ _ h => h) (by rfl) ?_ hHeld ?_
    rotate_left
    · intro w' hSw
      go_simp <;> with_reducible rfl
    try simp only [Act.put, List.setIfInBounds_toArray, List.set_cons_zero, List.set_cons_succ]
    refine wpX_takeg4 (v := ?_) (by kernel_rfl) (fun _ _ _ h => h) (by rfl) ?_ hHeld ?_
    rotate_left
    · intro w' hSw
      go_simp <;> with_reducible rfl
    try simp only [Act.put, List.setIfInBounds_toArray, List.set_cons_zero, List.set_cons_succ]
    refine wpX_skip5 (by kernel_rfl) (fun _ _ _ h => h) (by rfl) hHeld ?_
    try simp only [Act.put, List.setIfInBounds_toArray, List.set_cons_zero, List.set_cons_succ]
    refine wpX_skip6 (by kernel_rfl) (fun _ _ _ h => h) (by rfl) hHeld ?_
    try simp only [Act.put, List.setIfInBounds_toArray, List.set_cons_zero, List.set_cons_succ]
    refine wpX_takeg7 (v := ?_) (by kernel_rfl) (fun _ _ _ h => h) (by rfl) ?_ hHeld ?_
    rotate_left
    · intro w' hSw
      go_simp <;> with_reducible rfl
    try simp only [Act.put, List.setIfInBounds_toArray, List.set_cons_zero, List.set_cons_succ]
    refine wpX_takeg8 (v := ?_) (by kernel_rfl) (fun _ _ _ h => h) (by rfl) ?_ hHeld ?_
    rotate_left
    · intro w' hSw
      go_simp <;> with_reducible rfl
    try simp only [Act.put, List.setIfInBounds_toArray, List.set_cons_zero, List.set_cons_succ]
    refine wpX_takeg9 (v := ?_) (by kernel_rfl) (fun _ _ _ h => h) (by rfl) ?_ hHeld ?_
    rotate_left
    · intro w' hSw
      go_simp <;> with_reducible rfl
    try simp only [Act.put, List.setIfInBounds_toArray, List.set_cons_zero, List.set_cons_succ]
    refine wpX_takeg10 (v := ?_) (by kernel_rfl) (fun _ _ _ h => h) (by rfl) ?_ hHeld ?_
    rotate_left
    · intro w' hSw
      go_simp <;> with_reducible rfl
    try simp only [Act.put, List.setIfInBounds_toArray, List.set_cons_zero, List.set_cons_succ]
    refine wpX_takeg11 (v := ?_) (by kernel_rfl) (fun _ _ _ h => h) (by rfl) ?_ hHeld ?_
    rotate_left
    · intro w' hSw
      go_simp <;> with_reducible rfl
    try simp only [Act.put, List.setIfInBounds_toArray, List.set_cons_zero, List.set_cons_succ]
    refine wpX_takeg12 (v := ?_) (by kernel_rfl) (fun _ _ _ h => h) (by rfl) ?_ hHeld ?_
    rotate_left
    · intro w' hSw
      go_simp <;> with_reducible rfl
    try simp only [Act.put, List.setIfInBounds_toArray, List.set_cons_zero, List.set_cons_succ]
    refine wpX_skip13 (by kernel_rfl) (fun _ _ _ h => h) (by rfl) hHeld ?_
    try simp only [Act.put, List.setIfInBounds_toArray, List.set_cons_zero, List.set_cons_succ]
    refine wpX_skip14 (by kernel_rfl) (fun _ _ _ h => h) (by rfl) hHeld ?_
    try simp only [Act.put, List.setIfInBounds_toArray, List.set_cons_zero, List.set_cons_succ]
    refine wpX_takeg15 (v := ?_) (by kernel_rfl) (fun _ _ _ h => h) (by rfl) ?_ hHeld ?_
    rotate_left
    · intro w' hSw
      go_simp <;> with_reducible rfl
    try simp only [Act.put, List.setIfInBounds_toArray, List.set_cons_zero, List.set_cons_succ]
    refine wpX_takeg16 (v := ?_) (by kernel_rfl) (fun _ _ _ h => h) (by rfl) ?_ hHeld ?_
    rotate_left
    · intro w' hSw
      go_simp <;> with_reducible rfl
    try simp only [Act.put, List.setIfInBounds_toArray, List.set_cons_zero, List.set_cons_succ]
    refine wpX_takeg17 (v := ?_) (by kernel_rfl) (fun _ _ _ h => h) (by rfl) ?_ hHeld ?_
    rotate_left
    · intro w' hSw
      go_simp <;> with_reducible rfl
    try simp only [Act.put, List.setIfInBounds_toArray, List.set_cons_zero, List.set_cons_succ]
    refine wpX_takeg18 (v := ?_) (by kernel_rfl) (fun _ _ _ h => h) (by rfl) ?_ hHeld ?_
    rotate_left
    · intro w' hSw
      go_simp <;> with_reducible rfl
    try simp only [Act.put, List.setIfInBounds_toArray, List.set_cons_zero, List.set_cons_succ]
    refine wpX_step19 (by kernel_rfl) (fun K hK => ?_)
    go_simp
    refine (big_any _).mono ?_
    rintro e w3a ⟨rfl, hb3a⟩
    have hc3a : Below W6.heap.size W6 w3a := ((Below.refl _ _).drew).trans hb3a
    refine hK.out _ _ ⟨(hc3a.cell (by simp; omega)).trans k0, (hc3a.cell (by simp; omega)).trans k1, hc3a⟩ (fun hHeld => ?_)
    clear hK K
    try simp only [Act.put, List.setIfInBounds_toArray, List.set_cons_zero, List.set_cons_succ]
    refine wpX_step20 (by kernel_rfl) (fun K hK => ?_)
    go_simp
    refine (check_is (ringG 1 [1, 0, 0] [] ringI1 1 [0]) 10 10 _ _ _ 17 HR2.out (HV2.out.below hc3a fun _ _ h => h) (HB2.out.below hc3a (RBlk.below hc3a))).mono ?_
    rintro e w4a ⟨rfl, hb4'a⟩
    have hb4a : Below W6.heap.size W6 w4a := hc3a.trans (hb4'a.mono hc3a.size)
    refine hK.out _ _ ⟨(hb4a.cell (by simp; omega)).trans k0, (hb4a.cell (by simp; omega)).trans k1, hb4a⟩ (fun hHeld => ?_)
    clear hK K
    try simp only [Act.put, List.setIfInBounds_toArray, List.set_cons_zero, List.set_cons_succ]
    refine wpX_takeg21 (v := ?_) (by kernel_rfl) (fun _ _ _ h => h) (by rfl) ?_ hHeld ?_
    rotate_left
    · intro w' hSw
      go_simp <;> with_reducible rfl
    try simp only [Act.put, List.setIfInBounds_toArray, List.set_cons_zero, List.set_cons_succ]
    refine wpX_takeg22 (v := ?_) (by kernel_rfl) (fun _ _ _ h => h) (by rfl) ?_ hHeld ?_
    rotate_left
    · intro w' hSw
      go_simp <;> with_reducible rfl
    try simp only [Act.put, List.setIfInBounds_toArray, List.set_cons_zero, List.set_cons_succ]
    refine wpX_last23 (by kernel_rfl) rfl (by kernel_rfl) (fun K hK => ?_)
    go_simp
    refine hK.out _ _ ?_
    clear hK K
    go_wp2
    go_ret
    exact ⟨rfl, hbW6.trans (hb4a.mono (by omega))⟩
  by_cases h4 : a = 4
  · subst h4
    have hr : r = 0 := Hok.out
    subst hr
    refine wp_region_X (fun w' => w'.cell? ⟨w5.heap.size, 0, none⟩ = some (.slice (some ⟨gv2, 0, none⟩) 3 cv2) ∧ w'.cell? ⟨w5.heap.size, 1, none⟩ = some (.slice (some ⟨w4.heap.size + 1 + 1 + 1 + 1 + 1 + 1 + 1 + 1 + 1 + 1 + 1 + 1 + 1 + 1 + 1 + 1 + 1 + 1, 0, none⟩) 4 4) ∧ Below W6.heap.size W6 w') 23 (by kernel_rfl) ⟨k0, k1, (Below.refl _ _).drew⟩ (fun hHeld => ?_)
    refine wpX_takeg0 (v := ?_) (by kernel_rfl) (fun _ _ _ h => h) (by rfl) ?_ hHeld ?_
    rotate_left
    · intro w' hSw
      go_simp <;> with_reducible rfl
    try simp only [Act.put, List.setIfInBounds_toArray, List.set_cons_zero, List.set_cons_succ]
    refine wpX_takeg1 (v := ?_) (by kernel_rfl) (fun _ _ _ h => h) (by rfl) ?_ hHeld ?_
    rotate_left
    · intro w' hSw
      go_simp <;> with_reducible rfl
    try simp only [Act.put, List.setIfInBounds_toArray, List.set_cons_zero, List.set_cons_succ]
    refine wpX_takeg2 (v := ?_) (by kernel_rfl) (fun _ _ _ h => h) (by rfl) ?_ hHeld ?_
    rotate_left
    · intro w' hSw
      go_simp <;> with_reducible rfl
    try simp only [Act.put, List.setIfInBounds_toArray, List.set_cons_zero, List.set_cons_succ]
    refine wpX_takeg3 (v := ?_) (by kernel_rfl) (fun _ _ _ h => h) (by rfl) ?_ hHeld ?_
    rotate_left
    · intro w' hSw
      go_simp <;> with_reducible rfl
    try simp only [Act.put, List.setIfInBounds_toArray, List.set_cons_zero, List.set_cons_succ]
    refine wpX_takeg4 (v := ?_) (by kernel_rfl) (fun _ _ _ h => h) (by rfl) ?_ hHeld ?_
    rotate_left
    · intro w' hSw
      go_simp <;> with_reducible rfl
    try simp only [Act.put, List.setIfInBounds_toArray, List.set_cons_zero, List.set_cons_succ]
    refine wpX_takeg5 (v := ?_) (by kernel_rfl) (fun _ _ _ h => h) (by rfl) ?_ hHeld ?_
    rotate_left
    · intro w' hSw
      go_simp <;> with_reducible rfl
    try simp only [Act.put, List.setIfInBounds_toArray, List.set_cons_zero, List.set_cons_succ]
    refine wpX_takeg6 (v := ?_) (by kernel_rfl) (fun _ _ _ h => h) (by rfl) ?_ hHeld ?_
    rotate_left
    · intro w' hSw
      go_simp <;> with_reducible rfl
    try simp only [Act.put, List.setIfInBounds_toArray, List.set_cons_zero, List.set_cons_succ]
    refine wpX_takeg7 (v := ?_) (by kernel_rfl) (fun _ _ _ h => h) (by rfl) ?_ hHeld ?_
    rotate_left
    · intro w' hSw
      go_simp <;> with_reducible rfl
    try simp only [Act.put, List.setIfInBounds_toArray, List.set_cons_zero, List.set_cons_succ]
    refine wpX_takeg8 (v := ?_) (by kernel_rfl) (fun _ _ _ h => h) (by rfl) ?_ hHeld ?_
    rotate_left
    · intro w' hSw
      go_simp <;> with_reducible rfl
    try simp only [Act.put, List.setIfInBounds_toArray, List.set_cons_zero, List.set_cons_succ]
    refine wpX_takeg9 (v := ?_) (by kernel_rfl) (fun _ _ _ h => h) (by rfl) ?_ hHeld ?_
    rotate_left
    · intro w' hSw
      go_simp <;> with_reducible rfl
    try simp only [Act.put, List.setIfInBounds_toArray, List.set_cons_zero, List.set_cons_succ]
    refine wpX_takeg10 (v := ?_) (by kernel_rfl) (fun _ _ _ h => h) (by rfl) ?_ hHeld ?_
    rotate_left
    · intro w' hSw
      go_simp <;> with_reducible rfl
    try simp only [Act.put, List.setIfInBounds_toArray, List.set_cons_zero, List.set_cons_succ]
    refine wpX_takeg11 (v := ?_) (by kernel_rfl) (fun _ _ _ h => h) (by rfl) ?_ hHeld ?_
    rotate_left
    · intro w' hSw
      go_simp <;> with_reducible rfl
    try simp only [Act.put, List.setIfInBounds_toArray, List.set_cons_zero, List.set_cons_succ]
    refine wpX_takeg12 (v := ?_) (by kernel_rfl) (fun _ _ _ h => h) (by rfl) ?_ hHeld ?_
    rotate_left
    · intro w' hSw
      go_simp <;> with_reducible rfl
    try simp only [Act.put, List.setIfInBounds_toArray, List.set_cons_zero, List.set_cons_succ]
    refine wpX_skip13 (by kernel_rfl) (fun _ _ _ h => h) (by rfl) hHeld ?_
    try simp only [Act.put, List.setIfInBounds_toArray, List.set_cons_zero, List.set_cons_succ]
    refine wpX_skip14 (by kernel_rfl) (fun _ _ _ h => h) (by rfl) hHeld ?_
    try simp only [Act.put, List.setIfInBounds_toArray, List.set_cons_zero, List.set_cons_succ]
    refine wpX_takeg15 (v := ?_) (by kernel_rfl) (fun _ _ _ h => h) (by rfl) ?_ hHeld ?_
    rotate_left
    · intro w' hSw
      go_simp <;> with_reducible rfl
    try simp only [Act.put, List.setIfInBounds_toArray, List.set_cons_zero, List.set_cons_succ]
    refine wpX_takeg16 (v := ?_) (by kernel_rfl) (fun _ _ _ h => h) (by rfl) ?_ hHeld ?_
    rotate_left
    · intro w' hSw
      go_simp <;> with_reducible rfl
    try simp only [Act.put, List.setIfInBounds_toArray, List.set_cons_zero, List.set_cons_succ]
    refine wpX_takeg17 (v := ?_) (by kernel_rfl) (fun _ _ _ h => h) (by rfl) ?_ hHeld ?_
    rotate_left
    · intro w' hSw
      go_simp <;> with_reducible rfl
    try simp only [Act.put, List.setIfInBounds_toArray, List.set_cons_zero, List.set_cons_succ]
    refine wpX_takeg18 (v := ?_) (by kernel_rfl) (fun _ _ _ h => h) (by rfl) ?_ hHeld ?_
    rotate_left
    · intro w' hSw
      go_simp <;> with_reducible rfl
    try simp only [Act.put, List.setIfInBounds_toArray, List.set_cons_zero, List.set_cons_succ]
    refine wpX_step19 (by kernel_rfl) (fun K hK => ?_)
    go_simp
    refine (big_any _).mono ?_
    rintro e w3b ⟨rfl, hb3b⟩
    have hc3b : Below W6.heap.size W6 w3b := ((Below.refl _ _).drew).trans hb3b
    refine hK.out _ _ ⟨(hc3b.cell (by simp; omega)).trans k0, (hc3b.cell (by simp; omega)).trans k1, hc3b⟩ (fun hHeld => ?_)
    clear hK K
    try simp only [Act.put, List.setIfInBounds_toArray, List.set_cons_zero, List.set_cons_succ]
    refine wpX_step20 (by kernel_rfl) (fun K hK => ?_)
    go_simp
    refine (check_is (ringG 1 [1, 0, 0] [] ringI1 1 [0]) 10 10 _ _ _ 17 HR2.out (HV2.out.below hc3b fun _ _ h => h) (HB2.out.below hc3b (RBlk.below hc3b))).mono ?_
    rintro e w4b ⟨rfl, hb4'b⟩
    have hb4b : Below W6.heap.size W6 w4b := hc3b.trans (hb4'b.mono hc3b.size)
    refine hK.out _ _ ⟨(hb4b.cell (by simp; omega)).trans k0, (hb4b.cell (by simp; omega)).trans k1, hb4b⟩ (fun hHeld => ?_)
    clear hK K
    try simp only [Act.put, List.setIfInBounds_toArray, List.set_cons_zero, List.set_cons_succ]
    refine wpX_takeg21 (v := ?_) (by kernel_rfl) (fun _ _ _ h => h) (by rfl) ?_ hHeld ?_
    rotate_left
    · intro w' hSw
      go_simp <;> with_reducible rfl
    try simp only [Act.put, List.setIfInBounds_toArray, List.set_cons_zero, List.set_cons_succ]
    refine wpX_takeg22 (v := ?_) (by kernel_rfl) (fun _ _ _ h => h) (by rfl) ?_ hHeld ?_
    rotate_left
    · intro w' hSw
      go_simp <;> with_reducible rfl
    try simp only [Act.put, List.setIfInBounds_toArray, List.set_cons_zero, List.set_cons_succ]
    refine wpX_last23 (by kernel_rfl) rfl (by kernel_rfl) (fun K hK => ?_)
    go_simp
    refine hK.out _ _ ?_
    clear hK K
    go_wp2
    go_ret
    exact ⟨rfl, hbW6.trans (hb4b.mono (by omega))⟩
  have h7 : a = 0 ∨ a = 1 ∨ a = 2 ∨ a = 5 ∨ a = 6 ∨ a = 7 ∨ a = 8 := by omega
  rcases h7 with rfl | rfl | rfl | rfl | rfl | rfl | rfl
  all_goals
    have hr : r = 17 := Hok.out
    subst hr
    refine wp_region_X (fun w' => w'.cell? ⟨w5.heap.size, 0, none⟩ = some (.slice (some ⟨gv2, 0, none⟩) 3 cv2) ∧ w'.cell? ⟨w5.heap.size, 1, none⟩ = some (.slice (some ⟨w4.heap.size + 1 + 1 + 1 + 1 + 1 + 1 + 1 + 1 + 1 + 1 + 1 + 1 + 1 + 1 + 1 + 1 + 1 + 1, 0, none⟩) 4 4) ∧ Below W6.heap.size W6 w') 23 (by kernel_rfl) ⟨k0, k1, (Below.refl _ _).drew⟩ (fun hHeld => ?_)
    refine wpX_takeg0 (v := ?_) (by kernel_rfl) (fun _ _ _ h => h) (by rfl) ?_ hHeld ?_
    rotate_left
    · intro w' hSw
      go_simp <;> with_reducible rfl
    try simp only [Act.put, List.setIfInBounds_toArray, List.set_cons_zero, List.set_cons_succ]
    refine wpX_takeg1 (v := ?_) (by kernel_rfl) (fun _ _ _ h => h) (by rfl) ?_ hHeld ?_
    rotate_left
    · intro w' hSw
      go_simp <;> with_reducible rfl
    try simp only [Act.put, List.setIfInBounds_toArray, List.set_cons_zero, List.set_cons_succ]
    refine wpX_takeg2 (v := ?_) (by kernel_rfl) (fun _ _ _ h => h) (by rfl) ?_ hHeld ?_
    rotate_left
    · intro w' hSw
      go_simp <;> with_reducible rfl
    try simp only [Act.put, List.setIfInBounds_toArray, List.set_cons_zero, List.set_cons_succ]
    refine wpX_takeg3 (v := ?_) (by kernel_rfl) (fun _ _ _ h => h) (by rfl) ?_ hHeld ?_
    rotate_left
    · intro w' hSw
      go_simp <;> with_reducible rfl
    try simp only [Act.put, List.setIfInBounds_toArray, List.set_cons_zero, List.set_cons_succ]
    refine wpX_takeg4 (v := ?_) (by kernel_rfl) (fun _ _ _ h => h) (by rfl) ?_ hHeld ?_
    rotate_left
    · intro w' hSw
      go_simp <;> with_reducible rfl
    try simp only [Act.put, List.setIfInBounds_toArray, List.set_cons_zero, List.set_cons_succ]
    refine wpX_takeg5 (v := ?_) (by kernel_rfl) (fun _ _ _ h => h) (by rfl) ?_ hHeld ?_
    rotate_left
    · intro w' hSw
      go_simp <;> with_reducible rfl
    try simp only [Act.put, List.setIfInBounds_toArray, List.set_cons_zero, List.set_cons_succ]
    refine wpX_takeg6 (v := ?_) (by kernel_rfl) (fun _ _ _ h => h) (by rfl) ?_ hHeld ?_
    rotate_left
    · intro w' hSw
      go_simp <;> with_reducible rfl
    try simp only [Act.put, List.setIfInBounds_toArray, List.set_cons_zero, List.set_cons_succ]
    refine wpX_takeg7 (v := ?_) (by kernel_rfl) (fun _ _ _ h => h) (by rfl) ?_ hHeld ?_
    rotate_left
    · intro w' hSw
      go_simp <;> with_reducible rfl
    try simp only [Act.put, List.setIfInBounds_toArray, List.set_cons_zero, List.set_cons_succ]
    refine wpX_takeg8 (v := ?_) (by kernel_rfl) (fun _ _ _ h => h) (by rfl) ?_ hHeld ?_
    rotate_left
    · intro w' hSw
      go_simp <;> with_reducible rfl
    try simp only [Act.put, List.setIfInBounds_toArray, List.set_cons_zero, List.set_cons_succ]
    refine wpX_takeg9 (v := ?_) (by kernel_rfl) (fun _ _ _ h => h) (by rfl) ?_ hHeld ?_
    rotate_left
    · intro w' hSw
      go_simp <;> with_reducible rfl
    try simp only [Act.put, List.setIfInBounds_toArray, List.set_cons_zero, List.set_cons_succ]
    refine wpX_takeg10 (v := ?_) (by kernel_rfl) (fun _ _ _ h => h) (by rfl) ?_ hHeld ?_
    rotate_left
    · intro w' hSw
      go_simp <;> with_reducible rfl
    try simp only [Act.put, List.setIfInBounds_toArray, List.set_cons_zero, List.set_cons_succ]
    refine wpX_takeg11 (v := ?_) (by kernel_rfl) (fun _ _ _ h => h) (by rfl) ?_ hHeld ?_
    rotate_left
    · intro w' hSw
      go_simp <;> with_reducible rfl
    try simp only [Act.put, List.setIfInBounds_toArray, List.set_cons_zero, List.set_cons_succ]
    refine wpX_takeg12 (v := ?_) (by kernel_rfl) (fun _ _ _ h => h) (by rfl) ?_ hHeld ?_
    rotate_left
    · intro w' hSw
      go_simp <;> with_reducible rfl
    try simp only [Act.put, List.setIfInBounds_toArray, List.set_cons_zero, List.set_cons_succ]
    refine wpX_takeg13 (v := ?_) (by kernel_rfl) (fun _ _ _ h => h) (by rfl) ?_ hHeld ?_
    rotate_left
    · intro w' hSw
      go_simp <;> with_reducible rfl
    try simp only [Act.put, List.setIfInBounds_toArray, List.set_cons_zero, List.set_cons_succ]
    refine wpX_takeg14 (v := ?_) (by kernel_rfl) (fun _ _ _ h => h) (by rfl) ?_ hHeld ?_
    rotate_left
    · intro w' hSw
      go_simp <;> with_reducible rfl
    try simp only [Act.put, List.setIfInBounds_toArray, List.set_cons_zero, List.set_cons_succ]
    refine wpX_takeg15 (v := ?_) (by kernel_rfl) (fun _ _ _ h => h) (by rfl) ?_ hHeld ?_
    rotate_left
    · intro w' hSw
      go_simp <;> with_reducible rfl
    try simp only [Act.put, List.setIfInBounds_toArray, List.set_cons_zero, List.set_cons_succ]
    refine wpX_takeg16 (v := ?_) (by kernel_rfl) (fun _ _ _ h => h) (by rfl) ?_ hHeld ?_
    rotate_left
    · intro w' hSw
      go_simp <;> with_reducible rfl
    try simp only [Act.put, List.setIfInBounds_toArray, List.set_cons_zero, List.set_cons_succ]
    refine wpX_takeg17 (v := ?_) (by kernel_rfl) (fun _ _ _ h => h) (by rfl) ?_ hHeld ?_
    rotate_left
    · intro w' hSw
      go_simp <;> with_reducible rfl
    try simp only [Act.put, List.setIfInBounds_toArray, List.set_cons_zero, List.set_cons_succ]
    refine wpX_takeg18 (v := ?_) (by kernel_rfl) (fun _ _ _ h => h) (by rfl) ?_ hHeld ?_
    rotate_left
    · intro w' hSw
      go_simp <;> with_reducible rfl
    try simp only [Act.put, List.setIfInBounds_toArray, List.set_cons_zero, List.set_cons_succ]
    refine wpX_step19 (by kernel_rfl) (fun K hK => ?_)
    go_simp
    refine (big_any _).mono ?_
    rintro e w3c ⟨rfl, hb3c⟩
    have hc3c : Below W6.heap.size W6 w3c := ((Below.refl _ _).drew).trans hb3c
    refine hK.out _ _ ⟨(hc3c.cell (by simp; omega)).trans k0, (hc3c.cell (by simp; omega)).trans k1, hc3c⟩ (fun hHeld => ?_)
    clear hK K
    try simp only [Act.put, List.setIfInBounds_toArray, List.set_cons_zero, List.set_cons_succ]
    refine wpX_step20 (by kernel_rfl) (fun K hK => ?_)
    go_simp
    refine (check_is (ringG 1 [1, 0, 0] [] ringI1 1 [0]) 10 10 _ _ _ 17 HR2.out (HV2.out.below hc3c fun _ _ h => h) (HB2.out.below hc3c (RBlk.below hc3c))).mono ?_
    rintro e w4c ⟨rfl, hb4'c⟩
    have hb4c : Below W6.heap.size W6 w4c := hc3c.trans (hb4'c.mono hc3c.size)
    refine hK.out _ _ ⟨(hb4c.cell (by simp; omega)).trans k0, (hb4c.cell (by simp; omega)).trans k1, hb4c⟩ (fun hHeld => ?_)
    clear hK K
    try simp only [Act.put, List.setIfInBounds_toArray, List.set_cons_zero, List.set_cons_succ]
    refine wpX_takeg21 (v := ?_) (by kernel_rfl) (fun _ _ _ h => h) (by rfl) ?_ hHeld ?_
    rotate_left
    · intro w' hSw
      go_simp <;> with_reducible rfl
    try simp only [Act.put, List.setIfInBounds_toArray, List.set_cons_zero, List.set_cons_succ]
    refine wpX_takeg22 (v := ?_) (by kernel_rfl) (fun _ _ _ h => h) (by rfl) ?_ hHeld ?_
    rotate_left
    · intro w' hSw
      go_simp <;> with_reducible rfl
    try simp only [Act.put, List.setIfInBounds_toArray, List.set_cons_zero, List.set_cons_succ]
    refine wpX_last23 (by kernel_rfl) rfl (by kernel_rfl) (fun K hK => ?_)
    go_simp
    refine hK.out _ _ ?_
    clear hK K
    go_wp2
    go_ret
    exact ⟨rfl, hbW6.trans (hb4c.mono (by omega))⟩
end Go.Proofs.Ytnghhhlcifpiaac
