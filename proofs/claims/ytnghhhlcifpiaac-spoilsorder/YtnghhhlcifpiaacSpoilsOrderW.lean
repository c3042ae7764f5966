/-
  The walk through 'SpoilsOrder': it answers true for all numbers, and writes to nothing that was there.
-/
import Derived.Test.YtnghhhlcifpiaacLine2
import Derived.Test.YtnghhhlcifpiaacReg2
import Derived.Deep.RegionHeld3
import Derived.Deep.DeepCutAuto
import Derived.Deep.CutBlock
namespace Go.Proofs.Ytnghhhlcifpiaac
open Go.RowKit
set_option linter.unusedVariables false

def spF (l : List Rg) : Fn := ⟨[0, 0], [⟨[], [⟨0, [⟨2, 0, true, 1, 0⟩], l⟩, ⟨1, [⟨1, 0, false, 1, 0⟩, ⟨2, 1, true, 1, 0⟩], []⟩], []⟩]⟩
set_option maxRecDepth 100000 in
theorem spF_ok : ∀ p : Nat, p < 2 → ∀ q : Nat, q < 10 → ∀ p' : Nat, p' < 2 → ∀ q' : Nat, q' < 10 → shapeErr (spF [⟨p, q⟩, ⟨p', q'⟩]) 10 10 = if p < p' ∨ p = p' ∧ q < q' then 0 else 4 := by
  decide +kernel
theorem spG_ok : shapeErr (spF [⟨2, 0⟩]) 10 10 = 2 := by decide +kernel

theorem sp_sl {M gv cv gi ci o0 o1 : Nat} {wf W : World} (hL : L2 M gv cv gi ci o0 o1 wf) (kp : ∀ x j, x ≠ gi → x < wf.heap.size → W.cell? ⟨x, j, none⟩ = wf.cell? ⟨x, j, none⟩) (kq : ∀ j, j ≠ 2 → W.cell? ⟨gi, j, none⟩ = wf.cell? ⟨gi, j, none⟩) {sv : Value} {l : List Rg} (n2 : W.cell? ⟨gi, 2, none⟩ = some sv) (hs : SlOf W 2 RRg sv l) :
    SlOf W 1 RInt (.slice (some ⟨gv, 0, none⟩) 2 cv) (spF l).values ∧ SlOf W 3 (RBlk W) (.slice (some ⟨M + 1, 0, none⟩) 1 1) (spF l).blocks := by
  have dd := hL.d
  have l0 := hL.l0
  have l1 := hL.l1
  have lv := hL.lv
  have li := hL.li
  have lB := hL.lB
  have kv : ∀ j, W.cell? ⟨gv, j, none⟩ = wf.cell? ⟨gv, j, none⟩ := fun j => kp _ j (by omega) (by omega)
  have k0 : ∀ j, W.cell? ⟨o0, j, none⟩ = wf.cell? ⟨o0, j, none⟩ := fun j => kp _ j (by omega) (by omega)
  have k1 : ∀ j, W.cell? ⟨o1, j, none⟩ = wf.cell? ⟨o1, j, none⟩ := fun j => kp _ j (by omega) (by omega)
  have kB : ∀ j, W.cell? ⟨M + 1, j, none⟩ = wf.cell? ⟨M + 1, j, none⟩ := fun j => kp _ j (by omega) (by omega)
  have hO0 : SlOf W 5 ROpr (.slice (some ⟨o0, 0, none⟩) 1 1) [⟨2, 0, true, 1, 0⟩] := SlOf_one [.int .i64 2, .int .i64 0, .bool true, .int .i64 1, .int .i64 0] rfl rfl (cells5 ((k0 _).trans hL.p0) ((k0 _).trans hL.p1) ((k0 _).trans hL.p2) ((k0 _).trans hL.p3) ((k0 _).trans hL.p4))
  have hO1 : SlOf W 5 ROpr (.slice (some ⟨o1, 0, none⟩) 2 2) [⟨1, 0, false, 1, 0⟩, ⟨2, 1, true, 1, 0⟩] := SlOf_two [.int .i64 1, .int .i64 0, .bool false, .int .i64 1, .int .i64 0] [.int .i64 2, .int .i64 1, .bool true, .int .i64 1, .int .i64 0] rfl rfl rfl rfl (cells5 ((k1 _).trans hL.q0) ((k1 _).trans hL.q1) ((k1 _).trans hL.q2) ((k1 _).trans hL.q3) ((k1 _).trans hL.q4)) (cells5 ((k1 _).trans hL.q5) ((k1 _).trans hL.q6) ((k1 _).trans hL.q7) ((k1 _).trans hL.q8) ((k1 _).trans hL.q9))
  have hI : SlOf W 3 (RIns W) (.slice (some ⟨gi, 0, none⟩) 2 ci) [⟨0, [⟨2, 0, true, 1, 0⟩], l⟩, ⟨1, [⟨1, 0, false, 1, 0⟩, ⟨2, 1, true, 1, 0⟩], []⟩] := SlOf_two [.int .i64 0, .slice (some ⟨o0, 0, none⟩) 1 1, sv] [.int .i64 1, .slice (some ⟨o1, 0, none⟩) 2 2, .slice none 0 0] rfl rfl ⟨_, _, rfl, hO0, hs⟩ ⟨_, _, rfl, hO1, SlOf_nil _ _ _ _ _⟩ (cells3 ((kq 0 (by omega)).trans hL.i0) ((kq 1 (by omega)).trans hL.i1) n2) (cells3 ((kq 3 (by omega)).trans hL.i3) ((kq 4 (by omega)).trans hL.i4) ((kq 5 (by omega)).trans hL.i5))
  exact ⟨SlOf_two [.int .i64 0] [.int .i64 0] rfl rfl rfl rfl (cells1 ((kv _).trans hL.v0)) (cells1 ((kv _).trans hL.v1)), SlOf_one [.slice none 0 0, .slice (some ⟨gi, 0, none⟩) 2 ci, .slice none 0 0] rfl ⟨_, _, _, rfl, SlOf_nil _ _ _ _ _, hI, SlOf_nil _ _ _ _ _⟩ (cells3 ((kB _).trans hL.b0) ((kB _).trans hL.b1) ((kB _).trans hL.b2))⟩

set_option maxRecDepth 4000 in
set_option maxHeartbeats 8000000 in
theorem spoilsOrder_walk (a b c d : Int) (w : World) (u0 : -9223372036854775808 ≤ a) (u0' : a ≤ 9223372036854775807) (u1 : -9223372036854775808 ≤ b) (u1' : b ≤ 9223372036854775807) (u2 : -9223372036854775808 ≤ c) (u2' : c ≤ 9223372036854775807) (u3 : -9223372036854775808 ≤ d) (u3' : d ≤ 9223372036854775807) :
    Calls Try.prog 6 #[.int .i64 a, .int .i64 b, .int .i64 c, .int .i64 d] w fun e w' => e = .returned (.bool true) ∧ Below w.heap.size w w' := by
  obtain ⟨p0, p0'⟩ := pickedOf_bd a 2 (by omega)
  obtain ⟨p1, p1'⟩ := pickedOf_bd b 10 (by omega)
  obtain ⟨p2, p2'⟩ := pickedOf_bd c 2 (by omega)
  obtain ⟨p3, p3'⟩ := pickedOf_bd d 10 (by omega)
  go_enter Try.func6, Try.ntmps6
  go_wp2_with fail
  refine (big_any _).mono ?_
  rintro e w1 ⟨rfl, hb1⟩
  have z1 := hb1.size
  go_upto_region 2 with fail
  obtain ⟨wm, hwm⟩ : ∃ wm, wm = w1.alloc (.cells #[.int .i64 10, .int .i64 10] 32) := ⟨_, rfl⟩
  have m0 : wm.cell? ⟨w1.heap.size, 0, none⟩ = some (.int .i64 10) := by rw [hwm]; go_simp
  have m1 : wm.cell? ⟨w1.heap.size, 1, none⟩ = some (.int .i64 10) := by rw [hwm]; go_simp
  have zm : w1.heap.size < wm.heap.size := by rw [hwm]; simp
  have hbm : Below w1.heap.size w1 wm := by rw [hwm]; exact (Below.refl _ _).alloc (Nat.le_refl _) _
  rw [← hwm]
  clear hwm
  have nm := World.new_ne wm _ m0
  go_cut [10] (fun v wz => v = .pointer (some ⟨wm.heap.size, 0, none⟩) ∧ wz.cell? ⟨wm.heap.size, 0, none⟩ = some (.int .i64 (pickedOf a 2)) ∧ wz.cell? ⟨wm.heap.size, 1, none⟩ = some (.int .i64 (pickedOf b 10)) ∧ wz.heap.size = wm.heap.size + 1 ∧ Below wm.heap.size wm wz)
  case first =>
    go_region_held3 (fun w' => w'.cell? ⟨w1.heap.size, 0, none⟩ = some (.int .i64 10)) (go_keep) ((go_at_call 9; refine (picked_any _ _ _ (by omega) (by omega) (by omega) (by omega)).mono ?_; rintro e w' ⟨rfl, rfl⟩))
    all_goals go_wp2
    all_goals go_meet
    all_goals exact ⟨rfl, by go_simp, by go_simp, by simp, ((Below.refl _ _).alloc (Nat.le_refl _) _).drew⟩
  case rest =>
    obtain ⟨rfl, x0, x1, zx, hbx⟩ := hcut
    obtain ⟨wx, hwx⟩ : ∃ wx, wx = wc := ⟨_, rfl⟩
    subst hwx
    have n0 : wx.cell? ⟨w1.heap.size, 0, none⟩ = some (.int .i64 10) := (hbx.cell zm).trans m0
    have n1 : wx.cell? ⟨w1.heap.size, 1, none⟩ = some (.int .i64 10) := (hbx.cell zm).trans m1
    have zx' : wm.heap.size < wx.heap.size := by omega
    have zm2 : w1.heap.size < wx.heap.size := by omega
    have nm2 := World.new_ne wx _ n0
    clear zx m0 m1 nm
    go_upto_region 3 with fail
    go_cut [11] (fun v wz => v = .pointer (some ⟨wx.heap.size, 0, none⟩) ∧ wz.cell? ⟨wx.heap.size, 0, none⟩ = some (.int .i64 (pickedOf c 2)) ∧ wz.cell? ⟨wx.heap.size, 1, none⟩ = some (.int .i64 (pickedOf d 10)) ∧ wz.heap.size = wx.heap.size + 1 ∧ Below wx.heap.size wx wz)
    case first =>
      go_region_held3 (fun w' => w'.cell? ⟨w1.heap.size, 0, none⟩ = some (.int .i64 10)) (go_keep) ((go_at_call 9; refine (picked_any _ _ _ (by omega) (by omega) (by omega) (by omega)).mono ?_; rintro e w' ⟨rfl, rfl⟩))
      all_goals go_wp2
      all_goals go_meet
      all_goals exact ⟨rfl, by go_simp, by go_simp, by simp, ((Below.refl _ _).alloc (Nat.le_refl _) _).drew⟩
    case rest =>
      obtain ⟨rfl, y0, y1, zy, hby⟩ := hcut
      obtain ⟨wy, hwy⟩ : ∃ wy, wy = wc := ⟨_, rfl⟩
      subst hwy
      have m0 : wy.cell? ⟨w1.heap.size, 0, none⟩ = some (.int .i64 10) := (hby.cell zm2).trans n0
      have m1 : wy.cell? ⟨w1.heap.size, 1, none⟩ = some (.int .i64 10) := (hby.cell zm2).trans n1
      have X0 := (hby.cell (p := ⟨wm.heap.size, 0, none⟩) zx').trans x0
      have X1 := (hby.cell (p := ⟨wm.heap.size, 1, none⟩) zx').trans x1
      have zy' : wx.heap.size < wy.heap.size := by omega
      clear zy x0 x1 n0 n1 nm2
      have hbY : Below w.heap.size w wy := hb1.trans ((hbm.trans ((hbx.mono (by omega)).trans (hby.mono (by omega)))).mono z1)
      generalize pickedOf a 2 = P at *
      generalize pickedOf b 10 = Q at *
      generalize pickedOf c 2 = P' at *
      generalize pickedOf d 10 = Q' at *
      obtain ⟨p, rfl⟩ : ∃ p : Nat, P = p := ⟨P.toNat, by omega⟩
      obtain ⟨q, rfl⟩ : ∃ q : Nat, Q = q := ⟨Q.toNat, by omega⟩
      obtain ⟨p', rfl⟩ : ∃ p' : Nat, P' = p' := ⟨P'.toNat, by omega⟩
      obtain ⟨q', rfl⟩ : ∃ q' : Nat, Q' = q' := ⟨Q'.toNat, by omega⟩
      go_wp2_with fail
      refine (line2_any _).mono ?_
      rintro e w5 ⟨gv, cv, gi, ci, o0, o1, rfl, hL1, hb5⟩
      have z5 := hb5.size
      go_upto_region 5 with fail
      obtain ⟨wf, hwf⟩ : ∃ wf, wf = w5.alloc (.cells #[.slice (some ⟨gv, 0, none⟩) 2 cv, .slice (some ⟨wy.heap.size + 1, 0, none⟩) 1 1] 25) := ⟨_, rfl⟩
      have f0 : wf.cell? ⟨w5.heap.size, 0, none⟩ = some (.slice (some ⟨gv, 0, none⟩) 2 cv) := by rw [hwf]; go_simp
      have f1 : wf.cell? ⟨w5.heap.size, 1, none⟩ = some (.slice (some ⟨wy.heap.size + 1, 0, none⟩) 1 1) := by rw [hwf]; go_simp
      have hbf : Below w5.heap.size w5 wf := by rw [hwf]; exact (Below.refl _ _).alloc (Nat.le_refl _) _
      have zf : w5.heap.size < wf.heap.size := by rw [hwf]; simp
      have hL := hL1.below hbf
      have dl := hL1.li
      have dd := hL.d
      have hyf : Below wy.heap.size wy wf := hb5.trans (hbf.mono z5)
      have M0 := (hyf.cell (p := ⟨w1.heap.size, 0, none⟩) (by simp; omega)).trans m0
      have M1 := (hyf.cell (p := ⟨w1.heap.size, 1, none⟩) (by simp; omega)).trans m1
      have A0 := (hyf.cell (p := ⟨wm.heap.size, 0, none⟩) (by simp; omega)).trans X0
      have A1 := (hyf.cell (p := ⟨wm.heap.size, 1, none⟩) (by simp; omega)).trans X1
      have B0 := (hyf.cell (p := ⟨wx.heap.size, 0, none⟩) (by simp; omega)).trans y0
      have B1 := (hyf.cell (p := ⟨wx.heap.size, 1, none⟩) (by simp; omega)).trans y1
      have g1 := hL.b1
      have s2 := hL.zi 2
      have i2 := hL.i2
      rw [← hwf]
      clear hwf m0 m1 X0 X1 y0 y1
      have hbA : Below wf.heap.size wf (wf.alloc (.cells #[.int .i64 p, .int .i64 q, .int .i64 p', .int .i64 q'] 49)).drew := ((Below.refl _ _).alloc (Nat.le_refl _) _).drew
      have HS5 : Hid ((fun w' => w'.cell? ⟨w5.heap.size, 1, none⟩ = some (.slice (some ⟨wy.heap.size + 1, 0, none⟩) 1 1) ∧ w'.cell? ⟨wy.heap.size + 1, 1, none⟩ = some (.slice (some ⟨gi, 0, none⟩) 2 ci) ∧ w'.cell? ⟨wm.heap.size, 0, none⟩ = some (.int .i64 p) ∧ w'.cell? ⟨wm.heap.size, 1, none⟩ = some (.int .i64 q) ∧ w'.cell? ⟨wx.heap.size, 0, none⟩ = some (.int .i64 p') ∧ w'.cell? ⟨wx.heap.size, 1, none⟩ = some (.int .i64 q')) (wf.alloc (.cells #[.int .i64 p, .int .i64 q, .int .i64 p', .int .i64 q'] 49)).drew) := ⟨(hbA.cell (by simp; omega)).trans f1, (hbA.cell (by simp; omega)).trans g1, (hbA.cell (by simp; omega)).trans A0, (hbA.cell (by simp; omega)).trans A1, (hbA.cell (by simp; omega)).trans B0, (hbA.cell (by simp; omega)).trans B1⟩
      have LI := old_cell gi
      have lgi : gi < wf.heap.size := by omega
      refine wp_region_X (fun w' => w'.cell? ⟨w5.heap.size, 1, none⟩ = some (.slice (some ⟨wy.heap.size + 1, 0, none⟩) 1 1) ∧ w'.cell? ⟨wy.heap.size + 1, 1, none⟩ = some (.slice (some ⟨gi, 0, none⟩) 2 ci) ∧ w'.cell? ⟨wm.heap.size, 0, none⟩ = some (.int .i64 p) ∧ w'.cell? ⟨wm.heap.size, 1, none⟩ = some (.int .i64 q) ∧ w'.cell? ⟨wx.heap.size, 0, none⟩ = some (.int .i64 p') ∧ w'.cell? ⟨wx.heap.size, 1, none⟩ = some (.int .i64 q')) 10 (by kernel_rfl) ⟨f1, g1, A0, A1, B0, B1⟩ (fun hHeld => ?_)
      refine wpX_takeg0 (v := ?_) (by kernel_rfl) (fun _ _ _ h => h) (by rfl) ?_ hHeld ?_
      rotate_left
      · intro w' hSw
        go_simp <;> with_reducible rfl
      try simp only [Act.put, List.setIfInBounds_toArray, List.set_cons_zero, List.set_cons_succ]
      refine wpX_takeg1 (v := ?_) (by kernel_rfl) (fun _ _ _ h => h) (by rfl) ?_ hHeld ?_
      rotate_left
      · intro w' hSw
        go_simp <;> with_reducible rfl
      try simp only [Act.put, List.setIfInBounds_toArray, List.set_cons_zero, List.set_cons_succ]
      refine wpX_takeg2 (v := ?_) (by kernel_rfl) (fun _ _ _ h => h) (by rfl) ?_ hHeld ?_
      rotate_left
      · intro w' hSw
        go_simp <;> with_reducible rfl
      try simp only [Act.put, List.setIfInBounds_toArray, List.set_cons_zero, List.set_cons_succ]
      refine wpX_takeg3 (v := ?_) (by kernel_rfl) (fun _ _ _ h => h) (by rfl) ?_ hHeld ?_
      rotate_left
      · intro w' hSw
        go_simp <;> with_reducible rfl
      try simp only [Act.put, List.setIfInBounds_toArray, List.set_cons_zero, List.set_cons_succ]
      refine wpX_takeg4 (v := ?_) (by kernel_rfl) (fun _ _ _ h => h) (by rfl) ?_ hHeld ?_
      rotate_left
      · intro w' hSw
        go_simp <;> with_reducible rfl
      try simp only [Act.put, List.setIfInBounds_toArray, List.set_cons_zero, List.set_cons_succ]
      refine wpX_takeg5 (v := ?_) (by kernel_rfl) (fun _ _ _ h => h) (by rfl) ?_ hHeld ?_
      rotate_left
      · intro w' hSw
        go_simp <;> with_reducible rfl
      try simp only [Act.put, List.setIfInBounds_toArray, List.set_cons_zero, List.set_cons_succ]
      refine wpX_takeg6 (v := ?_) (by kernel_rfl) (fun _ _ _ h => h) (by rfl) ?_ hHeld ?_
      rotate_left
      · intro w' hSw
        go_simp <;> with_reducible rfl
      try simp only [Act.put, List.setIfInBounds_toArray, List.set_cons_zero, List.set_cons_succ]
      refine wpX_step7 (by kernel_rfl) (fun K hK => ?_)
      go_simp
      refine hK.out _ _ HS5.out (fun hHeld => ?_)
      clear hK K
      try simp only [Act.put, List.setIfInBounds_toArray, List.set_cons_zero, List.set_cons_succ]
      refine wpX_step8 (by kernel_rfl) (fun K hK => ?_)
      go_simp
      refine hK.out _ _ HS5.out (fun hHeld => ?_)
      clear hK K
      try simp only [Act.put, List.setIfInBounds_toArray, List.set_cons_zero, List.set_cons_succ]
      refine wpX_takeg9 (v := ?_) (by kernel_rfl) (fun _ _ _ h => h) (by rfl) ?_ hHeld ?_
      rotate_left
      · intro w' hSw
        go_simp <;> with_reducible rfl
      try simp only [Act.put, List.setIfInBounds_toArray, List.set_cons_zero, List.set_cons_succ]
      refine wpX_last10 (by kernel_rfl) rfl (by kernel_rfl) (fun K hK => ?_)
      go_simp
      refine hK.out _ _ ?_
      clear hK K
      obtain ⟨W, hW⟩ : ∃ W, W = ((wf.setCell ⟨gi, 2, none⟩ (.slice (some ⟨wf.heap.size, 0, none⟩) 2 2)).alloc (.cells #[.int .i64 p, .int .i64 q, .int .i64 p', .int .i64 q'] 49)).drew := ⟨_, rfl⟩
      have kp : ∀ x j, x ≠ gi → x < wf.heap.size → W.cell? ⟨x, j, none⟩ = wf.cell? ⟨x, j, none⟩ := fun x j hx hl => by
        rw [hW]
        refine World.cell?_of_block ?_
        show ((wf.setCell ⟨gi, 2, none⟩ (.slice (some ⟨wf.heap.size, 0, none⟩) 2 2)).alloc (.cells #[.int .i64 p, .int .i64 q, .int .i64 p', .int .i64 q'] 49)).heap[x]? = _
        rw [Below.heap_alloc _ _ _ (by simpa using hl), Below.heap_setCell _ _ _ _ (by simpa using hx)]
      have kq : ∀ j, j ≠ 2 → W.cell? ⟨gi, j, none⟩ = wf.cell? ⟨gi, j, none⟩ := fun j hj => by
        rw [hW]
        show ((wf.setCell ⟨gi, 2, none⟩ (.slice (some ⟨wf.heap.size, 0, none⟩) 2 2)).alloc (.cells #[.int .i64 p, .int .i64 q, .int .i64 p', .int .i64 q'] 49)).cell? ⟨gi, j, none⟩ = _
        rw [LI _ _ _ (by simpa using lgi), World.cell?_setCell_other _ _ _ _ (by simp <;> omega)]
      have n2 : W.cell? ⟨gi, 2, none⟩ = some (.slice (some ⟨wf.heap.size, 0, none⟩) 2 2) := by
        rw [hW]
        show ((wf.setCell ⟨gi, 2, none⟩ (.slice (some ⟨wf.heap.size, 0, none⟩) 2 2)).alloc (.cells #[.int .i64 p, .int .i64 q, .int .i64 p', .int .i64 q'] 49)).cell? ⟨gi, 2, none⟩ = _
        rw [LI _ _ _ (by simpa using lgi)]
        go_simp
      have z2 : W.frozen? ⟨gi, 2, none⟩ = false := by
        rw [hW]
        show ((wf.setCell ⟨gi, 2, none⟩ (.slice (some ⟨wf.heap.size, 0, none⟩) 2 2)).alloc (.cells #[.int .i64 p, .int .i64 q, .int .i64 p', .int .i64 q'] 49)).frozen? ⟨gi, 2, none⟩ = _
        rw [frozen?_alloc_cells, World.frozen?_setCell]
        exact s2
      have rg0 : W.cell? ⟨wf.heap.size, 0, none⟩ = some (.int .i64 p) := by rw [hW]; go_simp
      have rg1 : W.cell? ⟨wf.heap.size, 1, none⟩ = some (.int .i64 q) := by rw [hW]; go_simp
      have rg2 : W.cell? ⟨wf.heap.size, 2, none⟩ = some (.int .i64 p') := by rw [hW]; go_simp
      have rg3 : W.cell? ⟨wf.heap.size, 3, none⟩ = some (.int .i64 q') := by rw [hW]; go_simp
      have hsp : SlOf W 2 RRg (.slice (some ⟨wf.heap.size, 0, none⟩) 2 2) [⟨p, q⟩, ⟨p', q'⟩] := SlOf_two [.int .i64 p, .int .i64 q] [.int .i64 p', .int .i64 q'] rfl rfl rfl rfl (cells2 rg0 rg1) (cells2 rg2 rg3)
      obtain ⟨sv, sb⟩ := sp_sl hL kp kq n2 hsp
      have zW : wf.heap.size < W.heap.size := by rw [hW]; simp [World.drew]
      have hbW : Below w.heap.size w W := by rw [hW]; exact (((hbY.trans (hyf.mono hbY.size)).setCell (by simp; omega) _).alloc (by simp; omega) _).drew
      rw [← hW]
      clear hW rg0 rg1 rg2 rg3 hsp HS5 hbA
      have f0' := (kp _ 0 (by omega) (by omega)).trans f0
      have f1' := (kp _ 1 (by omega) (by omega)).trans f1
      have M0' := (kp _ 0 (by omega) (by omega)).trans M0
      have M1' := (kp _ 1 (by omega) (by omega)).trans M1
      obtain ⟨r, hr⟩ : ∃ r, (if p < p' ∨ p = p' ∧ q < q' then 0 else 4 : Int) = r := ⟨_, rfl⟩
      have HR : Hid (shapeErr (spF [⟨p, q⟩, ⟨p', q'⟩]) 10 10 = r) := (spF_ok p (by omega) q (by omega) p' (by omega) q' (by omega)).trans hr
      have HV : Hid (SlOf W 1 RInt (.slice (some ⟨gv, 0, none⟩) 2 cv) (spF [⟨p, q⟩, ⟨p', q'⟩]).values) := sv
      have HB : Hid (SlOf W 3 (RBlk W) (.slice (some ⟨wy.heap.size + 1, 0, none⟩) 1 1) (spF [⟨p, q⟩, ⟨p', q'⟩]).blocks) := sb
      have HRR : Hid ((if p < p' ∨ p = p' ∧ q < q' then 0 else 4 : Int) = r) := hr
      clear hr sv sb
      go_wp2_with fail
      refine (check_is (spF [⟨p, q⟩, ⟨p', q'⟩]) 10 10 _ _ _ r HR.out HV.out HB.out).mono ?_
      rintro e W6 ⟨rfl, hb6⟩
      have z6 := hb6.size
      have F0 := (hb6.cell (p := ⟨w5.heap.size, 0, none⟩) (by simp; omega)).trans f0'
      have F1 := (hb6.cell (p := ⟨w5.heap.size, 1, none⟩) (by simp; omega)).trans f1'
      have N0 := (hb6.cell (p := ⟨w1.heap.size, 0, none⟩) (by simp; omega)).trans M0'
      have N1 := (hb6.cell (p := ⟨w1.heap.size, 1, none⟩) (by simp; omega)).trans M1'
      have G1 := (hb6.cell (p := ⟨wy.heap.size + 1, 1, none⟩) (by simp; omega)).trans ((kp _ 1 (by omega) (by omega)).trans g1)
      have I2 := (hb6.cell (p := ⟨gi, 2, none⟩) (by simp; omega)).trans n2
      have Z2 := (hb6.frozen (p := ⟨gi, 2, none⟩) (by simp; omega)).trans z2
      have X0 := (hb6.cell (p := ⟨wm.heap.size, 0, none⟩) (by simp; omega)).trans ((kp _ 0 (by omega) (by omega)).trans A0)
      have X1 := (hb6.cell (p := ⟨wm.heap.size, 1, none⟩) (by simp; omega)).trans ((kp _ 1 (by omega) (by omega)).trans A1)
      have Y0 := (hb6.cell (p := ⟨wx.heap.size, 0, none⟩) (by simp; omega)).trans ((kp _ 0 (by omega) (by omega)).trans B0)
      have Y1 := (hb6.cell (p := ⟨wx.heap.size, 1, none⟩) (by simp; omega)).trans ((kp _ 1 (by omega) (by omega)).trans B1)
      have l6a : w5.heap.size < W6.heap.size := by omega
      have l6b : w1.heap.size < W6.heap.size := by omega
      have l6c : wy.heap.size + 1 < W6.heap.size := by omega
      have l6d : gi < W6.heap.size := by omega
      have LA := old_cell w5.heap.size
      have LB := old_cell w1.heap.size
      have LC := old_cell (wy.heap.size + 1)
      have nA : ¬ gi = w5.heap.size := by omega
      have nB : ¬ gi = w1.heap.size := by omega
      have nC : ¬ gi = wy.heap.size + 1 := by omega
      have nA' : ¬ w5.heap.size = gi := by omega
      have nB' : ¬ w1.heap.size = gi := by omega
      have nC' : ¬ wy.heap.size + 1 = gi := by omega
      clear f0 f1 f0' f1' M0 M1 M0' M1' A0 A1 B0 B1 g1 i2 s2 n2 z2 HV HB HR
      go_wp2_with fail
      obtain ⟨V, hV⟩ : ∃ V, V = (W6.setCell ⟨gi, 2, none⟩ (.slice (some ⟨W6.heap.size, 0, none⟩) 1 1)).alloc (.cells #[.int .i64 2, .int .i64 0] 49) := ⟨_, rfl⟩
      have kp2 : ∀ x j, x ≠ gi → x < W6.heap.size → V.cell? ⟨x, j, none⟩ = W6.cell? ⟨x, j, none⟩ := fun x j hx hl => by
        rw [hV]
        refine World.cell?_of_block ?_
        rw [Below.heap_alloc _ _ _ (by simpa using hl), Below.heap_setCell _ _ _ _ (by simpa using hx)]
      have kq2 : ∀ j, j ≠ 2 → V.cell? ⟨gi, j, none⟩ = W6.cell? ⟨gi, j, none⟩ := fun j hj => by
        rw [hV, LI _ _ _ (by simpa using l6d), World.cell?_setCell_other _ _ _ _ (by simp <;> omega)]
      have n2 : V.cell? ⟨gi, 2, none⟩ = some (.slice (some ⟨W6.heap.size, 0, none⟩) 1 1) := by
        rw [hV, LI _ _ _ (by simpa using l6d)]
        go_simp
      have rg0 : V.cell? ⟨W6.heap.size, 0, none⟩ = some (.int .i64 2) := by rw [hV]; go_simp
      have rg1 : V.cell? ⟨W6.heap.size, 1, none⟩ = some (.int .i64 0) := by rw [hV]; go_simp
      have hsp : SlOf V 2 RRg (.slice (some ⟨W6.heap.size, 0, none⟩) 1 1) [⟨2, 0⟩] := SlOf_one [.int .i64 2, .int .i64 0] rfl rfl (cells2 rg0 rg1)
      obtain ⟨sv, sb⟩ := sp_sl hL (W := V) (fun x j hx hl => (kp2 x j hx (by omega)).trans ((hb6.cell (p := ⟨x, j, none⟩) (by simp; omega)).trans (kp x j hx hl))) (fun j hj => (kq2 j hj).trans ((hb6.cell (p := ⟨gi, j, none⟩) (by simp; omega)).trans (kq j hj))) n2 hsp
      have hb7 : Below w.heap.size w V := by rw [hV]; exact (((hbW.trans (hb6.mono hbW.size)).setCell (by simp; omega) _).alloc (by simp; omega) _)
      have zV : W6.heap.size < V.heap.size := by rw [hV]; simp
      rw [← hV]
      refine (check_is (spF [⟨2, 0⟩]) 10 10 _ _ _ 2 spG_ok sv sb).mono ?_
      rintro e W8 ⟨rfl, hb8⟩
      have x0 := (hb8.cell (p := ⟨wm.heap.size, 0, none⟩) (by simp; omega)).trans ((kp2 _ 0 (by omega) (by omega)).trans X0)
      have x1 := (hb8.cell (p := ⟨wm.heap.size, 1, none⟩) (by simp; omega)).trans ((kp2 _ 1 (by omega) (by omega)).trans X1)
      have y0 := (hb8.cell (p := ⟨wx.heap.size, 0, none⟩) (by simp; omega)).trans ((kp2 _ 0 (by omega) (by omega)).trans Y0)
      have y1 := (hb8.cell (p := ⟨wx.heap.size, 1, none⟩) (by simp; omega)).trans ((kp2 _ 1 (by omega) (by omega)).trans Y1)
      have hbe : Below w.heap.size w W8 := hb7.trans (hb8.mono hb7.size)
      clear hV kp2 kq2 n2 rg0 rg1 hsp sv sb F0 F1 N0 N1 G1 I2 Z2 X0 X1 Y0 Y1 LA LB LC LI nA nB nC nA' nB' nC' kp kq
      have hr := HRR.out
      clear HRR
      by_cases h1 : p < p'
      · have h3 : r = 0 := by simpa [h1] using hr.symm
        subst h3
        clear hr
        have g1 : (p : Int) < (p' : Int) := by omega
        clear h1
        go_wp2
        go_ret
        refine ⟨?_, hbe⟩
        first | rfl | (simp; omega)
      by_cases h2 : p = p'
      · subst h2
        have g1 : ¬ (p : Int) < (p : Int) := by omega
        by_cases h4 : q < q'
        · have h3 : r = 0 := by simpa [h4] using hr.symm
          subst h3
          clear hr h1
          have g4 : (q : Int) < (q' : Int) := by omega
          clear h4
          go_wp2
          go_ret
          refine ⟨?_, hbe⟩
          first | rfl | (simp; omega)
        · have h3 : r = 4 := by simpa [h4] using hr.symm
          subst h3
          clear hr h1
          have g4 : ¬ (q : Int) < (q' : Int) := by omega
          clear h4
          go_wp2
          go_ret
          refine ⟨?_, hbe⟩
          first | rfl | (simp; omega)
      · have h3 : r = 4 := by simpa [h1, h2] using hr.symm
        subst h3
        clear hr
        have g1 : ¬ (p : Int) < (p' : Int) := by omega
        have g2 : ((p : Int) == (p' : Int)) = false := by simp; omega
        clear h1 h2
        go_wp2
        go_ret
        refine ⟨?_, hbe⟩
        first | rfl | (simp; omega)
end Go.Proofs.Ytnghhhlcifpiaac
