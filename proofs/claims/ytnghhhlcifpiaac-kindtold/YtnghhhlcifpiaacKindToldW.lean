/-
  The walk through 'KindTold': it answers true for all numbers, and writes to nothing that was there.
-/
import Derived.Test.YtnghhhlcifpiaacLine2
namespace Go.Proofs.Ytnghhhlcifpiaac
open Go.RowKit
set_option linter.unusedVariables false

def kindF (k l : Int) : Fn := ⟨[0, 0], [⟨[], [⟨0, [⟨2, 0, true, 1, 0⟩], []⟩, ⟨1, [⟨k, 0, false, l, 0⟩, ⟨2, 1, true, 1, 0⟩], []⟩], []⟩]⟩
def kindBad (a b : Nat) : Bool := decide ((a : Int) - 1 < 1) || decide (2 < (a : Int) - 1) || decide ((b : Int) - 1 < 1) || decide (5 < (b : Int) - 1)
theorem kindF_ok : ∀ a : Nat, a < 6 → ∀ b : Nat, b < 9 → decide (shapeErr (kindF ((a : Int) - 1) ((b : Int) - 1)) 10 10 = 3) = kindBad a b := by
  decide +kernel

set_option maxHeartbeats 4000000 in
theorem kindTold_walk (kd lm : Int) (w : World) (u0 : -9223372036854775808 ≤ kd) (u0' : kd ≤ 9223372036854775807) (u1 : -9223372036854775808 ≤ lm) (u1' : lm ≤ 9223372036854775807) :
    Calls Try.prog 4 #[.int .i64 kd, .int .i64 lm] w fun e w' => e = .returned (.bool true) ∧ Below w.heap.size w w' := by
  obtain ⟨q0, q0'⟩ := pickedOf_bd kd 6 (by omega)
  obtain ⟨r0, r0'⟩ := pickedOf_bd lm 9 (by omega)
  go_enter Try.func4, Try.ntmps4
  go_wp2_with fail
  refine (line2_any _).mono ?_
  rintro e w1 ⟨gv, cv, gi, ci, o0, o1, rfl, hL1, hb1⟩
  have z1 := hb1.size
  go_wp2_with fail
  obtain ⟨wf, hwf⟩ : ∃ wf, wf = w1.alloc (.cells #[.slice (some ⟨gv, 0, none⟩) 2 cv, .slice (some ⟨w.heap.size + 1, 0, none⟩) 1 1] 25) := ⟨_, rfl⟩
  have f0 : wf.cell? ⟨w1.heap.size, 0, none⟩ = some (.slice (some ⟨gv, 0, none⟩) 2 cv) := by rw [hwf]; go_simp
  have f1 : wf.cell? ⟨w1.heap.size, 1, none⟩ = some (.slice (some ⟨w.heap.size + 1, 0, none⟩) 1 1) := by rw [hwf]; go_simp
  have hbf : Below w1.heap.size w1 wf := by rw [hwf]; exact (Below.refl _ _).alloc (Nat.le_refl _) _
  have zf : wf.heap.size = w1.heap.size + 1 := by rw [hwf]; simp
  have hL := hL1.below hbf
  have nF1 : w1.heap.size ≠ o1 := by have := hL1.l1; omega
  have nFB : w1.heap.size ≠ gi := by have := hL1.li; omega
  rw [← hwf]
  clear hwf
  refine (picked_any _ _ _ u0 u0' (by omega) (by omega)).mono ?_
  rintro e wg0 ⟨rfl, rfl⟩
  generalize pickedOf kd 6 = kk at *
  obtain ⟨a, rfl⟩ : ∃ a : Nat, kk = a := ⟨kk.toNat, by omega⟩
  go_wp2_with fail
  refine (picked_any _ _ _ u1 u1' (by omega) (by omega)).mono ?_
  rintro e wg ⟨rfl, rfl⟩
  generalize pickedOf lm 9 = ll at *
  obtain ⟨b, rfl⟩ : ∃ b : Nat, ll = b := ⟨ll.toNat, by omega⟩
  have Hok : Hid (decide (shapeErr (kindF ((a : Int) - 1) ((b : Int) - 1)) 10 10 = 3) = kindBad a b) := kindF_ok a (by omega) b (by omega)
  have b1 := hL.b1
  have i4 := hL.i4
  have c0 := hL.q0
  have c3 := hL.q3
  have s0 := hL.z1 0
  have s3 := hL.z1 3
  have dd := hL.d
  have e1 : ¬ o1 = gi := fun e => dd.2.2.2.2.1 e.symm
  have e2 : ¬ o1 = w.heap.size + 1 := by have := hL.l1; omega
  have e3 : ¬ o1 = w1.heap.size := fun e => nF1 e.symm
  clear dd
  go_upto_region 6 with fail
  obtain ⟨W2, hW2⟩ : ∃ W2, W2 = (wg.setCell ⟨o1, 0, none⟩ (.int .i64 ((a : Int) - 1))).setCell ⟨o1, 3, none⟩ (.int .i64 ((b : Int) - 1)) := ⟨_, rfl⟩
  have z2 : W2.heap.size = w1.heap.size + 1 := by rw [hW2]; simp [zf]
  have kp : ∀ x j, x ≠ o1 → W2.cell? ⟨x, j, none⟩ = wg.cell? ⟨x, j, none⟩ := fun x j hx => by
    refine World.cell?_of_block ?_
    rw [hW2, Below.heap_setCell _ _ _ _ (by simpa using hx), Below.heap_setCell _ _ _ _ (by simpa using hx)]
  have kq : ∀ j, j ≠ 0 → j ≠ 3 → W2.cell? ⟨o1, j, none⟩ = wg.cell? ⟨o1, j, none⟩ := fun j h0 h3 => by
    rw [hW2, World.cell?_setCell_other _ _ _ _ (by simp <;> omega), World.cell?_setCell_other _ _ _ _ (by simp <;> omega)]
  have n0 : W2.cell? ⟨o1, 0, none⟩ = some (.int .i64 ((a : Int) - 1)) := by rw [hW2]; go_simp
  have n3 : W2.cell? ⟨o1, 3, none⟩ = some (.int .i64 ((b : Int) - 1)) := by rw [hW2]; go_simp
  have dl := hL.l1
  have hbW : Below w.heap.size w W2 := by
    rw [hW2]
    exact ((hb1.trans (hbf.mono z1)).setCell (by simp; omega) _).setCell (by simp; omega) _
  have dd := hL.d
  have hv : SlOf W2 1 RInt (.slice (some ⟨gv, 0, none⟩) 2 cv) (kindF ((a : Int) - 1) ((b : Int) - 1)).values := SlOf_two [.int .i64 0] [.int .i64 0] rfl rfl rfl rfl (cells1 ((kp _ _ dd.2.2.1).trans hL.v0)) (cells1 ((kp _ _ dd.2.2.1).trans hL.v1))
  have hO0 : SlOf W2 5 ROpr (.slice (some ⟨o0, 0, none⟩) 1 1) [⟨2, 0, true, 1, 0⟩] := SlOf_one [.int .i64 2, .int .i64 0, .bool true, .int .i64 1, .int .i64 0] rfl rfl (cells5 ((kp _ _ dd.2.2.2.2.2).trans hL.p0) ((kp _ _ dd.2.2.2.2.2).trans hL.p1) ((kp _ _ dd.2.2.2.2.2).trans hL.p2) ((kp _ _ dd.2.2.2.2.2).trans hL.p3) ((kp _ _ dd.2.2.2.2.2).trans hL.p4))
  have hO1 : SlOf W2 5 ROpr (.slice (some ⟨o1, 0, none⟩) 2 2) [⟨(a : Int) - 1, 0, false, (b : Int) - 1, 0⟩, ⟨2, 1, true, 1, 0⟩] := SlOf_two [.int .i64 ((a : Int) - 1), .int .i64 0, .bool false, .int .i64 ((b : Int) - 1), .int .i64 0] [.int .i64 2, .int .i64 1, .bool true, .int .i64 1, .int .i64 0] rfl rfl rfl rfl (cells5 n0 ((kq 1 (by omega) (by omega)).trans hL.q1) ((kq 2 (by omega) (by omega)).trans hL.q2) n3 ((kq 4 (by omega) (by omega)).trans hL.q4)) (cells5 ((kq 5 (by omega) (by omega)).trans hL.q5) ((kq 6 (by omega) (by omega)).trans hL.q6) ((kq 7 (by omega) (by omega)).trans hL.q7) ((kq 8 (by omega) (by omega)).trans hL.q8) ((kq 9 (by omega) (by omega)).trans hL.q9))
  have hI : SlOf W2 3 (RIns W2) (.slice (some ⟨gi, 0, none⟩) 2 ci) [⟨0, [⟨2, 0, true, 1, 0⟩], []⟩, ⟨1, [⟨(a : Int) - 1, 0, false, (b : Int) - 1, 0⟩, ⟨2, 1, true, 1, 0⟩], []⟩] := SlOf_two [.int .i64 0, .slice (some ⟨o0, 0, none⟩) 1 1, .slice none 0 0] [.int .i64 1, .slice (some ⟨o1, 0, none⟩) 2 2, .slice none 0 0] rfl rfl ⟨_, _, rfl, hO0, SlOf_nil _ _ _ _ _⟩ ⟨_, _, rfl, hO1, SlOf_nil _ _ _ _ _⟩ (cells3 ((kp _ _ dd.2.2.2.2.1).trans hL.i0) ((kp _ _ dd.2.2.2.2.1).trans hL.i1) ((kp _ _ dd.2.2.2.2.1).trans hL.i2)) (cells3 ((kp _ _ dd.2.2.2.2.1).trans hL.i3) ((kp _ _ dd.2.2.2.2.1).trans hL.i4) ((kp _ _ dd.2.2.2.2.1).trans hL.i5))
  have hB : SlOf W2 3 (RBlk W2) (.slice (some ⟨w.heap.size + 1, 0, none⟩) 1 1) (kindF ((a : Int) - 1) ((b : Int) - 1)).blocks := SlOf_one [.slice none 0 0, .slice (some ⟨gi, 0, none⟩) 2 ci, .slice none 0 0] rfl ⟨_, _, _, rfl, SlOf_nil _ _ _ _ _, hI, SlOf_nil _ _ _ _ _⟩ (cells3 ((kp _ _ (Ne.symm e2)).trans hL.b0) ((kp _ _ (Ne.symm e2)).trans hL.b1) ((kp _ _ (Ne.symm e2)).trans hL.b2))
  have g0 : W2.cell? ⟨w1.heap.size, 0, none⟩ = some (.slice (some ⟨gv, 0, none⟩) 2 cv) := (kp _ _ nF1).trans f0
  have g1 : W2.cell? ⟨w1.heap.size, 1, none⟩ = some (.slice (some ⟨w.heap.size + 1, 0, none⟩) 1 1) := (kp _ _ nF1).trans f1
  rw [← hW2]
  clear hW2 kp kq n0 n3 hO0 hO1 hI dd f0 f1 hL hL1 b1 i4 c0 c3 s0 s3
  obtain ⟨r, hr⟩ : ∃ r, shapeErr (kindF ((a : Int) - 1) ((b : Int) - 1)) 10 10 = r := ⟨_, rfl⟩
  have HR : Hid (shapeErr (kindF ((a : Int) - 1) ((b : Int) - 1)) 10 10 = r) := hr
  have HV : Hid (SlOf W2 1 RInt (.slice (some ⟨gv, 0, none⟩) 2 cv) (kindF ((a : Int) - 1) ((b : Int) - 1)).values) := hv
  have HB : Hid (SlOf W2 3 (RBlk W2) (.slice (some ⟨w.heap.size + 1, 0, none⟩) 1 1) (kindF ((a : Int) - 1) ((b : Int) - 1)).blocks) := hB
  have hok := Hok.out
  rw [hr] at hok
  clear hv hB hr Hok
  refine wp_region_X (fun w' => w'.cell? ⟨w1.heap.size, 0, none⟩ = some (.slice (some ⟨gv, 0, none⟩) 2 cv) ∧ w'.cell? ⟨w1.heap.size, 1, none⟩ = some (.slice (some ⟨w.heap.size + 1, 0, none⟩) 1 1) ∧ Below W2.heap.size W2 w') 3 (by kernel_rfl) ⟨g0, g1, (Below.refl _ _).drew⟩ (fun hHeld => ?_)
  refine wpX_take0 (v := ?_) (by kernel_rfl) (fun _ _ _ h => h) rfl ?_ hHeld ?_
  rotate_left
  · intro w' hSw
    go_simp <;> with_reducible rfl
  try simp only [Act.put, List.setIfInBounds_toArray, List.set_cons_zero, List.set_cons_succ]
  refine wpX_step1 (by kernel_rfl) (fun K hK => ?_)
  go_simp
  refine (big_any _).mono ?_
  rintro e w3 ⟨rfl, hb3⟩
  have hc3 : Below W2.heap.size W2 w3 := ((Below.refl _ _).drew).trans hb3
  refine hK.out _ _ ⟨(hc3.cell (by simp; omega)).trans g0, (hc3.cell (by simp; omega)).trans g1, hc3⟩ (fun hHeld => ?_)
  clear hK K
  try simp only [Act.put, List.setIfInBounds_toArray, List.set_cons_zero, List.set_cons_succ]
  refine wpX_step2 (by kernel_rfl) (fun K hK => ?_)
  go_simp
  refine (check_is (kindF ((a : Int) - 1) ((b : Int) - 1)) 10 10 _ _ _ r HR.out (HV.out.below hc3 fun _ _ h => h) (HB.out.below hc3 (RBlk.below hc3))).mono ?_
  rintro e w4 ⟨rfl, hb4'⟩
  have hb4 : Below W2.heap.size W2 w4 := hc3.trans (hb4'.mono hc3.size)
  refine hK.out _ _ ⟨(hb4.cell (by simp; omega)).trans g0, (hb4.cell (by simp; omega)).trans g1, hb4⟩ (fun hHeld => ?_)
  clear hK K
  try simp only [Act.put, List.setIfInBounds_toArray, List.set_cons_zero, List.set_cons_succ]
  refine wpX_last3 (by kernel_rfl) rfl (by kernel_rfl) (fun K hK => ?_)
  go_simp
  refine hK.out _ _ ?_
  clear hK K
  have hbe : Below w.heap.size w w4 := hbW.trans (hb4.mono (by omega))
  unfold kindBad at hok
  by_cases h1 : (a : Int) - 1 < 1
  · have h3 : r = 3 := by simpa [h1] using hok
    subst h3
    clear hok
    go_wp2
    go_ret
    exact ⟨rfl, hbe⟩
  by_cases h2 : 2 < (a : Int) - 1
  · have h3 : r = 3 := by simpa [h1, h2] using hok
    subst h3
    clear hok
    go_wp2
    go_ret
    exact ⟨rfl, hbe⟩
  by_cases h4 : (b : Int) - 1 < 1
  · have h3 : r = 3 := by simpa [h1, h2, h4] using hok
    subst h3
    clear hok
    go_wp2
    go_ret
    exact ⟨rfl, hbe⟩
  by_cases h5 : 5 < (b : Int) - 1
  · have h3 : r = 3 := by simpa [h1, h2, h4, h5] using hok
    subst h3
    clear hok
    go_wp2
    go_ret
    exact ⟨rfl, hbe⟩
  · have h3 : ¬ r = 3 := by simpa [h1, h2, h4, h5] using hok
    clear hok
    go_wp2
    go_ret
    exact ⟨by simp [h3], hbe⟩
end Go.Proofs.Ytnghhhlcifpiaac
