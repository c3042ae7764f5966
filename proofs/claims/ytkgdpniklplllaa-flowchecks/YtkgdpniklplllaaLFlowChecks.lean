/-
  The walk through 'FlowChecks': flow.Check and the document's answer are one, for whatever function and machine.
-/
import Derived.Test.YtkgdpniklplllaaC10
import Derived.Test.YtkgdpniklplllaaF9s
import Derived.Test.YtkgdpniklplllaaLOpen
namespace Go.Proofs.Ytkgdpniklplllaa
open Go.RowKit
set_option linter.unusedVariables false

set_option maxHeartbeats 4000000 in
theorem flowChecks_walk (f : Fn) (m0 m1 : Int) (vv vb : Value) (w : World) (hv0 : SlOf w 1 RInt vv f.values) (hb0 : SlOf w 3 (RBlk w) vb f.blocks) :
    Calls Try.prog 3 #[.agg #[vv, vb], .agg #[.int .i64 m0, .int .i64 m1]] w fun e w' => e = .returned (.bool true) ∧ Below w.heap.size w w' := by
  obtain ⟨av, cv, rfl, lv⟩ := hv0.out
  obtain ⟨ab, cb, rfl, lb⟩ := hb0.out
  obtain ⟨r, hr⟩ : ∃ r, flowE f m0 m1 (f.blocks.length * f.blocks.length + 1) = r := ⟨_, rfl⟩
  have HR : Hid (flowE f m0 m1 (f.blocks.length * f.blocks.length + 1) = r) := hr
  obtain ⟨W, hW⟩ : ∃ W, W = (w.alloc (.cells #[.slice av f.values.length cv, .slice ab f.blocks.length cb] 25)).alloc (.cells #[.int .i64 m0, .int .i64 m1] 28) := ⟨_, rfl⟩
  have hbw : Below w.heap.size w W := by rw [hW]; exact ((Below.refl _ _).alloc (Nat.le_refl _) _).alloc (by simp) _
  have zW : w.heap.size + 1 < W.heap.size := by rw [hW]; simp
  obtain ⟨t0, t1⟩ := two_at w #[.slice av f.values.length cv, .slice ab f.blocks.length cb] #[.int .i64 m0, .int .i64 m1] 25 28
  have f0 : W.cell? ⟨w.heap.size, 0, none⟩ = some (.slice av f.values.length cv) := by rw [hW]; exact t0 0
  have f1 : W.cell? ⟨w.heap.size, 1, none⟩ = some (.slice ab f.blocks.length cb) := by rw [hW]; exact t0 1
  have e0 : W.cell? ⟨w.heap.size + 1, 0, none⟩ = some (.int .i64 m0) := by rw [hW]; exact t1 0
  have e1 : W.cell? ⟨w.heap.size + 1, 1, none⟩ = some (.int .i64 m1) := by rw [hW]; exact t1 1
  have HW : Hid (W = (w.alloc (.cells #[.slice av f.values.length cv, .slice ab f.blocks.length cb] 25)).alloc (.cells #[.int .i64 m0, .int .i64 m1] 28)) := hW
  clear hW t0 t1 hr
  go_enter Try.func3, Try.ntmps3
  go_upto_region 1 with fail
  rw [← HW.out]
  go_wp2_with fail
  refine (flowCheck_any f _ m0 m1 _ _ _ _ r HR.out _ (hv0.below hbw fun _ _ h => h) (hb0.below hbw (RBlk.below hbw)) flowIn_all).mono ?_
  rintro e w1 ⟨rfl, hb1⟩
  have hbw1 : Below w.heap.size w w1 := hbw.trans (hb1.mono hbw.size)
  have f0' := (hb1.cell (p := ⟨w.heap.size, 0, none⟩) (by simp; omega)).trans f0
  have f1' := (hb1.cell (p := ⟨w.heap.size, 1, none⟩) (by simp; omega)).trans f1
  have e0' := (hb1.cell (p := ⟨w.heap.size + 1, 0, none⟩) (by simp; omega)).trans e0
  have e1' := (hb1.cell (p := ⟨w.heap.size + 1, 1, none⟩) (by simp; omega)).trans e1
  clear f0 f1 e0 e1
  go_wp2_with fail
  refine (funcFault_is f _ _ _ _ _ _ m0 m1 r HR.out _ rfl rfl (hv0.below hbw1 fun _ _ h => h) (hb0.below hbw1 (RBlk.below hbw1))).mono ?_
  rintro e w2 ⟨rfl, hb2⟩
  go_wp2
  go_ret
  exact ⟨by simp, hbw1.trans (hb2.mono hbw1.size)⟩
end Go.Proofs.Ytkgdpniklplllaa
