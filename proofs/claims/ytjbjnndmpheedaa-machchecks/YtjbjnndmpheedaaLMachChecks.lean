/-
  The walk through 'MachChecks': mach.Check and the document's answer are one, for whatever function, machine and output.
-/
import Derived.Test.YtjbjnndmpheedaaM7
import Derived.Test.YtjbjnndmpheedaaM3
import Derived.Test.YtjbjnndmpheedaaM6
namespace Go.Proofs.Ytjbjnndmpheedaa
open Go.RowKit
set_option linter.unusedVariables false

set_option maxHeartbeats 4000000 in
theorem machChecks_walk (f : Fn) (m0 m1 fr : Int) (pl : List (List (List Pl))) (eds : List Ed) (vv vb vp ve : Value) (w : World) (hv0 : SlOf w 1 RInt vv f.values) (hb0 : SlOf w 3 (RBlk w) vb f.blocks) (hp0 : SlOf w 1 (RPss w) vp pl) (he0 : SlOf w 3 (REd w) ve eds) :
    Calls Try.prog 3 #[.agg #[vv, vb], .agg #[.int .i64 m0, .int .i64 m1], .agg #[vp, ve, .int .i64 fr]] w fun e w' => e = .returned (.bool true) ∧ Below w.heap.size w w' := by
  obtain ⟨av, cv, rfl, lv⟩ := hv0.out
  obtain ⟨ab, cb, rfl, lb⟩ := hb0.out
  obtain ⟨ap, cp, rfl, lp⟩ := hp0.out
  obtain ⟨ae, ce, rfl, le⟩ := he0.out
  obtain ⟨r, hr⟩ : ∃ r, machE f m0 m1 pl eds fr (f.blocks.length * f.blocks.length + 1) = r := ⟨_, rfl⟩
  have HR : Hid (machE f m0 m1 pl eds fr (f.blocks.length * f.blocks.length + 1) = r) := hr
  obtain ⟨W, hW⟩ : ∃ W, W = ((w.alloc (.cells #[.slice av f.values.length cv, .slice ab f.blocks.length cb] 25)).alloc (.cells #[.int .i64 m0, .int .i64 m1] 28)).alloc (.cells #[.slice ap pl.length cp, .slice ae eds.length ce, .int .i64 fr] 32) := ⟨_, rfl⟩
  have hbw : Below w.heap.size w W := by rw [hW]; exact (((Below.refl _ _).alloc (Nat.le_refl _) _).alloc (by simp) _).alloc (by simp; omega) _
  have zW : w.heap.size + 1 + 1 < W.heap.size := by rw [hW]; simp
  obtain ⟨t0, t1, t2⟩ := three_at w #[.slice av f.values.length cv, .slice ab f.blocks.length cb] #[.int .i64 m0, .int .i64 m1] #[.slice ap pl.length cp, .slice ae eds.length ce, .int .i64 fr] 25 28 32
  rw [← hW] at t0 t1 t2
  have q0 : W.cell? ⟨w.heap.size, 0, none⟩ = some (.slice av f.values.length cv) := t0 0
  have q1 : W.cell? ⟨w.heap.size, 1, none⟩ = some (.slice ab f.blocks.length cb) := t0 1
  have q2 : W.cell? ⟨w.heap.size + 1, 0, none⟩ = some (.int .i64 m0) := t1 0
  have q3 : W.cell? ⟨w.heap.size + 1, 1, none⟩ = some (.int .i64 m1) := t1 1
  have q4 : W.cell? ⟨w.heap.size + 1 + 1, 0, none⟩ = some (.slice ap pl.length cp) := t2 0
  have q5 : W.cell? ⟨w.heap.size + 1 + 1, 1, none⟩ = some (.slice ae eds.length ce) := t2 1
  have q6 : W.cell? ⟨w.heap.size + 1 + 1, 2, none⟩ = some (.int .i64 fr) := t2 2
  have HW : Hid (W = ((w.alloc (.cells #[.slice av f.values.length cv, .slice ab f.blocks.length cb] 25)).alloc (.cells #[.int .i64 m0, .int .i64 m1] 28)).alloc (.cells #[.slice ap pl.length cp, .slice ae eds.length ce, .int .i64 fr] 32)) := hW
  have HC := machCheck_any f pl eds m0 m1 fr av ab ap ae cv cb pl.length cp eds.length ce r hr W rfl rfl (hv0.below hbw fun _ _ h => h) (hb0.below hbw (RBlk.below hbw)) (hp0.below hbw (RPss.below hbw)) (he0.below hbw (REd.below hbw))
  clear hW t0 t1 t2 hr
  go_enter Try.func3, Try.ntmps3
  go_upto_region 1 with fail
  rw [← HW.out]
  go_wp2_with fail
  refine HC.mono ?_
  clear HC HW
  rintro e w1 ⟨rfl, hb1⟩
  have hbw1 : Below w.heap.size w w1 := hbw.trans (hb1.mono hbw.size)
  have p0 := (hb1.cell (p := ⟨w.heap.size, 0, none⟩) (by simp; omega)).trans q0
  have p1 := (hb1.cell (p := ⟨w.heap.size, 1, none⟩) (by simp; omega)).trans q1
  have p2 := (hb1.cell (p := ⟨w.heap.size + 1, 0, none⟩) (by simp; omega)).trans q2
  have p3 := (hb1.cell (p := ⟨w.heap.size + 1, 1, none⟩) (by simp; omega)).trans q3
  have p4 := (hb1.cell (p := ⟨w.heap.size + 1 + 1, 0, none⟩) (by simp; omega)).trans q4
  have p5 := (hb1.cell (p := ⟨w.heap.size + 1 + 1, 1, none⟩) (by simp; omega)).trans q5
  have p6 := (hb1.cell (p := ⟨w.heap.size + 1 + 1, 2, none⟩) (by simp; omega)).trans q6
  clear q0 q1 q2 q3 q4 q5 q6
  have HC := outputFault_is f pl eds m0 m1 fr av ab ap ae f.values.length f.blocks.length cv cb pl.length cp eds.length ce r HR.out w1 rfl rfl rfl rfl (hv0.below hbw1 fun _ _ h => h) (hb0.below hbw1 (RBlk.below hbw1)) (hp0.below hbw1 (RPss.below hbw1)) (he0.below hbw1 (REd.below hbw1))
  go_wp2_with fail
  refine HC.mono ?_
  clear HC
  rintro e w2 ⟨rfl, hb2⟩
  go_wp2
  go_ret
  exact ⟨by simp, hbw1.trans (hb2.mono hbw1.size)⟩
end Go.Proofs.Ytjbjnndmpheedaa
