/-
  The walk of FlowGood: what is built of pieces hangs together.
-/
import Derived.Test.YtanhfkpphdbaaaaF9
namespace Go.Proofs.Ytanhfkpphdbaaaa
open Go.RowKit
set_option linter.unusedVariables false

set_option maxRecDepth 8000 in
set_option maxHeartbeats 8000000 in
theorem flowGood_walk (a : Int) (wa : (Lit.int .i64 a).wf = true) (b : Int) (wb : (Lit.int .i64 b).wf = true) (l : List Pc) (vl : Value) (w : World) (hl : SlOf w 7 RPc vl l) (hp : ∀ p ∈ l, PcF p) :
    Calls Try.prog 5 #[.int .i64 a, .int .i64 b, vl] w fun e w' => e = .returned (.bool true) ∧ Below w.heap.size w w' := by
  obtain ⟨a0, a1⟩ := bounds_i64 wa
  obtain ⟨b0, b1⟩ := bounds_i64 wb
  have HMA := machine_any a b w a0 a1 b0 b1
  have hm0 := machine_bd a
  have hm1 := machine_bd b
  generalize 2 + pickedOf a 9 = m0 at *
  generalize 2 + pickedOf b 9 = m1 at *
  have HM : Hid ((2 ≤ m0 ∧ m0 ≤ 10) ∧ 2 ≤ m1 ∧ m1 ≤ 10) := ⟨hm0, hm1⟩
  have HL : Hid (SlOf w 7 RPc vl l) := hl
  have HP : Hid (∀ p ∈ l, PcOk p ∧ -9223372036854775808 ≤ p.kind ∧ p.kind ≤ 9223372036854775807) := hp
  clear wa wb hl hp hm0 hm1
  go_enter Try.func5, Try.ntmps5
  go_upto_region 2 with (go_at_call 9; refine HMA.mono ?_; rintro e w1 ⟨rfl, hb1⟩)
  obtain ⟨W1, hW1⟩ : ∃ W1, W1 = w1.alloc (.cells #[.int .i64 m0, .int .i64 m1] 25) := ⟨_, rfl⟩
  have r1 : W1.rowIs w1.heap.size 25 2 (fun q => if q = 0 then .int .i64 m0 else .int .i64 m1) := by
    rw [hW1]
    exact World.rowIs_alloc w1 #[.int .i64 m0, .int .i64 m1] 25 _ fun i hi => by
      simp at hi
      match i, hi with | 0, _ => rfl | 1, _ => rfl
  have HB0 : Hid (Below w.heap.size w W1) := by
    show Below _ _ _
    rw [hW1]
    exact hb1.alloc hb1.size _
  rw [← hW1]
  clear hW1 HMA hb1
  obtain ⟨X, hX⟩ : ∃ X, w1.heap.size = X := ⟨_, rfl⟩
  rw [hX] at r1
  rw [hX]
  have f0 : W1.cell? ⟨X, 0, none⟩ = some (.int .i64 m0) := r1.cell (i := 0) (by omega)
  have f1 : W1.cell? ⟨X, 1, none⟩ = some (.int .i64 m1) := r1.cell (i := 1) (by omega)
  have lX := r1.lt
  clear hX r1
  have HFN := ma_func m0 m1 l vl W1 HM.out.1 HM.out.2 (HL.out.below HB0.out fun _ _ h => h) HP.out
  go_wp2_with fail
  refine HFN.mono ?_
  clear HFN
  rintro e w2 ⟨vv, vb, rfl, hv2, hb2, hbw2⟩
  obtain ⟨av, cv, rfl, lv⟩ := hv2.out
  obtain ⟨ab, cb, rfl, lb⟩ := hb2.out
  have HF : Hid (shapeErr (masonM m0 m1 l) m0 m1 = 0) := mason_shape m0 m1 HM.out.1 HM.out.2 l
  have HFL0 : Hid (flowE (masonM m0 m1 l) m0 m1 ((masonM m0 m1 l).blocks.length * (masonM m0 m1 l).blocks.length + 1) = 0) := mason_flow m0 m1 HM.out.1 HM.out.2 l
  generalize hf : masonM m0 m1 l = f at *
  clear hf
  have f0' : w2.cell? ⟨X, 0, none⟩ = some (.int .i64 m0) := (hbw2.cell (p := ⟨X, 0, none⟩) lX).trans f0
  have f1' : w2.cell? ⟨X, 1, none⟩ = some (.int .i64 m1) := (hbw2.cell (p := ⟨X, 1, none⟩) lX).trans f1
  have lX' : X < w2.heap.size := Nat.lt_of_lt_of_le lX hbw2.size
  have HB2 : Hid (Below w.heap.size w w2) := HB0.out.trans (hbw2.mono HB0.out.size)
  have HV2 : Hid (SlOf w2 1 RInt (.slice av f.values.length cv) f.values) := hv2
  have HBL2 : Hid (SlOf w2 3 (RBlk w2) (.slice ab f.blocks.length cb) f.blocks) := hb2
  unfold longest at lv lb
  clear f0 f1 lX HB0 hbw2 hv2 hb2
  generalize hnv : f.values.length = nv at *
  generalize hnb : f.blocks.length = nb at *
  have HNV : Hid (f.values.length = nv) := hnv
  have HNB : Hid (f.blocks.length = nb) := hnb
  clear hnv hnb
  have HFL : Hid (flowE f m0 m1 (nb * nb + 1) = 0) := HFL0
  clear HFL0
  go_upto_region 3 with fail
  obtain ⟨W, hW⟩ : ∃ W, W = w2.alloc (.cells #[.slice av nv cv, .slice ab nb cb] 32) := ⟨_, rfl⟩
  obtain ⟨Y, hY⟩ : ∃ Y, w2.heap.size = Y := ⟨_, rfl⟩
  have rY : W.rowIs Y 32 2 (fun q => if q = 0 then .slice av nv cv else .slice ab nb cb) := by
    rw [hW, ← hY]
    exact World.rowIs_alloc w2 #[.slice av nv cv, .slice ab nb cb] 32 _ fun i hi => by
      simp at hi
      match i, hi with | 0, _ => rfl | 1, _ => rfl
  have hbW : Below w2.heap.size w2 W := by rw [hW]; exact (Below.refl _ _).alloc (Nat.le_refl _) _
  have g0 : W.cell? ⟨Y, 0, none⟩ = some (.slice av nv cv) := rY.cell (i := 0) (by omega)
  have g1 : W.cell? ⟨Y, 1, none⟩ = some (.slice ab nb cb) := rY.cell (i := 1) (by omega)
  have lY := rY.lt
  have f0 : W.cell? ⟨X, 0, none⟩ = some (.int .i64 m0) := (hbW.cell (p := ⟨X, 0, none⟩) lX').trans f0'
  have f1 : W.cell? ⟨X, 1, none⟩ = some (.int .i64 m1) := (hbW.cell (p := ⟨X, 1, none⟩) lX').trans f1'
  have lX : X < W.heap.size := Nat.lt_of_lt_of_le lX' hbW.size
  have HB : Hid (Below w.heap.size w W) := HB2.out.trans (hbW.mono HB2.out.size)
  have HV : Hid (SlOf W 1 RInt (.slice av nv cv) f.values) := HV2.out.below hbW fun _ _ h => h
  have HBL : Hid (SlOf W 3 (RBlk W) (.slice ab nb cb) f.blocks) := HBL2.out.below hbW (RBlk.below hbW)
  rw [← hW, hY]
  clear hW hY rY hbW f0' f1' lX' HB2 HV2 HBL2
  have HD := dominators_is f (nb * nb + 1) nv nb m0 m1 av ab cv cb HFL.out HNV.out HNB.out W HV.out HBL.out (fun h => by have := flowIn_all h; rw [HNB.out] at this; exact this)
  go_wp2_with fail
  refine HD.mono ?_
  clear HD
  rintro e w3 ⟨g, ib, db, co, rfl, hg, hi, hd, s1, s2, s3, hb3⟩
  clear hg hi hd s1 s2 s3
  obtain ⟨W4, hW4⟩ : ∃ W4, W4 = w3.alloc (.cells #[.slice (some ⟨g, 0, none⟩) nb co, .slice (some ⟨ib, 0, none⟩) nb nb, .slice (some ⟨db, 0, none⟩) nb nb] 50) := ⟨_, rfl⟩
  have hb4 : Below W.heap.size W W4 := by rw [hW4]; exact hb3.alloc hb3.size _
  have f0' := (hb4.cell (p := ⟨X, 0, none⟩) lX).trans f0
  have f1' := (hb4.cell (p := ⟨X, 1, none⟩) lX).trans f1
  have g0' := (hb4.cell (p := ⟨Y, 0, none⟩) lY).trans g0
  have g1' := (hb4.cell (p := ⟨Y, 1, none⟩) lY).trans g1
  have lX' : X < W4.heap.size := Nat.lt_of_lt_of_le lX hb4.size
  have HB4 : Hid (Below w.heap.size w W4) := HB.out.trans (hb4.mono HB.out.size)
  have HC := flowCheck_is f (nb * nb + 1) nv nb m0 m1 av ab cv cb 0 HFL.out HNV.out HNB.out W4 (HV.out.below hb4 fun _ _ h => h) (HBL.out.below hb4 (RBlk.below hb4)) (fun h => by have := flowIn_all h; rw [HNB.out] at this; exact this)
  have HW4 : Hid (W4 = w3.alloc (.cells #[.slice (some ⟨g, 0, none⟩) nb co, .slice (some ⟨ib, 0, none⟩) nb nb, .slice (some ⟨db, 0, none⟩) nb nb] 50)) := hW4
  have y0 := (hb3.cell (p := ⟨X, 0, none⟩) lX).trans f0
  have y1 := (hb3.cell (p := ⟨X, 1, none⟩) lX).trans f1
  have y2 := (hb3.cell (p := ⟨Y, 0, none⟩) lY).trans g0
  have y3 := (hb3.cell (p := ⟨Y, 1, none⟩) lY).trans g1
  clear hW4 hb4 hb3 f0 f1 g0 g1 lX lY HV HBL HB
  go_upto_region 4 with fail
  rw [← HW4.out]
  clear HW4 y0 y1 y2 y3
  go_wp2_with fail
  refine HC.mono ?_
  clear HC
  rintro e w5 ⟨rfl, hb5⟩
  have z0 := (hb5.cell (p := ⟨X, 0, none⟩) lX').trans f0'
  have z1 := (hb5.cell (p := ⟨X, 1, none⟩) lX').trans f1'
  have HE := flowCheck_is ⟨[], []⟩ 1 0 0 m0 m1 none none 0 0 1 (flow_empty m0 m1 1 HM.out.1 HM.out.2) rfl rfl w5 (sl_nil0 _ _ _) (sl_nil0 _ _ _) (fun h => by rw [shape_empty m0 m1 HM.out.1 HM.out.2] at h; cases h)
  have HB5 : Hid (Below w.heap.size w w5) := HB4.out.trans (hb5.mono HB4.out.size)
  clear f0' f1' g0' g1' hb5 HB4 lX'
  go_wp2_with fail
  refine HE.mono ?_
  clear HE
  rintro e w6 ⟨rfl, hb6⟩
  have HB6 : Hid (Below w.heap.size w w6) := HB5.out.trans (hb6.mono HB5.out.size)
  clear hb6 HB5 z0 z1
  go_wp2
  go_ret
  exact ⟨rfl, HB6.out⟩

end Go.Proofs.Ytanhfkpphdbaaaa
