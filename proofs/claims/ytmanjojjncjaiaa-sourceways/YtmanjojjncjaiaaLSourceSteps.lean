/-
  The walk of SourceSteps: more steps do the same, and more.
-/
import Derived.Test.YtmanjojjncjaiaaF9
import Derived.Test.YtmanjojjncjaiaaR7
import Derived.Test.YtmanjojjncjaiaaB4
namespace Go.Proofs.Ytmanjojjncjaiaa
open Go.RowKit
set_option linter.unusedVariables false

theorem run_two (bs : List Blk) (nv : Nat) (seed : Int) (h : H0 bs) : 0 < (runM bs nv seed 2).evs.length := by
  obtain ⟨b, r, rfl, hb⟩ := h
  have e1 : runM (b :: r) nv seed 1 = ⟨.ins 0 0, List.replicate nv 0, []⟩ := by
    show settle (b :: r) 0 0 0 _ _ = _
    unfold settle
    rw [if_pos (show 0 < ((b :: r).getD 0 emptyB).instrs.length from List.length_pos_iff.2 hb)]
    rfl
  show 0 < (srStep (b :: r) seed (runM (b :: r) nv seed 1)).evs.length
  rw [e1]
  unfold srStep
  simp only
  rw [settle_evs]
  simp
theorem run_pos (bs : List Blk) (nv : Nat) (seed : Int) (h : H0 bs) (p : Nat) : 0 < (runM bs nv seed (2 + p)).evs.length := by
  obtain ⟨l, hl⟩ := run_more bs nv seed 2 p
  rw [hl, List.length_append]
  have := run_two bs nv seed h
  omega
theorem run_lt (bs : List Blk) (nv : Nat) (seed : Int) (p : Nat) : (runM bs nv seed (2 + p)).evs.length < 2 + p := by
  have := run_few bs nv seed (1 + p)
  rw [show 1 + p + 1 = 2 + p by omega] at this
  omega

set_option maxRecDepth 8000 in
set_option maxHeartbeats 8000000 in
theorem sourceSteps_walk (a : Int) (wa : (Lit.int .i64 a).wf = true) (b : Int) (wb : (Lit.int .i64 b).wf = true) (l : List Pc) (vl : Value) (seed : Int) (ws : (Lit.int .i64 seed).wf = true) (steps : Int) (wst : (Lit.int .i64 steps).wf = true) (more : Int) (wmo : (Lit.int .i64 more).wf = true) (w : World) (hl : SlOf w 7 RPc vl l) (hp : ∀ p ∈ l, PcF p) :
    Calls Try.prog 4 #[.int .i64 a, .int .i64 b, vl, .int .i64 seed, .int .i64 steps, .int .i64 more] w fun e w' => e = .returned (.bool true) ∧ Below w.heap.size w w' := by
  obtain ⟨a0, a1⟩ := bounds_i64 wa
  obtain ⟨b0, b1⟩ := bounds_i64 wb
  have HMA := machine_any a b w a0 a1 b0 b1
  have hm0 := machine_bd a
  have hm1 := machine_bd b
  generalize 2 + pickedOf a 9 = m0 at *
  generalize 2 + pickedOf b 9 = m1 at *
  have HM : Hid ((2 ≤ m0 ∧ m0 ≤ 10) ∧ 2 ≤ m1 ∧ m1 ≤ 10) := ⟨hm0, hm1⟩
  have HL : Hid (SlOf w 7 RPc vl l) := hl
  have HP : Hid (∀ p ∈ l, PcOk p ∧ -9223372036854775808 ≤ p.kind ∧ p.kind ≤ 9223372036854775807) := hp
  clear wa wb hl hp hm0 hm1
  obtain ⟨s0, s1⟩ := bounds_i64 wst
  obtain ⟨t0, t1⟩ := bounds_i64 wmo
  clear ws wst wmo
  go_enter Try.func4, Try.ntmps4
  go_upto_region 2 with (go_at_call 11; refine HMA.mono ?_; rintro e w1 ⟨rfl, hb1⟩)
  obtain ⟨W1, hW1⟩ : ∃ W1, W1 = w1.alloc (.cells #[.int .i64 m0, .int .i64 m1] 28) := ⟨_, rfl⟩
  have r1 : W1.rowIs w1.heap.size 28 2 (fun q => if q = 0 then .int .i64 m0 else .int .i64 m1) := by
    rw [hW1]
    exact World.rowIs_alloc w1 #[.int .i64 m0, .int .i64 m1] 28 _ fun i hi => by
      simp at hi
      match i, hi with | 0, _ => rfl | 1, _ => rfl
  have HB0 : Hid (Below w.heap.size w W1) := by
    show Below _ _ _
    rw [hW1]
    exact hb1.alloc hb1.size _
  rw [← hW1]
  clear hW1 HMA hb1
  obtain ⟨X, hX⟩ : ∃ X, w1.heap.size = X := ⟨_, rfl⟩
  rw [hX] at r1
  rw [hX]
  have f0 : W1.cell? ⟨X, 0, none⟩ = some (.int .i64 m0) := r1.cell (i := 0) (by omega)
  have f1 : W1.cell? ⟨X, 1, none⟩ = some (.int .i64 m1) := r1.cell (i := 1) (by omega)
  have lX := r1.lt
  clear hX r1
  have HFN := ma_func m0 m1 l vl W1 HM.out.1 HM.out.2 (HL.out.below HB0.out fun _ _ h => h) HP.out
  go_wp2_with fail
  refine HFN.mono ?_
  clear HFN
  rintro e w2 ⟨vv, vb, rfl, hv2, hb2, hbw2⟩
  obtain ⟨av, cv, rfl, lv⟩ := hv2.out
  obtain ⟨ab, cb, rfl, lb⟩ := hb2.out
  have HF : Hid (shapeErr (masonM m0 m1 l) m0 m1 = 0) := mason_shape m0 m1 HM.out.1 HM.out.2 l
  have HFL0 : Hid (flowE (masonM m0 m1 l) m0 m1 ((masonM m0 m1 l).blocks.length * (masonM m0 m1 l).blocks.length + 1) = 0) := mason_flow m0 m1 HM.out.1 HM.out.2 l
  have HH0a : Hid (H0 (masonM m0 m1 l).blocks) := mason_first m0 m1 l
  generalize hf : masonM m0 m1 l = f at *
  clear hf
  have f0' : w2.cell? ⟨X, 0, none⟩ = some (.int .i64 m0) := (hbw2.cell (p := ⟨X, 0, none⟩) lX).trans f0
  have f1' : w2.cell? ⟨X, 1, none⟩ = some (.int .i64 m1) := (hbw2.cell (p := ⟨X, 1, none⟩) lX).trans f1
  have lX' : X < w2.heap.size := Nat.lt_of_lt_of_le lX hbw2.size
  have HB2 : Hid (Below w.heap.size w w2) := HB0.out.trans (hbw2.mono HB0.out.size)
  have HV2 : Hid (SlOf w2 1 RInt (.slice av f.values.length cv) f.values) := hv2
  have HBL2 : Hid (SlOf w2 3 (RBlk w2) (.slice ab f.blocks.length cb) f.blocks) := hb2
  unfold longest at lv lb
  clear f0 f1 lX HB0 hbw2 hv2 hb2
  generalize hnv : f.values.length = nv at *
  generalize hnb : f.blocks.length = nb at *
  have HNV : Hid (f.values.length = nv) := hnv
  have HNB : Hid (f.blocks.length = nb) := hnb
  clear hnv hnb
  have HFL : Hid (flowE f m0 m1 (nb * nb + 1) = 0) := HFL0
  clear HFL0
  have HH0 : Hid (H0 f.blocks) := HH0a
  clear HH0a
  go_upto_region 3 with fail
  obtain ⟨W, hW⟩ : ∃ W, W = w2.alloc (.cells #[.slice av nv cv, .slice ab nb cb] 25) := ⟨_, rfl⟩
  obtain ⟨Y, hY⟩ : ∃ Y, w2.heap.size = Y := ⟨_, rfl⟩
  have rY : W.rowIs Y 25 2 (fun q => if q = 0 then .slice av nv cv else .slice ab nb cb) := by
    rw [hW, ← hY]
    exact World.rowIs_alloc w2 #[.slice av nv cv, .slice ab nb cb] 25 _ fun i hi => by
      simp at hi
      match i, hi with | 0, _ => rfl | 1, _ => rfl
  have hbW : Below w2.heap.size w2 W := by rw [hW]; exact (Below.refl _ _).alloc (Nat.le_refl _) _
  have g0 : W.cell? ⟨Y, 0, none⟩ = some (.slice av nv cv) := rY.cell (i := 0) (by omega)
  have g1 : W.cell? ⟨Y, 1, none⟩ = some (.slice ab nb cb) := rY.cell (i := 1) (by omega)
  have lY := rY.lt
  have f0 : W.cell? ⟨X, 0, none⟩ = some (.int .i64 m0) := (hbW.cell (p := ⟨X, 0, none⟩) lX').trans f0'
  have f1 : W.cell? ⟨X, 1, none⟩ = some (.int .i64 m1) := (hbW.cell (p := ⟨X, 1, none⟩) lX').trans f1'
  have lX : X < W.heap.size := Nat.lt_of_lt_of_le lX' hbW.size
  have HB : Hid (Below w.heap.size w W) := HB2.out.trans (hbW.mono HB2.out.size)
  have HV : Hid (SlOf W 1 RInt (.slice av nv cv) f.values) := HV2.out.below hbW fun _ _ h => h
  have HBL : Hid (SlOf W 3 (RBlk W) (.slice ab nb cb) f.blocks) := HBL2.out.below hbW (RBlk.below hbW)
  rw [← hW, hY]
  clear hW hY rY hbW f0' f1' lX' HB2 HV2 HBL2
  have HPK1 := picked_any steps 200 W s0 s1 (by decide) (by decide)
  obtain ⟨p0, p1⟩ := pickedOf_bd steps 200 (by decide)
  obtain ⟨P1, hP1⟩ : ∃ P1 : Nat, pickedOf steps 200 = (P1 : Int) := ⟨(pickedOf steps 200).toNat, by omega⟩
  rw [hP1] at HPK1 p0 p1
  obtain ⟨q0, q1⟩ := pickedOf_bd more 100 (by decide)
  obtain ⟨P2, hP2⟩ : ∃ P2 : Nat, pickedOf more 100 = (P2 : Int) := ⟨(pickedOf more 100).toNat, by omega⟩
  rw [hP2] at q0 q1
  have HPM : Hid (pickedOf more 100 = (P2 : Int)) := hP2
  obtain ⟨n1, hn1⟩ : ∃ n1, 2 + P1 = n1 := ⟨_, rfl⟩
  obtain ⟨n2, hn2⟩ : ∃ n2, n1 + P2 = n2 := ⟨_, rfl⟩
  have HN1 : Hid (2 + (P1 : Int) = (n1 : Int)) := by show _ = _; omega
  have n1b : n1 ≤ 202 := by omega
  have n2b : n2 ≤ 302 := by omega
  have w2n : IntKind.i64.wrap ((n1 : Int) + (P2 : Int)) = (n2 : Int) := by rw [IntKind.wrap_i64]; omega
  have HPU : Hid (0 < (runM f.blocks nv seed n1).evs.length ∧ (runM f.blocks nv seed n1).evs.length < n1 ∧ ∃ l, (runM f.blocks nv seed n2).evs = (runM f.blocks nv seed n1).evs ++ l) := by
    rw [← hn2, ← hn1]
    exact ⟨run_pos _ _ _ HH0.out _, run_lt _ _ _ _, run_more _ _ _ _ _⟩
  clear hP1 hP2 hn1 hn2 p0 q0 q1
  go_upto_region 4 with (go_at_call 13; refine HPK1.mono ?_; rintro e W ⟨rfl, rfl⟩)
  rw [HN1.out]
  have hb0 : Below W.heap.size W W := Below.refl _ _
  have HC := source_any f nv nb n1 m0 m1 seed av ab cv cb HFL.out HNV.out HNB.out (by omega) W (HV.out.below hb0 fun _ _ h => h) (HBL.out.below hb0 (RBlk.below hb0))
  clear hb0
  go_wp2_with fail
  refine HC.mono ?_
  clear HC
  rintro e w3 ⟨a1, l1, c1, hl1, hc1, rfl, s1', hb3⟩
  have hd3 : Below W.heap.size W w3.drew := hb3.drew
  have hdd : Below w3.heap.size w3 w3.drew := (Below.refl _ _).drew
  have HS1d : Hid (SlOf w3.drew 4 (REv w3.drew) (.slice a1 l1 c1) (runM f.blocks nv seed n1).evs) := s1'.below hdd (REv.below hdd)
  have HL1 : Hid (l1 = (runM f.blocks nv seed n1).evs.length) := hl1
  have HPK2 := picked_any more 100 w3.drew t0 t1 (by decide) (by decide)
  rw [HPM.out] at HPK2
  have HC := source_any f nv nb n2 m0 m1 seed av ab cv cb HFL.out HNV.out HNB.out (by omega) w3.drew (HV.out.below hd3 fun _ _ h => h) (HBL.out.below hd3 (RBlk.below hd3))
  have HD3 : Hid (Below W.heap.size W w3.drew) := hd3
  have HSF : Hid (∀ w', Below W.heap.size W w' → (fun w' => w'.cell? ⟨Y, 0, none⟩ = some (.slice av nv cv) ∧ w'.cell? ⟨Y, 1, none⟩ = some (.slice ab nb cb) ∧ w'.cell? ⟨X, 0, none⟩ = some (.int .i64 m0) ∧ w'.cell? ⟨X, 1, none⟩ = some (.int .i64 m1)) w') := fun w' hh => ⟨(hh.cell lY).trans g0, (hh.cell lY).trans g1, (hh.cell lX).trans f0, (hh.cell lX).trans f1⟩
  clear s1' hb3 hdd hl1
  go_upto_region 5 with fail
  refine wp_region_X (fun w' => w'.cell? ⟨Y, 0, none⟩ = some (.slice av nv cv) ∧ w'.cell? ⟨Y, 1, none⟩ = some (.slice ab nb cb) ∧ w'.cell? ⟨X, 0, none⟩ = some (.int .i64 m0) ∧ w'.cell? ⟨X, 1, none⟩ = some (.int .i64 m1)) 99 (by kernel_rfl) (HSF.out _ hd3) (fun hHeld => ?_)
  refine wpXt (v := ?_) 0 rfl (by kernel_rfl) (fun _ _ _ h => h) (by rfl) ?_ hHeld ?_
  rotate_left
  · intro w' hSw
    go_simp <;> with_reducible rfl
  try simp only [Act.put, List.setIfInBounds_toArray, List.set_cons_zero, List.set_cons_succ]
  refine wpXt (v := ?_) 1 rfl (by kernel_rfl) (fun _ _ _ h => h) (by rfl) ?_ hHeld ?_
  rotate_left
  · intro w' hSw
    go_simp <;> with_reducible rfl
  try simp only [Act.put, List.setIfInBounds_toArray, List.set_cons_zero, List.set_cons_succ]
  refine wpXt (v := ?_) 2 rfl (by kernel_rfl) (fun _ _ _ h => h) (by rfl) ?_ hHeld ?_
  rotate_left
  · intro w' hSw
    go_simp <;> with_reducible rfl
  try simp only [Act.put, List.setIfInBounds_toArray, List.set_cons_zero, List.set_cons_succ]
  refine wpXt (v := ?_) 3 rfl (by kernel_rfl) (fun _ _ _ h => h) (by rfl) ?_ hHeld ?_
  rotate_left
  · intro w' hSw
    go_simp <;> with_reducible rfl
  try simp only [Act.put, List.setIfInBounds_toArray, List.set_cons_zero, List.set_cons_succ]
  refine wpXt (v := ?_) 4 rfl (by kernel_rfl) (fun _ _ _ h => h) (by rfl) ?_ hHeld ?_
  rotate_left
  · intro w' hSw
    go_simp <;> with_reducible rfl
  try simp only [Act.put, List.setIfInBounds_toArray, List.set_cons_zero, List.set_cons_succ]
  refine wpXs 5 rfl (by kernel_rfl) (fun K hK => ?_)
  go_simp
  refine HPK2.mono ?_
  clear HPK2
  rintro e w4 ⟨rfl, rfl⟩
  refine hK.out _ _ (HSF.out _ HD3.out) (fun hHeld => ?_)
  clear hK K
  try simp only [Act.put, List.setIfInBounds_toArray, List.set_cons_zero, List.set_cons_succ]
  refine wpXs 6 rfl (by kernel_rfl) (fun K hK => ?_)
  go_simp
  refine hK.out _ _ (HSF.out _ HD3.out) (fun hHeld => ?_)
  clear hK K
  try simp only [Act.put, List.setIfInBounds_toArray, List.set_cons_zero, List.set_cons_succ]
  refine wpXs 7 rfl (by kernel_rfl) (fun K hK => ?_)
  go_simp
  refine HC.mono ?_
  clear HC
  rintro e w5 ⟨a2, l2, c2, hl2, hc2, rfl, s2, hb5⟩
  have HB5 : Hid (Below W.heap.size W w5) := HD3.out.trans (hb5.mono HD3.out.size)
  have HS2 : Hid (SlOf w5 4 (REv w5) (.slice a2 l2 c2) (runM f.blocks nv seed n2).evs) := s2
  have HS1b : Hid (SlOf w5 4 (REv w5) (.slice a1 l1 c1) (runM f.blocks nv seed n1).evs) := HS1d.out.below hb5 (REv.below hb5)
  have HL2 : Hid (l2 = (runM f.blocks nv seed n2).evs.length) := hl2
  clear s2 hb5 hl2
  refine hK.out _ _ (HSF.out _ HB5.out) (fun hHeld => ?_)
  clear hK K
  try simp only [Act.put, List.setIfInBounds_toArray, List.set_cons_zero, List.set_cons_succ]
  refine wpXt (v := ?_) 8 rfl (by kernel_rfl) (fun _ _ _ h => h) (by rfl) ?_ hHeld ?_
  rotate_left
  · intro w' hSw
    go_simp <;> with_reducible rfl
  try simp only [Act.put, List.setIfInBounds_toArray, List.set_cons_zero, List.set_cons_succ]
  refine wpXt (v := ?_) 9 rfl (by kernel_rfl) (fun _ _ _ h => h) (by rfl) ?_ hHeld ?_
  rotate_left
  · intro w' hSw
    go_simp <;> with_reducible rfl
  try simp only [Act.put, List.setIfInBounds_toArray, List.set_cons_zero, List.set_cons_succ]
  refine wpXt (v := ?_) 10 rfl (by kernel_rfl) (fun _ _ _ h => h) (by rfl) ?_ hHeld ?_
  rotate_left
  · intro w' hSw
    go_simp <;> with_reducible rfl
  try simp only [Act.put, List.setIfInBounds_toArray, List.set_cons_zero, List.set_cons_succ]
  refine wpXt (v := ?_) 11 rfl (by kernel_rfl) (fun _ _ _ h => h) (by rfl) ?_ hHeld ?_
  rotate_left
  · intro w' hSw
    go_simp <;> with_reducible rfl
  try simp only [Act.put, List.setIfInBounds_toArray, List.set_cons_zero, List.set_cons_succ]
  refine wpXt (v := ?_) 12 rfl (by kernel_rfl) (fun _ _ _ h => h) (by rfl) ?_ hHeld ?_
  rotate_left
  · intro w' hSw
    go_simp <;> with_reducible rfl
  try simp only [Act.put, List.setIfInBounds_toArray, List.set_cons_zero, List.set_cons_succ]
  refine wpAnyX_done (by kernel_rfl) ?_ _
  obtain ⟨y0, y1, x0, x1⟩ := hHeld
  have HC := source_any f nv nb 1 m0 m1 seed av ab cv cb HFL.out HNV.out HNB.out (by omega) w5 (HV.out.below HB5.out fun _ _ h => h) (HBL.out.below HB5.out (RBlk.below HB5.out))
  have e1 : ((1 : Nat) : Int) = 1 := rfl
  rw [e1] at HC
  go_wp2_with fail
  refine HC.mono ?_
  clear HC y0 y1 x0 x1
  rintro e w6 ⟨a3, l3, c3, hl3, hc3, rfl, s3, hb6⟩
  rw [run_one, List.length_nil] at hl3
  subst hl3
  have HB6 : Hid (Below W.heap.size W w6) := HB5.out.trans (hb6.mono HB5.out.size)
  obtain ⟨hpos, hlt, l', hl'⟩ := HPU.out
  have h1 := HL1.out
  have h2 := HL2.out
  have hpos1 : 0 < l1 := by rw [h1]; exact hpos
  have hlt1 : l1 < n1 := by rw [h1]; exact hlt
  have hle12 : l1 ≤ l2 := by rw [h1, h2, hl', List.length_append]; omega
  have stk := sl_take (HS2.out.below hb6 (REv.below hb6)) l1 (by rw [← h2]; exact hle12) c2
  rw [hl', h1, List.take_left, ← h1] at stk
  have HE := ksame_evs (runM f.blocks nv seed n1).evs a1 a2 l1 c1 c2 w6 h1.symm (HS1b.out.below hb6 (REv.below hb6)) stk
  have q1 : decide ((0 : Int) < (l1 : Int)) = true := by simp; omega
  have q2 : decide ((l1 : Int) ≤ (l2 : Int)) = true := by simp; omega
  have q3 : decide ((l1 : Int) < (n1 : Int)) = true := by simp; omega
  have hlc : l1 ≤ c2 := by omega
  clear s3 hb6 stk hl' hlt hpos h1 h2 HS1b HS2 HS1d HL1 HL2 HPU
  go_wp2_with fail
  refine HE.mono ?_
  clear HE
  rintro e w7 ⟨rfl, hb7⟩
  have HB7 : Hid (Below w.heap.size w w7) := (HB.out.trans (HB6.out.mono HB.out.size)).trans (hb7.mono (Nat.le_trans HB.out.size HB6.out.size))
  clear hb7
  go_wp2
  go_ret
  exact ⟨rfl, HB7.out⟩

end Go.Proofs.Ytmanjojjncjaiaa
