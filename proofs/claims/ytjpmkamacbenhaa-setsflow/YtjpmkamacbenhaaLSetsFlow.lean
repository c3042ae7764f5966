/-
  The walk of SetsFlow: what is needed behind a block is what its edges take, and what the blocks behind it need.
-/
import Derived.Test.YtjpmkamacbenhaaV10
namespace Go.Proofs.Ytjpmkamacbenhaa
open Go.RowKit
set_option linter.unusedVariables false

set_option maxRecDepth 8000 in
set_option maxHeartbeats 8000000 in
theorem setsFlow_walk (a : Int) (wa : (Lit.int .i64 a).wf = true) (b : Int) (wb : (Lit.int .i64 b).wf = true) (l : List Pc) (vl : Value) (w : World) (hl : SlOf w 7 RPc vl l) (hp : ∀ p ∈ l, PcF p) :
    Calls Try.prog 4 #[.int .i64 a, .int .i64 b, vl] w fun e w' => e = .returned (.bool true) ∧ Below w.heap.size w w' := by
  obtain ⟨a0, a1⟩ := bounds_i64 wa
  obtain ⟨b0, b1⟩ := bounds_i64 wb
  have HMA := machine_any a b w a0 a1 b0 b1
  have hm0 := machine_bd a
  have hm1 := machine_bd b
  generalize 2 + pickedOf a 9 = m0 at *
  generalize 2 + pickedOf b 9 = m1 at *
  have HM : Hid ((2 ≤ m0 ∧ m0 ≤ 10) ∧ 2 ≤ m1 ∧ m1 ≤ 10) := ⟨hm0, hm1⟩
  have HL : Hid (SlOf w 7 RPc vl l) := hl
  have HP : Hid (∀ p ∈ l, PcOk p ∧ -9223372036854775808 ≤ p.kind ∧ p.kind ≤ 9223372036854775807) := hp
  clear wa wb hl hp hm0 hm1
  go_enter Try.func4, Try.ntmps4
  go_upto_region 2 with (go_at_call 12; refine HMA.mono ?_; rintro e w1 ⟨rfl, hb1⟩)
  obtain ⟨W1, hW1⟩ : ∃ W1, W1 = w1.alloc (.cells #[.int .i64 m0, .int .i64 m1] 32) := ⟨_, rfl⟩
  have r1 : W1.rowIs w1.heap.size 32 2 (fun q => if q = 0 then .int .i64 m0 else .int .i64 m1) := by
    rw [hW1]
    exact World.rowIs_alloc w1 #[.int .i64 m0, .int .i64 m1] 32 _ fun i hi => by
      simp at hi
      match i, hi with | 0, _ => rfl | 1, _ => rfl
  have HB0 : Hid (Below w.heap.size w W1) := by
    show Below _ _ _
    rw [hW1]
    exact hb1.alloc hb1.size _
  rw [← hW1]
  clear hW1 HMA hb1
  obtain ⟨X, hX⟩ : ∃ X, w1.heap.size = X := ⟨_, rfl⟩
  rw [hX] at r1
  rw [hX]
  have f0 : W1.cell? ⟨X, 0, none⟩ = some (.int .i64 m0) := r1.cell (i := 0) (by omega)
  have f1 : W1.cell? ⟨X, 1, none⟩ = some (.int .i64 m1) := r1.cell (i := 1) (by omega)
  have lX := r1.lt
  clear hX r1
  have HFN := ma_func m0 m1 l vl W1 HM.out.1 HM.out.2 (HL.out.below HB0.out fun _ _ h => h) HP.out
  go_wp2_with fail
  refine HFN.mono ?_
  clear HFN
  rintro e w2 ⟨vv, vb, rfl, hv2, hb2, hbw2⟩
  obtain ⟨av, cv, rfl, lv⟩ := hv2.out
  obtain ⟨ab, cb, rfl, lb⟩ := hb2.out
  have HF : Hid (shapeErr (masonM m0 m1 l) m0 m1 = 0) := mason_shape m0 m1 HM.out.1 HM.out.2 l
  have HFL0 : Hid (flowE (masonM m0 m1 l) m0 m1 ((masonM m0 m1 l).blocks.length * (masonM m0 m1 l).blocks.length + 1) = 0) := mason_flow m0 m1 HM.out.1 HM.out.2 l
  generalize hf : masonM m0 m1 l = f at *
  clear hf
  have f0' : w2.cell? ⟨X, 0, none⟩ = some (.int .i64 m0) := (hbw2.cell (p := ⟨X, 0, none⟩) lX).trans f0
  have f1' : w2.cell? ⟨X, 1, none⟩ = some (.int .i64 m1) := (hbw2.cell (p := ⟨X, 1, none⟩) lX).trans f1
  have lX' : X < w2.heap.size := Nat.lt_of_lt_of_le lX hbw2.size
  have HB2 : Hid (Below w.heap.size w w2) := HB0.out.trans (hbw2.mono HB0.out.size)
  have HV2 : Hid (SlOf w2 1 RInt (.slice av f.values.length cv) f.values) := hv2
  have HBL2 : Hid (SlOf w2 3 (RBlk w2) (.slice ab f.blocks.length cb) f.blocks) := hb2
  unfold longest at lv lb
  clear f0 f1 lX HB0 hbw2 hv2 hb2
  generalize hnv : f.values.length = nv at *
  generalize hnb : f.blocks.length = nb at *
  have HNV : Hid (f.values.length = nv) := hnv
  have HNB : Hid (f.blocks.length = nb) := hnb
  clear hnv hnb
  have HFL : Hid (flowE f m0 m1 (nb * nb + 1) = 0) := HFL0
  clear HFL0
  go_upto_region 3 with fail
  obtain ⟨W, hW⟩ : ∃ W, W = w2.alloc (.cells #[.slice av nv cv, .slice ab nb cb] 25) := ⟨_, rfl⟩
  obtain ⟨Y, hY⟩ : ∃ Y, w2.heap.size = Y := ⟨_, rfl⟩
  have rY : W.rowIs Y 25 2 (fun q => if q = 0 then .slice av nv cv else .slice ab nb cb) := by
    rw [hW, ← hY]
    exact World.rowIs_alloc w2 #[.slice av nv cv, .slice ab nb cb] 25 _ fun i hi => by
      simp at hi
      match i, hi with | 0, _ => rfl | 1, _ => rfl
  have hbW : Below w2.heap.size w2 W := by rw [hW]; exact (Below.refl _ _).alloc (Nat.le_refl _) _
  have g0 : W.cell? ⟨Y, 0, none⟩ = some (.slice av nv cv) := rY.cell (i := 0) (by omega)
  have g1 : W.cell? ⟨Y, 1, none⟩ = some (.slice ab nb cb) := rY.cell (i := 1) (by omega)
  have lY := rY.lt
  have f0 : W.cell? ⟨X, 0, none⟩ = some (.int .i64 m0) := (hbW.cell (p := ⟨X, 0, none⟩) lX').trans f0'
  have f1 : W.cell? ⟨X, 1, none⟩ = some (.int .i64 m1) := (hbW.cell (p := ⟨X, 1, none⟩) lX').trans f1'
  have lX : X < W.heap.size := Nat.lt_of_lt_of_le lX' hbW.size
  have HB : Hid (Below w.heap.size w W) := HB2.out.trans (hbW.mono HB2.out.size)
  have HV : Hid (SlOf W 1 RInt (.slice av nv cv) f.values) := HV2.out.below hbW fun _ _ h => h
  have HBL : Hid (SlOf W 3 (RBlk W) (.slice ab nb cb) f.blocks) := HBL2.out.below hbW (RBlk.below hbW)
  rw [← hW, hY]
  clear hW hY rY hbW f0' f1' lX' HB2 HV2 HBL2
  have HD := sets_any f nv nb m0 m1 av ab cv cb HFL.out HNV.out HNB.out W HV.out HBL.out
  go_wp2_with fail
  refine HD.mono ?_
  clear HD
  rintro e w3 ⟨ga, gb, I, O, rfl, s1, s2, htold, hb3⟩
  have HT3 : Hid (Told3 f.blocks nv I O) := htold
  have HNB0 : Hid (0 < nb ∧ nb ≤ 16 ∧ nv ≤ 160) := by
    have h := flowE_shape HFL.out
    have h1 := (shape_in h).pos
    have h2 := (shape_in h).nb
    have h3 := (shape_in h).nv
    rw [HNB.out] at h1 h2
    rw [HNV.out] at h3
    exact ⟨h1, h2, h3⟩
  have HIN0 : Hid (rowL nv (I 0) = []) := by
    show _ = _
    unfold rowL
    rw [List.map_eq_nil_iff, List.filter_eq_nil_iff]
    intro v hv
    have hvn := List.mem_range.1 hv
    intro hc
    refine first_bare (f := f) (m0 := m0) (m1 := m1) (by rw [HNB.out]; exact HFL.out) v (by rw [HNV.out]; exact hvn) ((HT3.out.1 0 v hvn).1 hc)
  clear htold
  obtain ⟨W4, hW4⟩ : ∃ W4, W4 = w3.alloc (.cells #[.slice (some ⟨ga, 0, none⟩) nb nb, .slice (some ⟨gb, 0, none⟩) nb nb] 37) := ⟨_, rfl⟩
  obtain ⟨Z, hZ⟩ : ∃ Z, w3.heap.size = Z := ⟨_, rfl⟩
  have rZ : W4.rowIs Z 37 2 (fun q => if q = 0 then .slice (some ⟨ga, 0, none⟩) nb nb else .slice (some ⟨gb, 0, none⟩) nb nb) := by
    rw [hW4, ← hZ]
    exact World.rowIs_alloc w3 #[.slice (some ⟨ga, 0, none⟩) nb nb, .slice (some ⟨gb, 0, none⟩) nb nb] 37 _ fun i hi => by
      simp at hi
      match i, hi with | 0, _ => rfl | 1, _ => rfl
  have hb34 : Below w3.heap.size w3 W4 := by rw [hW4]; exact (Below.refl _ _).alloc (Nat.le_refl _) _
  have hb4 : Below W.heap.size W W4 := hb3.trans (hb34.mono hb3.size)
  have z0 : W4.cell? ⟨Z, 0, none⟩ = some (.slice (some ⟨ga, 0, none⟩) nb nb) := rZ.cell (i := 0) (by omega)
  have z1 : W4.cell? ⟨Z, 1, none⟩ = some (.slice (some ⟨gb, 0, none⟩) nb nb) := rZ.cell (i := 1) (by omega)
  have lZ := rZ.lt
  have g0' := (hb4.cell (p := ⟨Y, 0, none⟩) lY).trans g0
  have g1' := (hb4.cell (p := ⟨Y, 1, none⟩) lY).trans g1
  have lY' : Y < W4.heap.size := Nat.lt_of_lt_of_le lY hb4.size
  have HB4 : Hid (Below w.heap.size w W4) := HB.out.trans (hb4.mono HB.out.size)
  have HRI : Hid (SlOf W4 1 (RRow W4) (.slice (some ⟨ga, 0, none⟩) nb nb) ((List.range nb).map fun b => rowL nv (I b))) := s1.below hb34 (RRow.below hb34)
  have HRO : Hid (SlOf W4 1 (RRow W4) (.slice (some ⟨gb, 0, none⟩) nb nb) ((List.range nb).map fun b => rowL nv (O b))) := s2.below hb34 (RRow.below hb34)
  have HBL4 : Hid (SlOf W4 3 (RBlk W4) (.slice ab nb cb) f.blocks) := HBL.out.below hb4 (RBlk.below hb4)
  have HW4 : Hid (W4 = w3.alloc (.cells #[.slice (some ⟨ga, 0, none⟩) nb nb, .slice (some ⟨gb, 0, none⟩) nb nb] 37)) := hW4
  have HZ : Hid (w3.heap.size = Z) := hZ
  have y2 := (hb3.cell (p := ⟨Y, 0, none⟩) lY).trans g0
  have y3 := (hb3.cell (p := ⟨Y, 1, none⟩) lY).trans g1
  clear hW4 hZ rZ hb34 hb4 hb3 s1 s2 f0 f1 g0 g1 lX lY HV HBL HB HM
  go_upto_region 4 with fail
  rw [← HW4.out, HZ.out]
  clear HW4 HZ y2 y3
  obtain ⟨nb0, nb1, nv1⟩ := HNB0.out
  have q0 : decide (0 < nb) = true := by simpa using nb0
  obtain ⟨aq, cq, lq, qr, qs, ql⟩ := rowS_at HRI.out 0 nb0
  have hq0 : (rowL nv (I 0)).length = 0 := by rw [HIN0.out]; rfl
  rw [hq0] at qr
  go_wp2_with fail
  clear qr qs ql hq0
  go_loopw [60] (fun i wr => ∃ k : Nat, k ≤ nb ∧ i = .int .i64 k ∧ Hid (Below W4.heap.size W4 wr)) (fun i _ => nb - (intOf i).toNat)
  case atStart => exact ⟨0, Nat.zero_le _, rfl, Below.refl _ _⟩
  case round =>
    obtain ⟨k, hk, rfl, HBR⟩ := hrel
    have hb0 := HBR.out
    by_cases hlt : k < nb
    · have hkb : k < f.blocks.length := by rw [HNB.out]; exact hlt
      obtain ⟨b5, off5, cs, rfl, hcl5, ⟨vp, vi, ve, rfl, hp, hi, he0⟩, hc⟩ := HBL4.out.at k hkb
      obtain ⟨ae, ce, rfl, le⟩ := he0.out
      obtain ⟨ap', cp', rfl, _⟩ := hp.out
      obtain ⟨ai, ci, rfl, _⟩ := hi.out
      unfold longest at le
      have c0 := (hb0.cell (p := ⟨b5, off5 + k * 3 + 0, none⟩) (block_lt (hc 0 (by simp)))).trans (hc 0 (by simp))
      have c1 := (hb0.cell (p := ⟨b5, off5 + k * 3 + 1, none⟩) (block_lt (hc 1 (by simp)))).trans (hc 1 (by simp))
      have c2 := (hb0.cell (p := ⟨b5, off5 + k * 3 + 2, none⟩) (block_lt (hc 2 (by simp)))).trans (hc 2 (by simp))
      simp at c0 c1 c2
      have HEQ : Hid (∀ v, v < nv → wantL nv I f.blocks[k].edges v = decide ((v : Int) ∈ rowL nv (O k))) := fun v hv => by
        have := want_eq HT3.out hkb v hv
        rw [blkA_at hkb] at this
        exact this
      have HED : Hid (∀ e ∈ f.blocks[k].edges, 0 ≤ e.block ∧ e.block < (nb : Int)) := by
        have := shape_edges (flowE_shape HFL.out) _ (List.getElem_mem hkb)
        rw [HNB.out] at this
        exact this
      have HE : Hid (SlOf W4 2 (REdg W4) (.slice ae f.blocks[k].edges.length ce) f.blocks[k].edges) := he0
      have q1 := (hb0.cell (p := ⟨Y, 0, none⟩) lY').trans g0'
      have LY := old_cell Y
      have lYr : Y < wr.heap.size := Nat.lt_of_lt_of_le lY' hb0.size
      clear hc hcl5 hp hi he0
      generalize f.blocks[k].params.length = np at *
      generalize f.blocks[k].instrs.length = ni at *
      generalize f.blocks[k].edges = es at *
      obtain ⟨wb, hwb⟩ : ∃ wb, wb = wr.alloc (.cells #[.slice ap' np cp', .slice ai ni ci, .slice ae es.length ce] 44) := ⟨_, rfl⟩
      obtain ⟨V, hV⟩ : ∃ V, wr.heap.size = V := ⟨_, rfl⟩
      have HBB : Hid (Below W4.heap.size W4 wb) := by show Below _ _ _; rw [hwb]; exact hb0.alloc hb0.size _
      have HVB : Hid (wb.rowIs V 44 3 (fun q => if q = 0 then .slice ap' np cp' else if q = 1 then .slice ai ni ci else .slice ae es.length ce)) := by
        show World.rowIs _ _ _ _ _
        rw [hwb, ← hV]
        exact World.rowIs_alloc _ _ _ _ fun i hi => by
          simp at hi
          match i, hi with | 0, _ => rfl | 1, _ => rfl | 2, _ => rfl
      have HWB : Hid (wb = wr.alloc (.cells #[.slice ap' np cp', .slice ai ni ci, .slice ae es.length ce] 44)) := hwb
      have HVV : Hid (wr.heap.size = V) := hV
      have lW4V : W4.heap.size ≤ V := by rw [← hV]; exact hb0.size
      clear hwb hV HBR hb0
      go_wp2_with fail
      rw [← HWB.out, HVV.out]
      clear HWB HVV c0 c1 c2 q1 LY lYr
      go_loopw [68] (fun i wr => ∃ v : Nat, v ≤ nv ∧ i = .int .i64 v ∧ Hid (Below wb.heap.size wb wr)) (fun i _ => nv - (intOf i).toNat)
      case atStart => exact ⟨0, Nat.zero_le _, rfl, Below.refl _ _⟩
      case round =>
        obtain ⟨v, hv, rfl, HBR⟩ := hrel
        by_cases hvl : v < nv
        · have x2 : wr.cell? ⟨V, 2, none⟩ = some (.slice ae es.length ce) := (HVB.out.of_block (HBR.out.block _ HVB.out.lt)).cell (i := 2) (by omega)
          have HEV : Hid (wantL nv I es v = decide ((v : Int) ∈ rowL nv (O k))) := HEQ.out v hvl
          have HW0 : Hid (Below wb.heap.size wb wr ∧ wantL nv I (es.take 0) v = false) := ⟨HBR.out, rfl⟩
          clear HBR
          go_wp2_with fail
          clear x2
          go_loopw [74, 14] (fun i c wr => ∃ (j : Nat) (want : Bool), j ≤ es.length ∧ i = .int .i64 j ∧ c = .bool want ∧ Hid (Below wb.heap.size wb wr ∧ wantL nv I (es.take j) v = want)) (fun i _ _ => es.length - (intOf i).toNat)
          case atStart => exact ⟨0, false, Nat.zero_le _, rfl, rfl, HW0⟩
          case round =>
            clear HW0
            obtain ⟨j, want, hj, rfl, rfl, HJ⟩ := hrel
            have hb0 : Below W4.heap.size W4 wr := HBB.out.trans (HJ.out.1.mono HBB.out.size)
            by_cases hjl : j < es.length
            · obtain ⟨b6, off6, cs, rfl, hcl6, ⟨va, rfl, hva⟩, hc⟩ := HE.out.at j hjl
              obtain ⟨aa, ca, rfl, la⟩ := hva.out
              have e0 := (hb0.cell (p := ⟨b6, off6 + j * 2 + 0, none⟩) (block_lt (hc 0 (by simp)))).trans (hc 0 (by simp))
              have e1 := (hb0.cell (p := ⟨b6, off6 + j * 2 + 1, none⟩) (block_lt (hc 1 (by simp)))).trans (hc 1 (by simp))
              simp at e0 e1
              have hed := HED.out es[j] (List.getElem_mem hjl)
              have HST : Hid (wantL nv I (es.take (j + 1)) v = (wantL nv I (es.take j) v || (decide ((v : Int) ∈ es[j].args) || decide ((v : Int) ∈ rowL nv (I es[j].block.toNat))))) := want_take nv I es v j hjl
              clear hc hcl6
              generalize es[j].args = gs at *
              generalize es[j].block = t0 at *
              obtain ⟨t, rfl⟩ : ∃ t : Nat, t0 = t := ⟨t0.toNat, by omega⟩
              rw [Int.toNat_natCast] at HST
              have htn : t < nb := by omega
              obtain ⟨ar, cr, lr, rr, rs, rl⟩ := rowS_at HRI.out t htn
              unfold longest at la rl
              obtain ⟨c1b, hc1⟩ : ∃ b, decide ((v : Int) ∈ gs) = b := ⟨_, rfl⟩
              obtain ⟨c2b, hc2⟩ : ∃ b, decide ((v : Int) ∈ rowL nv (I t)) = b := ⟨_, rfl⟩
              rw [HJ.out.2, hc1, hc2] at HST
              go_upto_region 16 with fail
              obtain ⟨W5, hW5⟩ : ∃ W5, W5 = wr.alloc (.cells #[.int .i64 t, .slice aa gs.length ca] 46) := ⟨_, rfl⟩
              obtain ⟨Q, hQ⟩ : ∃ Q, wr.heap.size = Q := ⟨_, rfl⟩
              have rQ : W5.rowIs Q 46 2 (fun q => if q = 0 then .int .i64 t else .slice aa gs.length ca) := by
                rw [hW5, ← hQ]
                exact World.rowIs_alloc wr #[.int .i64 t, .slice aa gs.length ca] 46 _ fun i hi => by
                  simp at hi
                  match i, hi with | 0, _ => rfl | 1, _ => rfl
              have hbw5 : Below wr.heap.size wr W5 := by rw [hW5]; exact (Below.refl _ _).alloc (Nat.le_refl _) _
              have hb5 : Below W4.heap.size W4 W5 := hb0.trans (hbw5.mono hb0.size)
              have v0 : W5.cell? ⟨Q, 0, none⟩ = some (.int .i64 t) := rQ.cell (i := 0) (by omega)
              have v1 : W5.cell? ⟨Q, 1, none⟩ = some (.slice aa gs.length ca) := rQ.cell (i := 1) (by omega)
              have lQ := rQ.lt
              have hQ4 : W4.heap.size ≤ Q := by rw [← hQ]; exact hb0.size
              have i0 := (hb5.cell (p := ⟨Z, 0, none⟩) lZ).trans z0
              have i1 := (hb5.cell (p := ⟨ga, t, none⟩) lr).trans rr
              have HB5 : Hid (Below wb.heap.size wb W5) := HJ.out.1.trans (hbw5.mono HJ.out.1.size)
              have HCA := has_any gs aa _ ca (v : Int) W5 rfl (hva.below hb5 fun _ _ h => h) c1b hc1
              have HCR : Hid (∀ w', Below W5.heap.size W5 w' → Calls Try.prog 15 #[.slice ar (rowL nv (I t)).length cr, .int .i64 v] w' fun e w'' => e = .returned (.bool c2b) ∧ Below w'.heap.size w' w'') := fun w' hh => has_any (rowL nv (I t)) ar _ cr (v : Int) w' rfl (rs.below (hb5.trans (hh.mono hb5.size)) fun _ _ h => h) c2b hc2
              have HCQ : Hid (∀ w', Below W5.heap.size W5 w' → w'.cell? ⟨Q, 0, none⟩ = some (.int .i64 t) ∧ w'.cell? ⟨Z, 0, none⟩ = some (.slice (some ⟨ga, 0, none⟩) nb nb) ∧ w'.cell? ⟨ga, t, none⟩ = some (.slice ar (rowL nv (I t)).length cr)) := fun w' hh => ⟨(hh.cell (p := ⟨Q, 0, none⟩) lQ).trans v0, (hh.cell (p := ⟨Z, 0, none⟩) (Nat.lt_of_lt_of_le lZ hb5.size)).trans i0, (hh.cell (p := ⟨ga, t, none⟩) (Nat.lt_of_lt_of_le lr hb5.size)).trans i1⟩
              rw [← hW5, hQ]
              clear hW5 hQ rQ hbw5 hb5 hb0 e0 e1 rs rr lr i0 i1 hva HJ hc1 hc2
              generalize (rowL nv (I t)).length = nr at *
              cases want
              · go_wp2_with fail
                refine HCA.mono ?_
                clear HCA
                rintro e w6 ⟨rfl, hb6⟩
                cases c1b
                · obtain ⟨u0, u1, u2⟩ := HCQ.out w6 hb6
                  have HC2 := HCR.out w6 hb6
                  have HB6 : Hid (Below wb.heap.size wb w6) := HB5.out.trans (hb6.mono HB5.out.size)
                  clear hb6 HCR HCQ
                  go_wp2_with fail
                  refine HC2.mono ?_
                  clear HC2 u0 u1 u2
                  rintro e w7 ⟨rfl, hb7⟩
                  have HN : Hid (Below wb.heap.size wb w7 ∧ wantL nv I (es.take (j + 1)) v = c2b) := ⟨HB6.out.trans (hb7.mono HB6.out.size), by rw [HST.out]; rfl⟩
                  clear hb7 HB6 HST
                  go_wp2
                  go_roundw
                  case rel => exact ⟨j + 1, c2b, by omega, by go_num, rfl, HN⟩
                  case measure => simp [intOf]; omega
                · have HN : Hid (Below wb.heap.size wb w6 ∧ wantL nv I (es.take (j + 1)) v = true) := ⟨HB5.out.trans (hb6.mono HB5.out.size), by rw [HST.out]; rfl⟩
                  clear hb6 HCR HCQ HST
                  go_wp2
                  go_roundw
                  case rel => exact ⟨j + 1, true, by omega, by go_num, rfl, HN⟩
                  case measure => simp [intOf]; omega
              · have HN : Hid (Below wb.heap.size wb W5 ∧ wantL nv I (es.take (j + 1)) v = true) := ⟨HB5.out, by rw [HST.out]; rfl⟩
                clear HCR HCQ HST HCA
                go_wp2
                go_roundw
                case rel => exact ⟨j + 1, true, by omega, by go_num, rfl, HN⟩
                case measure => simp [intOf]; omega
            · have hwant : want = decide ((v : Int) ∈ rowL nv (O k)) := by
                have h := HJ.out.2
                rw [List.take_of_length_le (by omega)] at h
                rw [← h]
                exact HEV.out
              obtain ⟨ao, co, lo, or', os, ol⟩ := rowS_at HRO.out k hlt
              have HC := has_any (rowL nv (O k)) ao _ co (v : Int) wr rfl (os.below hb0 fun _ _ h => h) want hwant.symm
              have o1 := (hb0.cell (p := ⟨gb, k, none⟩) lo).trans or'
              have y1 := (hb0.cell (p := ⟨Z, 1, none⟩) lZ).trans z1
              have HB1 : Hid (Below wb.heap.size wb wr) := HJ.out.1
              have hrl := rowL_len nv (O k)
              generalize (rowL nv (O k)).length = nr at *
              clear hwant HJ hb0 os ol or' lo HEV
              go_wp2_with fail
              refine HC.mono ?_
              clear HC o1 y1
              rintro e w6 ⟨rfl, hb6⟩
              have HN : Hid (Below wb.heap.size wb w6) := HB1.out.trans (hb6.mono HB1.out.size)
              clear hb6 HB1
              cases want
              all_goals go_wp2
              all_goals go_roundw
              all_goals first | (exact ⟨v + 1, by omega, by go_num, HN⟩) | (simp [intOf]; omega)
        · have HN : Hid (Below W4.heap.size W4 wr) := HBB.out.trans (HBR.out.mono HBB.out.size)
          clear HBR
          go_wp2
          go_roundw
          case rel => exact ⟨k + 1, by omega, by go_num, HN⟩
          case measure => simp [intOf]; omega
    · have HE : Hid (Below w.heap.size w wr) := HB4.out.trans (hb0.mono HB4.out.size)
      clear hb0 HBR
      go_wp2
      go_ret
      exact ⟨rfl, HE.out⟩

end Go.Proofs.Ytjpmkamacbenhaa
