/-
  The walk of DepthLoops: in a loop one is deeper than ahead of it.
-/
import Derived.Test.YtanhfkpphdbaaabF8
import Derived.Test.YtanhfkpphdbaaabF8t
import Derived.Test.YtanhfkpphdbaaabD1
import Derived.Test.YtanhfkpphdbaaabD2
namespace Go.Proofs.Ytanhfkpphdbaaab
open Go.RowKit
set_option linter.unusedVariables false

set_option maxRecDepth 8000 in
set_option maxHeartbeats 8000000 in
theorem depthLoops_walk (a : Int) (wa : (Lit.int .i64 a).wf = true) (b : Int) (wb : (Lit.int .i64 b).wf = true) (l : List Pc) (vl : Value) (w : World) (hl : SlOf w 7 RPc vl l) (hp : ∀ p ∈ l, PcF p) :
    Calls Try.prog 6 #[.int .i64 a, .int .i64 b, vl] w fun e w' => e = .returned (.bool true) ∧ Below w.heap.size w w' := by
  obtain ⟨a0, a1⟩ := bounds_i64 wa
  obtain ⟨b0, b1⟩ := bounds_i64 wb
  have HMA := machine_any a b w a0 a1 b0 b1
  have hm0 := machine_bd a
  have hm1 := machine_bd b
  generalize 2 + pickedOf a 9 = m0 at *
  generalize 2 + pickedOf b 9 = m1 at *
  have HM : Hid ((2 ≤ m0 ∧ m0 ≤ 10) ∧ 2 ≤ m1 ∧ m1 ≤ 10) := ⟨hm0, hm1⟩
  have HL : Hid (SlOf w 7 RPc vl l) := hl
  have HP : Hid (∀ p ∈ l, PcOk p ∧ -9223372036854775808 ≤ p.kind ∧ p.kind ≤ 9223372036854775807) := hp
  clear wa wb hl hp hm0 hm1
  go_enter Try.func6, Try.ntmps6
  go_upto_region 2 with (go_at_call 7; refine HMA.mono ?_; rintro e w1 ⟨rfl, hb1⟩)
  obtain ⟨W1, hW1⟩ : ∃ W1, W1 = w1.alloc (.cells #[.int .i64 m0, .int .i64 m1] 25) := ⟨_, rfl⟩
  have r1 : W1.rowIs w1.heap.size 25 2 (fun q => if q = 0 then .int .i64 m0 else .int .i64 m1) := by
    rw [hW1]
    exact World.rowIs_alloc w1 #[.int .i64 m0, .int .i64 m1] 25 _ fun i hi => by
      simp at hi
      match i, hi with | 0, _ => rfl | 1, _ => rfl
  have HB0 : Hid (Below w.heap.size w W1) := by
    show Below _ _ _
    rw [hW1]
    exact hb1.alloc hb1.size _
  rw [← hW1]
  clear hW1 HMA hb1
  obtain ⟨X, hX⟩ : ∃ X, w1.heap.size = X := ⟨_, rfl⟩
  rw [hX] at r1
  rw [hX]
  have f0 : W1.cell? ⟨X, 0, none⟩ = some (.int .i64 m0) := r1.cell (i := 0) (by omega)
  have f1 : W1.cell? ⟨X, 1, none⟩ = some (.int .i64 m1) := r1.cell (i := 1) (by omega)
  have lX := r1.lt
  clear hX r1
  have HFN := ma_func m0 m1 l vl W1 HM.out.1 HM.out.2 (HL.out.below HB0.out fun _ _ h => h) HP.out
  go_wp2_with fail
  refine HFN.mono ?_
  clear HFN
  rintro e w2 ⟨vv, vb, rfl, hv2, hb2, hbw2⟩
  obtain ⟨av, cv, rfl, lv⟩ := hv2.out
  obtain ⟨ab, cb, rfl, lb⟩ := hb2.out
  have HF : Hid (shapeErr (masonM m0 m1 l) m0 m1 = 0) := mason_shape m0 m1 HM.out.1 HM.out.2 l
  have HFL0 : Hid (flowE (masonM m0 m1 l) m0 m1 ((masonM m0 m1 l).blocks.length * (masonM m0 m1 l).blocks.length + 1) = 0) := mason_flow m0 m1 HM.out.1 HM.out.2 l
  generalize hf : masonM m0 m1 l = f at *
  clear hf
  have f0' : w2.cell? ⟨X, 0, none⟩ = some (.int .i64 m0) := (hbw2.cell (p := ⟨X, 0, none⟩) lX).trans f0
  have f1' : w2.cell? ⟨X, 1, none⟩ = some (.int .i64 m1) := (hbw2.cell (p := ⟨X, 1, none⟩) lX).trans f1
  have lX' : X < w2.heap.size := Nat.lt_of_lt_of_le lX hbw2.size
  have HB2 : Hid (Below w.heap.size w w2) := HB0.out.trans (hbw2.mono HB0.out.size)
  have HV2 : Hid (SlOf w2 1 RInt (.slice av f.values.length cv) f.values) := hv2
  have HBL2 : Hid (SlOf w2 3 (RBlk w2) (.slice ab f.blocks.length cb) f.blocks) := hb2
  unfold longest at lv lb
  clear f0 f1 lX HB0 hbw2 hv2 hb2
  generalize hnv : f.values.length = nv at *
  generalize hnb : f.blocks.length = nb at *
  have HNV : Hid (f.values.length = nv) := hnv
  have HNB : Hid (f.blocks.length = nb) := hnb
  clear hnv hnb
  have HFL : Hid (flowE f m0 m1 (nb * nb + 1) = 0) := HFL0
  clear HFL0
  go_upto_region 3 with fail
  obtain ⟨W, hW⟩ : ∃ W, W = w2.alloc (.cells #[.slice av nv cv, .slice ab nb cb] 30) := ⟨_, rfl⟩
  obtain ⟨Y, hY⟩ : ∃ Y, w2.heap.size = Y := ⟨_, rfl⟩
  have rY : W.rowIs Y 30 2 (fun q => if q = 0 then .slice av nv cv else .slice ab nb cb) := by
    rw [hW, ← hY]
    exact World.rowIs_alloc w2 #[.slice av nv cv, .slice ab nb cb] 30 _ fun i hi => by
      simp at hi
      match i, hi with | 0, _ => rfl | 1, _ => rfl
  have hbW : Below w2.heap.size w2 W := by rw [hW]; exact (Below.refl _ _).alloc (Nat.le_refl _) _
  have g0 : W.cell? ⟨Y, 0, none⟩ = some (.slice av nv cv) := rY.cell (i := 0) (by omega)
  have g1 : W.cell? ⟨Y, 1, none⟩ = some (.slice ab nb cb) := rY.cell (i := 1) (by omega)
  have lY := rY.lt
  have f0 : W.cell? ⟨X, 0, none⟩ = some (.int .i64 m0) := (hbW.cell (p := ⟨X, 0, none⟩) lX').trans f0'
  have f1 : W.cell? ⟨X, 1, none⟩ = some (.int .i64 m1) := (hbW.cell (p := ⟨X, 1, none⟩) lX').trans f1'
  have lX : X < W.heap.size := Nat.lt_of_lt_of_le lX' hbW.size
  have HB : Hid (Below w.heap.size w W) := HB2.out.trans (hbW.mono HB2.out.size)
  have HV : Hid (SlOf W 1 RInt (.slice av nv cv) f.values) := HV2.out.below hbW fun _ _ h => h
  have HBL : Hid (SlOf W 3 (RBlk W) (.slice ab nb cb) f.blocks) := HBL2.out.below hbW (RBlk.below hbW)
  rw [← hW, hY]
  clear hW hY rY hbW f0' f1' lX' HB2 HV2 HBL2
  have HD := dominators_is f (nb * nb + 1) nv nb m0 m1 av ab cv cb HFL.out HNV.out HNB.out W HV.out HBL.out (fun h => by have := flowIn_all h; rw [HNB.out] at this; exact this)
  go_wp2_with fail
  refine HD.mono ?_
  clear HD
  rintro e w3 ⟨g, ib, db, co, rfl, hg, hi, hd, s1, s2, s3, hb3⟩
  have HTF : Hid (TF f nb (orderM f.blocks) (idomF f (nb * nb + 1)) (depthF f (nb * nb + 1))) := by
    have h := tree_facts (f := f) (m0 := m0) (m1 := m1) (by rw [HNB.out]; exact HFL.out)
    rw [HNB.out] at h
    exact h
  generalize orderM f.blocks = ord at *
  generalize idomF f (nb * nb + 1) = idom at *
  generalize depthF f (nb * nb + 1) = dep at *
  obtain ⟨W4, hW4⟩ : ∃ W4, W4 = w3.alloc (.cells #[.slice (some ⟨g, 0, none⟩) nb co, .slice (some ⟨ib, 0, none⟩) nb nb, .slice (some ⟨db, 0, none⟩) nb nb] 33) := ⟨_, rfl⟩
  obtain ⟨Z, hZ⟩ : ∃ Z, w3.heap.size = Z := ⟨_, rfl⟩
  have rZ : W4.rowIs Z 33 3 (fun q => ([.slice (some ⟨g, 0, none⟩) nb co, .slice (some ⟨ib, 0, none⟩) nb nb, .slice (some ⟨db, 0, none⟩) nb nb] : List Value).getD q (.int .i64 0)) := by
    rw [hW4, ← hZ]
    exact World.rowIs_alloc w3 #[.slice (some ⟨g, 0, none⟩) nb co, .slice (some ⟨ib, 0, none⟩) nb nb, .slice (some ⟨db, 0, none⟩) nb nb] 33 _ fun i hi => by
      simp at hi
      match i, hi with | 0, _ => rfl | 1, _ => rfl | 2, _ => rfl
  have hb34 : Below w3.heap.size w3 W4 := by rw [hW4]; exact (Below.refl _ _).alloc (Nat.le_refl _) _
  have hb4 : Below W.heap.size W W4 := hb3.trans (hb34.mono hb3.size)
  have z0 : W4.cell? ⟨Z, 0, none⟩ = some (.slice (some ⟨g, 0, none⟩) nb co) := rZ.cell (i := 0) (by omega)
  have z1 : W4.cell? ⟨Z, 1, none⟩ = some (.slice (some ⟨ib, 0, none⟩) nb nb) := rZ.cell (i := 1) (by omega)
  have z2 : W4.cell? ⟨Z, 2, none⟩ = some (.slice (some ⟨db, 0, none⟩) nb nb) := rZ.cell (i := 2) (by omega)
  have lZ := rZ.lt
  have g0' := (hb4.cell (p := ⟨Y, 0, none⟩) lY).trans g0
  have g1' := (hb4.cell (p := ⟨Y, 1, none⟩) lY).trans g1
  have lY' : Y < W4.heap.size := Nat.lt_of_lt_of_le lY hb4.size
  have HB4 : Hid (Below w.heap.size w W4) := HB.out.trans (hb4.mono HB.out.size)
  have HO : Hid (SlOf W4 1 RInt (.slice (some ⟨g, 0, none⟩) nb co) ord) := s1.below hb34 fun _ _ h => h
  have HI : Hid (SlOf W4 1 RInt (.slice (some ⟨ib, 0, none⟩) nb nb) (fnL nb idom)) := s2.below hb34 fun _ _ h => h
  have HDP : Hid (SlOf W4 1 RInt (.slice (some ⟨db, 0, none⟩) nb nb) (fnL nb dep)) := s3.below hb34 fun _ _ h => h
  have HBL4 : Hid (SlOf W4 3 (RBlk W4) (.slice ab nb cb) f.blocks) := HBL.out.below hb4 (RBlk.below hb4)
  have HV4 : Hid (SlOf W4 1 RInt (.slice av nv cv) f.values) := HV.out.below hb4 fun _ _ h => h
  have HCO : Hid (w.heap.size ≤ g ∧ w.heap.size ≤ ib ∧ w.heap.size ≤ db) := ⟨Nat.le_trans HB.out.size hg, Nat.le_trans HB.out.size hi, Nat.le_trans HB.out.size hd⟩
  have HW4 : Hid (W4 = w3.alloc (.cells #[.slice (some ⟨g, 0, none⟩) nb co, .slice (some ⟨ib, 0, none⟩) nb nb, .slice (some ⟨db, 0, none⟩) nb nb] 33)) := hW4
  have HZ : Hid (w3.heap.size = Z) := hZ
  have y2 := (hb3.cell (p := ⟨Y, 0, none⟩) lY).trans g0
  have y3 := (hb3.cell (p := ⟨Y, 1, none⟩) lY).trans g1
  clear hW4 hZ rZ hb34 hb4 hb3 s1 s2 s3 hg hi hd f0 f1 g0 g1 lX lY HV HBL HB HM
  go_upto_region 4 with fail
  rw [← HW4.out, HZ.out]
  clear HW4 HZ y2 y3
  obtain ⟨nb0, nb1⟩ : 0 < nb ∧ nb ≤ 16 := ⟨HTF.out.pos, HTF.out.few⟩
  have hd0 := row_fn HDP.out 0 (by omega)
  have hd00 := hd0.1
  rw [HTF.out.dep0] at hd00
  clear hd0
  go_wp2_with fail
  clear hd00
  go_loopw [49] (fun i wr => ∃ k : Nat, k ≤ nb ∧ i = .int .i64 k ∧ Hid (Below W4.heap.size W4 wr)) (fun i _ => nb - (intOf i).toNat)
  case atStart => exact ⟨0, Nat.zero_le _, rfl, Below.refl _ _⟩
  case round =>
    obtain ⟨k, hk, rfl, HBR⟩ := hrel
    have hb0 := HBR.out
    by_cases hlt : k < nb
    · have hkb : k < f.blocks.length := by rw [HTF.out.blen]; exact hlt
      obtain ⟨b5, off5, cs, rfl, hcl5, ⟨vp, vi, ve, rfl, hp, hi, he0⟩, hc⟩ := HBL4.out.at k hkb
      obtain ⟨ae, ce, rfl, le⟩ := he0.out
      obtain ⟨ap', cp', rfl, _⟩ := hp.out
      obtain ⟨ai, ci, rfl, _⟩ := hi.out
      unfold longest at le
      have c0 := (hb0.cell (p := ⟨b5, off5 + k * 3 + 0, none⟩) (block_lt (hc 0 (by simp)))).trans (hc 0 (by simp))
      have c1 := (hb0.cell (p := ⟨b5, off5 + k * 3 + 1, none⟩) (block_lt (hc 1 (by simp)))).trans (hc 1 (by simp))
      have c2 := (hb0.cell (p := ⟨b5, off5 + k * 3 + 2, none⟩) (block_lt (hc 2 (by simp)))).trans (hc 2 (by simp))
      simp at c0 c1 c2
      have HSC : Hid (∀ e ∈ f.blocks[k].edges, 0 ≤ e.block ∧ e.block < (nb : Int) ∧ e.block.toNat ∈ succM f.blocks k) := fun e he => by
        have := HTF.out.rngE _ (List.getElem_mem hkb) e he
        exact ⟨this.1, this.2, succ_mem hkb he⟩
      have HE : Hid (SlOf W4 2 (REdg W4) (.slice ae f.blocks[k].edges.length ce) f.blocks[k].edges) := he0
      have HP0 : Hid (SlOf W4 1 RInt (.slice ap' f.blocks[k].params.length cp') f.blocks[k].params) := hp
      have HI0 : Hid (SlOf W4 3 (RIns W4) (.slice ai f.blocks[k].instrs.length ci) f.blocks[k].instrs) := hi
      clear hc hcl5 hp hi he0
      clear HP0 HI0
      generalize f.blocks[k].params.length = np at *
      generalize f.blocks[k].instrs.length = ni at *
      generalize f.blocks[k].edges = es at *
      go_wp2_with fail
      obtain ⟨wb, hwb⟩ : ∃ wb, wb = wr.alloc (.cells #[.slice ap' np cp', .slice ai ni ci, .slice ae es.length ce] 40) := ⟨_, rfl⟩
      have HBB : Hid (Below W4.heap.size W4 wb) := by show Below _ _ _; rw [hwb]; exact hb0.alloc hb0.size _
      rw [← hwb]
      clear hwb HBR hb0 c0 c1 c2
      go_loopw [57] (fun i w2 => ∃ j : Nat, j ≤ es.length ∧ i = .int .i64 j ∧ Hid (Below W4.heap.size W4 w2)) (fun i _ => es.length - (intOf i).toNat)
      case atStart => exact ⟨0, Nat.zero_le _, rfl, HBB.out⟩
      case round =>
        clear HBB
        obtain ⟨j, hj, rfl, HBR⟩ := hrel
        have hb0 := HBR.out
        by_cases hjl : j < es.length
        · obtain ⟨b6, off6, cs, rfl, hcl6, ⟨va, rfl, hva⟩, hc⟩ := HE.out.at j hjl
          obtain ⟨aa, ca, rfl, _⟩ := hva.out
          have e0 := (hb0.cell (p := ⟨b6, off6 + j * 2 + 0, none⟩) (block_lt (hc 0 (by simp)))).trans (hc 0 (by simp))
          have e1 := (hb0.cell (p := ⟨b6, off6 + j * 2 + 1, none⟩) (block_lt (hc 1 (by simp)))).trans (hc 1 (by simp))
          simp at e0 e1
          have hsc := HSC.out es[j] (List.getElem_mem hjl)
          clear hc hcl6 hva
          generalize es[j].args.length = na at *
          generalize es[j].block = t at *
          obtain ⟨ht0, ht1, hsu⟩ := hsc
          have HSU : Hid (t.toNat ∈ succM f.blocks k) := hsu
          clear hsu
          go_upto_region 12 with fail
          obtain ⟨W5, hW5⟩ : ∃ W5, W5 = wr.alloc (.cells #[.int .i64 t, .slice aa na ca] 50) := ⟨_, rfl⟩
          obtain ⟨V, hV⟩ : ∃ V, wr.heap.size = V := ⟨_, rfl⟩
          have rV : W5.rowIs V 50 2 (fun q => if q = 0 then .int .i64 t else .slice aa na ca) := by
            rw [hW5, ← hV]
            exact World.rowIs_alloc wr #[.int .i64 t, .slice aa na ca] 50 _ fun i hi => by
              simp at hi
              match i, hi with | 0, _ => rfl | 1, _ => rfl
          have hb5 : Below W4.heap.size W4 W5 := by rw [hW5]; exact hb0.alloc hb0.size _
          have rv : W5.cell? ⟨V, 0, none⟩ = some (.int .i64 t) := rV.cell (i := 0) (by omega)
          have lV := rV.lt
          have r0 := (hb5.cell (p := ⟨Z, 0, none⟩) lZ).trans z0
          have r1 := (hb5.cell (p := ⟨Z, 1, none⟩) lZ).trans z1
          have r2 := (hb5.cell (p := ⟨Z, 2, none⟩) lZ).trans z2
          have hrd := row_fn HI.out t.toNat (by omega)
          have rd := (hb5.cell (p := ⟨ib, t.toNat, none⟩) hrd.2).trans hrd.1
          have HIr : Hid (SlOf W5 1 RInt (.slice (some ⟨ib, 0, none⟩) nb nb) (fnL nb idom)) := HI.out.below hb5 fun _ _ h => h
          have lib : ib < W5.heap.size := Nat.lt_of_lt_of_le hrd.2 hb5.size
          have lZr : Z < W5.heap.size := Nat.lt_of_lt_of_le lZ hb5.size
          have HB5 : Hid (Below W4.heap.size W4 W5) := hb5
          rw [← hW5, hV]
          clear hW5 hV rV hrd hb0 e0 e1 hb5
          have HDE := HTF.out.depE k t.toNat (by omega) HSU.out
          rw [Int.toNat_of_nonneg ht0] at HDE
          obtain ⟨dt0, dt1⟩ := HTF.out.depr t.toNat
          obtain ⟨dk0, dk1⟩ := HTF.out.depr k
          have hdt := row_fn HDP.out t.toNat (by omega)
          have hdk := row_fn HDP.out k (by omega)
          obtain ⟨r, hr⟩ : ∃ r, domG idom (nb + 1) t k = r := ⟨_, rfl⟩
          rw [hr] at HDE
          have HC := dominated_is nb idom (.slice (some ⟨g, 0, none⟩) nb co) (.slice (some ⟨db, 0, none⟩) nb nb) (some ⟨ib, 0, none⟩) nb t k r hr W5 HIr.out HTF.out.idr (by omega) (by omega) (by omega)
          clear hr
          generalize dep t.toNat = dt at *
          generalize dep k = dk at *
          have ldb : db < W5.heap.size := Nat.lt_of_lt_of_le hdt.2 HB5.out.size
          have rdt := (HB5.out.cell (p := ⟨db, t.toNat, none⟩) hdt.2).trans hdt.1
          have rdk := (HB5.out.cell (p := ⟨db, k, none⟩) hdk.2).trans hdk.1
          have HDE' : Hid (dt ≤ dk + 1 ∧ (r = true → 1 ≤ dt ∧ dt ≤ dk)) := HDE
          clear HDE hdt hdk rd lib
          go_wp2_with fail
          refine HC.mono ?_
          clear HC
          rintro e w6 ⟨rfl, hb6⟩
          have u2 := (hb6.cell (p := ⟨Z, 2, none⟩) lZr).trans r2
          have uv := (hb6.cell (p := ⟨V, 0, none⟩) lV).trans rv
          have udt := (hb6.cell (p := ⟨db, t.toNat, none⟩) ldb).trans rdt
          have udk := (hb6.cell (p := ⟨db, k, none⟩) ldb).trans rdk
          have HB6 : Hid (Below W4.heap.size W4 w6) := HB5.out.trans (hb6.mono HB5.out.size)
          clear hb6 r0 r1 r2 rv rdt rdk HB5 HIr
          go_upto_region 13 with fail
          cases r
          · have q1 : decide (dk + 1 < dt) = false := by have := HDE'.out.1; simp; omega
            clear HDE'
            go_quiet (fail)
            have HN : Hid (Below W4.heap.size W4 (w6.drewN nq)) := below_drewN HB6.out nq
            go_wp2
            go_roundw
            case rel => exact ⟨j + 1, by omega, by go_num, HN⟩
            case measure => simp [intOf]; omega
          · have q1 : decide (dt < 1) = false := by have := HDE'.out.2 rfl; simp; omega
            have q2 : decide (dk < dt) = false := by have := HDE'.out.2 rfl; simp; omega
            clear HDE'
            go_quiet (fail)
            have HN : Hid (Below W4.heap.size W4 (w6.drewN nq)) := below_drewN HB6.out nq
            go_wp2
            go_roundw
            case rel => exact ⟨j + 1, by omega, by go_num, HN⟩
            case measure => simp [intOf]; omega
        · have HN : Hid (Below W4.heap.size W4 wr) := hb0
          clear hb0 HBR
          go_wp2
          go_roundw
          case rel => exact ⟨k + 1, by omega, by go_num, HN⟩
          case measure => simp [intOf]; omega

    · have HE : Hid (Below w.heap.size w wr) := HB4.out.trans (hb0.mono HB4.out.size)
      have y0 := (hb0.cell (p := ⟨Z, 0, none⟩) lZ).trans z0
      have y1 := (hb0.cell (p := ⟨Y, 1, none⟩) lY').trans g1'
      clear hb0 HBR
      go_wp2
      go_ret
      exact ⟨rfl, HE.out⟩

end Go.Proofs.Ytanhfkpphdbaaab
