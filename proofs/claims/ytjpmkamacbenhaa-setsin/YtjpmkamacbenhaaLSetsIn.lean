/-
  The walk of SetsIn: what is needed at the beginning of a block is not made there, and used there or behind it.
-/
import Derived.Test.YtjpmkamacbenhaaV10
namespace Go.Proofs.Ytjpmkamacbenhaa
open Go.RowKit
set_option linter.unusedVariables false

def oprAny (kk : Int) (os : List Opr) (v : Nat) : Bool := os.any fun o => decide (o.kind = kk) && decide (o.value = (v : Int))
def insAny (kk : Int) (is : List Ins) (v : Nat) : Bool := is.any fun x => oprAny kk x.operands v
theorem oprAny_take (kk : Int) (os : List Opr) (v j : Nat) (h : j < os.length) : oprAny kk (os.take (j + 1)) v = (oprAny kk (os.take j) v || (decide (os[j].kind = kk) && decide (os[j].value = (v : Int)))) := by
  unfold oprAny
  rw [List.take_succ_eq_append_getElem h, List.any_append]
  simp
theorem insAny_take (kk : Int) (is : List Ins) (v j : Nat) (h : j < is.length) : insAny kk (is.take (j + 1)) v = (insAny kk (is.take j) v || oprAny kk is[j].operands v) := by
  unfold insAny
  rw [List.take_succ_eq_append_getElem h, List.any_append]
  simp
theorem insAny_use (is : List Ins) (v : Nat) : insAny 1 is v = decide ((v : Int) ∈ insU is) := by
  rw [Bool.eq_iff_iff]
  unfold insAny oprAny insU oprU
  simp only [List.any_eq_true, Bool.and_eq_true, decide_eq_true_eq, List.mem_flatMap, List.mem_map, List.mem_filter]
  constructor
  · rintro ⟨x, hx, o, ho, h1, h2⟩
    exact ⟨x, hx, o, ⟨ho, h1⟩, h2⟩
  · rintro ⟨x, hx, o, ⟨ho, h1⟩, h2⟩
    exact ⟨x, hx, o, ho, h1, h2⟩
theorem insAny_def (is : List Ins) (v : Nat) : insAny 2 is v = decide ((v : Int) ∈ insM is) := by
  rw [Bool.eq_iff_iff]
  unfold insAny oprAny insM oprM
  simp only [List.any_eq_true, Bool.and_eq_true, decide_eq_true_eq, List.mem_flatMap, List.mem_map, List.mem_filter]
  constructor
  · rintro ⟨x, hx, o, ho, h1, h2⟩
    exact ⟨x, hx, o, ⟨ho, h1⟩, h2⟩
  · rintro ⟨x, hx, o, ⟨ho, h1⟩, h2⟩
    exact ⟨x, hx, o, ho, h1, h2⟩
theorem in_eq {bs : List Blk} {nv : Nat} {I O : Tb} (h : Told3 bs nv I O) {k : Nat} (hk : k < bs.length) (v : Nat) (hv : v < nv) : ((decide ((v : Int) ∈ rowL nv (O k)) || insAny 1 (blkA bs k).instrs v) && !(decide ((v : Int) ∈ (blkA bs k).params) || insAny 2 (blkA bs k).instrs v)) = decide ((v : Int) ∈ rowL nv (I k)) := by
  rw [insAny_use, insAny_def, Bool.eq_iff_iff]
  simp only [Bool.and_eq_true, Bool.or_eq_true, Bool.not_eq_true', Bool.or_eq_false_iff, decide_eq_true_eq, decide_eq_false_iff_not, mem_rowL]
  rw [h.2 k v hv, h.1 k v hv, NeedIn.iff]
  unfold makersOf
  simp only [List.mem_append, not_or]
  constructor
  · rintro ⟨h1, h2⟩
    exact ⟨hv, hk, h2, h1.symm.imp id And.right⟩
  · rintro ⟨_, _, h2, h1⟩
    exact ⟨h1.symm.imp (fun h => ⟨hv, h⟩) id, h2⟩
set_option maxRecDepth 8000 in
set_option maxHeartbeats 8000000 in
theorem setsIn_walk (a : Int) (wa : (Lit.int .i64 a).wf = true) (b : Int) (wb : (Lit.int .i64 b).wf = true) (l : List Pc) (vl : Value) (w : World) (hl : SlOf w 7 RPc vl l) (hp : ∀ p ∈ l, PcF p) :
    Calls Try.prog 5 #[.int .i64 a, .int .i64 b, vl] w fun e w' => e = .returned (.bool true) ∧ Below w.heap.size w w' := by
  obtain ⟨a0, a1⟩ := bounds_i64 wa
  obtain ⟨b0, b1⟩ := bounds_i64 wb
  have HMA := machine_any a b w a0 a1 b0 b1
  have hm0 := machine_bd a
  have hm1 := machine_bd b
  generalize 2 + pickedOf a 9 = m0 at *
  generalize 2 + pickedOf b 9 = m1 at *
  have HM : Hid ((2 ≤ m0 ∧ m0 ≤ 10) ∧ 2 ≤ m1 ∧ m1 ≤ 10) := ⟨hm0, hm1⟩
  have HL : Hid (SlOf w 7 RPc vl l) := hl
  have HP : Hid (∀ p ∈ l, PcOk p ∧ -9223372036854775808 ≤ p.kind ∧ p.kind ≤ 9223372036854775807) := hp
  clear wa wb hl hp hm0 hm1
  go_enter Try.func5, Try.ntmps5
  go_upto_region 2 with (go_at_call 12; refine HMA.mono ?_; rintro e w1 ⟨rfl, hb1⟩)
  obtain ⟨W1, hW1⟩ : ∃ W1, W1 = w1.alloc (.cells #[.int .i64 m0, .int .i64 m1] 32) := ⟨_, rfl⟩
  have r1 : W1.rowIs w1.heap.size 32 2 (fun q => if q = 0 then .int .i64 m0 else .int .i64 m1) := by
    rw [hW1]
    exact World.rowIs_alloc w1 #[.int .i64 m0, .int .i64 m1] 32 _ fun i hi => by
      simp at hi
      match i, hi with | 0, _ => rfl | 1, _ => rfl
  have HB0 : Hid (Below w.heap.size w W1) := by
    show Below _ _ _
    rw [hW1]
    exact hb1.alloc hb1.size _
  rw [← hW1]
  clear hW1 HMA hb1
  obtain ⟨X, hX⟩ : ∃ X, w1.heap.size = X := ⟨_, rfl⟩
  rw [hX] at r1
  rw [hX]
  have f0 : W1.cell? ⟨X, 0, none⟩ = some (.int .i64 m0) := r1.cell (i := 0) (by omega)
  have f1 : W1.cell? ⟨X, 1, none⟩ = some (.int .i64 m1) := r1.cell (i := 1) (by omega)
  have lX := r1.lt
  clear hX r1
  have HFN := ma_func m0 m1 l vl W1 HM.out.1 HM.out.2 (HL.out.below HB0.out fun _ _ h => h) HP.out
  go_wp2_with fail
  refine HFN.mono ?_
  clear HFN
  rintro e w2 ⟨vv, vb, rfl, hv2, hb2, hbw2⟩
  obtain ⟨av, cv, rfl, lv⟩ := hv2.out
  obtain ⟨ab, cb, rfl, lb⟩ := hb2.out
  have HF : Hid (shapeErr (masonM m0 m1 l) m0 m1 = 0) := mason_shape m0 m1 HM.out.1 HM.out.2 l
  have HFL0 : Hid (flowE (masonM m0 m1 l) m0 m1 ((masonM m0 m1 l).blocks.length * (masonM m0 m1 l).blocks.length + 1) = 0) := mason_flow m0 m1 HM.out.1 HM.out.2 l
  generalize hf : masonM m0 m1 l = f at *
  clear hf
  have f0' : w2.cell? ⟨X, 0, none⟩ = some (.int .i64 m0) := (hbw2.cell (p := ⟨X, 0, none⟩) lX).trans f0
  have f1' : w2.cell? ⟨X, 1, none⟩ = some (.int .i64 m1) := (hbw2.cell (p := ⟨X, 1, none⟩) lX).trans f1
  have lX' : X < w2.heap.size := Nat.lt_of_lt_of_le lX hbw2.size
  have HB2 : Hid (Below w.heap.size w w2) := HB0.out.trans (hbw2.mono HB0.out.size)
  have HV2 : Hid (SlOf w2 1 RInt (.slice av f.values.length cv) f.values) := hv2
  have HBL2 : Hid (SlOf w2 3 (RBlk w2) (.slice ab f.blocks.length cb) f.blocks) := hb2
  unfold longest at lv lb
  clear f0 f1 lX HB0 hbw2 hv2 hb2
  generalize hnv : f.values.length = nv at *
  generalize hnb : f.blocks.length = nb at *
  have HNV : Hid (f.values.length = nv) := hnv
  have HNB : Hid (f.blocks.length = nb) := hnb
  clear hnv hnb
  have HFL : Hid (flowE f m0 m1 (nb * nb + 1) = 0) := HFL0
  clear HFL0
  go_upto_region 3 with fail
  obtain ⟨W, hW⟩ : ∃ W, W = w2.alloc (.cells #[.slice av nv cv, .slice ab nb cb] 25) := ⟨_, rfl⟩
  obtain ⟨Y, hY⟩ : ∃ Y, w2.heap.size = Y := ⟨_, rfl⟩
  have rY : W.rowIs Y 25 2 (fun q => if q = 0 then .slice av nv cv else .slice ab nb cb) := by
    rw [hW, ← hY]
    exact World.rowIs_alloc w2 #[.slice av nv cv, .slice ab nb cb] 25 _ fun i hi => by
      simp at hi
      match i, hi with | 0, _ => rfl | 1, _ => rfl
  have hbW : Below w2.heap.size w2 W := by rw [hW]; exact (Below.refl _ _).alloc (Nat.le_refl _) _
  have g0 : W.cell? ⟨Y, 0, none⟩ = some (.slice av nv cv) := rY.cell (i := 0) (by omega)
  have g1 : W.cell? ⟨Y, 1, none⟩ = some (.slice ab nb cb) := rY.cell (i := 1) (by omega)
  have lY := rY.lt
  have f0 : W.cell? ⟨X, 0, none⟩ = some (.int .i64 m0) := (hbW.cell (p := ⟨X, 0, none⟩) lX').trans f0'
  have f1 : W.cell? ⟨X, 1, none⟩ = some (.int .i64 m1) := (hbW.cell (p := ⟨X, 1, none⟩) lX').trans f1'
  have lX : X < W.heap.size := Nat.lt_of_lt_of_le lX' hbW.size
  have HB : Hid (Below w.heap.size w W) := HB2.out.trans (hbW.mono HB2.out.size)
  have HV : Hid (SlOf W 1 RInt (.slice av nv cv) f.values) := HV2.out.below hbW fun _ _ h => h
  have HBL : Hid (SlOf W 3 (RBlk W) (.slice ab nb cb) f.blocks) := HBL2.out.below hbW (RBlk.below hbW)
  rw [← hW, hY]
  clear hW hY rY hbW f0' f1' lX' HB2 HV2 HBL2
  have HD := sets_any f nv nb m0 m1 av ab cv cb HFL.out HNV.out HNB.out W HV.out HBL.out
  go_wp2_with fail
  refine HD.mono ?_
  clear HD
  rintro e w3 ⟨ga, gb, I, O, rfl, s1, s2, htold, hb3⟩
  have HT3 : Hid (Told3 f.blocks nv I O) := htold
  have HNB0 : Hid (0 < nb ∧ nb ≤ 16 ∧ nv ≤ 160) := by
    have h := flowE_shape HFL.out
    have h1 := (shape_in h).pos
    have h2 := (shape_in h).nb
    have h3 := (shape_in h).nv
    rw [HNB.out] at h1 h2
    rw [HNV.out] at h3
    exact ⟨h1, h2, h3⟩
  have HIN0 : Hid (rowL nv (I 0) = []) := by
    show _ = _
    unfold rowL
    rw [List.map_eq_nil_iff, List.filter_eq_nil_iff]
    intro v hv
    have hvn := List.mem_range.1 hv
    intro hc
    refine first_bare (f := f) (m0 := m0) (m1 := m1) (by rw [HNB.out]; exact HFL.out) v (by rw [HNV.out]; exact hvn) ((HT3.out.1 0 v hvn).1 hc)
  clear htold
  obtain ⟨W4, hW4⟩ : ∃ W4, W4 = w3.alloc (.cells #[.slice (some ⟨ga, 0, none⟩) nb nb, .slice (some ⟨gb, 0, none⟩) nb nb] 37) := ⟨_, rfl⟩
  obtain ⟨Z, hZ⟩ : ∃ Z, w3.heap.size = Z := ⟨_, rfl⟩
  have rZ : W4.rowIs Z 37 2 (fun q => if q = 0 then .slice (some ⟨ga, 0, none⟩) nb nb else .slice (some ⟨gb, 0, none⟩) nb nb) := by
    rw [hW4, ← hZ]
    exact World.rowIs_alloc w3 #[.slice (some ⟨ga, 0, none⟩) nb nb, .slice (some ⟨gb, 0, none⟩) nb nb] 37 _ fun i hi => by
      simp at hi
      match i, hi with | 0, _ => rfl | 1, _ => rfl
  have hb34 : Below w3.heap.size w3 W4 := by rw [hW4]; exact (Below.refl _ _).alloc (Nat.le_refl _) _
  have hb4 : Below W.heap.size W W4 := hb3.trans (hb34.mono hb3.size)
  have z0 : W4.cell? ⟨Z, 0, none⟩ = some (.slice (some ⟨ga, 0, none⟩) nb nb) := rZ.cell (i := 0) (by omega)
  have z1 : W4.cell? ⟨Z, 1, none⟩ = some (.slice (some ⟨gb, 0, none⟩) nb nb) := rZ.cell (i := 1) (by omega)
  have lZ := rZ.lt
  have g0' := (hb4.cell (p := ⟨Y, 0, none⟩) lY).trans g0
  have g1' := (hb4.cell (p := ⟨Y, 1, none⟩) lY).trans g1
  have lY' : Y < W4.heap.size := Nat.lt_of_lt_of_le lY hb4.size
  have HB4 : Hid (Below w.heap.size w W4) := HB.out.trans (hb4.mono HB.out.size)
  have HRI : Hid (SlOf W4 1 (RRow W4) (.slice (some ⟨ga, 0, none⟩) nb nb) ((List.range nb).map fun b => rowL nv (I b))) := s1.below hb34 (RRow.below hb34)
  have HRO : Hid (SlOf W4 1 (RRow W4) (.slice (some ⟨gb, 0, none⟩) nb nb) ((List.range nb).map fun b => rowL nv (O b))) := s2.below hb34 (RRow.below hb34)
  have HBL4 : Hid (SlOf W4 3 (RBlk W4) (.slice ab nb cb) f.blocks) := HBL.out.below hb4 (RBlk.below hb4)
  have HW4 : Hid (W4 = w3.alloc (.cells #[.slice (some ⟨ga, 0, none⟩) nb nb, .slice (some ⟨gb, 0, none⟩) nb nb] 37)) := hW4
  have HZ : Hid (w3.heap.size = Z) := hZ
  have y2 := (hb3.cell (p := ⟨Y, 0, none⟩) lY).trans g0
  have y3 := (hb3.cell (p := ⟨Y, 1, none⟩) lY).trans g1
  clear hW4 hZ rZ hb34 hb4 hb3 s1 s2 f0 f1 g0 g1 lX lY HV HBL HB HM
  go_upto_region 4 with fail
  rw [← HW4.out, HZ.out]
  clear HW4 HZ y2 y3
  obtain ⟨nb0, nb1, nv1⟩ := HNB0.out
  have q0 : decide (0 < nb) = true := by simpa using nb0
  go_wp2_with fail
  go_loopw [46] (fun i wr => ∃ k : Nat, k ≤ nb ∧ i = .int .i64 k ∧ Hid (Below W4.heap.size W4 wr)) (fun i _ => nb - (intOf i).toNat)
  case atStart => exact ⟨0, Nat.zero_le _, rfl, Below.refl _ _⟩
  case round =>
    obtain ⟨k, hk, rfl, HBR⟩ := hrel
    have hb0 := HBR.out
    by_cases hlt : k < nb
    · have hkb : k < f.blocks.length := by rw [HNB.out]; exact hlt
      obtain ⟨b5, off5, cs, rfl, hcl5, ⟨vp, vi, ve, rfl, hp, hi, he0⟩, hc⟩ := HBL4.out.at k hkb
      obtain ⟨ae, ce, rfl, le⟩ := he0.out
      obtain ⟨ap', cp', rfl, _⟩ := hp.out
      obtain ⟨ai, ci, rfl, _⟩ := hi.out
      unfold longest at le
      have c0 := (hb0.cell (p := ⟨b5, off5 + k * 3 + 0, none⟩) (block_lt (hc 0 (by simp)))).trans (hc 0 (by simp))
      have c1 := (hb0.cell (p := ⟨b5, off5 + k * 3 + 1, none⟩) (block_lt (hc 1 (by simp)))).trans (hc 1 (by simp))
      have c2 := (hb0.cell (p := ⟨b5, off5 + k * 3 + 2, none⟩) (block_lt (hc 2 (by simp)))).trans (hc 2 (by simp))
      simp at c0 c1 c2
      have HEQ : Hid (∀ v, v < nv → ((decide ((v : Int) ∈ rowL nv (O k)) || insAny 1 f.blocks[k].instrs v) && !(decide ((v : Int) ∈ f.blocks[k].params) || insAny 2 f.blocks[k].instrs v)) = decide ((v : Int) ∈ rowL nv (I k))) := fun v hv => by
        have := in_eq HT3.out hkb v hv
        rw [blkA_at hkb] at this
        exact this
      obtain ⟨_, _, _, li⟩ := hi.out
      obtain ⟨_, _, _, lp⟩ := hp.out
      unfold longest at li lp
      have HPS : Hid (SlOf W4 1 RInt (.slice ap' f.blocks[k].params.length cp') f.blocks[k].params) := hp
      have HIS : Hid (SlOf W4 3 (RIns W4) (.slice ai f.blocks[k].instrs.length ci) f.blocks[k].instrs) := hi
      have q1 := (hb0.cell (p := ⟨Y, 0, none⟩) lY').trans g0'
      have LY := old_cell Y
      have lYr : Y < wr.heap.size := Nat.lt_of_lt_of_le lY' hb0.size
      clear hc hcl5 hp hi he0
      generalize f.blocks[k].params = ps at *
      generalize f.blocks[k].instrs = is at *
      generalize f.blocks[k].edges.length = ne at *
      obtain ⟨wb, hwb⟩ : ∃ wb, wb = wr.alloc (.cells #[.slice ap' ps.length cp', .slice ai is.length ci, .slice ae ne ce] 44) := ⟨_, rfl⟩
      obtain ⟨V, hV⟩ : ∃ V, wr.heap.size = V := ⟨_, rfl⟩
      have HBB : Hid (Below W4.heap.size W4 wb) := by show Below _ _ _; rw [hwb]; exact hb0.alloc hb0.size _
      have HVB : Hid (wb.rowIs V 44 3 (fun q => if q = 0 then .slice ap' ps.length cp' else if q = 1 then .slice ai is.length ci else .slice ae ne ce)) := by
        show World.rowIs _ _ _ _ _
        rw [hwb, ← hV]
        exact World.rowIs_alloc _ _ _ _ fun i hi => by
          simp at hi
          match i, hi with | 0, _ => rfl | 1, _ => rfl | 2, _ => rfl
      have HWB : Hid (wb = wr.alloc (.cells #[.slice ap' ps.length cp', .slice ai is.length ci, .slice ae ne ce] 44)) := hwb
      have HVV : Hid (wr.heap.size = V) := hV
      have lW4V : W4.heap.size ≤ V := by rw [← hV]; exact hb0.size
      clear hwb hV HBR hb0
      go_wp2_with fail
      rw [← HWB.out, HVV.out]
      clear HWB HVV c0 c1 c2 q1 LY lYr
      go_loopw [54] (fun i wr => ∃ v : Nat, v ≤ nv ∧ i = .int .i64 v ∧ Hid (Below wb.heap.size wb wr)) (fun i _ => nv - (intOf i).toNat)
      case atStart => exact ⟨0, Nat.zero_le _, rfl, Below.refl _ _⟩
      case round =>
        obtain ⟨v, hv, rfl, HBR⟩ := hrel
        by_cases hvl : v < nv
        · have hb0 : Below W4.heap.size W4 wr := HBB.out.trans (HBR.out.mono HBB.out.size)
          have HEV := HEQ.out v hvl
          obtain ⟨u0, hu0⟩ : ∃ b, decide ((v : Int) ∈ rowL nv (O k)) = b := ⟨_, rfl⟩
          obtain ⟨d0, hd0⟩ : ∃ b, decide ((v : Int) ∈ ps) = b := ⟨_, rfl⟩
          obtain ⟨r0, hr0⟩ : ∃ b, decide ((v : Int) ∈ rowL nv (I k)) = b := ⟨_, rfl⟩
          rw [hu0, hd0, hr0] at HEV
          have HEVH : Hid (((u0 || insAny 1 is v) && !(d0 || insAny 2 is v)) = r0) := HEV
          obtain ⟨ao, co, lo, or', os', ol⟩ := rowS_at HRO.out k hlt
          unfold longest at ol
          have HC := has_any (rowL nv (O k)) ao _ co (v : Int) wr rfl (os'.below hb0 fun _ _ h => h) u0 hu0
          have HCI : Hid (∀ w', Below W4.heap.size W4 w' → ∃ ar cr nr, w'.cell? ⟨Z, 0, none⟩ = some (.slice (some ⟨ga, 0, none⟩) nb nb) ∧ w'.cell? ⟨ga, k, none⟩ = some (.slice ar nr cr) ∧ nr ≤ 140737488355328 ∧ Calls Try.prog 15 #[.slice ar nr cr, .int .i64 v] w' fun e w'' => e = .returned (.bool r0) ∧ Below w'.heap.size w' w'') := fun w' hh => by
            obtain ⟨ar, cr, lr, rr, rs, rl⟩ := rowS_at HRI.out k hlt
            exact ⟨ar, cr, _, (hh.cell (p := ⟨Z, 0, none⟩) lZ).trans z0, (hh.cell (p := ⟨ga, k, none⟩) lr).trans rr, rl, has_any (rowL nv (I k)) ar _ cr (v : Int) w' rfl (rs.below hh fun _ _ h => h) r0 hr0⟩
          have HCP : Hid (∀ w', Below W4.heap.size W4 w' → Calls Try.prog 15 #[.slice ap' ps.length cp', .int .i64 v] w' fun e w'' => e = .returned (.bool d0) ∧ Below w'.heap.size w' w'') := fun w' hh => has_any ps ap' _ cp' (v : Int) w' rfl (HPS.out.below hh fun _ _ h => h) d0 hd0
          have o1 := (hb0.cell (p := ⟨gb, k, none⟩) lo).trans or'
          have y1 := (hb0.cell (p := ⟨Z, 1, none⟩) lZ).trans z1
          have HB1 : Hid (Below wb.heap.size wb wr) := HBR.out
          generalize (rowL nv (O k)).length = nr at *
          clear HBR hb0 os' or' lo HEV hu0 hd0 hr0
          go_wp2_with fail
          refine HC.mono ?_
          clear HC o1 y1
          rintro e w6 ⟨rfl, hb6⟩
          have HB6 : Hid (Below wb.heap.size wb w6) := HB1.out.trans (hb6.mono HB1.out.size)
          have x0 : w6.cell? ⟨V, 0, none⟩ = some (.slice ap' ps.length cp') := (HVB.out.of_block (HB6.out.block _ HVB.out.lt)).cell (i := 0) (by omega)
          have HC2 := HCP.out w6 (HBB.out.trans (HB6.out.mono HBB.out.size))
          clear hb6 HB1 HCP
          go_wp2_with fail
          refine HC2.mono ?_
          clear HC2 x0
          rintro e w7 ⟨rfl, hb7⟩
          have HB7 : Hid (Below wb.heap.size wb w7) := HB6.out.trans (hb7.mono HB6.out.size)
          have x1 : w7.cell? ⟨V, 1, none⟩ = some (.slice ai is.length ci) := (HVB.out.of_block (HB7.out.block _ HVB.out.lt)).cell (i := 1) (by omega)
          have HW0 : Hid (Below wb.heap.size wb w7 ∧ (u0 || insAny 1 (is.take 0) v) = u0 ∧ (d0 || insAny 2 (is.take 0) v) = d0) := ⟨HB7.out, by simp [insAny], by simp [insAny]⟩
          clear hb7 HB6 HB7
          go_wp2_with fail
          clear x1
          go_loopw [71, 14, 15] (fun i c d wr => ∃ (j : Nat) (u m : Bool), j ≤ is.length ∧ i = .int .i64 j ∧ c = .bool u ∧ d = .bool m ∧ Hid (Below wb.heap.size wb wr ∧ (u0 || insAny 1 (is.take j) v) = u ∧ (d0 || insAny 2 (is.take j) v) = m)) (fun i _ _ _ => is.length - (intOf i).toNat)
          case atStart => exact ⟨0, u0, d0, Nat.zero_le _, rfl, rfl, rfl, HW0⟩
          case round =>
            clear HW0
            obtain ⟨i, ub, mb, hi, rfl, rfl, rfl, HI⟩ := hrel
            have hb0 : Below W4.heap.size W4 wr := HBB.out.trans (HI.out.1.mono HBB.out.size)
            by_cases hil : i < is.length
            · obtain ⟨b7, off7, cs, rfl, hcl7, ⟨vo, vs, rfl, hvo, hvs⟩, hc⟩ := HIS.out.at i hil
              obtain ⟨ao', co', rfl, lo'⟩ := hvo.out
              obtain ⟨asp, cs', rfl, _⟩ := hvs.out
              unfold longest at lo'
              have c0 := (hb0.cell (p := ⟨b7, off7 + i * 3 + 0, none⟩) (block_lt (hc 0 (by simp)))).trans (hc 0 (by simp))
              have c1 := (hb0.cell (p := ⟨b7, off7 + i * 3 + 1, none⟩) (block_lt (hc 1 (by simp)))).trans (hc 1 (by simp))
              have c2 := (hb0.cell (p := ⟨b7, off7 + i * 3 + 2, none⟩) (block_lt (hc 2 (by simp)))).trans (hc 2 (by simp))
              simp at c0 c1 c2
              have HT1 : Hid (insAny 1 (is.take (i + 1)) v = (insAny 1 (is.take i) v || oprAny 1 is[i].operands v)) := insAny_take 1 is v i hil
              have HT2 : Hid (insAny 2 (is.take (i + 1)) v = (insAny 2 (is.take i) v || oprAny 2 is[i].operands v)) := insAny_take 2 is v i hil
              clear hc hcl7 hvs
              generalize is[i].op = op at *
              generalize is[i].spoils.length = ns at *
              generalize is[i].operands = os at *
              have HOS : Hid (SlOf W4 5 ROpr (.slice ao' os.length co') os) := hvo
              obtain ⟨wc, hwc⟩ : ∃ wc, wc = wr.alloc (.cells #[.int .i64 op, .slice ao' os.length co', .slice asp ns cs'] 52) := ⟨_, rfl⟩
              have HI2 : Hid (Below wb.heap.size wb wc ∧ (ub || oprAny 1 (os.take 0) v) = ub ∧ (mb || oprAny 2 (os.take 0) v) = mb) := by
                refine ⟨?_, by simp [oprAny], by simp [oprAny]⟩
                rw [hwc]
                exact HI.out.1.alloc HI.out.1.size _
              have HUM : Hid ((u0 || insAny 1 (is.take i) v) = ub ∧ (d0 || insAny 2 (is.take i) v) = mb) := HI.out.2
              clear hvo hb0 HI
              go_wp2_with fail
              rw [← hwc]
              clear hwc c0 c1 c2
              go_loopw [78, 14, 15] (fun i c d wr => ∃ (j : Nat) (u m : Bool), j ≤ os.length ∧ i = .int .i64 j ∧ c = .bool u ∧ d = .bool m ∧ Hid (Below wb.heap.size wb wr ∧ (ub || oprAny 1 (os.take j) v) = u ∧ (mb || oprAny 2 (os.take j) v) = m)) (fun i _ _ _ => os.length - (intOf i).toNat)
              case atStart => exact ⟨0, ub, mb, Nat.zero_le _, rfl, rfl, rfl, HI2⟩
              case round =>
                clear HI2
                obtain ⟨j, u, m, hj, rfl, rfl, rfl, HO⟩ := hrel
                have hb0 : Below W4.heap.size W4 wr := HBB.out.trans (HO.out.1.mono HBB.out.size)
                by_cases hjl : j < os.length
                · obtain ⟨b8, off8, rfl, hb8, o0, o1, o2, o3, o4⟩ := opr_cells HOS.out j hjl
                  have e0 := (hb0.cell (p := ⟨b8, _, none⟩) hb8).trans o0
                  have e1 := (hb0.cell (p := ⟨b8, _, none⟩) hb8).trans o1
                  have e2 := (hb0.cell (p := ⟨b8, _, none⟩) hb8).trans o2
                  have e3 := (hb0.cell (p := ⟨b8, _, none⟩) hb8).trans o3
                  have e4 := (hb0.cell (p := ⟨b8, _, none⟩) hb8).trans o4
                  have hS1 := oprAny_take 1 os v j hjl
                  have hS2 := oprAny_take 2 os v j hjl
                  have hO1 := HO.out.2.1
                  have hO2 := HO.out.2.2
                  clear o0 o1 o2 o3 o4 hb8
                  generalize os[j] = o at *
                  have hB2 : Below wb.heap.size wb (wr.alloc (.cells #[.int .i64 o.kind, .int .i64 o.value, .bool o.late, .int .i64 o.limit, .int .i64 o.n] 54)) := HO.out.1.alloc HO.out.1.size _
                  have HR1 : Hid ((ub || oprAny 1 (os.take (j + 1)) v) = (u || (decide (o.kind = 1) && decide (o.value = (v : Int))))) := by show _ = _; rw [hS1, ← Bool.or_assoc, hO1]
                  have HR2 : Hid ((mb || oprAny 2 (os.take (j + 1)) v) = (m || (decide (o.kind = 2) && decide (o.value = (v : Int))))) := by show _ = _; rw [hS2, ← Bool.or_assoc, hO2]
                  have HBO : Hid (Below wb.heap.size wb (wr.alloc (.cells #[.int .i64 o.kind, .int .i64 o.value, .bool o.late, .int .i64 o.limit, .int .i64 o.n] 54))) := hB2
                  clear hS1 hS2 hO1 hO2 hB2 hb0 HO
                  obtain ⟨k1, hk1⟩ : ∃ b, decide (o.kind = 1) = b := ⟨_, rfl⟩
                  obtain ⟨k2, hk2⟩ : ∃ b, decide (o.kind = 2) = b := ⟨_, rfl⟩
                  obtain ⟨kv, hkv⟩ : ∃ b, decide (o.value = (v : Int)) = b := ⟨_, rfl⟩
                  have q1 : (o.kind == 1) = k1 := by rw [← hk1]; rfl
                  have q2 : (o.kind == 2) = k2 := by rw [← hk2]; rfl
                  have q3 : (o.value == (v : Int)) = kv := by rw [← hkv]; rfl
                  rw [hk1, hkv] at HR1
                  rw [hk2, hkv] at HR2
                  clear hk1 hk2 hkv
                  obtain ⟨u', hu'⟩ : ∃ b, (u || (k1 && kv)) = b := ⟨_, rfl⟩
                  obtain ⟨m', hm'⟩ : ∃ b, (m || (k2 && kv)) = b := ⟨_, rfl⟩
                  have HN : Hid (Below wb.heap.size wb (wr.alloc (.cells #[.int .i64 o.kind, .int .i64 o.value, .bool o.late, .int .i64 o.limit, .int .i64 o.n] 54)) ∧ (ub || oprAny 1 (os.take (j + 1)) v) = u' ∧ (mb || oprAny 2 (os.take (j + 1)) v) = m') := ⟨HBO.out, HR1.out.trans hu', HR2.out.trans hm'⟩
                  clear HR1 HR2 HBO
                  cases u <;> cases m <;> cases k1 <;> cases k2 <;> cases kv <;> (subst hu' hm')
                  all_goals go_wp2
                  all_goals go_roundw
                  all_goals first | (exact ⟨j + 1, _, _, by omega, by go_num, rfl, rfl, HN⟩) | (simp [intOf]; omega)
                · have HN : Hid (Below wb.heap.size wb wr ∧ (u0 || insAny 1 (is.take (i + 1)) v) = u ∧ (d0 || insAny 2 (is.take (i + 1)) v) = m) := by
                    have h := HO.out
                    rw [show os.take j = os from List.take_of_length_le (by omega)] at h
                    refine ⟨h.1, ?_, ?_⟩
                    · rw [HT1.out, ← Bool.or_assoc, HUM.out.1]; exact h.2.1
                    · rw [HT2.out, ← Bool.or_assoc, HUM.out.2]; exact h.2.2
                  clear HO hb0
                  go_wp2
                  go_roundw
                  case rel => exact ⟨i + 1, u, m, by omega, by go_num, rfl, rfl, HN⟩
                  case measure => simp [intOf]; omega
            · have hres : (ub && !mb) = r0 := by
                have h := HI.out
                rw [show is.take i = is from List.take_of_length_le (by omega)] at h
                rw [← h.2.1, ← h.2.2]
                exact HEVH.out
              obtain ⟨ar, cr, nr', i0, i1, il, HC⟩ := HCI.out wr hb0
              have HB1 : Hid (Below wb.heap.size wb wr) := HI.out.1
              clear HI hb0 HCI HEVH
              go_wp2_with fail
              refine HC.mono ?_
              clear HC i0 i1
              rintro e w8 ⟨rfl, hb8⟩
              have HN : Hid (Below wb.heap.size wb w8) := HB1.out.trans (hb8.mono HB1.out.size)
              clear hb8 HB1
              cases ub <;> cases mb <;> cases r0 <;> first | (exact absurd hres (by decide)) | skip
              all_goals go_wp2
              all_goals go_roundw
              all_goals first | (exact ⟨v + 1, by omega, by go_num, HN⟩) | (simp [intOf]; omega)
        · have HN : Hid (Below W4.heap.size W4 wr) := HBB.out.trans (HBR.out.mono HBB.out.size)
          clear HBR
          go_wp2
          go_roundw
          case rel => exact ⟨k + 1, by omega, by go_num, HN⟩
          case measure => simp [intOf]; omega
    · have HE : Hid (Below w.heap.size w wr) := HB4.out.trans (hb0.mono HB4.out.size)
      clear hb0 HBR
      go_wp2
      go_ret
      exact ⟨rfl, HE.out⟩

end Go.Proofs.Ytjpmkamacbenhaa
