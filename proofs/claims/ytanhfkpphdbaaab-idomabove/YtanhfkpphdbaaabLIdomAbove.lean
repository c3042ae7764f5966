/-
  The walk of IdomAbove: what is used is made in a block that dominates; the first block dominates all.
-/
import Derived.Test.YtanhfkpphdbaaabF8
import Derived.Test.YtanhfkpphdbaaabF8t
import Derived.Test.YtanhfkpphdbaaabD1
import Derived.Test.YtanhfkpphdbaaabD2
import Derived.Test.YtanhfkpphdbaaabA5x
namespace Go.Proofs.Ytanhfkpphdbaaab
open Go.RowKit
set_option linter.unusedVariables false

theorem infoII : (Try.prog.info? 3).map (fun i => (i.zero, i.size, i.bytes)) = some (some (.int .i64 0), 1, 8) := by kernel_rfl
theorem make_ii (n : Nat) (hn : n ≤ 1000000) (w : World) : (Instr.makeSlice 27 (.int .i64 (n : Int)) (.int .i64 (n : Int))).run Try.prog w = .ok (.slice (some ⟨w.heap.size, 0, none⟩) n n) (w.alloc (.cells (madeCells #[.int .i64 0] n) 3)) := by
  obtain ⟨i3, hi3, hz⟩ := Option.map_eq_some_iff.1 infoII
  simp only [Prod.mk.injEq] at hz
  have h := run_make (P := Try.prog) w 27 3 i3 (.int .i64 0) Try.underlying27 hi3 hz.1 .i64 .i64 n n (by omega) (by omega) (by rw [hz.2.2]; omega) (by omega)
  rw [hz.2.1, Nat.mul_one] at h
  simp only [Int.toNat_natCast] at h
  exact h
/-- Who made which value, as far as was looked: a row of numbers. -/
def MkI (w0 : World) (B n : Nat) (w : World) (L : List (Int × Spot)) : Prop := w.rowIs B 3 n (fun i => .int .i64 (spotOf L i).1) ∧ Below w0.heap.size w0 w ∧ w0.heap.size ≤ B
theorem MkI.below {w0 : World} {B n : Nat} {w w' : World} {L : List (Int × Spot)} (h : MkI w0 B n w L) (hb : Below w.heap.size w w') : MkI w0 B n w' L := ⟨h.1.of_block (hb.block _ h.1.lt), h.2.1.trans (hb.mono h.2.1.size), h.2.2⟩
theorem MkI.put {w0 : World} {B n : Nat} {w : World} {L : List (Int × Spot)} (h : MkI w0 B n w L) (v : Int) (s : Spot) (h0 : 0 ≤ v) : MkI w0 B n (w.setCell ⟨B, v.toNat, none⟩ (.int .i64 s.1)) (L ++ [(v, s)]) := by
  refine ⟨(h.1.set v.toNat _).congr fun i hi => ?_, h.2.1.setCell h.2.2 _, h.2.2⟩
  rw [spotOf_snoc]
  by_cases e1 : i = v.toNat
  · rw [if_pos e1]
    have : v = (i : Int) := by omega
    rw [if_pos this]
  · rw [if_neg e1]
    have : ¬ v = (i : Int) := by omega
    rw [if_neg this]
set_option maxRecDepth 8000 in
set_option maxHeartbeats 16000000 in
theorem idomAbove_walk (a : Int) (wa : (Lit.int .i64 a).wf = true) (b : Int) (wb : (Lit.int .i64 b).wf = true) (l : List Pc) (vl : Value) (w : World) (hl : SlOf w 7 RPc vl l) (hp : ∀ p ∈ l, PcF p) :
    Calls Try.prog 3 #[.int .i64 a, .int .i64 b, vl] w fun e w' => e = .returned (.bool true) ∧ Below w.heap.size w w' := by
  obtain ⟨a0, a1⟩ := bounds_i64 wa
  obtain ⟨b0, b1⟩ := bounds_i64 wb
  have HMA := machine_any a b w a0 a1 b0 b1
  have hm0 := machine_bd a
  have hm1 := machine_bd b
  generalize 2 + pickedOf a 9 = m0 at *
  generalize 2 + pickedOf b 9 = m1 at *
  have HM : Hid ((2 ≤ m0 ∧ m0 ≤ 10) ∧ 2 ≤ m1 ∧ m1 ≤ 10) := ⟨hm0, hm1⟩
  have HL : Hid (SlOf w 7 RPc vl l) := hl
  have HP : Hid (∀ p ∈ l, PcOk p ∧ -9223372036854775808 ≤ p.kind ∧ p.kind ≤ 9223372036854775807) := hp
  clear wa wb hl hp hm0 hm1
  go_enter Try.func3, Try.ntmps3
  go_upto_region 2 with (go_at_call 7; refine HMA.mono ?_; rintro e w1 ⟨rfl, hb1⟩)
  obtain ⟨W1, hW1⟩ : ∃ W1, W1 = w1.alloc (.cells #[.int .i64 m0, .int .i64 m1] 25) := ⟨_, rfl⟩
  have r1 : W1.rowIs w1.heap.size 25 2 (fun q => if q = 0 then .int .i64 m0 else .int .i64 m1) := by
    rw [hW1]
    exact World.rowIs_alloc w1 #[.int .i64 m0, .int .i64 m1] 25 _ fun i hi => by
      simp at hi
      match i, hi with | 0, _ => rfl | 1, _ => rfl
  have HB0 : Hid (Below w.heap.size w W1) := by
    show Below _ _ _
    rw [hW1]
    exact hb1.alloc hb1.size _
  rw [← hW1]
  clear hW1 HMA hb1
  obtain ⟨X, hX⟩ : ∃ X, w1.heap.size = X := ⟨_, rfl⟩
  rw [hX] at r1
  rw [hX]
  have f0 : W1.cell? ⟨X, 0, none⟩ = some (.int .i64 m0) := r1.cell (i := 0) (by omega)
  have f1 : W1.cell? ⟨X, 1, none⟩ = some (.int .i64 m1) := r1.cell (i := 1) (by omega)
  have lX := r1.lt
  clear hX r1
  have HFN := ma_func m0 m1 l vl W1 HM.out.1 HM.out.2 (HL.out.below HB0.out fun _ _ h => h) HP.out
  go_wp2_with fail
  refine HFN.mono ?_
  clear HFN
  rintro e w2 ⟨vv, vb, rfl, hv2, hb2, hbw2⟩
  obtain ⟨av, cv, rfl, lv⟩ := hv2.out
  obtain ⟨ab, cb, rfl, lb⟩ := hb2.out
  have HF : Hid (shapeErr (masonM m0 m1 l) m0 m1 = 0) := mason_shape m0 m1 HM.out.1 HM.out.2 l
  have HFL0 : Hid (flowE (masonM m0 m1 l) m0 m1 ((masonM m0 m1 l).blocks.length * (masonM m0 m1 l).blocks.length + 1) = 0) := mason_flow m0 m1 HM.out.1 HM.out.2 l
  generalize hf : masonM m0 m1 l = f at *
  clear hf
  have f0' : w2.cell? ⟨X, 0, none⟩ = some (.int .i64 m0) := (hbw2.cell (p := ⟨X, 0, none⟩) lX).trans f0
  have f1' : w2.cell? ⟨X, 1, none⟩ = some (.int .i64 m1) := (hbw2.cell (p := ⟨X, 1, none⟩) lX).trans f1
  have lX' : X < w2.heap.size := Nat.lt_of_lt_of_le lX hbw2.size
  have HB2 : Hid (Below w.heap.size w w2) := HB0.out.trans (hbw2.mono HB0.out.size)
  have HV2 : Hid (SlOf w2 1 RInt (.slice av f.values.length cv) f.values) := hv2
  have HBL2 : Hid (SlOf w2 3 (RBlk w2) (.slice ab f.blocks.length cb) f.blocks) := hb2
  unfold longest at lv lb
  clear f0 f1 lX HB0 hbw2 hv2 hb2
  generalize hnv : f.values.length = nv at *
  generalize hnb : f.blocks.length = nb at *
  have HNV : Hid (f.values.length = nv) := hnv
  have HNB : Hid (f.blocks.length = nb) := hnb
  clear hnv hnb
  have HFL : Hid (flowE f m0 m1 (nb * nb + 1) = 0) := HFL0
  clear HFL0
  have HSV : Hid (nv ≤ 1000 ∧ shapeErr f m0 m1 = 0) := ⟨by have h := (flowIn_all HF.out).nv; rw [HNV.out] at h; exact h, HF.out⟩
  go_upto_region 3 with fail
  obtain ⟨W, hW⟩ : ∃ W, W = w2.alloc (.cells #[.slice av nv cv, .slice ab nb cb] 30) := ⟨_, rfl⟩
  obtain ⟨Y, hY⟩ : ∃ Y, w2.heap.size = Y := ⟨_, rfl⟩
  have rY : W.rowIs Y 30 2 (fun q => if q = 0 then .slice av nv cv else .slice ab nb cb) := by
    rw [hW, ← hY]
    exact World.rowIs_alloc w2 #[.slice av nv cv, .slice ab nb cb] 30 _ fun i hi => by
      simp at hi
      match i, hi with | 0, _ => rfl | 1, _ => rfl
  have hbW : Below w2.heap.size w2 W := by rw [hW]; exact (Below.refl _ _).alloc (Nat.le_refl _) _
  have g0 : W.cell? ⟨Y, 0, none⟩ = some (.slice av nv cv) := rY.cell (i := 0) (by omega)
  have g1 : W.cell? ⟨Y, 1, none⟩ = some (.slice ab nb cb) := rY.cell (i := 1) (by omega)
  have lY := rY.lt
  have f0 : W.cell? ⟨X, 0, none⟩ = some (.int .i64 m0) := (hbW.cell (p := ⟨X, 0, none⟩) lX').trans f0'
  have f1 : W.cell? ⟨X, 1, none⟩ = some (.int .i64 m1) := (hbW.cell (p := ⟨X, 1, none⟩) lX').trans f1'
  have lX : X < W.heap.size := Nat.lt_of_lt_of_le lX' hbW.size
  have HB : Hid (Below w.heap.size w W) := HB2.out.trans (hbW.mono HB2.out.size)
  have HV : Hid (SlOf W 1 RInt (.slice av nv cv) f.values) := HV2.out.below hbW fun _ _ h => h
  have HBL : Hid (SlOf W 3 (RBlk W) (.slice ab nb cb) f.blocks) := HBL2.out.below hbW (RBlk.below hbW)
  rw [← hW, hY]
  clear hW hY rY hbW f0' f1' lX' HB2 HV2 HBL2
  have HD := dominators_is f (nb * nb + 1) nv nb m0 m1 av ab cv cb HFL.out HNV.out HNB.out W HV.out HBL.out (fun h => by have := flowIn_all h; rw [HNB.out] at this; exact this)
  go_wp2_with fail
  refine HD.mono ?_
  clear HD
  rintro e w3 ⟨g, ib, db, co, rfl, hg, hi, hd, s1, s2, s3, hb3⟩
  have HTF : Hid (TF f nb (orderM f.blocks) (idomF f (nb * nb + 1)) (depthF f (nb * nb + 1))) := by
    have h := tree_facts (f := f) (m0 := m0) (m1 := m1) (by rw [HNB.out]; exact HFL.out)
    rw [HNB.out] at h
    exact h
  generalize orderM f.blocks = ord at *
  generalize idomF f (nb * nb + 1) = idom at *
  generalize depthF f (nb * nb + 1) = dep at *
  obtain ⟨W4, hW4⟩ : ∃ W4, W4 = w3.alloc (.cells #[.slice (some ⟨g, 0, none⟩) nb co, .slice (some ⟨ib, 0, none⟩) nb nb, .slice (some ⟨db, 0, none⟩) nb nb] 33) := ⟨_, rfl⟩
  obtain ⟨Z, hZ⟩ : ∃ Z, w3.heap.size = Z := ⟨_, rfl⟩
  have rZ : W4.rowIs Z 33 3 (fun q => ([.slice (some ⟨g, 0, none⟩) nb co, .slice (some ⟨ib, 0, none⟩) nb nb, .slice (some ⟨db, 0, none⟩) nb nb] : List Value).getD q (.int .i64 0)) := by
    rw [hW4, ← hZ]
    exact World.rowIs_alloc w3 #[.slice (some ⟨g, 0, none⟩) nb co, .slice (some ⟨ib, 0, none⟩) nb nb, .slice (some ⟨db, 0, none⟩) nb nb] 33 _ fun i hi => by
      simp at hi
      match i, hi with | 0, _ => rfl | 1, _ => rfl | 2, _ => rfl
  have hb34 : Below w3.heap.size w3 W4 := by rw [hW4]; exact (Below.refl _ _).alloc (Nat.le_refl _) _
  have hb4 : Below W.heap.size W W4 := hb3.trans (hb34.mono hb3.size)
  have z0 : W4.cell? ⟨Z, 0, none⟩ = some (.slice (some ⟨g, 0, none⟩) nb co) := rZ.cell (i := 0) (by omega)
  have z1 : W4.cell? ⟨Z, 1, none⟩ = some (.slice (some ⟨ib, 0, none⟩) nb nb) := rZ.cell (i := 1) (by omega)
  have z2 : W4.cell? ⟨Z, 2, none⟩ = some (.slice (some ⟨db, 0, none⟩) nb nb) := rZ.cell (i := 2) (by omega)
  have lZ := rZ.lt
  have g0' := (hb4.cell (p := ⟨Y, 0, none⟩) lY).trans g0
  have g1' := (hb4.cell (p := ⟨Y, 1, none⟩) lY).trans g1
  have lY' : Y < W4.heap.size := Nat.lt_of_lt_of_le lY hb4.size
  have HB4 : Hid (Below w.heap.size w W4) := HB.out.trans (hb4.mono HB.out.size)
  have HO : Hid (SlOf W4 1 RInt (.slice (some ⟨g, 0, none⟩) nb co) ord) := s1.below hb34 fun _ _ h => h
  have HI : Hid (SlOf W4 1 RInt (.slice (some ⟨ib, 0, none⟩) nb nb) (fnL nb idom)) := s2.below hb34 fun _ _ h => h
  have HDP : Hid (SlOf W4 1 RInt (.slice (some ⟨db, 0, none⟩) nb nb) (fnL nb dep)) := s3.below hb34 fun _ _ h => h
  have HBL4 : Hid (SlOf W4 3 (RBlk W4) (.slice ab nb cb) f.blocks) := HBL.out.below hb4 (RBlk.below hb4)
  have HV4 : Hid (SlOf W4 1 RInt (.slice av nv cv) f.values) := HV.out.below hb4 fun _ _ h => h
  have HCO : Hid (w.heap.size ≤ g ∧ w.heap.size ≤ ib ∧ w.heap.size ≤ db) := ⟨Nat.le_trans HB.out.size hg, Nat.le_trans HB.out.size hi, Nat.le_trans HB.out.size hd⟩
  have HW4 : Hid (W4 = w3.alloc (.cells #[.slice (some ⟨g, 0, none⟩) nb co, .slice (some ⟨ib, 0, none⟩) nb nb, .slice (some ⟨db, 0, none⟩) nb nb] 33)) := hW4
  have HZ : Hid (w3.heap.size = Z) := hZ
  have y2 := (hb3.cell (p := ⟨Y, 0, none⟩) lY).trans g0
  have y3 := (hb3.cell (p := ⟨Y, 1, none⟩) lY).trans g1
  clear hW4 hZ rZ hb34 hb4 hb3 s1 s2 s3 hg hi hd f0 f1 g0 g1 lX lY HV HBL HB HM
  go_upto_region 4 with fail
  rw [← HW4.out, HZ.out]
  clear HW4 HZ y2 y3
  obtain ⟨nb0, nb1⟩ : 0 < nb ∧ nb ≤ 16 := ⟨HTF.out.pos, HTF.out.few⟩
  have hid00 := (row_fn HI.out 0 (by omega)).1
  rw [HTF.out.id0] at hid00
  have hmk := make_ii nv (by have := HNV.out; have := HSV.out; omega)
  obtain ⟨W6, hW6⟩ : ∃ W6, W6 = W4.alloc (.cells (madeCells #[.int .i64 0] nv) 3) := ⟨_, rfl⟩
  obtain ⟨B, hB⟩ : ∃ B, W4.heap.size = B := ⟨_, rfl⟩
  have HS0 : Hid (MkI W4 B nv W6 (spU f.blocks 0)) := by
    show MkI _ _ _ _ _
    rw [hW6, ← hB]
    exact ⟨(World.rowIs_made W4 (.int .i64 0) nv 3).congr fun i _ => by simp [spU, spotOf], (Below.refl _ _).alloc (Nat.le_refl _) _, by omega⟩
  have HW6 : Hid (W6 = W4.alloc (.cells (madeCells #[.int .i64 0] nv) 3)) := hW6
  have HB6 : Hid (W4.heap.size = B) := hB
  have y1 := (HS0.out.2.1.cell (p := ⟨Y, 1, none⟩) lY').trans g1'
  have HDF : Hid (DefsIn nv f.blocks) := by
    have h := (flowIn_all HSV.out.2).defs
    rw [HNV.out] at h
    exact h
  clear hW6 hB
  go_upto_region 7 with fail
  rw [← HW6.out, HB6.out]
  go_wp2_with fail
  clear hmk HW6 HB6 hid00 y1
  go_loopw [63] (fun i wr => ∃ k : Nat, k ≤ nb ∧ i = .int .i64 k ∧ Hid (MkI W4 B nv wr (spU f.blocks k))) (fun i _ => nb - (intOf i).toNat)
  case atStart => exact ⟨0, Nat.zero_le _, rfl, HS0.out⟩
  case round =>
    obtain ⟨k, hk, rfl, HK⟩ := hrel
    by_cases hlt : k < nb
    · have hkb : k < f.blocks.length := by rw [HTF.out.blen]; exact hlt
      obtain ⟨b5, off5, cs, rfl, hcl5, ⟨vp, vi, ve, rfl, hp, hi, he0⟩, hc⟩ := HBL4.out.at k (by rw [HTF.out.blen]; exact hlt)
      obtain ⟨ae, ce, rfl, _⟩ := he0.out
      obtain ⟨ap, cp, rfl, lp⟩ := hp.out
      obtain ⟨ai, ci, rfl, li⟩ := hi.out
      unfold longest at lp li
      have hb0 := HK.out.2.1
      have c0 := (hb0.cell (p := ⟨b5, off5 + k * 3 + 0, none⟩) (block_lt (hc 0 (by simp)))).trans (hc 0 (by simp))
      have c1 := (hb0.cell (p := ⟨b5, off5 + k * 3 + 1, none⟩) (block_lt (hc 1 (by simp)))).trans (hc 1 (by simp))
      have c2 := (hb0.cell (p := ⟨b5, off5 + k * 3 + 2, none⟩) (block_lt (hc 2 (by simp)))).trans (hc 2 (by simp))
      simp at c0 c1 c2
      have hdk := HDF.out f.blocks[k] (List.getElem_mem (by rw [HTF.out.blen]; exact hlt))
      have HSP : Hid (spU f.blocks (k + 1) = spU f.blocks k ++ (parSp k f.blocks[k].params ++ insSpU k f.blocks[k].instrs f.blocks[k].instrs.length)) := spU_succ f.blocks k (by rw [HTF.out.blen]; exact hlt)
      clear hc hcl5
      generalize f.blocks[k].edges.length = ne at *
      generalize f.blocks[k].params = ps at *
      generalize f.blocks[k].instrs = is at *
      have HPS : Hid (SlOf W4 1 RInt (.slice ap ps.length cp) ps) := hp
      have HIS : Hid (SlOf W4 3 (RIns W4) (.slice ai is.length ci) is) := hi
      have HDPa : Hid (∀ v ∈ ps, 0 ≤ v ∧ v < (nv : Int)) := hdk.1
      have HDI : Hid (∀ x ∈ is, ∀ o ∈ x.operands, o.kind = 2 → 0 ≤ o.value ∧ o.value < (nv : Int)) := hdk.2
      have hsz := HK.out.1.lt
      generalize spU f.blocks k = L0 at *
      have HK2 : Hid (MkI W4 B nv (wr.alloc (.cells #[.slice ap ps.length cp, .slice ai is.length ci, .slice ae ne ce] 40)) L0) := HK.out.below ((Below.refl _ _).alloc (Nat.le_refl _) _)
      have HBX : Hid ((wr.alloc (.cells #[.slice ap ps.length cp, .slice ai is.length ci, .slice ae ne ce] 40)).rowIs wr.heap.size 40 3 (fun q => if q = 0 then .slice ap ps.length cp else if q = 1 then .slice ai is.length ci else .slice ae ne ce)) := World.rowIs_alloc _ _ _ _ fun i hi => by
        simp at hi
        match i, hi with | 0, _ => rfl | 1, _ => rfl | 2, _ => rfl
      clear hp hi he0 hdk hb0 HK
      go_wp2_with fail
      obtain ⟨XB, hXB⟩ : ∃ XB, XB = wr.heap.size := ⟨_, rfl⟩
      obtain ⟨wb, hwb⟩ : ∃ wb, wb = wr.alloc (.cells #[.slice ap ps.length cp, .slice ai is.length ci, .slice ae ne ce] 40) := ⟨_, rfl⟩
      rw [← hwb] at HK2 HBX ⊢
      rw [← hXB] at HBX hsz ⊢
      clear hwb hXB c0 c1 c2
      go_loopw [71] (fun i w2 => ∃ j : Nat, j ≤ ps.length ∧ i = .int .i64 j ∧ Hid (MkI W4 B nv w2 (L0 ++ parSp k (ps.take j)) ∧ w2.rowIs XB 40 3 (fun q => if q = 0 then .slice ap ps.length cp else if q = 1 then .slice ai is.length ci else .slice ae ne ce))) (fun i _ => ps.length - (intOf i).toNat)
      case atStart => exact ⟨0, Nat.zero_le _, rfl, by simpa [parSp] using HK2.out, HBX.out⟩
      case round =>
        obtain ⟨j, hj, rfl, HJ⟩ := hrel
        by_cases hjl : j < ps.length
        · obtain ⟨b6, off6, rfl, hb6, hc6⟩ := ints_at HPS.out j (by omega) (by omega)
          have e : ps.getD (j : Int).toNat 0 = ps[j] := by simp [List.getD, hjl]
          rw [e, Int.toNat_natCast] at hc6
          have ff0 := (HJ.out.1.2.1.cell (p := ⟨b6, off6 + j, none⟩) hb6).trans hc6
          have hvr := HDPa.out ps[j] (List.getElem_mem hjl)
          have hpt : parSp k (ps.take (j + 1)) = parSp k (ps.take j) ++ [(ps[j], ((k : Int), (-1 : Int)))] := map_take_sp _ _ _ hjl
          have HPT : Hid (L0 ++ parSp k (ps.take (j + 1)) = (L0 ++ parSp k (ps.take j)) ++ [(ps[j], ((k : Int), (-1 : Int)))]) := by show _ = _; rw [hpt, List.append_assoc]
          clear e hc6 hpt
          generalize ps[j] = v at *
          have v0 := hvr.1
          have v1 := hvr.2
          generalize L0 ++ parSp k (ps.take j) = L1 at *
          have HN : Hid (MkI W4 B nv (wr.setCell ⟨B, v.toNat, none⟩ (.int .i64 k)) (L1 ++ [(v, ((k : Int), (-1 : Int)))]) ∧ (wr.setCell ⟨B, v.toNat, none⟩ (.int .i64 k)).rowIs XB 40 3 (fun q => if q = 0 then .slice (some ⟨b6, off6, none⟩) ps.length cp else if q = 1 then .slice ai is.length ci else .slice ae ne ce)) := ⟨HJ.out.1.put v ((k : Int), (-1 : Int)) v0, HJ.out.2.setOther (by simp; omega) _⟩
          have s1 := HJ.out.1.1.cell (i := v.toNat) (by omega)
          have zz1 := HJ.out.1.1.frozen (v.toNat)
          clear hvr HJ
          go_wp2
          go_roundw
          case rel =>
            refine ⟨j + 1, by omega, by go_num, ?_⟩
            rw [HPT.out]
            exact HN
          case measure => simp [intOf]; omega
        · have HJ2 : Hid (MkI W4 B nv wr (L0 ++ parSp k ps) ∧ wr.rowIs XB 40 3 (fun q => if q = 0 then .slice ap ps.length cp else if q = 1 then .slice ai is.length ci else .slice ae ne ce)) := by
            have h := HJ.out
            rw [List.take_of_length_le (by omega)] at h
            exact h
          have x1 : wr.cell? ⟨XB, 1, none⟩ = some (.slice ai is.length ci) := HJ2.out.2.cell (i := 1) (by omega)
          clear HJ
          go_wp2_with fail
          have HSP2 : Hid (spU f.blocks (k + 1) = (L0 ++ parSp k ps) ++ insSpU k is is.length) := by show _ = _; rw [HSP.out, List.append_assoc]
          have HJ3 : Hid (MkI W4 B nv wr (L0 ++ parSp k ps)) := HJ2.out.1
          clear HSP HJ2 x1
          generalize L0 ++ parSp k ps = L1 at *
          go_loopw [83] (fun i w2 => ∃ j : Nat, j ≤ is.length ∧ i = .int .i64 j ∧ Hid (MkI W4 B nv w2 (L1 ++ insSpU k is j))) (fun i _ => is.length - (intOf i).toNat)
          case atStart => exact ⟨0, Nat.zero_le _, rfl, by simpa [insSpU] using HJ3⟩
          case round =>
            obtain ⟨i, hi, rfl, HIw⟩ := hrel
            by_cases hil : i < is.length
            · obtain ⟨b7, off7, cs, rfl, hcl7, ⟨vo, vs, rfl, hvo, hvs⟩, hc⟩ := HIS.out.at i hil
              obtain ⟨ao, coo, rfl, lo⟩ := hvo.out
              obtain ⟨asp, cs', rfl, _⟩ := hvs.out
              unfold longest at lo
              have hb0 := HIw.out.2.1
              have c0 := (hb0.cell (p := ⟨b7, off7 + i * 3 + 0, none⟩) (block_lt (hc 0 (by simp)))).trans (hc 0 (by simp))
              have c1 := (hb0.cell (p := ⟨b7, off7 + i * 3 + 1, none⟩) (block_lt (hc 1 (by simp)))).trans (hc 1 (by simp))
              have c2 := (hb0.cell (p := ⟨b7, off7 + i * 3 + 2, none⟩) (block_lt (hc 2 (by simp)))).trans (hc 2 (by simp))
              simp at c0 c1 c2
              have hdi := HDI.out is[i] (List.getElem_mem hil)
              have HSI : Hid (L1 ++ insSpU k is (i + 1) = (L1 ++ insSpU k is i) ++ insSp k i is[i].operands) := by show _ = _; rw [insSpU_succ _ _ _ hil, List.append_assoc]
              clear hc hcl7 hvs
              generalize is[i].op = op at *
              generalize is[i].spoils.length = ns at *
              generalize is[i].operands = os at *
              generalize L1 ++ insSpU k is i = L2 at *
              have HOS : Hid (SlOf W4 5 ROpr (.slice ao os.length coo) os) := hvo
              have HDO : Hid (∀ o ∈ os, o.kind = 2 → 0 ≤ o.value ∧ o.value < (nv : Int)) := hdi
              have HIn2 : Hid (MkI W4 B nv (wr.alloc (.cells #[.int .i64 op, .slice ao os.length coo, .slice asp ns cs'] 44)) L2) := HIw.out.below ((Below.refl _ _).alloc (Nat.le_refl _) _)
              clear hvo hdi hb0 HIw
              go_wp2_with fail
              obtain ⟨wb, hwb⟩ : ∃ wb, wb = wr.alloc (.cells #[.int .i64 op, .slice ao os.length coo, .slice asp ns cs'] 44) := ⟨_, rfl⟩
              rw [← hwb] at HIn2 ⊢
              clear hwb c0 c1 c2
              go_loopw [90] (fun x w3 => ∃ j : Nat, j ≤ os.length ∧ x = .int .i64 j ∧ Hid (MkI W4 B nv w3 (L2 ++ insSp k i (os.take j)))) (fun x _ => os.length - (intOf x).toNat)
              case atStart => exact ⟨0, Nat.zero_le _, rfl, by simpa [insSp, oprM] using HIn2⟩
              case round =>
                obtain ⟨j, hj, rfl, HOw⟩ := hrel
                by_cases hjl : j < os.length
                · obtain ⟨b8, off8, rfl, hb8, oo0, oo1, o2, o3, o4⟩ := opr_cells HOS.out j hjl
                  have hb0 := HOw.out.2.1
                  have e0 := (hb0.cell (p := ⟨b8, _, none⟩) hb8).trans oo0
                  have e1 := (hb0.cell (p := ⟨b8, _, none⟩) hb8).trans oo1
                  have e2 := (hb0.cell (p := ⟨b8, _, none⟩) hb8).trans o2
                  have e3 := (hb0.cell (p := ⟨b8, _, none⟩) hb8).trans o3
                  have e4 := (hb0.cell (p := ⟨b8, _, none⟩) hb8).trans o4
                  have hdo := HDO.out os[j] (List.getElem_mem hjl)
                  have HD2 : Hid (os[j].kind = 2 → insSp k i (os.take (j + 1)) = insSp k i (os.take j) ++ [(os[j].value, ((k : Int), (i : Int)))]) := fun h => insSp_def k i j os hjl h
                  have HU2 : Hid (¬ os[j].kind = 2 → insSp k i (os.take (j + 1)) = insSp k i (os.take j)) := fun h => insSp_use k i j os hjl h
                  clear oo0 oo1 o2 o3 o4 hb0
                  generalize os[j] = o at *
                  have hwx : Below wr.heap.size wr (wr.alloc (.cells #[.int .i64 o.kind, .int .i64 o.value, .bool o.late, .int .i64 o.limit, .int .i64 o.n] 46)) := (Below.refl _ _).alloc (Nat.le_refl _) _
                  have HX := HOw.out.below hwx
                  by_cases hk2 : o.kind = 2
                  · have q : (o.kind == 2) = true := by simp [hk2]
                    have v0 := (hdo hk2).1
                    have v1 := (hdo hk2).2
                    have HE := HD2.out hk2
                    have s1 := HOw.out.1.cell (i := o.value.toNat) (by omega)
                    have zz1 := HOw.out.1.frozen (o.value.toNat)
                    have l1 := HOw.out.1.lt
                    have hlx : ¬ wr.heap.size = B := by omega
                    have HN : Hid (MkI W4 B nv ((wr.setCell ⟨B, o.value.toNat, none⟩ (.int .i64 k)).alloc (.cells #[.int .i64 o.kind, .int .i64 o.value, .bool o.late, .int .i64 o.limit, .int .i64 o.n] 46)) (L2 ++ insSp k i (os.take (j + 1)))) := by
                      have h := HOw.out.put o.value ((k : Int), (i : Int)) v0
                      rw [HE, ← List.append_assoc]
                      exact h.below ((Below.refl _ _).alloc (Nat.le_refl _) _)
                    have LS := old_cell (B)
                    clear hdo HE HD2 HU2 hk2 HX HOw hwx
                    go_wp2
                    go_roundw
                    case rel =>
                      refine ⟨j + 1, by omega, by go_num, ?_⟩
                      exact HN
                    case measure => simp [intOf]; omega
                  · have q : (o.kind == 2) = false := by simp [hk2]
                    have HE := HU2.out hk2
                    have HN : Hid (MkI W4 B nv (wr.alloc (.cells #[.int .i64 o.kind, .int .i64 o.value, .bool o.late, .int .i64 o.limit, .int .i64 o.n] 46)) (L2 ++ insSp k i (os.take (j + 1)))) := by
                      show MkI _ _ _ _ _
                      rw [HE]
                      exact HX
                    clear hdo HE HD2 HU2 hk2 HX HOw hwx
                    go_wp2
                    go_roundw
                    case rel => exact ⟨j + 1, by omega, by go_num, HN⟩
                    case measure => simp [intOf]; omega
                · have HN : Hid (MkI W4 B nv wr (L1 ++ insSpU k is (i + 1))) := by
                    have h := HOw.out
                    rw [List.take_of_length_le (by omega)] at h
                    rw [HSI.out]
                    exact h
                  clear HOw
                  go_wp2
                  go_roundw
                  case rel => exact ⟨i + 1, by omega, by go_num, HN⟩
                  case measure => simp [intOf]; omega
            · have HN : Hid (MkI W4 B nv wr (spU f.blocks (k + 1))) := by
                have h := HIw.out
                have e : i = is.length := by omega
                rw [e] at h
                rw [HSP2.out]
                exact h
              clear HIw
              go_wp2
              go_roundw
              case rel => exact ⟨k + 1, by omega, by go_num, HN⟩
              case measure => simp [intOf]; omega
    · have HSE : Hid (MkI W4 B nv wr (spU f.blocks nb)) := by
        have h := HK.out
        have hk2 : k = nb := by omega
        rw [hk2] at h
        exact h
      have HB9 : Hid (Below W4.heap.size W4 wr) := HK.out.2.1
      have y1 := (HK.out.2.1.cell (p := ⟨Y, 1, none⟩) lY').trans g1'
      clear HK
      go_wp2_with fail
      clear y1
      have HRW : Hid (wr.rowIs B 3 nv (fun i => .int .i64 (spotOf (spU f.blocks nb) i).1)) := HSE.out.1
      clear HSE
      obtain ⟨w9, rfl⟩ : ∃ w9 : World, w9 = wr := ⟨_, rfl⟩
      go_loopw [108] (fun i wr => ∃ k : Nat, k ≤ nb ∧ i = .int .i64 k ∧ Hid (Below W4.heap.size W4 wr ∧ wr.rowIs B 3 nv (fun i => .int .i64 (spotOf (spU f.blocks nb) i).1))) (fun i _ => nb - (intOf i).toNat)
      case atStart => exact ⟨0, Nat.zero_le _, rfl, HB9.out, HRW.out⟩
      case round =>
        clear HB9 HRW
        obtain ⟨k, hk, rfl, HBR⟩ := hrel
        have hb0 := HBR.out.1
        by_cases hlt : k < nb
        · have hkb : k < f.blocks.length := by rw [HTF.out.blen]; exact hlt
          obtain ⟨b5, off5, cs, rfl, hcl5, ⟨vp, vi, ve, rfl, hp, hi, he0⟩, hc⟩ := HBL4.out.at k hkb
          obtain ⟨ae, ce, rfl, _⟩ := he0.out
          obtain ⟨ap', cp', rfl, _⟩ := hp.out
          obtain ⟨ai, ci, rfl, li⟩ := hi.out
          unfold longest at li
          have c0 := (hb0.cell (p := ⟨b5, off5 + k * 3 + 0, none⟩) (block_lt (hc 0 (by simp)))).trans (hc 0 (by simp))
          have c1 := (hb0.cell (p := ⟨b5, off5 + k * 3 + 1, none⟩) (block_lt (hc 1 (by simp)))).trans (hc 1 (by simp))
          have c2 := (hb0.cell (p := ⟨b5, off5 + k * 3 + 2, none⟩) (block_lt (hc 2 (by simp)))).trans (hc 2 (by simp))
          simp at c0 c1 c2
          have HUS : Hid (∀ (i : Nat) (x : Ins) (o : Opr), f.blocks[k].instrs[i]? = some x → o ∈ x.operands → o.kind = 1 → (0 ≤ o.value ∧ o.value < (nv : Int)) ∧ domG idom (nb + 1) (spotOf (spU f.blocks nb) o.value.toNat).1 k = true) := fun i x o hx ho hk1 => by
            have h := HTF.out.use k i x o hlt (by rw [List.getD_eq_getElem?_getD, List.getElem?_eq_getElem hkb]; exact hx) ho hk1
            rw [HNV.out] at h
            exact h
          have HI0 : Hid (SlOf W4 3 (RIns W4) (.slice ai f.blocks[k].instrs.length ci) f.blocks[k].instrs) := hi
          clear hc hcl5 hp hi he0
          generalize f.blocks[k].params.length = np at *
          generalize f.blocks[k].edges.length = ne at *
          generalize f.blocks[k].instrs = is at *
          obtain ⟨wb, hwb⟩ : ∃ wb, wb = wr.alloc (.cells #[.slice ap' np cp', .slice ai is.length ci, .slice ae ne ce] 40) := ⟨_, rfl⟩
          obtain ⟨XB, hXB⟩ : ∃ XB, wr.heap.size = XB := ⟨_, rfl⟩
          have rXB : wb.rowIs XB 40 3 (fun q => if q = 0 then .slice ap' np cp' else if q = 1 then .slice ai is.length ci else .slice ae ne ce) := by
            rw [hwb, ← hXB]
            exact World.rowIs_alloc _ _ _ _ fun i hi => by
              simp at hi
              match i, hi with | 0, _ => rfl | 1, _ => rfl | 2, _ => rfl
          have hbb : Below W4.heap.size W4 wb := by rw [hwb]; exact hb0.alloc hb0.size _
          have hrw : wb.rowIs B 3 nv (fun i => .int .i64 (spotOf (spU f.blocks nb) i).1) := by rw [hwb]; exact HBR.out.2.alloc _
          have HWB : Hid (wb = wr.alloc (.cells #[.slice ap' np cp', .slice ai is.length ci, .slice ae ne ce] 40)) := hwb
          have HXB : Hid (wr.heap.size = XB) := hXB
          have r0 := (hbb.cell (p := ⟨Z, 0, none⟩) lZ).trans z0
          have r1 := (hbb.cell (p := ⟨Z, 1, none⟩) lZ).trans z1
          have r2 := (hbb.cell (p := ⟨Z, 2, none⟩) lZ).trans z2
          have xb1 : wb.cell? ⟨XB, 1, none⟩ = some (.slice ai is.length ci) := rXB.cell (i := 1) (by omega)
          have lXB := rXB.lt
          have lZb : Z < wb.heap.size := Nat.lt_of_lt_of_le lZ hbb.size
          have hrd := row_fn HI.out k hlt
          have rd := (hbb.cell (p := ⟨ib, k, none⟩) hrd.2).trans hrd.1
          have lib : ib < wb.heap.size := Nat.lt_of_lt_of_le hrd.2 hbb.size
          have HD0 := dominated_is nb idom (.slice (some ⟨g, 0, none⟩) nb co) (.slice (some ⟨db, 0, none⟩) nb nb) (some ⟨ib, 0, none⟩) nb 0 k true (HTF.out.dom0 k hlt) wb (HI.out.below hbb fun _ _ h => h) HTF.out.idr (by omega) (by omega) (by omega)
          have hid0 : 0 < k → 0 ≤ idom k := fun h => HTF.out.idp k h hlt
          generalize idom k = dk at *
          have HBBb : Hid (Below W4.heap.size W4 wb ∧ wb.rowIs B 3 nv (fun i => .int .i64 (spotOf (spU f.blocks nb) i).1)) := ⟨hbb, hrw⟩
          clear hwb hXB rXB hbb hrw hrd hb0 HBR
          go_upto_region 29 with fail
          rw [← HWB.out, HXB.out]
          clear HWB HXB c0 c1 c2
          go_cut [128] (fun v wz => v = .bool false ∧ Hid (Below wb.heap.size wb wz))
          case first =>
            go_wp2_with fail
            refine HD0.mono ?_
            clear HD0
            rintro e w10 ⟨rfl, hb10⟩
            have u1 := (hb10.cell (p := ⟨Z, 1, none⟩) lZb).trans r1
            have ud := (hb10.cell (p := ⟨ib, k, none⟩) lib).trans rd
            have HB10 : Hid (Below wb.heap.size wb w10) := hb10
            clear hb10 r0 r1 r2 rd xb1
            by_cases hk0 : k = 0
            · subst hk0
              clear hid0 ud
              go_wp2
              go_meet
              exact ⟨rfl, HB10⟩
            · have hkp : (0 : Int) < (k : Int) := by omega
              have hd0 := hid0 (by omega)
              have hd1 : decide (dk < 0) = false := by simp; omega
              have hd2 : ¬ dk < 0 := by omega
              clear hid0 hk0
              go_wp2
              go_meet
              exact ⟨rfl, HB10⟩
          case rest =>
            obtain ⟨rfl, hwc⟩ := hcut
            have ux := (hwc.out.cell (p := ⟨XB, 1, none⟩) lXB).trans xb1
            have HB10 : Hid (Below W4.heap.size W4 wc ∧ wc.rowIs B 3 nv (fun i => .int .i64 (spotOf (spU f.blocks nb) i).1)) := ⟨HBBb.out.1.trans (hwc.out.mono HBBb.out.1.size), HBBb.out.2.of_block (hwc.out.block _ HBBb.out.2.lt)⟩
            clear hwc r0 r1 r2 rd xb1 HBBb lZb lib lXB HD0 hid0
            go_wp2_with fail
            clear ux
            go_loopw [132] (fun x w2 => ∃ i : Nat, i ≤ is.length ∧ x = .int .i64 i ∧ Hid (Below W4.heap.size W4 w2 ∧ w2.rowIs B 3 nv (fun i => .int .i64 (spotOf (spU f.blocks nb) i).1))) (fun x _ => is.length - (intOf x).toNat)
            case atStart => exact ⟨0, Nat.zero_le _, rfl, HB10.out⟩
            case round =>
              clear HB10
              obtain ⟨i, hi, rfl, HBR⟩ := hrel
              have hb0 := HBR.out.1
              by_cases hil : i < is.length
              · obtain ⟨b7, off7, cs, rfl, hcl7, ⟨vo, vs, rfl, hvo, hvs⟩, hc⟩ := HI0.out.at i hil
                obtain ⟨ao, coo, rfl, lo⟩ := hvo.out
                obtain ⟨asp, cs', rfl, _⟩ := hvs.out
                unfold longest at lo
                have c0 := (hb0.cell (p := ⟨b7, off7 + i * 3 + 0, none⟩) (block_lt (hc 0 (by simp)))).trans (hc 0 (by simp))
                have c1 := (hb0.cell (p := ⟨b7, off7 + i * 3 + 1, none⟩) (block_lt (hc 1 (by simp)))).trans (hc 1 (by simp))
                have c2 := (hb0.cell (p := ⟨b7, off7 + i * 3 + 2, none⟩) (block_lt (hc 2 (by simp)))).trans (hc 2 (by simp))
                simp at c0 c1 c2
                have HUO : Hid (∀ o ∈ is[i].operands, o.kind = 1 → (0 ≤ o.value ∧ o.value < (nv : Int)) ∧ domG idom (nb + 1) (spotOf (spU f.blocks nb) o.value.toNat).1 k = true) := fun o ho hk1 => HUS.out i is[i] o (List.getElem?_eq_getElem hil) ho hk1
                clear hc hcl7 hvs
                generalize is[i].op = op at *
                generalize is[i].spoils.length = ns at *
                generalize is[i].operands = os at *
                have HOS : Hid (SlOf W4 5 ROpr (.slice ao os.length coo) os) := hvo
                have HN2 : Hid (Below W4.heap.size W4 (wr.alloc (.cells #[.int .i64 op, .slice ao os.length coo, .slice asp ns cs'] 44)) ∧ (wr.alloc (.cells #[.int .i64 op, .slice ao os.length coo, .slice asp ns cs'] 44)).rowIs B 3 nv (fun i => .int .i64 (spotOf (spU f.blocks nb) i).1)) := ⟨hb0.alloc hb0.size _, HBR.out.2.alloc _⟩
                clear hvo hb0 HBR
                go_wp2_with fail
                generalize wr.alloc (.cells #[.int .i64 op, .slice ao os.length coo, .slice asp ns cs'] 44) = wb2 at *
                clear c0 c1 c2
                go_loopw [139] (fun x w3 => ∃ j : Nat, j ≤ os.length ∧ x = .int .i64 j ∧ Hid (Below W4.heap.size W4 w3 ∧ w3.rowIs B 3 nv (fun i => .int .i64 (spotOf (spU f.blocks nb) i).1))) (fun x _ => os.length - (intOf x).toNat)
                case atStart => exact ⟨0, Nat.zero_le _, rfl, HN2.out⟩
                case round =>
                  clear HN2
                  obtain ⟨j, hj, rfl, HBR⟩ := hrel
                  by_cases hjl : j < os.length
                  · obtain ⟨b8, off8, rfl, hb8, o0, o1, o2, o3, o4⟩ := opr_cells HOS.out j hjl
                    have hb0 := HBR.out.1
                    have e0 := (hb0.cell (p := ⟨b8, _, none⟩) hb8).trans o0
                    have e1 := (hb0.cell (p := ⟨b8, _, none⟩) hb8).trans o1
                    have e2 := (hb0.cell (p := ⟨b8, _, none⟩) hb8).trans o2
                    have e3 := (hb0.cell (p := ⟨b8, _, none⟩) hb8).trans o3
                    have e4 := (hb0.cell (p := ⟨b8, _, none⟩) hb8).trans o4
                    have huo := HUO.out os[j] (List.getElem_mem hjl)
                    clear o0 o1 o2 o3 o4
                    generalize os[j] = o at *
                    obtain ⟨W5, hW5⟩ : ∃ W5, W5 = wr.alloc (.cells #[.int .i64 o.kind, .int .i64 o.value, .bool o.late, .int .i64 o.limit, .int .i64 o.n] 46) := ⟨_, rfl⟩
                    obtain ⟨V, hV⟩ : ∃ V, wr.heap.size = V := ⟨_, rfl⟩
                    have rV : W5.rowIs V 46 5 (fun q => ([.int .i64 o.kind, .int .i64 o.value, .bool o.late, .int .i64 o.limit, .int .i64 o.n] : List Value).getD q (.int .i64 0)) := by
                      rw [hW5, ← hV]
                      exact World.rowIs_alloc _ _ _ _ fun i hi => by
                        simp at hi
                        match i, hi with | 0, _ => rfl | 1, _ => rfl | 2, _ => rfl | 3, _ => rfl | 4, _ => rfl
                    have hb5 : Below W4.heap.size W4 W5 := by rw [hW5]; exact hb0.alloc hb0.size _
                    have hrw5 : W5.rowIs B 3 nv (fun i => .int .i64 (spotOf (spU f.blocks nb) i).1) := by rw [hW5]; exact HBR.out.2.alloc _
                    have rv0 : W5.cell? ⟨V, 0, none⟩ = some (.int .i64 o.kind) := rV.cell (i := 0) (by omega)
                    have rv1 : W5.cell? ⟨V, 1, none⟩ = some (.int .i64 o.value) := rV.cell (i := 1) (by omega)
                    have lV := rV.lt
                    have r0 := (hb5.cell (p := ⟨Z, 0, none⟩) lZ).trans z0
                    have r1 := (hb5.cell (p := ⟨Z, 1, none⟩) lZ).trans z1
                    have r2 := (hb5.cell (p := ⟨Z, 2, none⟩) lZ).trans z2
                    have lZr : Z < W5.heap.size := Nat.lt_of_lt_of_le lZ hb5.size
                    have lB := hrw5.lt
                    have HB5 : Hid (Below W4.heap.size W4 W5 ∧ W5.rowIs B 3 nv (fun i => .int .i64 (spotOf (spU f.blocks nb) i).1)) := ⟨hb5, hrw5⟩
                    have HIr : Hid (SlOf W5 1 RInt (.slice (some ⟨ib, 0, none⟩) nb nb) (fnL nb idom)) := HI.out.below hb5 fun _ _ h => h
                    have HW5 : Hid (W5 = wr.alloc (.cells #[.int .i64 o.kind, .int .i64 o.value, .bool o.late, .int .i64 o.limit, .int .i64 o.n] 46)) := hW5
                    have HV0 : Hid (wr.heap.size = V) := hV
                    clear hW5 hV rV hb0 hb5 HBR
                    go_upto_region 37 with fail
                    rw [← HW5.out, HV0.out]
                    clear HW5 HV0 e0 e1 e2 e3 e4
                    by_cases hk1 : o.kind = 1
                    · have q : (o.kind == 1) = true := by simp [hk1]
                      obtain ⟨⟨v0, v1⟩, hdm⟩ := huo hk1
                      have rb : W5.cell? ⟨B, o.value.toNat, none⟩ = some (.int .i64 (spotOf (spU f.blocks nb) o.value.toNat).1) := hrw5.cell (i := o.value.toNat) (by omega)
                      have HDOM : Hid (domG idom (nb + 1) (spotOf (spU f.blocks nb) o.value.toNat).1 k = true) := hdm
                      clear hdm hk1 hrw5 huo
                      generalize (spotOf (spU f.blocks nb) o.value.toNat).1 = mk at *
                      have HSF : Hid (∀ w', Below W5.heap.size W5 w' → (fun w' => w'.cell? ⟨Z, 0, none⟩ = some (.slice (some ⟨g, 0, none⟩) nb co) ∧ w'.cell? ⟨Z, 1, none⟩ = some (.slice (some ⟨ib, 0, none⟩) nb nb) ∧ w'.cell? ⟨Z, 2, none⟩ = some (.slice (some ⟨db, 0, none⟩) nb nb) ∧ w'.cell? ⟨V, 0, none⟩ = some (.int .i64 o.kind) ∧ w'.cell? ⟨V, 1, none⟩ = some (.int .i64 o.value) ∧ w'.cell? ⟨B, o.value.toNat, none⟩ = some (.int .i64 mk) ∧ Below W5.heap.size W5 w') w') := fun w' hh => ⟨(hh.cell (by simp; omega)).trans r0, (hh.cell (by simp; omega)).trans r1, (hh.cell (by simp; omega)).trans r2, (hh.cell (by simp; omega)).trans rv0, (hh.cell (by simp; omega)).trans rv1, (hh.cell (by simp; omega)).trans rb, hh⟩
                      have hbd : Below W5.heap.size W5 W5.drew := (Below.refl _ _).drew
                      refine wp_region_X (fun w' => w'.cell? ⟨Z, 0, none⟩ = some (.slice (some ⟨g, 0, none⟩) nb co) ∧ w'.cell? ⟨Z, 1, none⟩ = some (.slice (some ⟨ib, 0, none⟩) nb nb) ∧ w'.cell? ⟨Z, 2, none⟩ = some (.slice (some ⟨db, 0, none⟩) nb nb) ∧ w'.cell? ⟨V, 0, none⟩ = some (.int .i64 o.kind) ∧ w'.cell? ⟨V, 1, none⟩ = some (.int .i64 o.value) ∧ w'.cell? ⟨B, o.value.toNat, none⟩ = some (.int .i64 mk) ∧ Below W5.heap.size W5 w') 99 (by kernel_rfl) (HSF.out _ hbd) (fun hHeld => ?_)
                      refine wpX_step0 (by kernel_rfl) (fun K hK => ?_)
                      go_simp
                      refine hK.out _ _ (HSF.out _ hbd) (fun hHeld => ?_)
                      clear hK K
                      try simp only [Act.put, List.setIfInBounds_toArray, List.set_cons_zero, List.set_cons_succ]
                      refine wpX_step1 (by kernel_rfl) (fun K hK => ?_)
                      go_simp
                      refine hK.out _ _ (HSF.out _ hbd) (fun hHeld => ?_)
                      clear hK K
                      try simp only [Act.put, List.setIfInBounds_toArray, List.set_cons_zero, List.set_cons_succ]
                      refine wpX_step2 (by kernel_rfl) (fun K hK => ?_)
                      go_simp
                      refine hK.out _ _ (HSF.out _ hbd) (fun hHeld => ?_)
                      clear hK K
                      try simp only [Act.put, List.setIfInBounds_toArray, List.set_cons_zero, List.set_cons_succ]
                      refine wpX_step3 (by kernel_rfl) (fun K hK => ?_)
                      go_simp
                      refine hK.out _ _ (HSF.out _ hbd) (fun hHeld => ?_)
                      clear hK K
                      try simp only [Act.put, List.setIfInBounds_toArray, List.set_cons_zero, List.set_cons_succ]
                      refine wpX_takeg4 (v := ?_) (by kernel_rfl) (fun _ _ _ h => h) (by rfl) ?_ hHeld ?_
                      rotate_left
                      · intro w' hSw
                        go_simp <;> with_reducible rfl
                      try simp only [Act.put, List.setIfInBounds_toArray, List.set_cons_zero, List.set_cons_succ]
                      refine wpX_takeg5 (v := ?_) (by kernel_rfl) (fun _ _ _ h => h) (by rfl) ?_ hHeld ?_
                      rotate_left
                      · intro w' hSw
                        go_simp <;> with_reducible rfl
                      try simp only [Act.put, List.setIfInBounds_toArray, List.set_cons_zero, List.set_cons_succ]
                      refine wpX_takeg6 (v := ?_) (by kernel_rfl) (fun _ _ _ h => h) (by rfl) ?_ hHeld ?_
                      rotate_left
                      · intro w' hSw
                        go_simp <;> with_reducible rfl
                      try simp only [Act.put, List.setIfInBounds_toArray, List.set_cons_zero, List.set_cons_succ]
                      refine wpX_takeg7 (v := ?_) (by kernel_rfl) (fun _ _ _ h => h) (by rfl) ?_ hHeld ?_
                      rotate_left
                      · intro w' hSw
                        go_simp <;> with_reducible rfl
                      try simp only [Act.put, List.setIfInBounds_toArray, List.set_cons_zero, List.set_cons_succ]
                      refine wpX_takeg8 (v := ?_) (by kernel_rfl) (fun _ _ _ h => h) (by rfl) ?_ hHeld ?_
                      rotate_left
                      · intro w' hSw
                        go_simp <;> with_reducible rfl
                      try simp only [Act.put, List.setIfInBounds_toArray, List.set_cons_zero, List.set_cons_succ]
                      refine wpX_takeg9 (v := ?_) (by kernel_rfl) (fun _ _ _ h => h) (by rfl) ?_ hHeld ?_
                      rotate_left
                      · intro w' hSw
                        go_simp <;> with_reducible rfl
                      try simp only [Act.put, List.setIfInBounds_toArray, List.set_cons_zero, List.set_cons_succ]
                      refine wpX_takeg10 (v := ?_) (by kernel_rfl) (fun _ _ _ h => h) (by rfl) ?_ hHeld ?_
                      rotate_left
                      · intro w' hSw
                        go_simp <;> with_reducible rfl
                      try simp only [Act.put, List.setIfInBounds_toArray, List.set_cons_zero, List.set_cons_succ]
                      refine wpX_step11 (by kernel_rfl) (fun K hK => ?_)
                      go_simp
                      refine (dominated_is nb idom _ _ (some ⟨ib, 0, none⟩) nb mk k true HDOM.out _ (HIr.out.below hbd fun _ _ h => h) HTF.out.idr (by omega) (by omega) (by omega)).mono ?_
                      rintro e w6 ⟨rfl, hb6⟩
                      have hc6 : Below W5.heap.size W5 w6 := hbd.trans (hb6.mono hbd.size)
                      refine hK.out _ _ (HSF.out _ hc6) (fun hHeld => ?_)
                      clear hK K
                      try simp only [Act.put, List.setIfInBounds_toArray, List.set_cons_zero, List.set_cons_succ]
                      refine wpX_step12 (by kernel_rfl) (fun K hK => ?_)
                      go_simp
                      refine hK.out _ _ (HSF.out _ hc6) (fun hHeld => ?_)
                      clear hK K
                      try simp only [Act.put, List.setIfInBounds_toArray, List.set_cons_zero, List.set_cons_succ]
                      refine wpX_step13 (by kernel_rfl) (fun K hK => ?_)
                      go_simp
                      refine hK.out _ _ (HSF.out _ hc6) (fun hHeld => ?_)
                      clear hK K
                      try simp only [Act.put, List.setIfInBounds_toArray, List.set_cons_zero, List.set_cons_succ]
                      refine wpAnyX_done (by kernel_rfl) ?_ _
                      have HN : Hid (Below W4.heap.size W4 w6 ∧ w6.rowIs B 3 nv (fun i => .int .i64 (spotOf (spU f.blocks nb) i).1)) := ⟨HB5.out.1.trans (hc6.mono HB5.out.1.size), HB5.out.2.of_block (hc6.block _ HB5.out.2.lt)⟩
                      clear hb6 hc6 hHeld rv0 rv1 r0 r1 r2 rb hbd HSF
                      go_wp2
                      go_roundw
                      case rel => exact ⟨j + 1, by omega, by go_num, HN⟩
                      case measure => simp [intOf]; omega

                    · have q : (o.kind == 1) = false := by simp [hk1]
                      clear huo hk1 hrw5
                      go_quiet (fail)
                      have HN : Hid (Below W4.heap.size W4 (W5.drewN nq) ∧ (W5.drewN nq).rowIs B 3 nv (fun i => .int .i64 (spotOf (spU f.blocks nb) i).1)) := ⟨below_drewN HB5.out.1 nq, HB5.out.2⟩
                      go_wp2
                      go_roundw
                      case rel => exact ⟨j + 1, by omega, by go_num, HN⟩
                      case measure => simp [intOf]; omega
                  · have HN := HBR
                    clear HBR
                    go_wp2
                    go_roundw
                    case rel => exact ⟨i + 1, by omega, by go_num, HN⟩
                    case measure => simp [intOf]; omega
              · have HN := HBR
                clear hb0 HBR
                go_wp2
                go_roundw
                case rel => exact ⟨k + 1, by omega, by go_num, HN⟩
                case measure => simp [intOf]; omega
        · have HE : Hid (Below w.heap.size w wr) := HB4.out.trans (hb0.mono HB4.out.size)
          clear hb0 HBR
          go_wp2
          go_ret
          exact ⟨rfl, HE.out⟩

end Go.Proofs.Ytanhfkpphdbaaab
