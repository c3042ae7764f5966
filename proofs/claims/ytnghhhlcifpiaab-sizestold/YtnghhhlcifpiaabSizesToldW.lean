/-
  The walk through 'SizesTold'.
-/
import Derived.Test.YtnghhhlcifpiaabSizesB
import Derived.Test.YtnghhhlcifpiaabLine2
import Derived.Test.YtnghhhlcifpiaabReg2
import Derived.Deep.DeepCutAuto
import Derived.Deep.CutBlock
namespace Go.Proofs.Ytnghhhlcifpiaab
open Go.RowKit
set_option linter.unusedVariables false

theorem infoBlkR : (Try.prog.info? 42).map (fun i => (i.zero, i.size, i.bytes)) = some (some (.agg #[.slice none 0 0, .slice none 0 0, .slice none 0 0]), 3, 72) := by kernel_rfl
theorem infoOpR : (Try.prog.info? 36).map (fun i => (i.zero, i.size, i.bytes)) = some (some (.agg #[.int .i64 0, .int .i64 0, .bool false, .int .i64 0, .int .i64 0]), 5, 40) := by kernel_rfl

set_option maxRecDepth 8000 in
set_option maxHeartbeats 16000000 in
theorem sizesTold_walk (a n : Int) (w : World) (u0 : -9223372036854775808 ≤ a) (u0' : a ≤ 9223372036854775807) (u1 : -9223372036854775808 ≤ n) (u1' : n ≤ 9223372036854775807) :
    Calls Try.prog 8 #[.int .i64 a, .int .i64 n] w fun e w' => e = .returned (.bool true) ∧ Below w.heap.size w w' := by
  obtain ⟨p0, p0'⟩ := pickedOf_bd n 4 (by omega)
  obtain ⟨q0, q0'⟩ := pickedOf_bd a 4 (by omega)
  go_enter Try.func8, Try.ntmps8
  go_wp2_with fail
  refine (line_any 3 _ (by omega) (by omega)).mono ?_
  rintro e w1 ⟨vv, vi, ob, rfl, hS, hb1⟩
  obtain ⟨avv, cvv, rfl⟩ := own_formL hS.ov
  have z1 := hb1.size
  have zB := hS.r1.lt
  go_upto_region 2 with fail
  obtain ⟨wf, hwf⟩ : ∃ wf, wf = w1.alloc (.cells #[.slice avv 3 cvv, .slice (some ⟨w.heap.size + 1, 0, none⟩) 1 1] 34) := ⟨_, rfl⟩
  have f0 : wf.cell? ⟨w1.heap.size, 0, none⟩ = some (.slice avv 3 cvv) := by rw [hwf]; go_simp
  have f1 : wf.cell? ⟨w1.heap.size, 1, none⟩ = some (.slice (some ⟨w.heap.size + 1, 0, none⟩) 1 1) := by rw [hwf]; go_simp
  have hFr : wf.rowIs w1.heap.size 34 2 (fun q => if q = 0 then .slice avv 3 cvv else .slice (some ⟨w.heap.size + 1, 0, none⟩) 1 1) := by
    rw [hwf]
    exact World.rowIs_alloc _ _ _ _ (fun i hi => by match i, hi with | 0, _ => rfl | 1, _ => rfl)
  have s0 : wf.frozen? ⟨w1.heap.size, 0, none⟩ = false := by rw [hwf]; go_simp
  have s1 : wf.frozen? ⟨w1.heap.size, 1, none⟩ = false := by rw [hwf]; go_simp
  have hbf : Below w1.heap.size w1 wf := by rw [hwf]; exact (Below.refl _ _).alloc (Nat.le_refl _) _
  have zf : w1.heap.size < wf.heap.size := by rw [hwf]; simp
  have hbg : Below w.heap.size w wf := hb1.trans (hbf.mono z1)
  rw [← hwf]
  clear hwf
  go_wp2_with fail
  refine (picked_any _ _ _ u1 u1' (by omega) (by omega)).mono ?_
  rintro e wf ⟨rfl, rfl⟩
  generalize pickedOf n 4 = kk at *
  obtain ⟨k, rfl⟩ : ∃ k : Nat, kk = k := ⟨kk.toNat, by omega⟩
  go_wp2_with fail
  refine (picked_any _ _ _ u0 u0' (by omega) (by omega)).mono ?_
  rintro e wf ⟨rfl, rfl⟩
  generalize pickedOf a 4 = q at *
  have h4 : q = 0 ∨ q = 1 ∨ q = 2 ∨ q = 3 := by omega
  rcases h4 with rfl | rfl | rfl | rfl
  · have HX : Hid (shapeErr (lineF (39 + k)) 10 10 = if 1 < k then 1 else 0) := sz_line k (by omega)
    have e40 : (40 : Int) + ((k : Int) - 1) = ((39 + k : Nat) : Int) := by omega
    have HE40 : Hid ((40 : Int) + ((k : Int) - 1) = ((39 + k : Nat) : Int)) := e40
    clear e40
    go_wp2_with fail
    rw [HE40.out]
    refine (line_any (39 + k) _ (by omega) (by omega)).mono ?_
    rintro e w2 ⟨vv2, vi2, ob2, rfl, hS2, hb2⟩
    obtain ⟨avv2, cvv2, rfl⟩ := own_formL hS2.ov
    have z2 := hb2.size
    have y0 := (hb2.cell (p := ⟨w1.heap.size, 0, none⟩) (by simp; omega)).trans f0
    have y1 := (hb2.cell (p := ⟨w1.heap.size, 1, none⟩) (by simp; omega)).trans f1
    have y2 := (hb2.frozen (p := ⟨w1.heap.size, 0, none⟩) (by simp; omega)).trans s0
    have y3 := (hb2.frozen (p := ⟨w1.heap.size, 1, none⟩) (by simp; omega)).trans s1
    obtain ⟨W, hW⟩ : ∃ W, W = (w2.setCell ⟨w1.heap.size, 0, none⟩ (.slice avv2 (39 + k) cvv2)).setCell ⟨w1.heap.size, 1, none⟩ (.slice (some ⟨wf.heap.size + 1, 0, none⟩) 1 1) := ⟨_, rfl⟩
    have hkk : ∀ b, b ≠ w1.heap.size → W.heap[b]? = w2.heap[b]? := fun b hb => by rw [hW, Below.heap_setCell _ _ _ _ hb, Below.heap_setCell _ _ _ _ hb]
    have hzW : w2.heap.size ≤ W.heap.size := by rw [hW]; simp
    obtain ⟨sv, _, sb⟩ := (hS2.after w1.heap.size (by omega) (by omega) hzW hkk).sl (by omega)
    have hbW : Below w.heap.size w W := by rw [hW]; exact ((hbg.trans (hb2.mono hbg.size)).setCell (by simp; omega) _).setCell (by simp; omega) _
    have g0 : W.cell? ⟨w1.heap.size, 0, none⟩ = some (.slice avv2 (39 + k) cvv2) := by rw [hW]; go_simp
    have g1 : W.cell? ⟨w1.heap.size, 1, none⟩ = some (.slice (some ⟨wf.heap.size + 1, 0, none⟩) 1 1) := by rw [hW]; go_simp
    have HV : Hid (SlOf W 1 RInt (.slice avv2 (39 + k) cvv2) (lineF (39 + k)).values) := sv
    have HB : Hid (SlOf W 3 (RBlk W) (.slice (some ⟨wf.heap.size + 1, 0, none⟩) 1 1) (lineF (39 + k)).blocks) := sb
    have HW : Hid (W = (w2.setCell ⟨w1.heap.size, 0, none⟩ (.slice avv2 (39 + k) cvv2)).setCell ⟨w1.heap.size, 1, none⟩ (.slice (some ⟨wf.heap.size + 1, 0, none⟩) 1 1)) := hW
    clear hW sv sb hkk
    go_upto_region 22 with fail
    rw [← HW.out]
    clear y0 y1 y2 y3
    have HSF : Hid (∀ w', Below W.heap.size W w' → (fun w' => w'.cell? ⟨w1.heap.size, 0, none⟩ = some (.slice avv2 (39 + k) cvv2) ∧ w'.cell? ⟨w1.heap.size, 1, none⟩ = some (.slice (some ⟨wf.heap.size + 1, 0, none⟩) 1 1) ∧ Below W.heap.size W w') w') := fun w' hh => ⟨(hh.cell (by simp; omega)).trans g0, (hh.cell (by simp; omega)).trans g1, hh⟩
    have hbd : Below W.heap.size W W.drew := (Below.refl _ _).drew
    obtain ⟨r, hr⟩ : ∃ r : Int, (if 1 < k then 1 else 0) = r := ⟨_, rfl⟩
    have HR : Hid (shapeErr (lineF (39 + k)) 10 10 = r) := HX.out.trans hr
    have HRR : Hid ((if 1 < k then 1 else 0 : Int) = r) := hr
    clear hr HX
    refine wp_region_X (fun w' => w'.cell? ⟨w1.heap.size, 0, none⟩ = some (.slice avv2 (39 + k) cvv2) ∧ w'.cell? ⟨w1.heap.size, 1, none⟩ = some (.slice (some ⟨wf.heap.size + 1, 0, none⟩) 1 1) ∧ Below W.heap.size W w') 99 (by kernel_rfl) (HSF.out _ hbd) (fun hHeld => ?_)
    refine wpX_takeg0 (v := ?_) (by kernel_rfl) (fun _ _ _ h => h) (by rfl) ?_ hHeld ?_
    rotate_left
    · intro w' hSw
      go_simp <;> with_reducible rfl
    try simp only [Act.put, List.setIfInBounds_toArray, List.set_cons_zero, List.set_cons_succ]
    refine wpX_step1 (by kernel_rfl) (fun K hK => ?_)
    go_simp
    refine (big_any _).mono ?_
    rintro e w3 ⟨rfl, hb3⟩
    have hc3 : Below W.heap.size W w3 := hbd.trans (hb3.mono hbd.size)
    refine hK.out _ _ (HSF.out _ hc3) (fun hHeld => ?_)
    clear hK K
    try simp only [Act.put, List.setIfInBounds_toArray, List.set_cons_zero, List.set_cons_succ]
    refine wpX_step2 (by kernel_rfl) (fun K hK => ?_)
    go_simp
    refine (check_is (lineF (39 + k)) 10 10 _ _ _ r HR.out (HV.out.below hc3 fun _ _ h => h) (HB.out.below hc3 (RBlk.below hc3))).mono ?_
    rintro e w4 ⟨rfl, hb4'⟩
    have hb4 : Below W.heap.size W w4 := hc3.trans (hb4'.mono hc3.size)
    refine hK.out _ _ (HSF.out _ hb4) (fun hHeld => ?_)
    clear hK K
    try simp only [Act.put, List.setIfInBounds_toArray, List.set_cons_zero, List.set_cons_succ]
    refine wpX_step3 (by kernel_rfl) (fun K hK => ?_)
    go_simp
    refine hK.out _ _ (HSF.out _ hb4) (fun hHeld => ?_)
    clear hK K
    try simp only [Act.put, List.setIfInBounds_toArray, List.set_cons_zero, List.set_cons_succ]
    refine wpAnyX_done (by kernel_rfl) ?_ _
    have hbe : Below w.heap.size w w4 := hbW.trans (hb4.mono (by have := hbW.size; omega))
    have hr := HRR.out
    clear g0 g1
    by_cases h1 : 1 < k
    · have h3 : r = 1 := by simpa [h1] using hr.symm
      subst h3
      have hg : (0 : Int) < (k : Int) - 1 := by omega
      clear hr h1
      go_wp2
      go_ret
      exact ⟨rfl, hbe⟩
    · have h3 : r = 0 := by simpa [h1] using hr.symm
      subst h3
      have hg : ¬ (0 : Int) < (k : Int) - 1 := by omega
      have hg2 : (k : Int) - 1 ≤ 0 := by omega
      clear hr h1
      go_wp2
      go_ret
      refine ⟨?_, hbe⟩
      first | rfl | (simp; omega)
  · obtain ⟨m, hm1, hm2⟩ : ∃ m : Nat, (16 : Int) + ((k : Int) - 1) = m ∧ m = 15 + k := ⟨15 + k, by omega, rfl⟩
    have HX : Hid (shapeErr (szB m) 10 10 = if 1 < k then 1 else 0) := by show _ = _; rw [hm2]; exact sz_blocks k (by omega)
    have HM : Hid (m = 15 + k) := hm2
    clear hm2
    obtain ⟨iB, hiB, hzB, hzB1, hzB2⟩ := info_parts infoBlkR
    have hB : wf.rowIs (w.heap.size + 1) 42 3 (fun q => if q = 1 then vi else .slice none 0 0) := hS.r1.of_block (hbf.block _ hS.r1.lt)
    have hB0 := BSt.start hB hFr
    clear hB
    go_wp2
    clear f0 f1 s0 s1
    go_loopw [7] (fun t wr => ∃ (i : Nat) (e : Nat → Value) (v : Value), 1 ≤ i ∧ i ≤ m ∧ t = .int .i64 i ∧ BSt w.heap.size w1.heap.size wf vi (.slice avv 3 cvv) i e v wr ∧ Below w.heap.size w wr) (fun t _ => m - (intOf t).toNat)
    case atStart => exact ⟨1, _, _, by omega, by have := HM.out; omega, rfl, hB0, hbg⟩
    case round =>
      clear hB0
      obtain ⟨i, e, v, hi1, hi, rfl, hT, hbr⟩ := hrel
      have hm20 : m ≤ 20 := by have := HM.out; omega
      have zr := hT.size
      obtain ⟨g, cap, rfl, hg1, hg2, hcells, hfroz⟩ := own_rowL hT.ow (by omega)
      have cF1 : wr.cell? ⟨w1.heap.size, 1, none⟩ = some (.slice (some ⟨g, 0, none⟩) i cap) := hT.rF.cell (i := 1) (by omega)
      by_cases hlt : i < m
      · obtain ⟨p, rfl⟩ : ∃ p, i = p + 1 := ⟨i - 1, by omega⟩
        have hgF : ¬ g = w1.heap.size := by rcases hT.far g rfl with h | h <;> omega
        have hgF' : ¬ w1.heap.size = g := fun e => hgF e.symm
        have c2 : wr.cell? ⟨g, p * 3 + 2, none⟩ = some (.slice none 0 0) := by
          have hlen : p * 3 + 2 < ((List.range (p + 1)).flatMap (bx vi e)).length := by rw [flat_length (bx vi e) 3 (fun _ => rfl), List.length_range]; omega
          have h1 := hcells _ hlen
          have h2 := flat_at (bx vi e) 3 (fun _ => rfl) (List.range (p + 1)) p 2 (by simp) (by omega)
          rw [List.getElem?_eq_getElem hlen] at h2
          rw [h1, h2]
          simp [bx, hT.nil p (by omega)]
        have z2 := hfroz (p * 3 + 2)
        obtain ⟨W1, hW1⟩ : ∃ W1, W1 = (wr.setCell ⟨g, p * 3 + 2, none⟩ (.slice (some ⟨wr.heap.size, 0, none⟩) 1 1)).alloc (.cells #[.int .i64 ((p : Int) + 1), .slice none 0 0] 53) := ⟨_, rfl⟩
        obtain ⟨rF1, ow1, _, _, hzz⟩ := hT.edge (by omega) (by omega) hW1
        obtain ⟨XS, hXS⟩ : ∃ XS, ((List.range (p + 1)).flatMap (bx vi fun j => if j = p then .slice (some ⟨wr.heap.size, 0, none⟩) 1 1 else e j)) = XS := ⟨_, rfl⟩
        rw [hXS] at ow1
        have HXS : Hid (((List.range (p + 1)).flatMap (bx vi fun j => if j = p then .slice (some ⟨wr.heap.size, 0, none⟩) 1 1 else e j)) = XS) := hXS
        have HW1 : Hid (W1 = (wr.setCell ⟨g, p * 3 + 2, none⟩ (.slice (some ⟨wr.heap.size, 0, none⟩) 1 1)).alloc (.cells #[.int .i64 ((p : Int) + 1), .slice none 0 0] 53)) := hW1
        clear hcells hfroz hW1 hXS
        go_upto_region 14 with fail
        rw [← HW1.out]
        clear c2 z2 cF1
        have y1 : W1.cell? ⟨w1.heap.size, 1, none⟩ = some (.slice (some ⟨g, 0, none⟩) (p + 1) cap) := rF1.cell (i := 1) (by omega)
        have yz := rF1.frozen 1
        have oA := ow1.alloc (.cells #[.slice none 0 0, .slice none 0 0, .slice none 0 0] 42)
        have hbW1 : Below w.heap.size w W1 := by rw [HW1.out]; exact (hbr.setCell (by simp; omega) _).alloc (by have := hbr.size; simp; omega) _
        go_wp2_with (at_builtin; go_must (refine wpList_append_lies _ rfl _ _ 32 rfl (w.heap.size + 1) 42 iB _ 3 72 Try.underlying32 hiB hzB hzB1 hzB2 rfl (by omega) (.slice (some ⟨g, 0, none⟩) (p + 1) cap) (p + 1) _ (by rfl) oA ⟨W1.heap.size, 0, none⟩ 1 1 [.slice none 0 0, .slice none 0 0, .slice none 0 0] (by rfl) (by rfl) ?c1 ?c2 (by omega) ?c3 ?c4 ?c5 (W1.heap.size + 1) ?c6 ?_))
        case c1 => exact newsL rfl
        case c2 => intro u hu; simp at hu; subst hu; rfl
        case c3 => unfold maxLen; omega
        case c4 => omega
        case c5 => simp; omega
        case c6 => simp
        intro gg cap2 w2 hown2 hgrow hat hgl
        rw [← HXS.out] at hown2
        have hz2 := hgrow.size
        simp at hz2
        have nF : some w1.heap.size ≠ some g := by simpa using hgF'
        have LF := old_cell w1.heap.size
        have x1 := (hgrow.cell_far ⟨w1.heap.size, 1, none⟩ (by simp; omega) nF).trans ((LF _ _ _ (by omega)).trans y1)
        have xz : w2.frozen? ⟨w1.heap.size, 1, none⟩ = false := (hgrow.frozen_far ⟨w1.heap.size, 1, none⟩ (by simp; omega) nF).trans (by rw [frozen?_alloc_cells]; exact yz)
        obtain ⟨W, hW⟩ : ∃ W, W = w2.setCell ⟨w1.heap.size, 1, none⟩ (.slice (some ⟨gg, 0, none⟩) (p + 1 + 1) cap2) := ⟨_, rfl⟩
        have hT2 := hT.add (by omega) (by omega) HW1.out hown2 hgrow hat hW
        have hbW : Below w.heap.size w W := by
          rw [hW]
          refine Below.setCell ((hbW1.alloc (by have := hbW1.size; omega) _).grown hgrow (by have := hbW1.size; simp; omega) (fun h hh => ?_)) (by simp; omega) _
          have : g = h := by simpa [Value.ownBlock] using hh
          omega
        have HW : Hid (W = w2.setCell ⟨w1.heap.size, 1, none⟩ (.slice (some ⟨gg, 0, none⟩) (p + 1 + 1) cap2)) := hW
        clear hW oA hown2 hgrow hat y1 yz LF
        go_wp2
        rw [← HW.out]
        go_roundw
        case rel => exact ⟨p + 1 + 1, _, _, by omega, by omega, by go_num, hT2, hbW⟩
        case measure => simp [intOf]; omega
      · have him : m = i := by omega
        subst him
        have cF0 : wr.cell? ⟨w1.heap.size, 0, none⟩ = some (.slice avv 3 cvv) := hT.rF.cell (i := 0) (by omega)
        obtain ⟨sv, sb⟩ := hT.sl hS hbf (by omega) zf
        obtain ⟨W, hW⟩ : ∃ W, W = wr := ⟨_, rfl⟩
        subst hW
        have HV : Hid (SlOf W 1 RInt (.slice avv 3 cvv) (szB m).values) := sv
        have HB : Hid (SlOf W 3 (RBlk W) (.slice (some ⟨g, 0, none⟩) m cap) (szB m).blocks) := sb
        have hbW := hbr
        have g0 := cF0
        have g1 := cF1
        clear hcells hfroz sv sb cF0 cF1
        have HSF : Hid (∀ w', Below W.heap.size W w' → (fun w' => w'.cell? ⟨w1.heap.size, 0, none⟩ = some (.slice avv 3 cvv) ∧ w'.cell? ⟨w1.heap.size, 1, none⟩ = some (.slice (some ⟨g, 0, none⟩) m cap) ∧ Below W.heap.size W w') w') := fun w' hh => ⟨(hh.cell (by simp; omega)).trans g0, (hh.cell (by simp; omega)).trans g1, hh⟩
        have hbd : Below W.heap.size W W.drew := (Below.refl _ _).drew
        obtain ⟨r, hr⟩ : ∃ r : Int, (if 1 < k then 1 else 0) = r := ⟨_, rfl⟩
        have HR : Hid (shapeErr (szB m) 10 10 = r) := HX.out.trans hr
        have HRR : Hid ((if 1 < k then 1 else 0 : Int) = r) := hr
        clear hr HX
        go_upto_region 22 with fail
        refine wp_region_X (fun w' => w'.cell? ⟨w1.heap.size, 0, none⟩ = some (.slice avv 3 cvv) ∧ w'.cell? ⟨w1.heap.size, 1, none⟩ = some (.slice (some ⟨g, 0, none⟩) m cap) ∧ Below W.heap.size W w') 99 (by kernel_rfl) (HSF.out _ hbd) (fun hHeld => ?_)
        refine wpX_takeg0 (v := ?_) (by kernel_rfl) (fun _ _ _ h => h) (by rfl) ?_ hHeld ?_
        rotate_left
        · intro w' hSw
          go_simp <;> with_reducible rfl
        try simp only [Act.put, List.setIfInBounds_toArray, List.set_cons_zero, List.set_cons_succ]
        refine wpX_step1 (by kernel_rfl) (fun K hK => ?_)
        go_simp
        refine (big_any _).mono ?_
        rintro e w3 ⟨rfl, hb3⟩
        have hc3 : Below W.heap.size W w3 := hbd.trans (hb3.mono hbd.size)
        refine hK.out _ _ (HSF.out _ hc3) (fun hHeld => ?_)
        clear hK K
        try simp only [Act.put, List.setIfInBounds_toArray, List.set_cons_zero, List.set_cons_succ]
        refine wpX_step2 (by kernel_rfl) (fun K hK => ?_)
        go_simp
        refine (check_is (szB m) 10 10 _ _ _ r HR.out (HV.out.below hc3 fun _ _ h => h) (HB.out.below hc3 (RBlk.below hc3))).mono ?_
        rintro e w4 ⟨rfl, hb4'⟩
        have hb4 : Below W.heap.size W w4 := hc3.trans (hb4'.mono hc3.size)
        refine hK.out _ _ (HSF.out _ hb4) (fun hHeld => ?_)
        clear hK K
        try simp only [Act.put, List.setIfInBounds_toArray, List.set_cons_zero, List.set_cons_succ]
        refine wpX_step3 (by kernel_rfl) (fun K hK => ?_)
        go_simp
        refine hK.out _ _ (HSF.out _ hb4) (fun hHeld => ?_)
        clear hK K
        try simp only [Act.put, List.setIfInBounds_toArray, List.set_cons_zero, List.set_cons_succ]
        refine wpAnyX_done (by kernel_rfl) ?_ _
        have hbe : Below w.heap.size w w4 := hbW.trans (hb4.mono (by have := hbW.size; omega))
        have hr := HRR.out
        clear g0 g1
        by_cases h1 : 1 < k
        · have h3 : r = 1 := by simpa [h1] using hr.symm
          subst h3
          have hg : (0 : Int) < (k : Int) - 1 := by omega
          clear hr h1
          go_wp2
          go_ret
          exact ⟨rfl, hbe⟩
        · have h3 : r = 0 := by simpa [h1] using hr.symm
          subst h3
          have hg : ¬ (0 : Int) < (k : Int) - 1 := by omega
          have hg2 : (k : Int) - 1 ≤ 0 := by omega
          clear hr h1
          go_wp2
          go_ret
          refine ⟨?_, hbe⟩
          first | rfl | (simp; omega)
  · obtain ⟨m, hm1, hm2⟩ : ∃ m : Nat, (6 : Int) + ((k : Int) - 1) = m ∧ m = 5 + k := ⟨5 + k, by omega, rfl⟩
    have HX : Hid (shapeErr (szO m) 10 10 = if 1 < k then 1 else 0) := by show _ = _; rw [hm2]; exact sz_opers k (by omega)
    have HM : Hid (m = 5 + k) := hm2
    clear hm2
    obtain ⟨i5, hi5, hz5, hz51, hz52⟩ := info_parts infoOpR
    obtain ⟨i30, hi30, hz30, hz301, hz302⟩ := info_parts infoIn
    go_wp2
    go_loopw [8, 9] (fun sv t wr => ∃ (i : Nat) (v : Value), i ≤ m ∧ v = sv ∧ t = .int .i64 i ∧ wr.ownsRow wf.heap.size 36 5 v i ((List.replicate i useZ).flatMap cO) ∧ Below wf.heap.size wf wr) (fun _ t _ => m - (intOf t).toNat)
    case atStart => exact ⟨0, _, Nat.zero_le _, rfl, rfl, World.ownsRow_nil _ _ _ _, Below.refl _ _⟩
    case round =>
      obtain ⟨i, v, hi, rfl, rfl, hown, hbr⟩ := hrel
      have hm10 : m ≤ 10 := by have := HM.out; omega
      have zr := hbr.size
      by_cases hlt : i < m
      · have oA := (hown.alloc (.cells #[.int .i64 1, .int .i64 0, .bool false, .int .i64 1, .int .i64 0] 36)).alloc (.cells #[.int .i64 1, .int .i64 0, .bool false, .int .i64 1, .int .i64 0] 36)
        go_wp2_with fail
        refine (use_any _ _).mono ?_
        rintro e wu ⟨rfl, rfl⟩
        go_wp2_with (at_builtin; go_must (refine wpList_append_lies _ rfl _ _ 27 rfl wf.heap.size 36 i5 _ 5 40 Try.underlying27 hi5 hz5 hz51 hz52 rfl (by omega) v i _ (by rfl) oA ⟨wr.heap.size + 1, 0, none⟩ 1 1 [.int .i64 1, .int .i64 0, .bool false, .int .i64 1, .int .i64 0] (by rfl) (by rfl) ?c1 ?c2 (by omega) ?c3 ?c4 ?c5 (wr.heap.size + 1 + 1) ?c6 ?_))
        case c1 =>
          have e : wr.heap.size + 1 = (wr.alloc (.cells #[.int .i64 1, .int .i64 0, .bool false, .int .i64 1, .int .i64 0] 36)).heap.size := by simp
          rw [e]
          exact newsL rfl
        case c2 => intro u hu; simp at hu; rcases hu with rfl | rfl | rfl | rfl | rfl <;> rfl
        case c3 => unfold maxLen; omega
        case c4 => omega
        case c5 => simp; omega
        case c6 => simp
        intro g cap wb hown2 hgrow hat hgl
        have hown3 : wb.ownsRow wf.heap.size 36 5 (.slice (some ⟨g, 0, none⟩) (i + 1) cap) (i + 1) ((List.replicate (i + 1) useZ).flatMap cO) := by
          rw [List.replicate_succ', List.flatMap_append]
          exact hown2
        have hbb : Below wf.heap.size wf wb := ((hbr.alloc (by omega) _).alloc (by simp; omega) _).grown hgrow (by simp; omega) (fun h hh => (own_base hown hh).1)
        clear oA hown2 hgrow hat
        go_wp2
        go_roundw
        case rel => exact ⟨i + 1, _, by omega, rfl, by go_num, hown3, hbb⟩
        case measure => simp [intOf]; omega
      · have him : m = i := by omega
        subst him
        have hm5 : 0 < m := by have := HM.out; omega
        obtain ⟨gl, cl, rfl, hgl1, hgl2, _, _⟩ := own_rowL hown hm5
        have hbr1 : Below w1.heap.size w1 wr := hbf.trans (hbr.mono (by omega))
        have hS2 := hS.below hbr1
        have cF := (hbr.cell (p := ⟨w1.heap.size, 1, none⟩) (by simp; omega)).trans f1
        have cF0 := (hbr.cell (p := ⟨w1.heap.size, 0, none⟩) (by simp; omega)).trans f0
        have cB : wr.cell? ⟨w.heap.size + 1, 1, none⟩ = some vi := hS2.r1.cell (i := 1) (by omega)
        have cZ := hS2.r1.frozen 1
        have nB : some (w.heap.size + 1) ≠ vi.ownBlock := fun e => by have := own_base hS.oi e.symm; omega
        have nF : some (w1.heap.size) ≠ vi.ownBlock := fun e => by have := own_base hS.oi e.symm; omega
        have hvi : ∀ x, vi.ownBlock = some x → x < wf.heap.size := fun x hx => by have := own_base hS.oi hx; omega
        have hbY1 : Below wr.heap.size wr (wr.alloc (.cells #[.int .i64 9, .slice (some ⟨gl, 0, none⟩) m cl, .slice none 0 0] 30)).drew := ((Below.refl _ _).alloc (Nat.le_refl _) _).drew
        have hbY2 : Below wr.heap.size wr ((wr.alloc (.cells #[.int .i64 9, .slice (some ⟨gl, 0, none⟩) m cl, .slice none 0 0] 30)).alloc (.cells #[.int .i64 9, .slice (some ⟨gl, 0, none⟩) m cl, .slice none 0 0] 30)).drew := (((Below.refl _ _).alloc (Nat.le_refl _) _).alloc (by simp) _).drew
        have HS21 : Hid (∀ w', Below wr.heap.size wr w' → (fun w' => w'.cell? ⟨w1.heap.size, 1, none⟩ = some (.slice (some ⟨w.heap.size + 1, 0, none⟩) 1 1) ∧ w'.cell? ⟨w.heap.size + 1, 1, none⟩ = some (vi)) w') := fun w' hh => ⟨(hh.cell (by simp; omega)).trans cF, (hh.cell (by simp; omega)).trans cB⟩
        have hbd : Below wr.heap.size wr wr.drew := (Below.refl _ _).drew
        have oA : (((wr.alloc (.cells #[.int .i64 9, .slice (some ⟨gl, 0, none⟩) m cl, .slice none 0 0] 30)).alloc (.cells #[.int .i64 9, .slice (some ⟨gl, 0, none⟩) m cl, .slice none 0 0] 30)).drew).ownsRow (w.heap.size + 1 + 1 + 1) 30 3 vi 3 (lnXs ob 3) := ((hS2.oi.alloc _).alloc _).drew
        have HN : Hid (∀ j u, ([.int .i64 9, .slice (some ⟨gl, 0, none⟩) m cl, .slice none 0 0] : List Value)[j]? = some u → (((wr.alloc (.cells #[.int .i64 9, .slice (some ⟨gl, 0, none⟩) m cl, .slice none 0 0] 30)).alloc (.cells #[.int .i64 9, .slice (some ⟨gl, 0, none⟩) m cl, .slice none 0 0] 30)).drew).cell? ((⟨wr.heap.size + 1, 0, none⟩ : Addr).add j) = some u) := by
          have e : wr.heap.size + 1 = (wr.alloc (.cells #[.int .i64 9, .slice (some ⟨gl, 0, none⟩) m cl, .slice none 0 0] 30)).heap.size := by simp
          intro j u hu
          show ((wr.alloc (.cells #[.int .i64 9, .slice (some ⟨gl, 0, none⟩) m cl, .slice none 0 0] 30)).alloc (.cells #[.int .i64 9, .slice (some ⟨gl, 0, none⟩) m cl, .slice none 0 0] 30)).cell? ((⟨wr.heap.size + 1, 0, none⟩ : Addr).add j) = some u
          rw [e]
          exact newsL rfl j u hu
        have h1c : ∀ u ∈ ([.int .i64 9, .slice (some ⟨gl, 0, none⟩) m cl, .slice none 0 0] : List Value), u.oneCell' = true := by intro u hu; simp at hu; rcases hu with rfl | rfl | rfl <;> rfl
        have hbwr : Below w.heap.size w wr := hb1.trans (hbr1.mono z1)
        go_upto_region 21 with fail
        refine wp_region_X (fun w' => w'.cell? ⟨w1.heap.size, 1, none⟩ = some (.slice (some ⟨w.heap.size + 1, 0, none⟩) 1 1) ∧ w'.cell? ⟨w.heap.size + 1, 1, none⟩ = some (vi)) 13 (by kernel_rfl) (HS21.out _ hbd) (fun hHeld => ?_)
        refine wpX_takeg0 (v := ?_) (by kernel_rfl) (fun _ _ _ h => h) (by rfl) ?_ hHeld ?_
        rotate_left
        · intro w' hSw
          go_simp <;> with_reducible rfl
        try simp only [Act.put, List.setIfInBounds_toArray, List.set_cons_zero, List.set_cons_succ]
        refine wpX_takeg1 (v := ?_) (by kernel_rfl) (fun _ _ _ h => h) (by rfl) ?_ hHeld ?_
        rotate_left
        · intro w' hSw
          go_simp <;> with_reducible rfl
        try simp only [Act.put, List.setIfInBounds_toArray, List.set_cons_zero, List.set_cons_succ]
        refine wpX_takeg2 (v := ?_) (by kernel_rfl) (fun _ _ _ h => h) (by rfl) ?_ hHeld ?_
        rotate_left
        · intro w' hSw
          go_simp <;> with_reducible rfl
        try simp only [Act.put, List.setIfInBounds_toArray, List.set_cons_zero, List.set_cons_succ]
        refine wpX_takeg3 (v := ?_) (by kernel_rfl) (fun _ _ _ h => h) (by rfl) ?_ hHeld ?_
        rotate_left
        · intro w' hSw
          go_simp <;> with_reducible rfl
        try simp only [Act.put, List.setIfInBounds_toArray, List.set_cons_zero, List.set_cons_succ]
        refine wpX_takeg4 (v := ?_) (by kernel_rfl) (fun _ _ _ h => h) (by rfl) ?_ hHeld ?_
        rotate_left
        · intro w' hSw
          go_simp <;> with_reducible rfl
        try simp only [Act.put, List.setIfInBounds_toArray, List.set_cons_zero, List.set_cons_succ]
        refine wpX_takeg5 (v := ?_) (by kernel_rfl) (fun _ _ _ h => h) (by rfl) ?_ hHeld ?_
        rotate_left
        · intro w' hSw
          go_simp <;> with_reducible rfl
        try simp only [Act.put, List.setIfInBounds_toArray, List.set_cons_zero, List.set_cons_succ]
        refine wpX_takeg6 (v := ?_) (by kernel_rfl) (fun _ _ _ h => h) (by rfl) ?_ hHeld ?_
        rotate_left
        · intro w' hSw
          go_simp <;> with_reducible rfl
        try simp only [Act.put, List.setIfInBounds_toArray, List.set_cons_zero, List.set_cons_succ]
        refine wpX_takeg7 (v := ?_) (by kernel_rfl) (fun _ _ _ h => h) (by rfl) ?_ hHeld ?_
        rotate_left
        · intro w' hSw
          go_simp <;> with_reducible rfl
        try simp only [Act.put, List.setIfInBounds_toArray, List.set_cons_zero, List.set_cons_succ]
        refine wpX_step8 (by kernel_rfl) (fun K hK => ?_)
        go_simp
        refine (op_any _ _ _ _ _).mono ?_
        rintro e wx ⟨rfl, rfl⟩
        refine hK.out _ _ (HS21.out _ hbY1) (fun hHeld => ?_)
        clear hK K
        try simp only [Act.put, List.setIfInBounds_toArray, List.set_cons_zero, List.set_cons_succ]
        refine wpX_step9 (by kernel_rfl) (fun K hK => ?_)
        go_simp
        refine hK.out _ _ (HS21.out _ hbY2) (fun hHeld => ?_)
        clear hK K
        try simp only [Act.put, List.setIfInBounds_toArray, List.set_cons_zero, List.set_cons_succ]
        refine wpX_step10 (by kernel_rfl) (fun K hK => ?_)
        refine step_append_lies _ (by rfl) _ _ _ (by rfl) (w.heap.size + 1 + 1 + 1) 30 i30 _ 3 56 Try.underlying39 hi30 hz30 hz301 hz302 rfl (by omega) vi 3 (lnXs ob 3) (by rfl) oA ⟨wr.heap.size + 1, 0, none⟩ 1 1 [.int .i64 9, .slice (some ⟨gl, 0, none⟩) m cl, .slice none 0 0] (by rfl) (by rfl) HN.out h1c (by omega) (by unfold maxLen; omega) (by omega) (by simp; omega) (wr.heap.size + 1 + 1) (by simp) ?_
        intro gg cap2 wb2 hown1 hgrow hat2 hlt2
        have hz2 := hgrow.size
        simp at hz2
        have f1' := (hgrow.cell_far ⟨w1.heap.size, 1, none⟩ (by simp; omega) nF).trans (HS21.out _ hbY2).1
        have b1' := (hgrow.cell_far ⟨w.heap.size + 1, 1, none⟩ (by simp; omega) nB).trans (HS21.out _ hbY2).2
        have f0' := (hgrow.cell_far ⟨w1.heap.size, 0, none⟩ (by simp; omega) nF).trans ((hbY2.cell (p := ⟨w1.heap.size, 0, none⟩) (by simp; omega)).trans cF0)
        have z1' := (hgrow.frozen_far ⟨w.heap.size + 1, 1, none⟩ (by simp; omega) nB).trans ((hbY2.frozen (p := ⟨w.heap.size + 1, 1, none⟩) (by simp; omega)).trans cZ)
        refine hK.out _ _ ⟨f1', b1'⟩ (fun hHeld => ?_)
        clear hK K
        try simp only [Act.put, List.setIfInBounds_toArray, List.set_cons_zero, List.set_cons_succ]
        refine wpX_step11 (by kernel_rfl) (fun K hK => ?_)
        go_simp
        refine hK.out _ _ ⟨f1', b1'⟩ (fun hHeld => ?_)
        clear hK K
        try simp only [Act.put, List.setIfInBounds_toArray, List.set_cons_zero, List.set_cons_succ]
        refine wpX_takeg12 (v := ?_) (by kernel_rfl) (fun _ _ _ h => h) (by rfl) ?_ hHeld ?_
        rotate_left
        · intro w' hSw
          go_simp <;> with_reducible rfl
        try simp only [Act.put, List.setIfInBounds_toArray, List.set_cons_zero, List.set_cons_succ]
        refine wpX_last13 (by kernel_rfl) rfl (by kernel_rfl) (fun K hK => ?_)
        go_simp
        refine hK.out _ _ ?_
        clear hK K
        obtain ⟨W, hW⟩ : ∃ W, W = wb2.setCell ⟨w.heap.size + 1, 1, none⟩ (.slice (some ⟨gg, 0, none⟩) 4 cap2) := ⟨_, rfl⟩
        obtain ⟨sv, sb⟩ := szO_sl hS2 (by omega) hown (by omega) hvi hbY2 hgrow hown1 hW
        have hbW : Below w.heap.size w W := by rw [hW]; exact Below.setCell ((hbwr.trans (hbY2.mono hbwr.size)).grown hgrow (by have := hbwr.size; simp; omega) (fun h hh => by have := own_base hS.oi hh; omega)) (by first | (simp; done) | (simp; omega)) _
        have zW : wr.heap.size < W.heap.size := by rw [hW]; simp; omega
        have g0 : W.cell? ⟨w1.heap.size, 0, none⟩ = some (.slice avv 3 cvv) := by rw [hW, World.cell?_setCell_other _ _ _ _ (by simp <;> omega)]; exact f0'
        have g1 : W.cell? ⟨w1.heap.size, 1, none⟩ = some (.slice (some ⟨w.heap.size + 1, 0, none⟩) 1 1) := by rw [hW, World.cell?_setCell_other _ _ _ _ (by simp <;> omega)]; exact f1'
        have HV : Hid (SlOf W 1 RInt (.slice avv 3 cvv) (szO m).values) := sv
        have HB : Hid (SlOf W 3 (RBlk W) (.slice (some ⟨w.heap.size + 1, 0, none⟩) 1 1) (szO m).blocks) := sb
        rw [← hW]
        clear hW sv sb f0' f1' b1' z1' oA hown1 hgrow hat2 hown
        have HSF : Hid (∀ w', Below W.heap.size W w' → (fun w' => w'.cell? ⟨w1.heap.size, 0, none⟩ = some (.slice avv 3 cvv) ∧ w'.cell? ⟨w1.heap.size, 1, none⟩ = some (.slice (some ⟨w.heap.size + 1, 0, none⟩) 1 1) ∧ Below W.heap.size W w') w') := fun w' hh => ⟨(hh.cell (by simp; omega)).trans g0, (hh.cell (by simp; omega)).trans g1, hh⟩
        have hbd : Below W.heap.size W W.drew := (Below.refl _ _).drew
        obtain ⟨r, hr⟩ : ∃ r : Int, (if 1 < k then 1 else 0) = r := ⟨_, rfl⟩
        have HR : Hid (shapeErr (szO m) 10 10 = r) := HX.out.trans hr
        have HRR : Hid ((if 1 < k then 1 else 0 : Int) = r) := hr
        clear hr HX
        go_upto_region 22 with fail
        refine wp_region_X (fun w' => w'.cell? ⟨w1.heap.size, 0, none⟩ = some (.slice avv 3 cvv) ∧ w'.cell? ⟨w1.heap.size, 1, none⟩ = some (.slice (some ⟨w.heap.size + 1, 0, none⟩) 1 1) ∧ Below W.heap.size W w') 99 (by kernel_rfl) (HSF.out _ hbd) (fun hHeld => ?_)
        refine wpX_takeg0 (v := ?_) (by kernel_rfl) (fun _ _ _ h => h) (by rfl) ?_ hHeld ?_
        rotate_left
        · intro w' hSw
          go_simp <;> with_reducible rfl
        try simp only [Act.put, List.setIfInBounds_toArray, List.set_cons_zero, List.set_cons_succ]
        refine wpX_step1 (by kernel_rfl) (fun K hK => ?_)
        go_simp
        refine (big_any _).mono ?_
        rintro e w3 ⟨rfl, hb3⟩
        have hc3 : Below W.heap.size W w3 := hbd.trans (hb3.mono hbd.size)
        refine hK.out _ _ (HSF.out _ hc3) (fun hHeld => ?_)
        clear hK K
        try simp only [Act.put, List.setIfInBounds_toArray, List.set_cons_zero, List.set_cons_succ]
        refine wpX_step2 (by kernel_rfl) (fun K hK => ?_)
        go_simp
        refine (check_is (szO m) 10 10 _ _ _ r HR.out (HV.out.below hc3 fun _ _ h => h) (HB.out.below hc3 (RBlk.below hc3))).mono ?_
        rintro e w4 ⟨rfl, hb4'⟩
        have hb4 : Below W.heap.size W w4 := hc3.trans (hb4'.mono hc3.size)
        refine hK.out _ _ (HSF.out _ hb4) (fun hHeld => ?_)
        clear hK K
        try simp only [Act.put, List.setIfInBounds_toArray, List.set_cons_zero, List.set_cons_succ]
        refine wpX_step3 (by kernel_rfl) (fun K hK => ?_)
        go_simp
        refine hK.out _ _ (HSF.out _ hb4) (fun hHeld => ?_)
        clear hK K
        try simp only [Act.put, List.setIfInBounds_toArray, List.set_cons_zero, List.set_cons_succ]
        refine wpAnyX_done (by kernel_rfl) ?_ _
        have hbe : Below w.heap.size w w4 := hbW.trans (hb4.mono (by have := hbW.size; omega))
        have hr := HRR.out
        clear g0 g1
        by_cases h1 : 1 < k
        · have h3 : r = 1 := by simpa [h1] using hr.symm
          subst h3
          have hg : (0 : Int) < (k : Int) - 1 := by omega
          clear hr h1
          go_wp2
          go_ret
          exact ⟨rfl, hbe⟩
        · have h3 : r = 0 := by simpa [h1] using hr.symm
          subst h3
          have hg : ¬ (0 : Int) < (k : Int) - 1 := by omega
          have hg2 : (k : Int) - 1 ≤ 0 := by omega
          clear hr h1
          go_wp2
          go_ret
          refine ⟨?_, hbe⟩
          first | rfl | (simp; omega)
  · obtain ⟨m, hm1, hm2⟩ : ∃ m : Nat, (160 : Int) + ((k : Int) - 1) = m ∧ m = 159 + k := ⟨159 + k, by omega, rfl⟩
    have HX : Hid (shapeErr (szV m) 10 10 = if 1 < k then 1 else 6) := by show _ = _; rw [hm2]; exact sz_values k (by omega)
    have HM : Hid (m = 159 + k) := hm2
    have hmk := run_make_row' (P := Try.prog) 31 3 (.int .i64 0) 8 Try.underlying31 infoI3 rfl .i64 .i64 m (by omega) (by omega)
    clear hm2
    obtain ⟨W, hW⟩ : ∃ W, W = (wf.setCell ⟨w1.heap.size, 0, none⟩ (.slice (some ⟨wf.heap.size, 0, none⟩) m m)).alloc (.cells (madeCells #[.int .i64 0] m) 3) := ⟨_, rfl⟩
    have zW : wf.heap.size < W.heap.size := by rw [hW]; simp
    have hbW1 : Below w1.heap.size w1 W := by rw [hW]; exact (hbf.setCell (by simp) _).alloc (by simp; omega) _
    have hbW : Below w.heap.size w W := hb1.trans (hbW1.mono z1)
    have LF := old_cell w1.heap.size
    have g0 : W.cell? ⟨w1.heap.size, 0, none⟩ = some (.slice (some ⟨wf.heap.size, 0, none⟩) m m) := by rw [hW, LF _ _ _ (by simpa using zf)]; go_simp
    have g1 : W.cell? ⟨w1.heap.size, 1, none⟩ = some (.slice (some ⟨w.heap.size + 1, 0, none⟩) 1 1) := by rw [hW, LF _ _ _ (by simpa using zf)]; go_simp
    obtain ⟨_, _, sb0⟩ := hS.sl (by omega)
    have sb := sb0.below hbW1 (RBlk.below hbW1)
    have rr : W.rowIs wf.heap.size 3 m (fun _ => .int .i64 0) := by
      rw [hW]
      have hh := World.rowIs_made (wf.setCell ⟨w1.heap.size, 0, none⟩ (.slice (some ⟨wf.heap.size, 0, none⟩) m m)) (.int .i64 0) m 3
      have e : (wf.setCell ⟨w1.heap.size, 0, none⟩ (.slice (some ⟨wf.heap.size, 0, none⟩) m m)).heap.size = wf.heap.size := by simp
      rw [e] at hh
      exact hh
    have sv : SlOf W 1 RInt (.slice (some ⟨wf.heap.size, 0, none⟩) m m) (szV m).values := by
      refine ⟨some ⟨wf.heap.size, 0, none⟩, m, by simp [szV], by simp [szV, longest]; have := HM.out; omega, Or.inr ⟨wf.heap.size, 0, rfl, fun i hi => ⟨[.int .i64 0], rfl, by simp [szV, RInt], fun j hj => ?_⟩⟩⟩
      have hj0 : j = 0 := by simpa using hj
      subst hj0
      have hi' : i < m := by simpa [szV] using hi
      simpa using rr.cell hi'
    have HV : Hid (SlOf W 1 RInt (.slice (some ⟨wf.heap.size, 0, none⟩) m m) (szV m).values) := sv
    have HB : Hid (SlOf W 3 (RBlk W) (.slice (some ⟨w.heap.size + 1, 0, none⟩) 1 1) (szV m).blocks) := sb
    have HW : Hid (W = (wf.setCell ⟨w1.heap.size, 0, none⟩ (.slice (some ⟨wf.heap.size, 0, none⟩) m m)).alloc (.cells (madeCells #[.int .i64 0] m) 3)) := hW
    clear hW sv sb sb0 rr LF
    go_upto_region 5 with fail
    rw [← HW.out]
    have HSF : Hid (∀ w', Below W.heap.size W w' → (fun w' => w'.cell? ⟨w1.heap.size, 0, none⟩ = some (.slice (some ⟨wf.heap.size, 0, none⟩) m m) ∧ w'.cell? ⟨w1.heap.size, 1, none⟩ = some (.slice (some ⟨w.heap.size + 1, 0, none⟩) 1 1) ∧ Below W.heap.size W w') w') := fun w' hh => ⟨(hh.cell (by simp; omega)).trans g0, (hh.cell (by simp; omega)).trans g1, hh⟩
    have hbd : Below W.heap.size W W.drew := (Below.refl _ _).drew
    obtain ⟨r, hr⟩ : ∃ r : Int, (if 1 < k then 1 else 6) = r := ⟨_, rfl⟩
    have HR : Hid (shapeErr (szV m) 10 10 = r) := HX.out.trans hr
    have HRR : Hid ((if 1 < k then 1 else 6 : Int) = r) := hr
    clear hr HX
    refine wp_region_X (fun w' => w'.cell? ⟨w1.heap.size, 0, none⟩ = some (.slice (some ⟨wf.heap.size, 0, none⟩) m m) ∧ w'.cell? ⟨w1.heap.size, 1, none⟩ = some (.slice (some ⟨w.heap.size + 1, 0, none⟩) 1 1) ∧ Below W.heap.size W w') 99 (by kernel_rfl) (HSF.out _ hbd) (fun hHeld => ?_)
    refine wpX_takeg0 (v := ?_) (by kernel_rfl) (fun _ _ _ h => h) (by rfl) ?_ hHeld ?_
    rotate_left
    · intro w' hSw
      go_simp <;> with_reducible rfl
    try simp only [Act.put, List.setIfInBounds_toArray, List.set_cons_zero, List.set_cons_succ]
    refine wpX_step1 (by kernel_rfl) (fun K hK => ?_)
    go_simp
    refine (big_any _).mono ?_
    rintro e w3 ⟨rfl, hb3⟩
    have hc3 : Below W.heap.size W w3 := hbd.trans (hb3.mono hbd.size)
    refine hK.out _ _ (HSF.out _ hc3) (fun hHeld => ?_)
    clear hK K
    try simp only [Act.put, List.setIfInBounds_toArray, List.set_cons_zero, List.set_cons_succ]
    refine wpX_step2 (by kernel_rfl) (fun K hK => ?_)
    go_simp
    refine (check_is (szV m) 10 10 _ _ _ r HR.out (HV.out.below hc3 fun _ _ h => h) (HB.out.below hc3 (RBlk.below hc3))).mono ?_
    rintro e w4 ⟨rfl, hb4'⟩
    have hb4 : Below W.heap.size W w4 := hc3.trans (hb4'.mono hc3.size)
    refine hK.out _ _ (HSF.out _ hb4) (fun hHeld => ?_)
    clear hK K
    try simp only [Act.put, List.setIfInBounds_toArray, List.set_cons_zero, List.set_cons_succ]
    refine wpX_step3 (by kernel_rfl) (fun K hK => ?_)
    go_simp
    refine hK.out _ _ (HSF.out _ hb4) (fun hHeld => ?_)
    clear hK K
    try simp only [Act.put, List.setIfInBounds_toArray, List.set_cons_zero, List.set_cons_succ]
    refine wpAnyX_done (by kernel_rfl) ?_ _
    have hbe : Below w.heap.size w w4 := hbW.trans (hb4.mono (by have := hbW.size; omega))
    have hr := HRR.out
    clear g0 g1
    by_cases h1 : 1 < k
    · have h3 : r = 1 := by simpa [h1] using hr.symm
      subst h3
      have hg : (0 : Int) < (k : Int) - 1 := by omega
      clear hr h1
      go_wp2
      go_ret
      exact ⟨rfl, hbe⟩
    · have h3 : r = 6 := by simpa [h1] using hr.symm
      subst h3
      have hg : ¬ (0 : Int) < (k : Int) - 1 := by omega
      have hg2 : (k : Int) - 1 ≤ 0 := by omega
      clear hr h1
      go_wp2
      go_ret
      refine ⟨?_, hbe⟩
      first | rfl | (simp; omega)
end Go.Proofs.Ytnghhhlcifpiaab
