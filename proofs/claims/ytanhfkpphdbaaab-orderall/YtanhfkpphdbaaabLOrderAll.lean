/-
  The walk of OrderAll: each block stands once in the order, behind one that dominates it.
-/
import Derived.Test.YtanhfkpphdbaaabF8
import Derived.Test.YtanhfkpphdbaaabF8t
import Derived.Test.YtanhfkpphdbaaabD2
import Derived.Test.YtanhfkpphdbaaabA5x
namespace Go.Proofs.Ytanhfkpphdbaaab
open Go.RowKit
set_option linter.unusedVariables false

set_option maxRecDepth 8000 in
set_option maxHeartbeats 8000000 in
theorem orderAll_walk (a : Int) (wa : (Lit.int .i64 a).wf = true) (b : Int) (wb : (Lit.int .i64 b).wf = true) (l : List Pc) (vl : Value) (w : World) (hl : SlOf w 7 RPc vl l) (hp : ∀ p ∈ l, PcF p) :
    Calls Try.prog 5 #[.int .i64 a, .int .i64 b, vl] w fun e w' => e = .returned (.bool true) ∧ Below w.heap.size w w' := by
  obtain ⟨a0, a1⟩ := bounds_i64 wa
  obtain ⟨b0, b1⟩ := bounds_i64 wb
  have HMA := machine_any a b w a0 a1 b0 b1
  have hm0 := machine_bd a
  have hm1 := machine_bd b
  generalize 2 + pickedOf a 9 = m0 at *
  generalize 2 + pickedOf b 9 = m1 at *
  have HM : Hid ((2 ≤ m0 ∧ m0 ≤ 10) ∧ 2 ≤ m1 ∧ m1 ≤ 10) := ⟨hm0, hm1⟩
  have HL : Hid (SlOf w 7 RPc vl l) := hl
  have HP : Hid (∀ p ∈ l, PcOk p ∧ -9223372036854775808 ≤ p.kind ∧ p.kind ≤ 9223372036854775807) := hp
  clear wa wb hl hp hm0 hm1
  go_enter Try.func5, Try.ntmps5
  go_upto_region 2 with (go_at_call 7; refine HMA.mono ?_; rintro e w1 ⟨rfl, hb1⟩)
  obtain ⟨W1, hW1⟩ : ∃ W1, W1 = w1.alloc (.cells #[.int .i64 m0, .int .i64 m1] 25) := ⟨_, rfl⟩
  have r1 : W1.rowIs w1.heap.size 25 2 (fun q => if q = 0 then .int .i64 m0 else .int .i64 m1) := by
    rw [hW1]
    exact World.rowIs_alloc w1 #[.int .i64 m0, .int .i64 m1] 25 _ fun i hi => by
      simp at hi
      match i, hi with | 0, _ => rfl | 1, _ => rfl
  have HB0 : Hid (Below w.heap.size w W1) := by
    show Below _ _ _
    rw [hW1]
    exact hb1.alloc hb1.size _
  rw [← hW1]
  clear hW1 HMA hb1
  obtain ⟨X, hX⟩ : ∃ X, w1.heap.size = X := ⟨_, rfl⟩
  rw [hX] at r1
  rw [hX]
  have f0 : W1.cell? ⟨X, 0, none⟩ = some (.int .i64 m0) := r1.cell (i := 0) (by omega)
  have f1 : W1.cell? ⟨X, 1, none⟩ = some (.int .i64 m1) := r1.cell (i := 1) (by omega)
  have lX := r1.lt
  clear hX r1
  have HFN := ma_func m0 m1 l vl W1 HM.out.1 HM.out.2 (HL.out.below HB0.out fun _ _ h => h) HP.out
  go_wp2_with fail
  refine HFN.mono ?_
  clear HFN
  rintro e w2 ⟨vv, vb, rfl, hv2, hb2, hbw2⟩
  obtain ⟨av, cv, rfl, lv⟩ := hv2.out
  obtain ⟨ab, cb, rfl, lb⟩ := hb2.out
  have HF : Hid (shapeErr (masonM m0 m1 l) m0 m1 = 0) := mason_shape m0 m1 HM.out.1 HM.out.2 l
  have HFL0 : Hid (flowE (masonM m0 m1 l) m0 m1 ((masonM m0 m1 l).blocks.length * (masonM m0 m1 l).blocks.length + 1) = 0) := mason_flow m0 m1 HM.out.1 HM.out.2 l
  generalize hf : masonM m0 m1 l = f at *
  clear hf
  have f0' : w2.cell? ⟨X, 0, none⟩ = some (.int .i64 m0) := (hbw2.cell (p := ⟨X, 0, none⟩) lX).trans f0
  have f1' : w2.cell? ⟨X, 1, none⟩ = some (.int .i64 m1) := (hbw2.cell (p := ⟨X, 1, none⟩) lX).trans f1
  have lX' : X < w2.heap.size := Nat.lt_of_lt_of_le lX hbw2.size
  have HB2 : Hid (Below w.heap.size w w2) := HB0.out.trans (hbw2.mono HB0.out.size)
  have HV2 : Hid (SlOf w2 1 RInt (.slice av f.values.length cv) f.values) := hv2
  have HBL2 : Hid (SlOf w2 3 (RBlk w2) (.slice ab f.blocks.length cb) f.blocks) := hb2
  unfold longest at lv lb
  clear f0 f1 lX HB0 hbw2 hv2 hb2
  generalize hnv : f.values.length = nv at *
  generalize hnb : f.blocks.length = nb at *
  have HNV : Hid (f.values.length = nv) := hnv
  have HNB : Hid (f.blocks.length = nb) := hnb
  clear hnv hnb
  have HFL : Hid (flowE f m0 m1 (nb * nb + 1) = 0) := HFL0
  clear HFL0
  go_upto_region 3 with fail
  obtain ⟨W, hW⟩ : ∃ W, W = w2.alloc (.cells #[.slice av nv cv, .slice ab nb cb] 30) := ⟨_, rfl⟩
  obtain ⟨Y, hY⟩ : ∃ Y, w2.heap.size = Y := ⟨_, rfl⟩
  have rY : W.rowIs Y 30 2 (fun q => if q = 0 then .slice av nv cv else .slice ab nb cb) := by
    rw [hW, ← hY]
    exact World.rowIs_alloc w2 #[.slice av nv cv, .slice ab nb cb] 30 _ fun i hi => by
      simp at hi
      match i, hi with | 0, _ => rfl | 1, _ => rfl
  have hbW : Below w2.heap.size w2 W := by rw [hW]; exact (Below.refl _ _).alloc (Nat.le_refl _) _
  have g0 : W.cell? ⟨Y, 0, none⟩ = some (.slice av nv cv) := rY.cell (i := 0) (by omega)
  have g1 : W.cell? ⟨Y, 1, none⟩ = some (.slice ab nb cb) := rY.cell (i := 1) (by omega)
  have lY := rY.lt
  have f0 : W.cell? ⟨X, 0, none⟩ = some (.int .i64 m0) := (hbW.cell (p := ⟨X, 0, none⟩) lX').trans f0'
  have f1 : W.cell? ⟨X, 1, none⟩ = some (.int .i64 m1) := (hbW.cell (p := ⟨X, 1, none⟩) lX').trans f1'
  have lX : X < W.heap.size := Nat.lt_of_lt_of_le lX' hbW.size
  have HB : Hid (Below w.heap.size w W) := HB2.out.trans (hbW.mono HB2.out.size)
  have HV : Hid (SlOf W 1 RInt (.slice av nv cv) f.values) := HV2.out.below hbW fun _ _ h => h
  have HBL : Hid (SlOf W 3 (RBlk W) (.slice ab nb cb) f.blocks) := HBL2.out.below hbW (RBlk.below hbW)
  rw [← hW, hY]
  clear hW hY rY hbW f0' f1' lX' HB2 HV2 HBL2
  have HD := dominators_is f (nb * nb + 1) nv nb m0 m1 av ab cv cb HFL.out HNV.out HNB.out W HV.out HBL.out (fun h => by have := flowIn_all h; rw [HNB.out] at this; exact this)
  go_wp2_with fail
  refine HD.mono ?_
  clear HD
  rintro e w3 ⟨g, ib, db, co, rfl, hg, hi, hd, s1, s2, s3, hb3⟩
  have HTF : Hid (TF f nb (orderM f.blocks) (idomF f (nb * nb + 1)) (depthF f (nb * nb + 1))) := by
    have h := tree_facts (f := f) (m0 := m0) (m1 := m1) (by rw [HNB.out]; exact HFL.out)
    rw [HNB.out] at h
    exact h
  generalize orderM f.blocks = ord at *
  generalize idomF f (nb * nb + 1) = idom at *
  generalize depthF f (nb * nb + 1) = dep at *
  obtain ⟨W4, hW4⟩ : ∃ W4, W4 = w3.alloc (.cells #[.slice (some ⟨g, 0, none⟩) nb co, .slice (some ⟨ib, 0, none⟩) nb nb, .slice (some ⟨db, 0, none⟩) nb nb] 33) := ⟨_, rfl⟩
  obtain ⟨Z, hZ⟩ : ∃ Z, w3.heap.size = Z := ⟨_, rfl⟩
  have rZ : W4.rowIs Z 33 3 (fun q => ([.slice (some ⟨g, 0, none⟩) nb co, .slice (some ⟨ib, 0, none⟩) nb nb, .slice (some ⟨db, 0, none⟩) nb nb] : List Value).getD q (.int .i64 0)) := by
    rw [hW4, ← hZ]
    exact World.rowIs_alloc w3 #[.slice (some ⟨g, 0, none⟩) nb co, .slice (some ⟨ib, 0, none⟩) nb nb, .slice (some ⟨db, 0, none⟩) nb nb] 33 _ fun i hi => by
      simp at hi
      match i, hi with | 0, _ => rfl | 1, _ => rfl | 2, _ => rfl
  have hb34 : Below w3.heap.size w3 W4 := by rw [hW4]; exact (Below.refl _ _).alloc (Nat.le_refl _) _
  have hb4 : Below W.heap.size W W4 := hb3.trans (hb34.mono hb3.size)
  have z0 : W4.cell? ⟨Z, 0, none⟩ = some (.slice (some ⟨g, 0, none⟩) nb co) := rZ.cell (i := 0) (by omega)
  have z1 : W4.cell? ⟨Z, 1, none⟩ = some (.slice (some ⟨ib, 0, none⟩) nb nb) := rZ.cell (i := 1) (by omega)
  have z2 : W4.cell? ⟨Z, 2, none⟩ = some (.slice (some ⟨db, 0, none⟩) nb nb) := rZ.cell (i := 2) (by omega)
  have lZ := rZ.lt
  have g0' := (hb4.cell (p := ⟨Y, 0, none⟩) lY).trans g0
  have g1' := (hb4.cell (p := ⟨Y, 1, none⟩) lY).trans g1
  have lY' : Y < W4.heap.size := Nat.lt_of_lt_of_le lY hb4.size
  have HB4 : Hid (Below w.heap.size w W4) := HB.out.trans (hb4.mono HB.out.size)
  have HO : Hid (SlOf W4 1 RInt (.slice (some ⟨g, 0, none⟩) nb co) ord) := s1.below hb34 fun _ _ h => h
  have HI : Hid (SlOf W4 1 RInt (.slice (some ⟨ib, 0, none⟩) nb nb) (fnL nb idom)) := s2.below hb34 fun _ _ h => h
  have HDP : Hid (SlOf W4 1 RInt (.slice (some ⟨db, 0, none⟩) nb nb) (fnL nb dep)) := s3.below hb34 fun _ _ h => h
  have HBL4 : Hid (SlOf W4 3 (RBlk W4) (.slice ab nb cb) f.blocks) := HBL.out.below hb4 (RBlk.below hb4)
  have HV4 : Hid (SlOf W4 1 RInt (.slice av nv cv) f.values) := HV.out.below hb4 fun _ _ h => h
  have HCO : Hid (w.heap.size ≤ g ∧ w.heap.size ≤ ib ∧ w.heap.size ≤ db) := ⟨Nat.le_trans HB.out.size hg.1, Nat.le_trans HB.out.size hi, Nat.le_trans HB.out.size hd⟩
  have HW4 : Hid (W4 = w3.alloc (.cells #[.slice (some ⟨g, 0, none⟩) nb co, .slice (some ⟨ib, 0, none⟩) nb nb, .slice (some ⟨db, 0, none⟩) nb nb] 33)) := hW4
  have HZ : Hid (w3.heap.size = Z) := hZ
  have HCC : Hid (nb ≤ co) := hg.2
  have y2 := (hb3.cell (p := ⟨Y, 0, none⟩) lY).trans g0
  have y3 := (hb3.cell (p := ⟨Y, 1, none⟩) lY).trans g1
  clear hW4 hZ rZ hb34 hb4 hb3 s1 s2 s3 hg hi hd f0 f1 g0 g1 lX lY HV HBL HB HM
  go_upto_region 4 with fail
  rw [← HW4.out, HZ.out]
  clear HW4 HZ y2 y3
  obtain ⟨nb0, nb1⟩ : 0 < nb ∧ nb ≤ 16 := ⟨HTF.out.pos, HTF.out.few⟩
  have hord0 := (rowl_at HO.out 0 (by rw [HTF.out.olen]; omega)).1
  rw [HTF.out.first] at hord0
  go_wp2_with fail
  clear hord0
  go_loopw [11] (fun i wr => ∃ k : Nat, k ≤ nb ∧ i = .int .i64 k ∧ Hid (Below W4.heap.size W4 wr)) (fun i _ => nb - (intOf i).toNat)
  case atStart => exact ⟨0, Nat.zero_le _, rfl, Below.refl _ _⟩
  case round =>
    obtain ⟨k, hk, rfl, HBR⟩ := hrel
    have hbr := HBR.out
    have r0 := (hbr.cell (p := ⟨Z, 0, none⟩) lZ).trans z0
    have r1 := (hbr.cell (p := ⟨Z, 1, none⟩) lZ).trans z1
    by_cases hlt : k < nb
    · have hko : k < ord.length := by rw [HTF.out.olen]; exact hlt
      have hom : ord.getD k 0 ∈ ord := by
        rw [List.getD_eq_getElem?_getD, List.getElem?_eq_getElem hko]
        exact List.getElem_mem _
      obtain ⟨o0, o1⟩ := HTF.out.rng _ hom
      have hro := rowl_at HO.out k hko
      have ro := (hbr.cell (p := ⟨g, k, none⟩) hro.2).trans hro.1
      have hrd := row_fn HI.out (ord.getD k 0).toNat (by omega)
      have rd := (hbr.cell (p := ⟨ib, (ord.getD k 0).toNat, none⟩) hrd.2).trans hrd.1
      have HTL : Hid ((ord.take k).length = k) := by show _ = _; rw [List.length_take]; omega
      have HOr : Hid (SlOf wr 1 RInt (.slice (some ⟨g, 0, none⟩) k co) (ord.take k)) := (HO.out.take k (by omega) co).below hbr fun _ _ h => h
      have HN1 : Hid (decide (ord.getD k 0 ∈ ord.take k) = false) := by
        show _ = _
        rw [decide_eq_false_iff_not]
        intro hm
        obtain ⟨j, hj, e⟩ := List.mem_take_iff_getElem.1 hm
        have e2 : ord.getD k 0 = ord[k] := by rw [List.getD_eq_getElem?_getD, List.getElem?_eq_getElem hko]; rfl
        rw [e2] at e
        have := (List.getElem_inj HTF.out.nod).1 e
        omega
      have HN2 : Hid (0 < k → decide (idom (ord.getD k 0).toNat ∈ ord.take k) = true) := fun h => by
        rw [decide_eq_true_eq]
        exact HTF.out.beh k h hlt
      obtain ⟨d0, d1⟩ := HTF.out.idr (ord.getD k 0).toNat (by omega)
      have hkco : k ≤ co := by have := HCC.out; omega
      have lg : g < wr.heap.size := Nat.lt_of_lt_of_le hro.2 hbr.size
      have lib : ib < wr.heap.size := Nat.lt_of_lt_of_le hrd.2 hbr.size
      have lZr : Z < wr.heap.size := Nat.lt_of_lt_of_le lZ hbr.size
      clear hro hrd hom hko
      generalize idom (ord.getD k 0).toNat = d at *
      generalize ord.getD k 0 = o at *
      have HSF : Hid (∀ w', Below wr.heap.size wr w' → (fun w' => w'.cell? ⟨Z, 0, none⟩ = some (.slice (some ⟨g, 0, none⟩) nb co) ∧ w'.cell? ⟨Z, 1, none⟩ = some (.slice (some ⟨ib, 0, none⟩) nb nb) ∧ w'.cell? ⟨g, k, none⟩ = some (.int .i64 o) ∧ w'.cell? ⟨ib, o.toNat, none⟩ = some (.int .i64 d) ∧ Below wr.heap.size wr w') w') := fun w' hh => ⟨(hh.cell (by simp; omega)).trans r0, (hh.cell (by simp; omega)).trans r1, (hh.cell (by simp; omega)).trans ro, (hh.cell (by simp; omega)).trans rd, hh⟩
      have hbd : Below wr.heap.size wr wr.drew := (Below.refl _ _).drew
      go_upto_region 9 with fail
      by_cases hk0 : k = 0
      · have q0 : decide ((0 : Int) < (k : Int)) = false := by simp; omega
        have q1 : ¬ (0 : Int) < (k : Int) := by omega
        have q2 : decide (0 < k) = false := by simp; omega
        have q3 : ¬ 0 < k := by omega
        clear hk0 HN2
        refine wp_region_X (fun w' => w'.cell? ⟨Z, 0, none⟩ = some (.slice (some ⟨g, 0, none⟩) nb co) ∧ w'.cell? ⟨Z, 1, none⟩ = some (.slice (some ⟨ib, 0, none⟩) nb nb) ∧ w'.cell? ⟨g, k, none⟩ = some (.int .i64 o) ∧ w'.cell? ⟨ib, o.toNat, none⟩ = some (.int .i64 d) ∧ Below wr.heap.size wr w') 99 (by kernel_rfl) (HSF.out _ hbd) (fun hHeld => ?_)
        refine wpX_takeg0 (v := ?_) (by kernel_rfl) (fun _ _ _ h => h) (by rfl) ?_ hHeld ?_
        rotate_left
        · intro w' hSw
          go_simp <;> with_reducible rfl
        try simp only [Act.put, List.setIfInBounds_toArray, List.set_cons_zero, List.set_cons_succ]
        refine wpX_takeg1 (v := ?_) (by kernel_rfl) (fun _ _ _ h => h) (by rfl) ?_ hHeld ?_
        rotate_left
        · intro w' hSw
          go_simp <;> with_reducible rfl
        try simp only [Act.put, List.setIfInBounds_toArray, List.set_cons_zero, List.set_cons_succ]
        refine wpX_takeg2 (v := ?_) (by kernel_rfl) (fun _ _ _ h => h) (by rfl) ?_ hHeld ?_
        rotate_left
        · intro w' hSw
          go_simp <;> with_reducible rfl
        try simp only [Act.put, List.setIfInBounds_toArray, List.set_cons_zero, List.set_cons_succ]
        refine wpX_takeg3 (v := ?_) (by kernel_rfl) (fun _ _ _ h => h) (by rfl) ?_ hHeld ?_
        rotate_left
        · intro w' hSw
          go_simp <;> with_reducible rfl
        try simp only [Act.put, List.setIfInBounds_toArray, List.set_cons_zero, List.set_cons_succ]
        refine wpX_takeg4 (v := ?_) (by kernel_rfl) (fun _ _ _ h => h) (by rfl) ?_ hHeld ?_
        rotate_left
        · intro w' hSw
          go_simp <;> with_reducible rfl
        try simp only [Act.put, List.setIfInBounds_toArray, List.set_cons_zero, List.set_cons_succ]
        refine wpX_takeg5 (v := ?_) (by kernel_rfl) (fun _ _ _ h => h) (by rfl) ?_ hHeld ?_
        rotate_left
        · intro w' hSw
          go_simp <;> with_reducible rfl
        try simp only [Act.put, List.setIfInBounds_toArray, List.set_cons_zero, List.set_cons_succ]
        refine wpX_takeg6 (v := ?_) (by kernel_rfl) (fun _ _ _ h => h) (by rfl) ?_ hHeld ?_
        rotate_left
        · intro w' hSw
          go_simp <;> with_reducible rfl
        try simp only [Act.put, List.setIfInBounds_toArray, List.set_cons_zero, List.set_cons_succ]
        refine wpX_takeg7 (v := ?_) (by kernel_rfl) (fun _ _ _ h => h) (by rfl) ?_ hHeld ?_
        rotate_left
        · intro w' hSw
          go_simp <;> with_reducible rfl
        try simp only [Act.put, List.setIfInBounds_toArray, List.set_cons_zero, List.set_cons_succ]
        refine wpX_takeg8 (v := ?_) (by kernel_rfl) (fun _ _ _ h => h) (by rfl) ?_ hHeld ?_
        rotate_left
        · intro w' hSw
          go_simp <;> with_reducible rfl
        try simp only [Act.put, List.setIfInBounds_toArray, List.set_cons_zero, List.set_cons_succ]
        refine wpX_step9 (by kernel_rfl) (fun K hK => ?_)
        go_simp
        refine (has_any (ord.take k) (some ⟨g, 0, none⟩) k co o _ HTL.out ((HOr.out.below hbd fun _ _ h => h)) false HN1.out).mono ?_
        rintro e w5 ⟨rfl, hb5⟩
        have hc5 : Below wr.heap.size wr w5 := hbd.trans (hb5.mono hbd.size)
        refine hK.out _ _ (HSF.out _ hc5) (fun hHeld => ?_)
        clear hK K
        try simp only [Act.put, List.setIfInBounds_toArray, List.set_cons_zero, List.set_cons_succ]
        refine wpX_step10 (by kernel_rfl) (fun K hK => ?_)
        go_simp
        refine hK.out _ _ (HSF.out _ hc5) (fun hHeld => ?_)
        clear hK K
        try simp only [Act.put, List.setIfInBounds_toArray, List.set_cons_zero, List.set_cons_succ]
        refine wpX_step11 (by kernel_rfl) (fun K hK => ?_)
        go_simp
        refine hK.out _ _ (HSF.out _ hc5) (fun hHeld => ?_)
        clear hK K
        try simp only [Act.put, List.setIfInBounds_toArray, List.set_cons_zero, List.set_cons_succ]
        refine wpX_step12 (by kernel_rfl) (fun K hK => ?_)
        go_simp
        refine hK.out _ _ (HSF.out _ hc5) (fun hHeld => ?_)
        clear hK K
        try simp only [Act.put, List.setIfInBounds_toArray, List.set_cons_zero, List.set_cons_succ]
        refine wpX_step13 (by kernel_rfl) (fun K hK => ?_)
        go_simp
        refine hK.out _ _ (HSF.out _ hc5) (fun hHeld => ?_)
        clear hK K
        try simp only [Act.put, List.setIfInBounds_toArray, List.set_cons_zero, List.set_cons_succ]
        refine wpX_skip14 (by kernel_rfl) (fun _ _ _ h => h) (by rfl) hHeld ?_
        try simp only [Act.put, List.setIfInBounds_toArray, List.set_cons_zero, List.set_cons_succ]
        refine wpX_skip15 (by kernel_rfl) (fun _ _ _ h => h) (by rfl) hHeld ?_
        try simp only [Act.put, List.setIfInBounds_toArray, List.set_cons_zero, List.set_cons_succ]
        refine wpX_skip16 (by kernel_rfl) (fun _ _ _ h => h) (by rfl) hHeld ?_
        try simp only [Act.put, List.setIfInBounds_toArray, List.set_cons_zero, List.set_cons_succ]
        refine wpX_skip17 (by kernel_rfl) (fun _ _ _ h => h) (by rfl) hHeld ?_
        try simp only [Act.put, List.setIfInBounds_toArray, List.set_cons_zero, List.set_cons_succ]
        refine wpX_skip18 (by kernel_rfl) (fun _ _ _ h => h) (by rfl) hHeld ?_
        try simp only [Act.put, List.setIfInBounds_toArray, List.set_cons_zero, List.set_cons_succ]
        refine wpX_skip19 (by kernel_rfl) (fun _ _ _ h => h) (by rfl) hHeld ?_
        try simp only [Act.put, List.setIfInBounds_toArray, List.set_cons_zero, List.set_cons_succ]
        refine wpX_skip20 (by kernel_rfl) (fun _ _ _ h => h) (by rfl) hHeld ?_
        try simp only [Act.put, List.setIfInBounds_toArray, List.set_cons_zero, List.set_cons_succ]
        refine wpX_skip21 (by kernel_rfl) (fun _ _ _ h => h) (by rfl) hHeld ?_
        try simp only [Act.put, List.setIfInBounds_toArray, List.set_cons_zero, List.set_cons_succ]
        refine wpX_skip22 (by kernel_rfl) (fun _ _ _ h => h) (by rfl) hHeld ?_
        try simp only [Act.put, List.setIfInBounds_toArray, List.set_cons_zero, List.set_cons_succ]
        refine wpX_skip23 (by kernel_rfl) (fun _ _ _ h => h) (by rfl) hHeld ?_
        try simp only [Act.put, List.setIfInBounds_toArray, List.set_cons_zero, List.set_cons_succ]
        refine wpX_skip24 (by kernel_rfl) (fun _ _ _ h => h) (by rfl) hHeld ?_
        try simp only [Act.put, List.setIfInBounds_toArray, List.set_cons_zero, List.set_cons_succ]
        refine wpX_skip25 (by kernel_rfl) (fun _ _ _ h => h) (by rfl) hHeld ?_
        try simp only [Act.put, List.setIfInBounds_toArray, List.set_cons_zero, List.set_cons_succ]
        refine wpX_skip26 (by kernel_rfl) (fun _ _ _ h => h) (by rfl) hHeld ?_
        try simp only [Act.put, List.setIfInBounds_toArray, List.set_cons_zero, List.set_cons_succ]
        refine wpX_skip27 (by kernel_rfl) (fun _ _ _ h => h) (by rfl) hHeld ?_
        try simp only [Act.put, List.setIfInBounds_toArray, List.set_cons_zero, List.set_cons_succ]
        refine wpX_skip28 (by kernel_rfl) (fun _ _ _ h => h) (by rfl) hHeld ?_
        try simp only [Act.put, List.setIfInBounds_toArray, List.set_cons_zero, List.set_cons_succ]
        refine wpX_step29 (by kernel_rfl) (fun K hK => ?_)
        go_simp
        refine hK.out _ _ (HSF.out _ hc5) (fun hHeld => ?_)
        clear hK K
        try simp only [Act.put, List.setIfInBounds_toArray, List.set_cons_zero, List.set_cons_succ]
        refine wpX_step30 (by kernel_rfl) (fun K hK => ?_)
        go_simp
        refine hK.out _ _ (HSF.out _ hc5) (fun hHeld => ?_)
        clear hK K
        try simp only [Act.put, List.setIfInBounds_toArray, List.set_cons_zero, List.set_cons_succ]
        refine wpAnyX_done (by kernel_rfl) ?_ _
        have HN : Hid (Below W4.heap.size W4 w5) := hbr.trans (hc5.mono hbr.size)
        clear hb5 hc5 hHeld
        go_wp2
        go_roundw
        case rel => exact ⟨k + 1, by omega, by go_num, HN⟩
        case measure => simp [intOf]; omega
      · have hkp : (0 : Int) < (k : Int) := by omega
        have hkd : decide ((0 : Int) < (k : Int)) = true := by simp; omega
        have hkn : 0 < k := by omega
        have hkm : decide (0 < k) = true := by simp; omega
        have HN2' : Hid (decide (d ∈ ord.take k) = true) := HN2.out (by omega)
        clear HN2
        obtain ⟨HN2⟩ : Nonempty (Hid (decide (d ∈ ord.take k) = true)) := ⟨HN2'⟩
        clear HN2' hk0
        refine wp_region_X (fun w' => w'.cell? ⟨Z, 0, none⟩ = some (.slice (some ⟨g, 0, none⟩) nb co) ∧ w'.cell? ⟨Z, 1, none⟩ = some (.slice (some ⟨ib, 0, none⟩) nb nb) ∧ w'.cell? ⟨g, k, none⟩ = some (.int .i64 o) ∧ w'.cell? ⟨ib, o.toNat, none⟩ = some (.int .i64 d) ∧ Below wr.heap.size wr w') 99 (by kernel_rfl) (HSF.out _ hbd) (fun hHeld => ?_)
        refine wpX_takeg0 (v := ?_) (by kernel_rfl) (fun _ _ _ h => h) (by rfl) ?_ hHeld ?_
        rotate_left
        · intro w' hSw
          go_simp <;> with_reducible rfl
        try simp only [Act.put, List.setIfInBounds_toArray, List.set_cons_zero, List.set_cons_succ]
        refine wpX_takeg1 (v := ?_) (by kernel_rfl) (fun _ _ _ h => h) (by rfl) ?_ hHeld ?_
        rotate_left
        · intro w' hSw
          go_simp <;> with_reducible rfl
        try simp only [Act.put, List.setIfInBounds_toArray, List.set_cons_zero, List.set_cons_succ]
        refine wpX_takeg2 (v := ?_) (by kernel_rfl) (fun _ _ _ h => h) (by rfl) ?_ hHeld ?_
        rotate_left
        · intro w' hSw
          go_simp <;> with_reducible rfl
        try simp only [Act.put, List.setIfInBounds_toArray, List.set_cons_zero, List.set_cons_succ]
        refine wpX_takeg3 (v := ?_) (by kernel_rfl) (fun _ _ _ h => h) (by rfl) ?_ hHeld ?_
        rotate_left
        · intro w' hSw
          go_simp <;> with_reducible rfl
        try simp only [Act.put, List.setIfInBounds_toArray, List.set_cons_zero, List.set_cons_succ]
        refine wpX_takeg4 (v := ?_) (by kernel_rfl) (fun _ _ _ h => h) (by rfl) ?_ hHeld ?_
        rotate_left
        · intro w' hSw
          go_simp <;> with_reducible rfl
        try simp only [Act.put, List.setIfInBounds_toArray, List.set_cons_zero, List.set_cons_succ]
        refine wpX_takeg5 (v := ?_) (by kernel_rfl) (fun _ _ _ h => h) (by rfl) ?_ hHeld ?_
        rotate_left
        · intro w' hSw
          go_simp <;> with_reducible rfl
        try simp only [Act.put, List.setIfInBounds_toArray, List.set_cons_zero, List.set_cons_succ]
        refine wpX_takeg6 (v := ?_) (by kernel_rfl) (fun _ _ _ h => h) (by rfl) ?_ hHeld ?_
        rotate_left
        · intro w' hSw
          go_simp <;> with_reducible rfl
        try simp only [Act.put, List.setIfInBounds_toArray, List.set_cons_zero, List.set_cons_succ]
        refine wpX_takeg7 (v := ?_) (by kernel_rfl) (fun _ _ _ h => h) (by rfl) ?_ hHeld ?_
        rotate_left
        · intro w' hSw
          go_simp <;> with_reducible rfl
        try simp only [Act.put, List.setIfInBounds_toArray, List.set_cons_zero, List.set_cons_succ]
        refine wpX_takeg8 (v := ?_) (by kernel_rfl) (fun _ _ _ h => h) (by rfl) ?_ hHeld ?_
        rotate_left
        · intro w' hSw
          go_simp <;> with_reducible rfl
        try simp only [Act.put, List.setIfInBounds_toArray, List.set_cons_zero, List.set_cons_succ]
        refine wpX_step9 (by kernel_rfl) (fun K hK => ?_)
        go_simp
        refine (has_any (ord.take k) (some ⟨g, 0, none⟩) k co o _ HTL.out ((HOr.out.below hbd fun _ _ h => h)) false HN1.out).mono ?_
        rintro e w5 ⟨rfl, hb5⟩
        have hc5 : Below wr.heap.size wr w5 := hbd.trans (hb5.mono hbd.size)
        refine hK.out _ _ (HSF.out _ hc5) (fun hHeld => ?_)
        clear hK K
        try simp only [Act.put, List.setIfInBounds_toArray, List.set_cons_zero, List.set_cons_succ]
        refine wpX_step10 (by kernel_rfl) (fun K hK => ?_)
        go_simp
        refine hK.out _ _ (HSF.out _ hc5) (fun hHeld => ?_)
        clear hK K
        try simp only [Act.put, List.setIfInBounds_toArray, List.set_cons_zero, List.set_cons_succ]
        refine wpX_step11 (by kernel_rfl) (fun K hK => ?_)
        go_simp
        refine hK.out _ _ (HSF.out _ hc5) (fun hHeld => ?_)
        clear hK K
        try simp only [Act.put, List.setIfInBounds_toArray, List.set_cons_zero, List.set_cons_succ]
        refine wpX_step12 (by kernel_rfl) (fun K hK => ?_)
        go_simp
        refine hK.out _ _ (HSF.out _ hc5) (fun hHeld => ?_)
        clear hK K
        try simp only [Act.put, List.setIfInBounds_toArray, List.set_cons_zero, List.set_cons_succ]
        refine wpX_step13 (by kernel_rfl) (fun K hK => ?_)
        go_simp
        refine hK.out _ _ (HSF.out _ hc5) (fun hHeld => ?_)
        clear hK K
        try simp only [Act.put, List.setIfInBounds_toArray, List.set_cons_zero, List.set_cons_succ]
        refine wpX_takeg14 (v := ?_) (by kernel_rfl) (fun _ _ _ h => h) (by rfl) ?_ hHeld ?_
        rotate_left
        · intro w' hSw
          go_simp <;> with_reducible rfl
        try simp only [Act.put, List.setIfInBounds_toArray, List.set_cons_zero, List.set_cons_succ]
        refine wpX_takeg15 (v := ?_) (by kernel_rfl) (fun _ _ _ h => h) (by rfl) ?_ hHeld ?_
        rotate_left
        · intro w' hSw
          go_simp <;> with_reducible rfl
        try simp only [Act.put, List.setIfInBounds_toArray, List.set_cons_zero, List.set_cons_succ]
        refine wpX_takeg16 (v := ?_) (by kernel_rfl) (fun _ _ _ h => h) (by rfl) ?_ hHeld ?_
        rotate_left
        · intro w' hSw
          go_simp <;> with_reducible rfl
        try simp only [Act.put, List.setIfInBounds_toArray, List.set_cons_zero, List.set_cons_succ]
        refine wpX_takeg17 (v := ?_) (by kernel_rfl) (fun _ _ _ h => h) (by rfl) ?_ hHeld ?_
        rotate_left
        · intro w' hSw
          go_simp <;> with_reducible rfl
        try simp only [Act.put, List.setIfInBounds_toArray, List.set_cons_zero, List.set_cons_succ]
        refine wpX_takeg18 (v := ?_) (by kernel_rfl) (fun _ _ _ h => h) (by rfl) ?_ hHeld ?_
        rotate_left
        · intro w' hSw
          go_simp <;> with_reducible rfl
        try simp only [Act.put, List.setIfInBounds_toArray, List.set_cons_zero, List.set_cons_succ]
        refine wpX_takeg19 (v := ?_) (by kernel_rfl) (fun _ _ _ h => h) (by rfl) ?_ hHeld ?_
        rotate_left
        · intro w' hSw
          go_simp <;> with_reducible rfl
        try simp only [Act.put, List.setIfInBounds_toArray, List.set_cons_zero, List.set_cons_succ]
        refine wpX_takeg20 (v := ?_) (by kernel_rfl) (fun _ _ _ h => h) (by rfl) ?_ hHeld ?_
        rotate_left
        · intro w' hSw
          go_simp <;> with_reducible rfl
        try simp only [Act.put, List.setIfInBounds_toArray, List.set_cons_zero, List.set_cons_succ]
        refine wpX_takeg21 (v := ?_) (by kernel_rfl) (fun _ _ _ h => h) (by rfl) ?_ hHeld ?_
        rotate_left
        · intro w' hSw
          go_simp <;> with_reducible rfl
        try simp only [Act.put, List.setIfInBounds_toArray, List.set_cons_zero, List.set_cons_succ]
        refine wpX_takeg22 (v := ?_) (by kernel_rfl) (fun _ _ _ h => h) (by rfl) ?_ hHeld ?_
        rotate_left
        · intro w' hSw
          go_simp <;> with_reducible rfl
        try simp only [Act.put, List.setIfInBounds_toArray, List.set_cons_zero, List.set_cons_succ]
        refine wpX_takeg23 (v := ?_) (by kernel_rfl) (fun _ _ _ h => h) (by rfl) ?_ hHeld ?_
        rotate_left
        · intro w' hSw
          go_simp <;> with_reducible rfl
        try simp only [Act.put, List.setIfInBounds_toArray, List.set_cons_zero, List.set_cons_succ]
        refine wpX_takeg24 (v := ?_) (by kernel_rfl) (fun _ _ _ h => h) (by rfl) ?_ hHeld ?_
        rotate_left
        · intro w' hSw
          go_simp <;> with_reducible rfl
        try simp only [Act.put, List.setIfInBounds_toArray, List.set_cons_zero, List.set_cons_succ]
        refine wpX_takeg25 (v := ?_) (by kernel_rfl) (fun _ _ _ h => h) (by rfl) ?_ hHeld ?_
        rotate_left
        · intro w' hSw
          go_simp <;> with_reducible rfl
        try simp only [Act.put, List.setIfInBounds_toArray, List.set_cons_zero, List.set_cons_succ]
        refine wpX_takeg26 (v := ?_) (by kernel_rfl) (fun _ _ _ h => h) (by rfl) ?_ hHeld ?_
        rotate_left
        · intro w' hSw
          go_simp <;> with_reducible rfl
        try simp only [Act.put, List.setIfInBounds_toArray, List.set_cons_zero, List.set_cons_succ]
        refine wpX_step27 (by kernel_rfl) (fun K hK => ?_)
        go_simp
        refine (has_any (ord.take k) (some ⟨g, 0, none⟩) k co d _ HTL.out ((HOr.out.below hc5 fun _ _ h => h)) true HN2.out).mono ?_
        rintro e w6 ⟨rfl, hb6⟩
        have hc6 : Below wr.heap.size wr w6 := hc5.trans (hb6.mono hc5.size)
        refine hK.out _ _ (HSF.out _ hc6) (fun hHeld => ?_)
        clear hK K
        try simp only [Act.put, List.setIfInBounds_toArray, List.set_cons_zero, List.set_cons_succ]
        refine wpX_step28 (by kernel_rfl) (fun K hK => ?_)
        go_simp
        refine hK.out _ _ (HSF.out _ hc6) (fun hHeld => ?_)
        clear hK K
        try simp only [Act.put, List.setIfInBounds_toArray, List.set_cons_zero, List.set_cons_succ]
        refine wpX_step29 (by kernel_rfl) (fun K hK => ?_)
        go_simp
        refine hK.out _ _ (HSF.out _ hc6) (fun hHeld => ?_)
        clear hK K
        try simp only [Act.put, List.setIfInBounds_toArray, List.set_cons_zero, List.set_cons_succ]
        refine wpX_step30 (by kernel_rfl) (fun K hK => ?_)
        go_simp
        refine hK.out _ _ (HSF.out _ hc6) (fun hHeld => ?_)
        clear hK K
        try simp only [Act.put, List.setIfInBounds_toArray, List.set_cons_zero, List.set_cons_succ]
        refine wpAnyX_done (by kernel_rfl) ?_ _
        have HN : Hid (Below W4.heap.size W4 w6) := hbr.trans (hc6.mono hbr.size)
        clear hb5 hc5 hb6 hc6 hHeld
        go_wp2
        go_roundw
        case rel => exact ⟨k + 1, by omega, by go_num, HN⟩
        case measure => simp [intOf]; omega
    · have HE : Hid (Below w.heap.size w wr) := HB4.out.trans (hbr.mono HB4.out.size)
      clear hbr HBR
      go_wp2
      go_ret
      exact ⟨rfl, HE.out⟩

end Go.Proofs.Ytanhfkpphdbaaab
