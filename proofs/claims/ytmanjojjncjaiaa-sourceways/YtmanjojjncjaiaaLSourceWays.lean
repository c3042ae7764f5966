/-
  The walk of SourceWays: events follow the edges.
-/
import Derived.Test.YtmanjojjncjaiaaF9
import Derived.Test.YtmanjojjncjaiaaR7
import Derived.Test.YtmanjojjncjaiaaR8
import Derived.Test.YtmanjojjncjaiaaB4
import Derived.Test.YtmanjojjncjaiaaLSourceSteps
namespace Go.Proofs.Ytmanjojjncjaiaa
open Go.RowKit
set_option linter.unusedVariables false

theorem hop_uniq {bs : List Blk} : ∀ (j i b k b1 b2 : Nat), Hop bs j b k b1 → Hop bs i b k b2 → k < (bs.getD b1 emptyB).instrs.length → k < (bs.getD b2 emptyB).instrs.length → j = i
  | 0, 0, _, _, _, _, _, _, _, _ => rfl
  | 0, i + 1, b, k, b1, b2, h1, h2, l1, l2 => by
    obtain ⟨_, e, hi, _⟩ := h2
    have h1' : b1 = b := h1
    rw [h1', hi] at l1
    simp at l1
  | j + 1, 0, b, k, b1, b2, h1, h2, l1, l2 => by
    obtain ⟨_, e, hi, _⟩ := h1
    have h2' : b2 = b := h2
    rw [h2', hi] at l2
    simp at l2
  | j + 1, i + 1, b, k, b1, b2, h1, h2, l1, l2 => by
    obtain ⟨hk, e, hi, he, _, _, h3⟩ := h1
    obtain ⟨_, e', _, he', _, _, h4⟩ := h2
    rw [he] at he'
    simp at he'
    subst he'
    subst hk
    rw [hop_uniq j i _ 0 b1 b2 h3 h4 l1 l2]
open Classical in
noncomputable def hopMs (bs : List Blk) (b k : Nat) : Nat := if h : ∃ j b', Hop bs j b k b' ∧ k < (bs.getD b' emptyB).instrs.length then Classical.choose h else 0
theorem hopMs_is {bs : List Blk} {j b k b' : Nat} (h : Hop bs j b k b') (hl : k < (bs.getD b' emptyB).instrs.length) : hopMs bs b k = j := by
  unfold hopMs
  rw [dif_pos ⟨j, b', h, hl⟩]
  obtain ⟨b2, h2, l2⟩ := Classical.choose_spec (⟨j, b', h, hl⟩ : ∃ j b', Hop bs j b k b' ∧ k < (bs.getD b' emptyB).instrs.length)
  exact (hop_uniq _ _ _ _ _ _ h h2 hl l2).symm
theorem uses_take (os : List Opr) (j : Nat) (h : j < os.length) : usesN (os.take (j + 1)) = if os[j].kind = 1 then usesN (os.take j) + 1 else usesN (os.take j) := by
  unfold usesN
  rw [List.take_succ_eq_append_getElem h, List.filter_append, List.length_append]
  by_cases hk : os[j].kind = 1 <;> simp [hk]
theorem uses_few (os : List Opr) : usesN os ≤ os.length := List.length_filter_le _ _

set_option maxRecDepth 8000 in
set_option maxHeartbeats 8000000 in
theorem sourceWays_walk (a : Int) (wa : (Lit.int .i64 a).wf = true) (b : Int) (wb : (Lit.int .i64 b).wf = true) (l : List Pc) (vl : Value) (seed : Int) (ws : (Lit.int .i64 seed).wf = true) (steps : Int) (wst : (Lit.int .i64 steps).wf = true) (w : World) (hl : SlOf w 7 RPc vl l) (hp : ∀ p ∈ l, PcF p) :
    Calls Try.prog 5 #[.int .i64 a, .int .i64 b, vl, .int .i64 seed, .int .i64 steps] w fun e w' => e = .returned (.bool true) ∧ Below w.heap.size w w' := by
  obtain ⟨a0, a1⟩ := bounds_i64 wa
  obtain ⟨b0, b1⟩ := bounds_i64 wb
  have HMA := machine_any a b w a0 a1 b0 b1
  have hm0 := machine_bd a
  have hm1 := machine_bd b
  generalize 2 + pickedOf a 9 = m0 at *
  generalize 2 + pickedOf b 9 = m1 at *
  have HM : Hid ((2 ≤ m0 ∧ m0 ≤ 10) ∧ 2 ≤ m1 ∧ m1 ≤ 10) := ⟨hm0, hm1⟩
  have HL : Hid (SlOf w 7 RPc vl l) := hl
  have HP : Hid (∀ p ∈ l, PcOk p ∧ -9223372036854775808 ≤ p.kind ∧ p.kind ≤ 9223372036854775807) := hp
  clear wa wb hl hp hm0 hm1
  obtain ⟨s0, s1⟩ := bounds_i64 wst
  clear ws wst
  go_enter Try.func5, Try.ntmps5
  go_upto_region 2 with (go_at_call 11; refine HMA.mono ?_; rintro e w1 ⟨rfl, hb1⟩)
  obtain ⟨W1, hW1⟩ : ∃ W1, W1 = w1.alloc (.cells #[.int .i64 m0, .int .i64 m1] 28) := ⟨_, rfl⟩
  have r1 : W1.rowIs w1.heap.size 28 2 (fun q => if q = 0 then .int .i64 m0 else .int .i64 m1) := by
    rw [hW1]
    exact World.rowIs_alloc w1 #[.int .i64 m0, .int .i64 m1] 28 _ fun i hi => by
      simp at hi
      match i, hi with | 0, _ => rfl | 1, _ => rfl
  have HB0 : Hid (Below w.heap.size w W1) := by
    show Below _ _ _
    rw [hW1]
    exact hb1.alloc hb1.size _
  rw [← hW1]
  clear hW1 HMA hb1
  obtain ⟨X, hX⟩ : ∃ X, w1.heap.size = X := ⟨_, rfl⟩
  rw [hX] at r1
  rw [hX]
  have f0 : W1.cell? ⟨X, 0, none⟩ = some (.int .i64 m0) := r1.cell (i := 0) (by omega)
  have f1 : W1.cell? ⟨X, 1, none⟩ = some (.int .i64 m1) := r1.cell (i := 1) (by omega)
  have lX := r1.lt
  clear hX r1
  have HFN := ma_func m0 m1 l vl W1 HM.out.1 HM.out.2 (HL.out.below HB0.out fun _ _ h => h) HP.out
  go_wp2_with fail
  refine HFN.mono ?_
  clear HFN
  rintro e w2 ⟨vv, vb, rfl, hv2, hb2, hbw2⟩
  obtain ⟨av, cv, rfl, lv⟩ := hv2.out
  obtain ⟨ab, cb, rfl, lb⟩ := hb2.out
  have HF : Hid (shapeErr (masonM m0 m1 l) m0 m1 = 0) := mason_shape m0 m1 HM.out.1 HM.out.2 l
  have HFL0 : Hid (flowE (masonM m0 m1 l) m0 m1 ((masonM m0 m1 l).blocks.length * (masonM m0 m1 l).blocks.length + 1) = 0) := mason_flow m0 m1 HM.out.1 HM.out.2 l
  have HH0a : Hid (H0 (masonM m0 m1 l).blocks) := mason_first m0 m1 l
  generalize hf : masonM m0 m1 l = f at *
  clear hf
  have f0' : w2.cell? ⟨X, 0, none⟩ = some (.int .i64 m0) := (hbw2.cell (p := ⟨X, 0, none⟩) lX).trans f0
  have f1' : w2.cell? ⟨X, 1, none⟩ = some (.int .i64 m1) := (hbw2.cell (p := ⟨X, 1, none⟩) lX).trans f1
  have lX' : X < w2.heap.size := Nat.lt_of_lt_of_le lX hbw2.size
  have HB2 : Hid (Below w.heap.size w w2) := HB0.out.trans (hbw2.mono HB0.out.size)
  have HV2 : Hid (SlOf w2 1 RInt (.slice av f.values.length cv) f.values) := hv2
  have HBL2 : Hid (SlOf w2 3 (RBlk w2) (.slice ab f.blocks.length cb) f.blocks) := hb2
  unfold longest at lv lb
  clear f0 f1 lX HB0 hbw2 hv2 hb2
  generalize hnv : f.values.length = nv at *
  generalize hnb : f.blocks.length = nb at *
  have HNV : Hid (f.values.length = nv) := hnv
  have HNB : Hid (f.blocks.length = nb) := hnb
  clear hnv hnb
  have HFL : Hid (flowE f m0 m1 (nb * nb + 1) = 0) := HFL0
  clear HFL0
  have HH0 : Hid (H0 f.blocks) := HH0a
  clear HH0a
  go_upto_region 3 with fail
  obtain ⟨W, hW⟩ : ∃ W, W = w2.alloc (.cells #[.slice av nv cv, .slice ab nb cb] 25) := ⟨_, rfl⟩
  obtain ⟨Y, hY⟩ : ∃ Y, w2.heap.size = Y := ⟨_, rfl⟩
  have rY : W.rowIs Y 25 2 (fun q => if q = 0 then .slice av nv cv else .slice ab nb cb) := by
    rw [hW, ← hY]
    exact World.rowIs_alloc w2 #[.slice av nv cv, .slice ab nb cb] 25 _ fun i hi => by
      simp at hi
      match i, hi with | 0, _ => rfl | 1, _ => rfl
  have hbW : Below w2.heap.size w2 W := by rw [hW]; exact (Below.refl _ _).alloc (Nat.le_refl _) _
  have g0 : W.cell? ⟨Y, 0, none⟩ = some (.slice av nv cv) := rY.cell (i := 0) (by omega)
  have g1 : W.cell? ⟨Y, 1, none⟩ = some (.slice ab nb cb) := rY.cell (i := 1) (by omega)
  have lY := rY.lt
  have f0 : W.cell? ⟨X, 0, none⟩ = some (.int .i64 m0) := (hbW.cell (p := ⟨X, 0, none⟩) lX').trans f0'
  have f1 : W.cell? ⟨X, 1, none⟩ = some (.int .i64 m1) := (hbW.cell (p := ⟨X, 1, none⟩) lX').trans f1'
  have lX : X < W.heap.size := Nat.lt_of_lt_of_le lX' hbW.size
  have HB : Hid (Below w.heap.size w W) := HB2.out.trans (hbW.mono HB2.out.size)
  have HV : Hid (SlOf W 1 RInt (.slice av nv cv) f.values) := HV2.out.below hbW fun _ _ h => h
  have HBL : Hid (SlOf W 3 (RBlk W) (.slice ab nb cb) f.blocks) := HBL2.out.below hbW (RBlk.below hbW)
  rw [← hW, hY]
  clear hW hY rY hbW f0' f1' lX' HB2 HV2 HBL2
  have HPK1 := picked_any steps 300 W.drew s0 s1 (by decide) (by decide)
  obtain ⟨p0, p1⟩ := pickedOf_bd steps 300 (by decide)
  obtain ⟨P1, hP1⟩ : ∃ P1 : Nat, pickedOf steps 300 = (P1 : Int) := ⟨(pickedOf steps 300).toNat, by omega⟩
  rw [hP1] at HPK1 p0 p1
  obtain ⟨n1, hn1⟩ : ∃ n1, 2 + P1 = n1 := ⟨_, rfl⟩
  have n1b : n1 ≤ 302 := by omega
  have w1n : IntKind.i64.wrap (2 + (P1 : Int)) = (n1 : Int) := by rw [IntKind.wrap_i64]; omega
  have hsh := flow_shapeR HFL.out
  have nb16 : nb ≤ 16 := by have := (shape_in hsh).nb; have := HNB.out; omega
  have hbp : 0 < nb := by have := (shape_in hsh).pos; have := HNB.out; omega
  have hfit : FitsR nv f.blocks := by rw [← HNV.out]; exact fits_of hsh
  have HPU : Hid (0 < (runM f.blocks nv seed n1).evs.length ∧ (runM f.blocks nv seed n1).evs.length < n1) := by
    rw [← hn1]
    exact ⟨run_pos _ _ _ HH0.out _, run_lt _ _ _ _⟩
  have HWK : Hid (WalkP f.blocks (runM f.blocks nv seed n1).evs 0 0) := run_walk hfit (shape_in hsh).two (by rw [HNB.out]; exact hbp) seed n1
  have HFT : Hid (FitsR nv f.blocks) := hfit
  have hd0 : Below W.heap.size W W.drew := (Below.refl _ _).drew
  have HD0 : Hid (Below W.heap.size W W.drew) := hd0
  have HC := source_any f nv nb n1 m0 m1 seed av ab cv cb HFL.out HNV.out HNB.out (by omega) W.drew (HV.out.below hd0 fun _ _ h => h) (HBL.out.below hd0 (RBlk.below hd0))
  have HSF : Hid (∀ w', Below W.heap.size W w' → (fun w' => w'.cell? ⟨Y, 0, none⟩ = some (.slice av nv cv) ∧ w'.cell? ⟨Y, 1, none⟩ = some (.slice ab nb cb) ∧ w'.cell? ⟨X, 0, none⟩ = some (.int .i64 m0) ∧ w'.cell? ⟨X, 1, none⟩ = some (.int .i64 m1)) w') := fun w' hh => ⟨(hh.cell lY).trans g0, (hh.cell lY).trans g1, (hh.cell lX).trans f0, (hh.cell lX).trans f1⟩
  clear hP1 hn1 p0 p1 hsh hfit
  refine wp_region_X (fun w' => w'.cell? ⟨Y, 0, none⟩ = some (.slice av nv cv) ∧ w'.cell? ⟨Y, 1, none⟩ = some (.slice ab nb cb) ∧ w'.cell? ⟨X, 0, none⟩ = some (.int .i64 m0) ∧ w'.cell? ⟨X, 1, none⟩ = some (.int .i64 m1)) 99 (by kernel_rfl) (HSF.out _ hd0) (fun hHeld => ?_)
  refine wpXt (v := ?_) 0 rfl (by kernel_rfl) (fun _ _ _ h => h) (by rfl) ?_ hHeld ?_
  rotate_left
  · intro w' hSw
    go_simp <;> with_reducible rfl
  try simp only [Act.put, List.setIfInBounds_toArray, List.set_cons_zero, List.set_cons_succ]
  refine wpXt (v := ?_) 1 rfl (by kernel_rfl) (fun _ _ _ h => h) (by rfl) ?_ hHeld ?_
  rotate_left
  · intro w' hSw
    go_simp <;> with_reducible rfl
  try simp only [Act.put, List.setIfInBounds_toArray, List.set_cons_zero, List.set_cons_succ]
  refine wpXt (v := ?_) 2 rfl (by kernel_rfl) (fun _ _ _ h => h) (by rfl) ?_ hHeld ?_
  rotate_left
  · intro w' hSw
    go_simp <;> with_reducible rfl
  try simp only [Act.put, List.setIfInBounds_toArray, List.set_cons_zero, List.set_cons_succ]
  refine wpXt (v := ?_) 3 rfl (by kernel_rfl) (fun _ _ _ h => h) (by rfl) ?_ hHeld ?_
  rotate_left
  · intro w' hSw
    go_simp <;> with_reducible rfl
  try simp only [Act.put, List.setIfInBounds_toArray, List.set_cons_zero, List.set_cons_succ]
  refine wpXs 4 rfl (by kernel_rfl) (fun K hK => ?_)
  go_simp
  refine HPK1.mono ?_
  clear HPK1
  rintro e w4 ⟨rfl, rfl⟩
  refine hK.out _ _ (HSF.out _ HD0.out) (fun hHeld => ?_)
  clear hK K
  try simp only [Act.put, List.setIfInBounds_toArray, List.set_cons_zero, List.set_cons_succ]
  refine wpXs 5 rfl (by kernel_rfl) (fun K hK => ?_)
  go_simp
  refine hK.out _ _ (HSF.out _ HD0.out) (fun hHeld => ?_)
  clear hK K
  try simp only [Act.put, List.setIfInBounds_toArray, List.set_cons_zero, List.set_cons_succ]
  refine wpXs 6 rfl (by kernel_rfl) (fun K hK => ?_)
  go_simp
  refine HC.mono ?_
  clear HC
  rintro e w5 ⟨ax, n, cx, hln, hcx, rfl, sx, hb5⟩
  have HB5 : Hid (Below W.heap.size W w5) := HD0.out.trans (hb5.mono HD0.out.size)
  have HSX : Hid (SlOf w5 4 (REv w5) (.slice ax n cx) (runM f.blocks nv seed n1).evs ∧ (runM f.blocks nv seed n1).evs.length = n) := ⟨sx, hln.symm⟩
  clear sx hb5 hln
  refine hK.out _ _ (HSF.out _ HB5.out) (fun hHeld => ?_)
  clear hK K
  try simp only [Act.put, List.setIfInBounds_toArray, List.set_cons_zero, List.set_cons_succ]
  refine wpXt (v := ?_) 7 rfl (by kernel_rfl) (fun _ _ _ h => h) (by rfl) ?_ hHeld ?_
  rotate_left
  · intro w' hSw
    go_simp <;> with_reducible rfl
  try simp only [Act.put, List.setIfInBounds_toArray, List.set_cons_zero, List.set_cons_succ]
  refine wpXt (v := ?_) 8 rfl (by kernel_rfl) (fun _ _ _ h => h) (by rfl) ?_ hHeld ?_
  rotate_left
  · intro w' hSw
    go_simp <;> with_reducible rfl
  try simp only [Act.put, List.setIfInBounds_toArray, List.set_cons_zero, List.set_cons_succ]
  refine wpXt (v := ?_) 9 rfl (by kernel_rfl) (fun _ _ _ h => h) (by rfl) ?_ hHeld ?_
  rotate_left
  · intro w' hSw
    go_simp <;> with_reducible rfl
  try simp only [Act.put, List.setIfInBounds_toArray, List.set_cons_zero, List.set_cons_succ]
  refine wpXt (v := ?_) 10 rfl (by kernel_rfl) (fun _ _ _ h => h) (by rfl) ?_ hHeld ?_
  rotate_left
  · intro w' hSw
    go_simp <;> with_reducible rfl
  try simp only [Act.put, List.setIfInBounds_toArray, List.set_cons_zero, List.set_cons_succ]
  refine wpXt (v := ?_) 11 rfl (by kernel_rfl) (fun _ _ _ h => h) (by rfl) ?_ hHeld ?_
  rotate_left
  · intro w' hSw
    go_simp <;> with_reducible rfl
  try simp only [Act.put, List.setIfInBounds_toArray, List.set_cons_zero, List.set_cons_succ]
  refine wpAnyX_done (by kernel_rfl) ?_ _
  obtain ⟨hn0, hnt⟩ := HPU.out
  rw [HSX.out.2] at hn0 hnt
  have qn : ((n : Int) == 0) = false := by simp; omega
  generalize (runM f.blocks nv seed n1).evs = evs at *
  have HNBL : Hid (f.blocks.length = nb) := HNB.out
  generalize f.blocks = bs at *
  clear hHeld
  go_wp2_with fail
  go_loopw [49, 15, 16] (fun i bv kv wr => ∃ i' b k : Nat, i' ≤ n ∧ i = .int .i64 i' ∧ bv = .int .i64 b ∧ kv = .int .i64 k ∧ b < nb ∧ k ≤ 1000 ∧ Hid (WalkP bs (evs.drop i') b k) ∧ Hid (Below w5.heap.size w5 wr)) (fun i _ _ _ => n - (intOf i).toNat)
  case atStart => exact ⟨0, 0, 0, Nat.zero_le _, rfl, rfl, rfl, hbp, by omega, HWK, Below.refl _ _⟩
  case round =>
    clear HWK
    obtain ⟨i, b0, k, hi, rfl, rfl, rfl, hb0, hk0, HW, HBR⟩ := hrel
    by_cases hlt : i < n
    · have hil : i < evs.length := by rw [HSX.out.2]; exact hlt
      obtain ⟨bx, ox, ar, cr, rfl, lbx, x0, x1, x2, x3, xr⟩ := evt_at HSX.out.1 i hil
      have hdr : evs.drop i = evs[i] :: evs.drop (i + 1) := List.drop_eq_getElem_cons hil
      have hW := HW.out
      rw [hdr] at hW
      obtain ⟨v, hv⟩ : ∃ v, evs[i] = v := ⟨_, rfl⟩
      rw [hv] at x0 x1 x2 x3 xr hW
      obtain ⟨j0, b, hhop, hb, hvb, hvp, x, hx, hvr, hA, hB, hC⟩ := hW
      obtain ⟨vb, vp, vr, ve⟩ := v
      simp only at x0 x1 x2 x3 xr hvb hvp hvr hA hB hC
      subst hvb hvp
      obtain ⟨nr, hnr⟩ : ∃ nr, vr.length = nr := ⟨_, rfl⟩
      rw [hnr] at x2 hvr
      have hbr := HBR.out
      have e0 := (hbr.cell (p := ⟨bx, _, none⟩) lbx).trans x0
      have e1 := (hbr.cell (p := ⟨bx, _, none⟩) lbx).trans x1
      have e2 := (hbr.cell (p := ⟨bx, _, none⟩) lbx).trans x2
      have e3 := (hbr.cell (p := ⟨bx, _, none⟩) lbx).trans x3
      have hbW : Below W.heap.size W wr := HB5.out.trans (hbr.mono HB5.out.size)
      obtain ⟨E1, hE1⟩ : ∃ E1, wr.heap.size = E1 := ⟨_, rfl⟩
      obtain ⟨W10, hW10⟩ : ∃ W10, W10 = wr.alloc (.cells #[.int .i64 (b : Int), .int .i64 (k : Int), .slice ar nr cr, .int .i64 ve] 41) := ⟨_, rfl⟩
      have b10 : Below wr.heap.size wr W10 := by rw [hW10]; exact (Below.refl _ _).alloc (Nat.le_refl _) _
      have r10 : W10.rowIs E1 41 4 (fun q => if q = 0 then .int .i64 (b : Int) else if q = 1 then .int .i64 (k : Int) else if q = 2 then .slice ar nr cr else .int .i64 ve) := by
        rw [hW10, ← hE1]
        exact World.rowIs_alloc _ _ _ _ fun i hi => by
          simp at hi
          match i, hi with | 0, _ => rfl | 1, _ => rfl | 2, _ => rfl | 3, _ => rfl
      have hbW10 : Below W.heap.size W W10 := hbW.trans (b10.mono hbW.size)
      have HBW10 : Hid (Below W.heap.size W W10) := hbW10
      have HB10 : Hid (Below w5.heap.size w5 W10) := hbr.trans (b10.mono hbr.size)
      have HE : Hid (∀ w', Below W10.heap.size W10 w' → w'.cell? ⟨E1, 0, none⟩ = some (.int .i64 (b : Int)) ∧ w'.cell? ⟨E1, 1, none⟩ = some (.int .i64 (k : Int)) ∧ w'.cell? ⟨E1, 2, none⟩ = some (.slice ar nr cr) ∧ w'.cell? ⟨E1, 3, none⟩ = some (.int .i64 ve) ∧ w'.cell? ⟨Y, 1, none⟩ = some (.slice ab nb cb)) := fun w' hh => ⟨(hh.cell r10.lt).trans (r10.cell (i := 0) (by omega)), (hh.cell r10.lt).trans (r10.cell (i := 1) (by omega)), (hh.cell r10.lt).trans (r10.cell (i := 2) (by omega)), (hh.cell r10.lt).trans (r10.cell (i := 3) (by omega)), (hh.cell (Nat.lt_of_lt_of_le lY hbW10.size)).trans ((hbW10.cell (p := ⟨Y, 1, none⟩) lY).trans g1)⟩
      have HX : Hid ((bs.getD b emptyB).instrs[k]? = some x ∧ nr = usesN x.operands) := ⟨hx, hvr⟩
      have HCS : Hid ((k + 1 < (bs.getD b emptyB).instrs.length → ve = -1 ∧ WalkP bs (evs.drop (i + 1)) b (k + 1)) ∧ (k + 1 = (bs.getD b emptyB).instrs.length → (bs.getD b emptyB).edges = [] → ve = -1 ∧ evs.drop (i + 1) = []) ∧ (k + 1 = (bs.getD b emptyB).instrs.length → (bs.getD b emptyB).edges ≠ [] → ∃ e : Edg, 0 ≤ ve ∧ (bs.getD b emptyB).edges[ve.toNat]? = some e ∧ 0 ≤ e.block ∧ e.block < (bs.length : Int) ∧ WalkP bs (evs.drop (i + 1)) e.block.toNat 0)) := ⟨hA, hB, hC⟩
      have hkl : k < (bs.getD b emptyB).instrs.length := (List.getElem?_eq_some_iff.1 hx).1
      have HKL : Hid (k < (bs.getD b emptyB).instrs.length) := hkl
      have HHOP : Hid (Hop bs j0 b0 k b) := hhop
      have HBN : Hid (b < nb) := by rw [← HNBL.out]; exact hb
      have HW10 : Hid (W10 = wr.alloc (.cells #[.int .i64 (b : Int), .int .i64 (k : Int), .slice ar nr cr, .int .i64 ve] 41)) := hW10
      have HE1 : Hid (wr.heap.size = E1) := hE1
      clear hW10 hE1 b10 r10 hbW hbW10 hbr HBR HW hdr hv hhop hb hx hvr hA hB hC x0 x1 x2 x3 xr hnr hkl
      go_upto_region 11 with fail
      rw [← HW10.out, HE1.out]
      clear HW10 HE1 e0 e1 e2 e3
      go_loopw [15, 16] (fun bv kv w2 => ∃ b1 k1 j : Nat, bv = .int .i64 b1 ∧ kv = .int .i64 k1 ∧ w2 = W10 ∧ b1 < nb ∧ k1 = k ∧ Hid (Hop bs j b1 k b)) (fun bv kv _ => hopMs bs (intOf bv).toNat k)
      case atStart => exact ⟨b0, k, j0, rfl, rfl, rfl, hb0, rfl, HHOP⟩
      case round =>
        clear HHOP
        obtain ⟨b1, k1, j, rfl, rfl, hw2, hb1, hk1, HH⟩ := hrel
        rw [hw2, hk1]
        clear hw2 hk1
        have hb1l : b1 < bs.length := by rw [HNBL.out]; exact hb1
        obtain ⟨b5, off5, ap, cp, ai, ci, ae, ce, hab, lb5, p0, p1, p2, hi', he'⟩ := blk_atR HBL.out b1 hb1l
        subst hab
        have eB : bs.getD b1 emptyB = bs[b1] := by rw [List.getD_eq_getElem?_getD, List.getElem?_eq_getElem hb1l]; rfl
        rw [← eB] at p1 p2 hi' he'
        have hbW2 := HBW10.out
        have c1 := (hbW2.cell (p := ⟨b5, _, none⟩) (Nat.lt_of_lt_of_le lb5 (Nat.le_refl _))).trans p1
        have c2 := (hbW2.cell (p := ⟨b5, _, none⟩) (Nat.lt_of_lt_of_le lb5 (Nat.le_refl _))).trans p2
        obtain ⟨y0, y1, y2, y3, yY⟩ := HE.out W10 (Below.refl _ _)
        have hb1k : b1 < nb + 1 := by omega
        have wb1 : IntKind.i64.wrap (b1 : Int) = (b1 : Int) := by rw [IntKind.wrap_i64]; omega
        have fI := (HFT.out.ins _ (getD_mem hb1l)).1
        have fE := (HFT.out.edg _ (getD_mem hb1l)).1
        obtain ⟨ni, hni⟩ : ∃ ni, (bs.getD b1 emptyB).instrs.length = ni := ⟨_, rfl⟩
        obtain ⟨ne, hne⟩ : ∃ ne, (bs.getD b1 emptyB).edges.length = ne := ⟨_, rfl⟩
        rw [hni] at c1 hi' fI
        rw [hne] at c2 he' fE
        cases j with
        | succ j =>
          obtain ⟨hk00, e, hin, hed, h5, h6, h7⟩ := HH.out
          have hni0 : ni = 0 := by rw [← hni, hin]; rfl
          have hne1 : ne = 1 := by rw [← hne, hed]; rfl
          subst hni0 hne1
          have hm1 := hopMs_is HH.out HKL.out
          obtain ⟨b9, off9, aa, ca, hae, lb9, i0, i1, ha⟩ := edg_at he' 0 (by rw [hed]; simp)
          subst hae
          have e0' : (bs.getD b1 emptyB).edges[0]'(by rw [hed]; simp) = e := by
            have h : (bs.getD b1 emptyB).edges[0]? = some e := by rw [hed]; rfl
            rw [List.getElem?_eq_getElem (by rw [hed]; simp)] at h
            exact Option.some.inj h
          rw [e0'] at i0
          have c3 := (hbW2.cell (p := ⟨b9, _, none⟩) lb9).trans i0
          simp at c3
          obtain ⟨b2, hb2⟩ : ∃ b2 : Nat, e.block = (b2 : Int) := ⟨e.block.toNat, by omega⟩
          rw [hb2] at c3 h6 h7
          rw [Int.toNat_natCast] at h7
          have hm2 := hopMs_is h7 (by rw [← hk00]; exact HKL.out)
          have hb2n : b2 < nb := by have := HNBL.out; omega
          have HHN : Hid (Hop bs j b2 k b) := by show Hop _ _ _ _ _; rw [hk00]; exact h7
          have HM : Hid (hopMs bs b2 k < hopMs bs b1 k) := by show _ < _; rw [hm1, hk00, hm2]; omega
          have qk : ((k : Int) == 0) = true := by simp [hk00]
          have HK0 : Hid (k = 0) := hk00
          clear hin hed h5 h6 h7 hm1 hm2 e0' i0 i1 ha hi' he' HH p0 p1 p2 hne hni eB hb2 hk00
          go_wp2
          go_roundw
          case rel => exact ⟨b2, k, j, rfl, by rw [HK0.out]; rfl, trivial, hb2n, rfl, HHN⟩
          case measure => simpa [intOf] using HM.out
        | zero =>
          have hbb : b = b1 := HH.out
          subst hbb
          have hkl := HKL.out
          rw [hni] at hkl
          have q0 : ((k : Int) == (ni : Int)) = false := by simp; omega
          have hkl2 : k < (bs.getD b emptyB).instrs.length := by rw [hni]; exact hkl
          obtain ⟨b7, off7, ao, co, asp, csp, hai, lb7, i0, i1, i2, ho⟩ := ins_at hi' k hkl2
          subst hai
          have hxe : (bs.getD b emptyB).instrs[k]'hkl2 = x := by
            have := HX.out.1
            rw [List.getElem?_eq_getElem hkl2] at this
            simpa using this
          rw [hxe] at i0 i1 i2 ho
          have fno := ((HFT.out.ins _ (getD_mem hb1l)).2 x (by rw [← hxe]; exact List.getElem_mem hkl2)).1
          obtain ⟨op, os, sp⟩ := x
          simp only at i0 i1 i2 ho fno
          obtain ⟨no, hno⟩ : ∃ no, os.length = no := ⟨_, rfl⟩
          rw [hno] at i1 ho fno
          generalize sp.length = ns at *
          have d0 := (hbW2.cell (p := ⟨b7, _, none⟩) lb7).trans i0
          have d1 := (hbW2.cell (p := ⟨b7, _, none⟩) lb7).trans i1
          have d2 := (hbW2.cell (p := ⟨b7, _, none⟩) lb7).trans i2
          have hnr : nr = usesN os := HX.out.2
          have qb : ((b : Int) == (b : Int)) = true := by simp
          have qk : ((k : Int) == (k : Int)) = true := by simp
          have wk : IntKind.i64.wrap (k : Int) = (k : Int) := by rw [IntKind.wrap_i64]; omega
          obtain ⟨W16, hW16⟩ : ∃ W16, W16 = W10.alloc (.cells #[.int .i64 op, .slice ao no co, .slice asp ns csp] 51) := ⟨_, rfl⟩
          obtain ⟨E2, hE2⟩ : ∃ E2, W10.heap.size = E2 := ⟨_, rfl⟩
          have b16 : Below W10.heap.size W10 W16 := by rw [hW16]; exact (Below.refl _ _).alloc (Nat.le_refl _) _
          have z1 : W16.cell? ⟨E2, 1, none⟩ = some (.slice ao no co) := by rw [hW16, ← hE2]; simp
          have HB16 : Hid (Below W10.heap.size W10 W16) := b16
          have HW16 : Hid (W16 = W10.alloc (.cells #[.int .i64 op, .slice ao no co, .slice asp ns csp] 51)) := hW16
          have HE2 : Hid (W10.heap.size = E2) := hE2
          have HO : Hid (SlOf W 5 ROpr (.slice ao no co) os ∧ os.length = no) := ⟨ho, hno⟩
          have HNR : Hid (nr = usesN os) := hnr
          have HC12 : Hid (W.cell? ⟨b5, off5 + b * 3 + 1, none⟩ = some (.slice (some ⟨b7, off7, none⟩) ni ci) ∧ W.cell? ⟨b5, off5 + b * 3 + 2, none⟩ = some (.slice ae ne ce) ∧ b5 < W.heap.size) := ⟨by rw [← hni]; exact p1, by rw [← hne]; exact p2, lb5⟩
          have HSE : Hid (SlOf W 2 (REdg W) (.slice ae ne ce) (bs.getD b emptyB).edges) := he'
          have HLEN : Hid ((bs.getD b emptyB).instrs.length = ni ∧ (bs.getD b emptyB).edges.length = ne) := ⟨hni, hne⟩
          have HFB : Hid (b < bs.length) := hb1l
          clear hni hne hi' he' ho hno hnr hW16 hE2 b16 hxe hkl2 HX HH HKL i0 i1 i2 p0 p1 p2 eB hbW2 y2 y3
          go_upto_region 17 with fail
          rw [← HW16.out, HE2.out]
          clear HW16 HE2 d0 d1 d2 c1 c2 y0 y1 yY
          go_wp2_with fail
          clear z1
          go_loopw [103, 20] (fun i u w3 => ∃ j u' : Nat, j ≤ no ∧ i = .int .i64 j ∧ u = .int .i64 u' ∧ u' ≤ j ∧ Hid (u' = usesN (os.take j)) ∧ Hid (Below W10.heap.size W10 w3)) (fun i _ _ => no - (intOf i).toNat)
          case atStart => exact ⟨0, 0, Nat.zero_le _, rfl, rfl, Nat.le_refl _, by show _ = _; simp [usesN], HB16⟩
          case round =>
            obtain ⟨j, u, hj, rfl, rfl, huj, HU, HB3⟩ := hrel
            by_cases hjn : j < no
            · have hjl : j < os.length := by rw [HO.out.2]; exact hjn
              obtain ⟨b8, off8, hao, hb8, o0, o1, o2, o3, o4⟩ := opr_cells HO.out.1 j hjl
              subst hao
              have hbA : Below W.heap.size W wr := HBW10.out.trans (HB3.out.mono HBW10.out.size)
              have t0 := (hbA.cell (p := ⟨b8, _, none⟩) hb8).trans o0
              have t1 := (hbA.cell (p := ⟨b8, _, none⟩) hb8).trans o1
              have t2 := (hbA.cell (p := ⟨b8, _, none⟩) hb8).trans o2
              have t3 := (hbA.cell (p := ⟨b8, _, none⟩) hb8).trans o3
              have t4 := (hbA.cell (p := ⟨b8, _, none⟩) hb8).trans o4
              have hT := uses_take os j hjl
              generalize os[j] = o at *
              have HB4 : Hid (Below W10.heap.size W10 (wr.alloc (.cells #[.int .i64 o.kind, .int .i64 o.value, .bool o.late, .int .i64 o.limit, .int .i64 o.n] 53))) := HB3.out.alloc HB3.out.size _
              clear o0 o1 o2 o3 o4 hbA hb8
              by_cases hk1 : o.kind = 1
              · have q : (o.kind == 1) = true := by simp [hk1]
                rw [if_pos hk1, ← HU.out] at hT
                have HU2 : Hid (u + 1 = usesN (os.take (j + 1))) := hT.symm
                clear hT hk1 HU HB3
                go_wp2
                go_roundw
                case rel => exact ⟨j + 1, u + 1, by omega, by go_num, by go_num, by omega, HU2, HB4⟩
                case measure => simp [intOf]; omega
              · have q : (o.kind == 1) = false := by simp [hk1]
                rw [if_neg hk1, ← HU.out] at hT
                have HU2 : Hid (u = usesN (os.take (j + 1))) := hT.symm
                clear hT hk1 HU HB3
                go_wp2
                go_roundw
                case rel => exact ⟨j + 1, u, by omega, by go_num, rfl, by omega, HU2, HB4⟩
                case measure => simp [intOf]; omega
            · have hu : u = nr := by
                have h1 := HU.out
                rw [List.take_of_length_le (by have := HO.out.2; omega)] at h1
                rw [HNR.out]
                exact h1
              subst hu
              have HB3' := HB3.out
              obtain ⟨v0, v1, v2, v3, vY⟩ := HE.out wr HB3'
              have hbA : Below W.heap.size W wr := HBW10.out.trans (HB3'.mono HBW10.out.size)
              have c1 := (hbA.cell (p := ⟨b5, _, none⟩) HC12.out.2.2).trans HC12.out.1
              have c2 := (hbA.cell (p := ⟨b5, _, none⟩) HC12.out.2.2).trans HC12.out.2.1
              have lE1 : E1 < wr.heap.size := block_lt v3
              have lYr : Y < wr.heap.size := block_lt vY
              have lb5r : b5 < wr.heap.size := block_lt c2
              have HBF : Hid (Below w5.heap.size w5 wr) := HB10.out.trans (HB3'.mono HB10.out.size)
              have hdr : Below wr.heap.size wr wr.drew := (Below.refl _ _).drew
              have HBD : Hid (Below w5.heap.size w5 wr.drew) := HBF.out.trans (hdr.mono HBF.out.size)
              have qu : ((u : Int) == (u : Int)) = true := by simp
              have hcs := HCS.out
              rw [HLEN.out.1] at hcs
              clear HB3 HU HNR HCS HE HBW10 huj
              by_cases hlast : k + 1 < ni
              · obtain ⟨hve, hwk⟩ := hcs.1 hlast
                subst hve
                have ql : ((k : Int) + 1 == (ni : Int)) = false := by simp; omega
                have HWN : Hid (WalkP bs (evs.drop (i + 1)) b (k + 1)) := hwk
                have HSF : Hid (∀ w', Below wr.heap.size wr w' → (fun w' => w'.cell? ⟨E1, 3, none⟩ = some (.int .i64 (-1)) ∧ w'.cell? ⟨Y, 1, none⟩ = some (.slice (some ⟨b5, off5, none⟩) nb cb) ∧ w'.cell? ⟨b5, off5 + b * 3 + 2, none⟩ = some (.slice ae ne ce)) w') := fun w' hh => ⟨(hh.cell lE1).trans v3, (hh.cell lYr).trans vY, (hh.cell lb5r).trans c2⟩
                clear hcs hwk hbA HB3'
                go_upto_region 28 with fail
                clear v0 v1 v2 v3 vY c1 c2
                refine wp_region_X (fun w' => w'.cell? ⟨E1, 3, none⟩ = some (.int .i64 (-1)) ∧ w'.cell? ⟨Y, 1, none⟩ = some (.slice (some ⟨b5, off5, none⟩) nb cb) ∧ w'.cell? ⟨b5, off5 + b * 3 + 2, none⟩ = some (.slice ae ne ce)) 99 (by kernel_rfl) (HSF.out _ hdr) (fun hHeld => ?_)
                refine wpXt (v := ?_) 0 rfl (by kernel_rfl) (fun _ _ _ h => h) (by rfl) ?_ hHeld ?_
                rotate_left
                · intro w' hSw
                  go_simp <;> with_reducible rfl
                try simp only [Act.put, List.setIfInBounds_toArray, List.set_cons_zero, List.set_cons_succ]
                refine wpXt (v := ?_) 1 rfl (by kernel_rfl) (fun _ _ _ h => h) (by rfl) ?_ hHeld ?_
                rotate_left
                · intro w' hSw
                  go_simp <;> with_reducible rfl
                try simp only [Act.put, List.setIfInBounds_toArray, List.set_cons_zero, List.set_cons_succ]
                refine wpXt (v := ?_) 2 rfl (by kernel_rfl) (fun _ _ _ h => h) (by rfl) ?_ hHeld ?_
                rotate_left
                · intro w' hSw
                  go_simp <;> with_reducible rfl
                try simp only [Act.put, List.setIfInBounds_toArray, List.set_cons_zero, List.set_cons_succ]
                refine wpXt (v := ?_) 3 rfl (by kernel_rfl) (fun _ _ _ h => h) (by rfl) ?_ hHeld ?_
                rotate_left
                · intro w' hSw
                  go_simp <;> with_reducible rfl
                try simp only [Act.put, List.setIfInBounds_toArray, List.set_cons_zero, List.set_cons_succ]
                refine wpXt (v := ?_) 4 rfl (by kernel_rfl) (fun _ _ _ h => h) (by rfl) ?_ hHeld ?_
                rotate_left
                · intro w' hSw
                  go_simp <;> with_reducible rfl
                try simp only [Act.put, List.setIfInBounds_toArray, List.set_cons_zero, List.set_cons_succ]
                refine wpXt (v := ?_) 5 rfl (by kernel_rfl) (fun _ _ _ h => h) (by rfl) ?_ hHeld ?_
                rotate_left
                · intro w' hSw
                  go_simp <;> with_reducible rfl
                try simp only [Act.put, List.setIfInBounds_toArray, List.set_cons_zero, List.set_cons_succ]
                refine wpXt (v := ?_) 6 rfl (by kernel_rfl) (fun _ _ _ h => h) (by rfl) ?_ hHeld ?_
                rotate_left
                · intro w' hSw
                  go_simp <;> with_reducible rfl
                try simp only [Act.put, List.setIfInBounds_toArray, List.set_cons_zero, List.set_cons_succ]
                refine wpXt (v := ?_) 7 rfl (by kernel_rfl) (fun _ _ _ h => h) (by rfl) ?_ hHeld ?_
                rotate_left
                · intro w' hSw
                  go_simp <;> with_reducible rfl
                try simp only [Act.put, List.setIfInBounds_toArray, List.set_cons_zero, List.set_cons_succ]
                refine wpXt (v := ?_) 8 rfl (by kernel_rfl) (fun _ _ _ h => h) (by rfl) ?_ hHeld ?_
                rotate_left
                · intro w' hSw
                  go_simp <;> with_reducible rfl
                try simp only [Act.put, List.setIfInBounds_toArray, List.set_cons_zero, List.set_cons_succ]
                refine wpXt (v := ?_) 9 rfl (by kernel_rfl) (fun _ _ _ h => h) (by rfl) ?_ hHeld ?_
                rotate_left
                · intro w' hSw
                  go_simp <;> with_reducible rfl
                try simp only [Act.put, List.setIfInBounds_toArray, List.set_cons_zero, List.set_cons_succ]
                refine wpXk 10 rfl (by kernel_rfl) (fun _ _ _ h => h) (by rfl) hHeld ?_
                try simp only [Act.put, List.setIfInBounds_toArray, List.set_cons_zero, List.set_cons_succ]
                refine wpXk 11 rfl (by kernel_rfl) (fun _ _ _ h => h) (by rfl) hHeld ?_
                try simp only [Act.put, List.setIfInBounds_toArray, List.set_cons_zero, List.set_cons_succ]
                refine wpXk 12 rfl (by kernel_rfl) (fun _ _ _ h => h) (by rfl) hHeld ?_
                try simp only [Act.put, List.setIfInBounds_toArray, List.set_cons_zero, List.set_cons_succ]
                refine wpXk 13 rfl (by kernel_rfl) (fun _ _ _ h => h) (by rfl) hHeld ?_
                try simp only [Act.put, List.setIfInBounds_toArray, List.set_cons_zero, List.set_cons_succ]
                refine wpXk 14 rfl (by kernel_rfl) (fun _ _ _ h => h) (by rfl) hHeld ?_
                try simp only [Act.put, List.setIfInBounds_toArray, List.set_cons_zero, List.set_cons_succ]
                refine wpXk 15 rfl (by kernel_rfl) (fun _ _ _ h => h) (by rfl) hHeld ?_
                try simp only [Act.put, List.setIfInBounds_toArray, List.set_cons_zero, List.set_cons_succ]
                refine wpXk 16 rfl (by kernel_rfl) (fun _ _ _ h => h) (by rfl) hHeld ?_
                try simp only [Act.put, List.setIfInBounds_toArray, List.set_cons_zero, List.set_cons_succ]
                refine wpXk 17 rfl (by kernel_rfl) (fun _ _ _ h => h) (by rfl) hHeld ?_
                try simp only [Act.put, List.setIfInBounds_toArray, List.set_cons_zero, List.set_cons_succ]
                refine wpXk 18 rfl (by kernel_rfl) (fun _ _ _ h => h) (by rfl) hHeld ?_
                try simp only [Act.put, List.setIfInBounds_toArray, List.set_cons_zero, List.set_cons_succ]
                refine wpXk 19 rfl (by kernel_rfl) (fun _ _ _ h => h) (by rfl) hHeld ?_
                try simp only [Act.put, List.setIfInBounds_toArray, List.set_cons_zero, List.set_cons_succ]
                refine wpXt (v := ?_) 20 rfl (by kernel_rfl) (fun _ _ _ h => h) (by rfl) ?_ hHeld ?_
                rotate_left
                · intro w' hSw
                  go_simp <;> with_reducible rfl
                try simp only [Act.put, List.setIfInBounds_toArray, List.set_cons_zero, List.set_cons_succ]
                refine wpXt (v := ?_) 21 rfl (by kernel_rfl) (fun _ _ _ h => h) (by rfl) ?_ hHeld ?_
                rotate_left
                · intro w' hSw
                  go_simp <;> with_reducible rfl
                try simp only [Act.put, List.setIfInBounds_toArray, List.set_cons_zero, List.set_cons_succ]
                refine wpAnyX_done (by kernel_rfl) ?_ _
                clear hHeld hdr
                go_wp2
                go_roundw
                case rel => exact ⟨i + 1, b, k + 1, by omega, by go_num, rfl, by go_num, hb1, by omega, HWN, HBD⟩
                case measure => simp [intOf]; omega
              · have hkn : k + 1 = ni := by omega
                have ql : ((k : Int) + 1 == (ni : Int)) = true := by simp; omega
                by_cases hne0 : ne = 0
                · obtain ⟨hve, hwk⟩ := hcs.2.1 hkn (List.length_eq_zero_iff.1 (by rw [HLEN.out.2]; exact hne0))
                  subst hve hne0
                  have HWN : Hid (WalkP bs (evs.drop (i + 1)) b (k + 1)) := by show WalkP _ _ _ _; rw [hwk]; trivial
                  have HSF : Hid (∀ w', Below wr.heap.size wr w' → (fun w' => w'.cell? ⟨E1, 3, none⟩ = some (.int .i64 (-1)) ∧ w'.cell? ⟨Y, 1, none⟩ = some (.slice (some ⟨b5, off5, none⟩) nb cb) ∧ w'.cell? ⟨b5, off5 + b * 3 + 2, none⟩ = some (.slice ae 0 ce)) w') := fun w' hh => ⟨(hh.cell lE1).trans v3, (hh.cell lYr).trans vY, (hh.cell lb5r).trans c2⟩
                  clear hcs hwk hbA HB3' hkn hlast
                  go_upto_region 28 with fail
                  clear v0 v1 v2 v3 vY c1 c2
                  refine wp_region_X (fun w' => w'.cell? ⟨E1, 3, none⟩ = some (.int .i64 (-1)) ∧ w'.cell? ⟨Y, 1, none⟩ = some (.slice (some ⟨b5, off5, none⟩) nb cb) ∧ w'.cell? ⟨b5, off5 + b * 3 + 2, none⟩ = some (.slice ae 0 ce)) 99 (by kernel_rfl) (HSF.out _ hdr) (fun hHeld => ?_)
                  refine wpXt (v := ?_) 0 rfl (by kernel_rfl) (fun _ _ _ h => h) (by rfl) ?_ hHeld ?_
                  rotate_left
                  · intro w' hSw
                    go_simp <;> with_reducible rfl
                  try simp only [Act.put, List.setIfInBounds_toArray, List.set_cons_zero, List.set_cons_succ]
                  refine wpXt (v := ?_) 1 rfl (by kernel_rfl) (fun _ _ _ h => h) (by rfl) ?_ hHeld ?_
                  rotate_left
                  · intro w' hSw
                    go_simp <;> with_reducible rfl
                  try simp only [Act.put, List.setIfInBounds_toArray, List.set_cons_zero, List.set_cons_succ]
                  refine wpXt (v := ?_) 2 rfl (by kernel_rfl) (fun _ _ _ h => h) (by rfl) ?_ hHeld ?_
                  rotate_left
                  · intro w' hSw
                    go_simp <;> with_reducible rfl
                  try simp only [Act.put, List.setIfInBounds_toArray, List.set_cons_zero, List.set_cons_succ]
                  refine wpXk 3 rfl (by kernel_rfl) (fun _ _ _ h => h) (by rfl) hHeld ?_
                  try simp only [Act.put, List.setIfInBounds_toArray, List.set_cons_zero, List.set_cons_succ]
                  refine wpXk 4 rfl (by kernel_rfl) (fun _ _ _ h => h) (by rfl) hHeld ?_
                  try simp only [Act.put, List.setIfInBounds_toArray, List.set_cons_zero, List.set_cons_succ]
                  refine wpXk 5 rfl (by kernel_rfl) (fun _ _ _ h => h) (by rfl) hHeld ?_
                  try simp only [Act.put, List.setIfInBounds_toArray, List.set_cons_zero, List.set_cons_succ]
                  refine wpXt (v := ?_) 6 rfl (by kernel_rfl) (fun _ _ _ h => h) (by rfl) ?_ hHeld ?_
                  rotate_left
                  · intro w' hSw
                    go_simp <;> with_reducible rfl
                  try simp only [Act.put, List.setIfInBounds_toArray, List.set_cons_zero, List.set_cons_succ]
                  refine wpXt (v := ?_) 7 rfl (by kernel_rfl) (fun _ _ _ h => h) (by rfl) ?_ hHeld ?_
                  rotate_left
                  · intro w' hSw
                    go_simp <;> with_reducible rfl
                  try simp only [Act.put, List.setIfInBounds_toArray, List.set_cons_zero, List.set_cons_succ]
                  refine wpXt (v := ?_) 8 rfl (by kernel_rfl) (fun _ _ _ h => h) (by rfl) ?_ hHeld ?_
                  rotate_left
                  · intro w' hSw
                    go_simp <;> with_reducible rfl
                  try simp only [Act.put, List.setIfInBounds_toArray, List.set_cons_zero, List.set_cons_succ]
                  refine wpXt (v := ?_) 9 rfl (by kernel_rfl) (fun _ _ _ h => h) (by rfl) ?_ hHeld ?_
                  rotate_left
                  · intro w' hSw
                    go_simp <;> with_reducible rfl
                  try simp only [Act.put, List.setIfInBounds_toArray, List.set_cons_zero, List.set_cons_succ]
                  refine wpXt (v := ?_) 10 rfl (by kernel_rfl) (fun _ _ _ h => h) (by rfl) ?_ hHeld ?_
                  rotate_left
                  · intro w' hSw
                    go_simp <;> with_reducible rfl
                  try simp only [Act.put, List.setIfInBounds_toArray, List.set_cons_zero, List.set_cons_succ]
                  refine wpXt (v := ?_) 11 rfl (by kernel_rfl) (fun _ _ _ h => h) (by rfl) ?_ hHeld ?_
                  rotate_left
                  · intro w' hSw
                    go_simp <;> with_reducible rfl
                  try simp only [Act.put, List.setIfInBounds_toArray, List.set_cons_zero, List.set_cons_succ]
                  refine wpXt (v := ?_) 12 rfl (by kernel_rfl) (fun _ _ _ h => h) (by rfl) ?_ hHeld ?_
                  rotate_left
                  · intro w' hSw
                    go_simp <;> with_reducible rfl
                  try simp only [Act.put, List.setIfInBounds_toArray, List.set_cons_zero, List.set_cons_succ]
                  refine wpXt (v := ?_) 13 rfl (by kernel_rfl) (fun _ _ _ h => h) (by rfl) ?_ hHeld ?_
                  rotate_left
                  · intro w' hSw
                    go_simp <;> with_reducible rfl
                  try simp only [Act.put, List.setIfInBounds_toArray, List.set_cons_zero, List.set_cons_succ]
                  refine wpXt (v := ?_) 14 rfl (by kernel_rfl) (fun _ _ _ h => h) (by rfl) ?_ hHeld ?_
                  rotate_left
                  · intro w' hSw
                    go_simp <;> with_reducible rfl
                  try simp only [Act.put, List.setIfInBounds_toArray, List.set_cons_zero, List.set_cons_succ]
                  refine wpXt (v := ?_) 15 rfl (by kernel_rfl) (fun _ _ _ h => h) (by rfl) ?_ hHeld ?_
                  rotate_left
                  · intro w' hSw
                    go_simp <;> with_reducible rfl
                  try simp only [Act.put, List.setIfInBounds_toArray, List.set_cons_zero, List.set_cons_succ]
                  refine wpXt (v := ?_) 16 rfl (by kernel_rfl) (fun _ _ _ h => h) (by rfl) ?_ hHeld ?_
                  rotate_left
                  · intro w' hSw
                    go_simp <;> with_reducible rfl
                  try simp only [Act.put, List.setIfInBounds_toArray, List.set_cons_zero, List.set_cons_succ]
                  refine wpXt (v := ?_) 17 rfl (by kernel_rfl) (fun _ _ _ h => h) (by rfl) ?_ hHeld ?_
                  rotate_left
                  · intro w' hSw
                    go_simp <;> with_reducible rfl
                  try simp only [Act.put, List.setIfInBounds_toArray, List.set_cons_zero, List.set_cons_succ]
                  refine wpXt (v := ?_) 18 rfl (by kernel_rfl) (fun _ _ _ h => h) (by rfl) ?_ hHeld ?_
                  rotate_left
                  · intro w' hSw
                    go_simp <;> with_reducible rfl
                  try simp only [Act.put, List.setIfInBounds_toArray, List.set_cons_zero, List.set_cons_succ]
                  refine wpXt (v := ?_) 19 rfl (by kernel_rfl) (fun _ _ _ h => h) (by rfl) ?_ hHeld ?_
                  rotate_left
                  · intro w' hSw
                    go_simp <;> with_reducible rfl
                  try simp only [Act.put, List.setIfInBounds_toArray, List.set_cons_zero, List.set_cons_succ]
                  refine wpXt (v := ?_) 20 rfl (by kernel_rfl) (fun _ _ _ h => h) (by rfl) ?_ hHeld ?_
                  rotate_left
                  · intro w' hSw
                    go_simp <;> with_reducible rfl
                  try simp only [Act.put, List.setIfInBounds_toArray, List.set_cons_zero, List.set_cons_succ]
                  refine wpXt (v := ?_) 21 rfl (by kernel_rfl) (fun _ _ _ h => h) (by rfl) ?_ hHeld ?_
                  rotate_left
                  · intro w' hSw
                    go_simp <;> with_reducible rfl
                  try simp only [Act.put, List.setIfInBounds_toArray, List.set_cons_zero, List.set_cons_succ]
                  refine wpAnyX_done (by kernel_rfl) ?_ _
                  obtain ⟨v3, vY, c2⟩ := hHeld
                  clear hdr
                  go_wp2
                  go_roundw
                  case rel => exact ⟨i + 1, b, k + 1, by omega, by go_num, rfl, by go_num, hb1, by omega, HWN, HBD⟩
                  case measure => simp [intOf]; omega
                · obtain ⟨e, hv0, heg, h5, h6, hwk⟩ := hcs.2.2 hkn (fun h => hne0 (by rw [← HLEN.out.2, h]; rfl))
                  obtain ⟨K, hK⟩ : ∃ K : Nat, ve = (K : Int) := ⟨ve.toNat, by omega⟩
                  subst hK
                  rw [Int.toNat_natCast] at heg
                  have hKl : K < (bs.getD b emptyB).edges.length := (List.getElem?_eq_some_iff.1 heg).1
                  have hKn : K < ne := by rw [← HLEN.out.2]; exact hKl
                  obtain ⟨b9, off9, aa, ca, hae, lb9, i0, i1, ha⟩ := edg_at HSE.out K hKl
                  subst hae
                  have eE : (bs.getD b emptyB).edges[K]'hKl = e := by
                    rw [List.getElem?_eq_getElem hKl] at heg
                    exact Option.some.inj heg
                  rw [eE] at i0
                  obtain ⟨b2, hb2⟩ : ∃ b2 : Nat, e.block = (b2 : Int) := ⟨e.block.toNat, by omega⟩
                  rw [hb2] at i0 h6 hwk
                  rw [Int.toNat_natCast] at hwk
                  have c9 := (hbA.cell (p := ⟨b9, _, none⟩) lb9).trans i0
                  have lb9r : b9 < wr.heap.size := block_lt c9
                  have hb2n : b2 < nb := by have := HNBL.out; omega
                  have HWN : Hid (WalkP bs (evs.drop (i + 1)) b2 0) := hwk
                  have hKn' : ¬ ne ≤ K := by omega
                  have qg : decide ((ne : Int) ≤ (K : Int)) = false := by simp; omega
                  have q0 : decide ((0 : Int) < (ne : Int)) = true := by simp; omega
                  have wK : IntKind.i64.wrap (K : Int) = (K : Int) := by rw [IntKind.wrap_i64]; omega
                  have hKc : K < ne + 1 := by omega
                  have HSF : Hid (∀ w', Below wr.heap.size wr w' → (fun w' => w'.cell? ⟨E1, 3, none⟩ = some (.int .i64 (K : Int)) ∧ w'.cell? ⟨Y, 1, none⟩ = some (.slice (some ⟨b5, off5, none⟩) nb cb) ∧ w'.cell? ⟨b5, off5 + b * 3 + 2, none⟩ = some (.slice (some ⟨b9, off9, none⟩) ne ce) ∧ w'.cell? ⟨b9, off9 + K * 2, none⟩ = some (.int .i64 (b2 : Int))) w') := fun w' hh => ⟨(hh.cell lE1).trans v3, (hh.cell lYr).trans vY, (hh.cell lb5r).trans c2, (hh.cell lb9r).trans c9⟩
                  clear hcs hwk hbA HB3' hkn hlast heg eE i0 i1 ha hb2 h5 h6 hv0 hne0
                  go_upto_region 28 with fail
                  clear v0 v1 v2 v3 vY c1 c2 c9
                  refine wp_region_X (fun w' => w'.cell? ⟨E1, 3, none⟩ = some (.int .i64 (K : Int)) ∧ w'.cell? ⟨Y, 1, none⟩ = some (.slice (some ⟨b5, off5, none⟩) nb cb) ∧ w'.cell? ⟨b5, off5 + b * 3 + 2, none⟩ = some (.slice (some ⟨b9, off9, none⟩) ne ce) ∧ w'.cell? ⟨b9, off9 + K * 2, none⟩ = some (.int .i64 (b2 : Int))) 99 (by kernel_rfl) (HSF.out _ hdr) (fun hHeld => ?_)
                  refine wpXt (v := ?_) 0 rfl (by kernel_rfl) (fun _ _ _ h => h) (by rfl) ?_ hHeld ?_
                  rotate_left
                  · intro w' hSw
                    go_simp <;> with_reducible rfl
                  try simp only [Act.put, List.setIfInBounds_toArray, List.set_cons_zero, List.set_cons_succ]
                  refine wpXt (v := ?_) 1 rfl (by kernel_rfl) (fun _ _ _ h => h) (by rfl) ?_ hHeld ?_
                  rotate_left
                  · intro w' hSw
                    go_simp <;> with_reducible rfl
                  try simp only [Act.put, List.setIfInBounds_toArray, List.set_cons_zero, List.set_cons_succ]
                  refine wpXt (v := ?_) 2 rfl (by kernel_rfl) (fun _ _ _ h => h) (by rfl) ?_ hHeld ?_
                  rotate_left
                  · intro w' hSw
                    go_simp <;> with_reducible rfl
                  try simp only [Act.put, List.setIfInBounds_toArray, List.set_cons_zero, List.set_cons_succ]
                  refine wpXk 3 rfl (by kernel_rfl) (fun _ _ _ h => h) (by rfl) hHeld ?_
                  try simp only [Act.put, List.setIfInBounds_toArray, List.set_cons_zero, List.set_cons_succ]
                  refine wpXk 4 rfl (by kernel_rfl) (fun _ _ _ h => h) (by rfl) hHeld ?_
                  try simp only [Act.put, List.setIfInBounds_toArray, List.set_cons_zero, List.set_cons_succ]
                  refine wpXk 5 rfl (by kernel_rfl) (fun _ _ _ h => h) (by rfl) hHeld ?_
                  try simp only [Act.put, List.setIfInBounds_toArray, List.set_cons_zero, List.set_cons_succ]
                  refine wpXt (v := ?_) 6 rfl (by kernel_rfl) (fun _ _ _ h => h) (by rfl) ?_ hHeld ?_
                  rotate_left
                  · intro w' hSw
                    go_simp <;> with_reducible rfl
                  try simp only [Act.put, List.setIfInBounds_toArray, List.set_cons_zero, List.set_cons_succ]
                  refine wpXt (v := ?_) 7 rfl (by kernel_rfl) (fun _ _ _ h => h) (by rfl) ?_ hHeld ?_
                  rotate_left
                  · intro w' hSw
                    go_simp <;> with_reducible rfl
                  try simp only [Act.put, List.setIfInBounds_toArray, List.set_cons_zero, List.set_cons_succ]
                  refine wpXt (v := ?_) 8 rfl (by kernel_rfl) (fun _ _ _ h => h) (by rfl) ?_ hHeld ?_
                  rotate_left
                  · intro w' hSw
                    go_simp <;> with_reducible rfl
                  try simp only [Act.put, List.setIfInBounds_toArray, List.set_cons_zero, List.set_cons_succ]
                  refine wpXt (v := ?_) 9 rfl (by kernel_rfl) (fun _ _ _ h => h) (by rfl) ?_ hHeld ?_
                  rotate_left
                  · intro w' hSw
                    go_simp <;> with_reducible rfl
                  try simp only [Act.put, List.setIfInBounds_toArray, List.set_cons_zero, List.set_cons_succ]
                  refine wpXt (v := ?_) 10 rfl (by kernel_rfl) (fun _ _ _ h => h) (by rfl) ?_ hHeld ?_
                  rotate_left
                  · intro w' hSw
                    go_simp <;> with_reducible rfl
                  try simp only [Act.put, List.setIfInBounds_toArray, List.set_cons_zero, List.set_cons_succ]
                  refine wpXt (v := ?_) 11 rfl (by kernel_rfl) (fun _ _ _ h => h) (by rfl) ?_ hHeld ?_
                  rotate_left
                  · intro w' hSw
                    go_simp <;> with_reducible rfl
                  try simp only [Act.put, List.setIfInBounds_toArray, List.set_cons_zero, List.set_cons_succ]
                  refine wpXt (v := ?_) 12 rfl (by kernel_rfl) (fun _ _ _ h => h) (by rfl) ?_ hHeld ?_
                  rotate_left
                  · intro w' hSw
                    go_simp <;> with_reducible rfl
                  try simp only [Act.put, List.setIfInBounds_toArray, List.set_cons_zero, List.set_cons_succ]
                  refine wpXt (v := ?_) 13 rfl (by kernel_rfl) (fun _ _ _ h => h) (by rfl) ?_ hHeld ?_
                  rotate_left
                  · intro w' hSw
                    go_simp <;> with_reducible rfl
                  try simp only [Act.put, List.setIfInBounds_toArray, List.set_cons_zero, List.set_cons_succ]
                  refine wpXt (v := ?_) 14 rfl (by kernel_rfl) (fun _ _ _ h => h) (by rfl) ?_ hHeld ?_
                  rotate_left
                  · intro w' hSw
                    go_simp <;> with_reducible rfl
                  try simp only [Act.put, List.setIfInBounds_toArray, List.set_cons_zero, List.set_cons_succ]
                  refine wpXt (v := ?_) 15 rfl (by kernel_rfl) (fun _ _ _ h => h) (by rfl) ?_ hHeld ?_
                  rotate_left
                  · intro w' hSw
                    go_simp <;> with_reducible rfl
                  try simp only [Act.put, List.setIfInBounds_toArray, List.set_cons_zero, List.set_cons_succ]
                  refine wpXt (v := ?_) 16 rfl (by kernel_rfl) (fun _ _ _ h => h) (by rfl) ?_ hHeld ?_
                  rotate_left
                  · intro w' hSw
                    go_simp <;> with_reducible rfl
                  try simp only [Act.put, List.setIfInBounds_toArray, List.set_cons_zero, List.set_cons_succ]
                  refine wpXt (v := ?_) 17 rfl (by kernel_rfl) (fun _ _ _ h => h) (by rfl) ?_ hHeld ?_
                  rotate_left
                  · intro w' hSw
                    go_simp <;> with_reducible rfl
                  try simp only [Act.put, List.setIfInBounds_toArray, List.set_cons_zero, List.set_cons_succ]
                  refine wpXt (v := ?_) 18 rfl (by kernel_rfl) (fun _ _ _ h => h) (by rfl) ?_ hHeld ?_
                  rotate_left
                  · intro w' hSw
                    go_simp <;> with_reducible rfl
                  try simp only [Act.put, List.setIfInBounds_toArray, List.set_cons_zero, List.set_cons_succ]
                  refine wpXt (v := ?_) 19 rfl (by kernel_rfl) (fun _ _ _ h => h) (by rfl) ?_ hHeld ?_
                  rotate_left
                  · intro w' hSw
                    go_simp <;> with_reducible rfl
                  try simp only [Act.put, List.setIfInBounds_toArray, List.set_cons_zero, List.set_cons_succ]
                  refine wpXt (v := ?_) 20 rfl (by kernel_rfl) (fun _ _ _ h => h) (by rfl) ?_ hHeld ?_
                  rotate_left
                  · intro w' hSw
                    go_simp <;> with_reducible rfl
                  try simp only [Act.put, List.setIfInBounds_toArray, List.set_cons_zero, List.set_cons_succ]
                  refine wpXt (v := ?_) 21 rfl (by kernel_rfl) (fun _ _ _ h => h) (by rfl) ?_ hHeld ?_
                  rotate_left
                  · intro w' hSw
                    go_simp <;> with_reducible rfl
                  try simp only [Act.put, List.setIfInBounds_toArray, List.set_cons_zero, List.set_cons_succ]
                  refine wpAnyX_done (by kernel_rfl) ?_ _
                  obtain ⟨W28, hW28⟩ : ∃ W28, W28 = wr.drew := ⟨_, rfl⟩
                  have hd28 : Below wr.heap.size wr W28.drew := by rw [hW28]; exact hdr.drew
                  have HB28 : Hid (Below w5.heap.size w5 W28.drew) := HBF.out.trans (hd28.mono HBF.out.size)
                  rw [← hW28]
                  rw [← hW28] at hHeld
                  obtain ⟨v3, vY, c2, c9⟩ := hHeld
                  clear hdr hW28
                  go_upto_region 33 with fail
                  clear v3 vY c2 c9
                  refine wp_region_X (fun w' => w'.cell? ⟨E1, 3, none⟩ = some (.int .i64 (K : Int)) ∧ w'.cell? ⟨Y, 1, none⟩ = some (.slice (some ⟨b5, off5, none⟩) nb cb) ∧ w'.cell? ⟨b5, off5 + b * 3 + 2, none⟩ = some (.slice (some ⟨b9, off9, none⟩) ne ce) ∧ w'.cell? ⟨b9, off9 + K * 2, none⟩ = some (.int .i64 (b2 : Int))) 99 (by kernel_rfl) (HSF.out _ hd28) (fun hHeld => ?_)
                  refine wpXt (v := ?_) 0 rfl (by kernel_rfl) (fun _ _ _ h => h) (by rfl) ?_ hHeld ?_
                  rotate_left
                  · intro w' hSw
                    go_simp <;> with_reducible rfl
                  try simp only [Act.put, List.setIfInBounds_toArray, List.set_cons_zero, List.set_cons_succ]
                  refine wpXt (v := ?_) 1 rfl (by kernel_rfl) (fun _ _ _ h => h) (by rfl) ?_ hHeld ?_
                  rotate_left
                  · intro w' hSw
                    go_simp <;> with_reducible rfl
                  try simp only [Act.put, List.setIfInBounds_toArray, List.set_cons_zero, List.set_cons_succ]
                  refine wpXt (v := ?_) 2 rfl (by kernel_rfl) (fun _ _ _ h => h) (by rfl) ?_ hHeld ?_
                  rotate_left
                  · intro w' hSw
                    go_simp <;> with_reducible rfl
                  try simp only [Act.put, List.setIfInBounds_toArray, List.set_cons_zero, List.set_cons_succ]
                  refine wpXt (v := ?_) 3 rfl (by kernel_rfl) (fun _ _ _ h => h) (by rfl) ?_ hHeld ?_
                  rotate_left
                  · intro w' hSw
                    go_simp <;> with_reducible rfl
                  try simp only [Act.put, List.setIfInBounds_toArray, List.set_cons_zero, List.set_cons_succ]
                  refine wpXt (v := ?_) 4 rfl (by kernel_rfl) (fun _ _ _ h => h) (by rfl) ?_ hHeld ?_
                  rotate_left
                  · intro w' hSw
                    go_simp <;> with_reducible rfl
                  try simp only [Act.put, List.setIfInBounds_toArray, List.set_cons_zero, List.set_cons_succ]
                  refine wpXt (v := ?_) 5 rfl (by kernel_rfl) (fun _ _ _ h => h) (by rfl) ?_ hHeld ?_
                  rotate_left
                  · intro w' hSw
                    go_simp <;> with_reducible rfl
                  try simp only [Act.put, List.setIfInBounds_toArray, List.set_cons_zero, List.set_cons_succ]
                  refine wpXt (v := ?_) 6 rfl (by kernel_rfl) (fun _ _ _ h => h) (by rfl) ?_ hHeld ?_
                  rotate_left
                  · intro w' hSw
                    go_simp <;> with_reducible rfl
                  try simp only [Act.put, List.setIfInBounds_toArray, List.set_cons_zero, List.set_cons_succ]
                  refine wpXt (v := ?_) 7 rfl (by kernel_rfl) (fun _ _ _ h => h) (by rfl) ?_ hHeld ?_
                  rotate_left
                  · intro w' hSw
                    go_simp <;> with_reducible rfl
                  try simp only [Act.put, List.setIfInBounds_toArray, List.set_cons_zero, List.set_cons_succ]
                  refine wpXt (v := ?_) 8 rfl (by kernel_rfl) (fun _ _ _ h => h) (by rfl) ?_ hHeld ?_
                  rotate_left
                  · intro w' hSw
                    go_simp <;> with_reducible rfl
                  try simp only [Act.put, List.setIfInBounds_toArray, List.set_cons_zero, List.set_cons_succ]
                  refine wpXt (v := ?_) 9 rfl (by kernel_rfl) (fun _ _ _ h => h) (by rfl) ?_ hHeld ?_
                  rotate_left
                  · intro w' hSw
                    go_simp <;> with_reducible rfl
                  try simp only [Act.put, List.setIfInBounds_toArray, List.set_cons_zero, List.set_cons_succ]
                  refine wpXt (v := ?_) 10 rfl (by kernel_rfl) (fun _ _ _ h => h) (by rfl) ?_ hHeld ?_
                  rotate_left
                  · intro w' hSw
                    go_simp <;> with_reducible rfl
                  try simp only [Act.put, List.setIfInBounds_toArray, List.set_cons_zero, List.set_cons_succ]
                  refine wpXt (v := ?_) 11 rfl (by kernel_rfl) (fun _ _ _ h => h) (by rfl) ?_ hHeld ?_
                  rotate_left
                  · intro w' hSw
                    go_simp <;> with_reducible rfl
                  try simp only [Act.put, List.setIfInBounds_toArray, List.set_cons_zero, List.set_cons_succ]
                  refine wpAnyX_done (by kernel_rfl) ?_ _
                  clear hHeld hd28
                  go_wp2
                  go_roundw
                  case rel => exact ⟨i + 1, b2, 0, by omega, by go_num, rfl, rfl, hb2n, by omega, HWN, HB28⟩
                  case measure => simp [intOf]; omega
    · go_wp2
      go_ret
      exact ⟨rfl, (HB.out.trans (HB5.out.mono HB.out.size)).trans (HBR.out.mono (Nat.le_trans HB.out.size HB5.out.size))⟩

end Go.Proofs.Ytmanjojjncjaiaa
