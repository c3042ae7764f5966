/-
  The walk of DeadTold: a block to which nothing comes is told.
-/
import Derived.Test.YtanhfkpphdbaaaaF9
import Derived.Test.YtanhfkpphdbaaaaO3
namespace Go.Proofs.Ytanhfkpphdbaaaa
open Go.RowKit
set_option linter.unusedVariables false

set_option maxRecDepth 8000 in
set_option maxHeartbeats 8000000 in
theorem deadTold_walk (a : Int) (wa : (Lit.int .i64 a).wf = true) (b : Int) (wb : (Lit.int .i64 b).wf = true) (l : List Pc) (vl : Value) (w : World) (hl : SlOf w 7 RPc vl l) (hp : ∀ p ∈ l, PcF p) :
    Calls Try.prog 6 #[.int .i64 a, .int .i64 b, vl] w fun e w' => e = .returned (.bool true) ∧ Below w.heap.size w w' := by
  obtain ⟨a0, a1⟩ := bounds_i64 wa
  obtain ⟨b0, b1⟩ := bounds_i64 wb
  have HMA := machine_any a b w a0 a1 b0 b1
  have hm0 := machine_bd a
  have hm1 := machine_bd b
  generalize 2 + pickedOf a 9 = m0 at *
  generalize 2 + pickedOf b 9 = m1 at *
  have HM : Hid ((2 ≤ m0 ∧ m0 ≤ 10) ∧ 2 ≤ m1 ∧ m1 ≤ 10) := ⟨hm0, hm1⟩
  have HL : Hid (SlOf w 7 RPc vl l) := hl
  have HP : Hid (∀ p ∈ l, PcOk p ∧ -9223372036854775808 ≤ p.kind ∧ p.kind ≤ 9223372036854775807) := hp
  clear wa wb hl hp hm0 hm1
  go_enter Try.func6, Try.ntmps6
  go_upto_region 2 with (go_at_call 9; refine HMA.mono ?_; rintro e w1 ⟨rfl, hb1⟩)
  obtain ⟨W1, hW1⟩ : ∃ W1, W1 = w1.alloc (.cells #[.int .i64 m0, .int .i64 m1] 25) := ⟨_, rfl⟩
  have r1 : W1.rowIs w1.heap.size 25 2 (fun q => if q = 0 then .int .i64 m0 else .int .i64 m1) := by
    rw [hW1]
    exact World.rowIs_alloc w1 #[.int .i64 m0, .int .i64 m1] 25 _ fun i hi => by
      simp at hi
      match i, hi with | 0, _ => rfl | 1, _ => rfl
  have HB0 : Hid (Below w.heap.size w W1) := by
    show Below _ _ _
    rw [hW1]
    exact hb1.alloc hb1.size _
  rw [← hW1]
  clear hW1 HMA hb1
  obtain ⟨X, hX⟩ : ∃ X, w1.heap.size = X := ⟨_, rfl⟩
  rw [hX] at r1
  rw [hX]
  have f0 : W1.cell? ⟨X, 0, none⟩ = some (.int .i64 m0) := r1.cell (i := 0) (by omega)
  have f1 : W1.cell? ⟨X, 1, none⟩ = some (.int .i64 m1) := r1.cell (i := 1) (by omega)
  have lX := r1.lt
  clear hX r1
  have HFN := ma_func m0 m1 l vl W1 HM.out.1 HM.out.2 (HL.out.below HB0.out fun _ _ h => h) HP.out
  go_wp2_with fail
  refine HFN.mono ?_
  clear HFN
  rintro e w2 ⟨vv, vb, rfl, hv2, hb2, hbw2⟩
  obtain ⟨av, cv, rfl, lv⟩ := hv2.out
  obtain ⟨ab, cb, rfl, lb⟩ := hb2.out
  have HF : Hid (shapeErr (masonM m0 m1 l) m0 m1 = 0) := mason_shape m0 m1 HM.out.1 HM.out.2 l
  have HFIT : Hid (FnFit (masonM m0 m1 l)) := fit_of HF.out
  have HFT : Hid (FnFit (masonM m0 m1 l)) := HFIT
  have HMO : Hid (machErr m0 m1 = 0) := mach_ok HM.out.1 HM.out.2
  have HDD0 : Hid ((masonM m0 m1 l).blocks.length + 1 ≤ 16 → ∀ K, shapeErr ⟨(masonM m0 m1 l).values, (masonM m0 m1 l).blocks ++ [⟨[], [], []⟩]⟩ m0 m1 = 0 ∧ flowE ⟨(masonM m0 m1 l).values, (masonM m0 m1 l).blocks ++ [⟨[], [], []⟩]⟩ m0 m1 K = 16) := fun hb K => dead_told m0 m1 HM.out.1 HM.out.2 l hb K
  generalize hf : masonM m0 m1 l = f at *
  clear hf
  have f0' : w2.cell? ⟨X, 0, none⟩ = some (.int .i64 m0) := (hbw2.cell (p := ⟨X, 0, none⟩) lX).trans f0
  have f1' : w2.cell? ⟨X, 1, none⟩ = some (.int .i64 m1) := (hbw2.cell (p := ⟨X, 1, none⟩) lX).trans f1
  have lX' : X < w2.heap.size := Nat.lt_of_lt_of_le lX hbw2.size
  have HB2 : Hid (Below w.heap.size w w2) := HB0.out.trans (hbw2.mono HB0.out.size)
  have HV2 : Hid (SlOf w2 1 RInt (.slice av f.values.length cv) f.values) := hv2
  have HBL2 : Hid (SlOf w2 3 (RBlk w2) (.slice ab f.blocks.length cb) f.blocks) := hb2
  unfold longest at lv lb
  clear f0 f1 lX HB0 hbw2 hv2 hb2
  generalize hnv : f.values.length = nv at *
  generalize hnb : f.blocks.length = nb at *
  have HNV : Hid (f.values.length = nv) := hnv
  have HNB : Hid (f.blocks.length = nb) := hnb
  clear hnv hnb
  have HDD : Hid (nb + 1 ≤ 16 → ∀ K, shapeErr ⟨f.values, f.blocks ++ [⟨[], [], []⟩]⟩ m0 m1 = 0 ∧ flowE ⟨f.values, f.blocks ++ [⟨[], [], []⟩]⟩ m0 m1 K = 16) := HDD0
  clear HDD0
  obtain ⟨N, hN⟩ : ∃ N, w2.heap.size = N := ⟨_, rfl⟩
  have HOW := own_any f nv nb av ab cv cb w2 HNV.out HNB.out HV2.out HBL2.out HFIT.out
  go_wp2_with fail
  refine HOW.mono ?_
  clear HOW
  rintro e w3 ⟨a1, n1, c1, a2, n2, c2, κ, bx, rfl, hR, hb3⟩
  obtain rfl : n1 = nv := by
    obtain ⟨a, c, hv⟩ := own_out hR.ov
    rw [HNV.out] at hv
    simp only [Value.slice.injEq] at hv
    exact hv.2.1
  obtain rfl : n2 = nb := by
    obtain ⟨a, c, hv⟩ := own_out hR.ob
    rw [HNB.out] at hv
    simp only [Value.slice.injEq] at hv
    exact hv.2.1
  rw [hN] at hR
  obtain ⟨W, hW⟩ : ∃ W, W = w3.alloc (.cells #[.slice a1 n1 c1, .slice a2 n2 c2] 32) := ⟨_, rfl⟩
  obtain ⟨Y, hY⟩ : ∃ Y, w3.heap.size = Y := ⟨_, rfl⟩
  have rY : W.rowIs Y 32 2 (fun q => if q = 0 then .slice a1 n1 c1 else .slice a2 n2 c2) := by
    rw [hW, ← hY]
    exact World.rowIs_alloc _ _ _ _ fun i hi => by
      simp at hi
      match i, hi with | 0, _ => rfl | 1, _ => rfl
  have hRY : OwR N (upK κ Y 5) W f (.slice a1 n1 c1) (.slice a2 n2 c2) bx := by
    rw [hW, ← hY]
    exact hR.box _
  have hbW : Below N w2 W := by
    rw [hW, ← hN]
    exact hb3.alloc hb3.size _
  have hYN : N ≤ Y := by rw [← hN, ← hY]; exact hb3.size
  have lXN : X < N := by rw [← hN]; exact lX'
  have HR : Hid (OwR N (upK κ Y 5) W f (.slice a1 n1 c1) (.slice a2 n2 c2) bx) := hRY
  have HRY : Hid (W.rowIs Y 32 2 (fun q => if q = 0 then .slice a1 n1 c1 else .slice a2 n2 c2)) := rY
  have HBW : Hid (Below N w2 W) := hbW
  have HY : Hid (w3.heap.size = Y) := hY
  have HN : Hid (w2.heap.size = N) := hN
  have HW : Hid (W = w3.alloc (.cells #[.slice a1 n1 c1, .slice a2 n2 c2] 32)) := hW
  have HYN : Hid (N ≤ Y) := hYN
  have f0 : W.cell? ⟨X, 0, none⟩ = some (.int .i64 m0) := (hbW.cell (p := ⟨X, 0, none⟩) lXN).trans f0'
  have f1 : W.cell? ⟨X, 1, none⟩ = some (.int .i64 m1) := (hbW.cell (p := ⟨X, 1, none⟩) lXN).trans f1'
  have g0 : W.cell? ⟨Y, 0, none⟩ = some (.slice a1 n1 c1) := rY.cell (i := 0) (by omega)
  have g1 : W.cell? ⟨Y, 1, none⟩ = some (.slice a2 n2 c2) := rY.cell (i := 1) (by omega)
  have gz := rY.frozen 1
  have f00 := f0'
  have f01 := f1'
  clear hR hb3 hW hY rY hRY hbW hYN hN f0' f1' lX' HV2 HBL2 HFIT
  go_upto_region 3 with fail
  rw [← HW.out, HY.out]
  clear HW HY
  obtain ⟨iB, hiB, ziB, siB, biB⟩ := info_parts infoMB
  have oA0 : W.ownsRow N 45 3 (.slice a2 n2 c2) n2 ((List.range n2).flatMap fun j => c3 (bx j)) := by
    have h := HR.out.ob
    rw [HNB.out] at h
    exact h
  have oA := oA0.alloc (.cells #[.slice none 0 0, .slice none 0 0, .slice none 0 0] 45)
  have hNs : N ≤ W.heap.size + 1 := by have := HR.out.szN; omega
  have bnb : n2 ≤ 16 := by rw [← HNB.out]; exact (shape_in HF.out).nb
  have lY := HRY.out.lt
  have nY : some Y ≠ (Value.slice a2 n2 c2).ownBlock := fun e => by
    have h1 := HR.out.kb Y e.symm
    simp [upK] at h1
  clear oA0
  go_wp2_with (at_builtin; go_must (refine wpList_append_lies _ rfl _ _ 30 rfl N 45 iB _ 3 72 Try.underlying30 hiB ziB siB biB rfl (by omega) (.slice a2 n2 c2) n2 _ (by rfl) oA ⟨W.heap.size, 0, none⟩ 1 1 [.slice none 0 0, .slice none 0 0, .slice none 0 0] (by rfl) (by rfl) ?g1 ?g2 (by omega) ?g3 ?g4 ?g5 (W.heap.size + 1) ?g6 ?_))
  rotate_left
  any_goals (first | (exact newsG rfl) | rfl | (intro u hu; simp at hu; subst hu; rfl) | (unfold maxLen; omega) | omega | (simp; omega) | (simp; rfl) | (simp; done))
  intro g cap wb hown hgrow hat hgl
  have hwa : Below W.heap.size W (W.alloc (.cells #[.slice none 0 0, .slice none 0 0, .slice none 0 0] 45)) := (Below.refl _ _).alloc (Nat.le_refl _) _
  have hP := HR.out.pushB hwa hgrow ⟨[], [], []⟩ (.slice none 0 0, .slice none 0 0, .slice none 0 0) (blkS_bare _) (by rw [HNB.out]; exact hown) (by simpa using hat)
  rw [HNB.out] at hP
  have lYa : Y < (W.alloc (.cells #[.slice none 0 0, .slice none 0 0, .slice none 0 0] 45)).heap.size := by simp; omega
  have hYb : wb.heap[Y]? = W.heap[Y]? := (hgrow.block Y lYa nY).trans (hwa.block Y lY)
  have kY : upK (upK κ Y 5) g 4 Y = 5 := by
    have := hP.2.role Y lY
    rw [this]
    simp [upK]
  obtain ⟨W5, hW5⟩ : ∃ W5, W5 = wb.setCell ⟨Y, 1, none⟩ (.slice (some ⟨g, 0, none⟩) (n2 + 1) cap) := ⟨_, rfl⟩
  have hR5 : OwR N (upK (upK κ Y 5) g 4) W5 ⟨f.values, f.blocks ++ [⟨[], [], []⟩]⟩ (.slice a1 n1 c1) (.slice (some ⟨g, 0, none⟩) (n2 + 1) cap) (fun j => if j = n2 then (.slice none 0 0, .slice none 0 0, .slice none 0 0) else bx j) := by
    rw [hW5]
    exact hP.1.set kY 1 _
  have rY5 : W5.rowIs Y 32 2 (fun q => if q = 0 then .slice a1 n1 c1 else .slice (some ⟨g, 0, none⟩) (n2 + 1) cap) := by
    rw [hW5]
    exact ((HRY.out.of_block hYb).set 1 _).congr fun q hq => by match q, hq with | 0, _ => rfl | 1, _ => rfl
  have hbN5 : Below N w2 W5 := by
    have hlow : Below N W wb := hP.2.below HR.out.szN fun b hb => by rw [HR.out.lowN b hb]; omega
    rw [hW5]
    exact (HBW.out.trans hlow).setCell HYN.out _
  have hb5 : Below w.heap.size w W5 := HB2.out.trans (hbN5.mono (by rw [← HN.out]; exact HB2.out.size))
  have hfit5 := hR5.reads (by show f.values.length ≤ _; rw [HNV.out]; unfold longest; omega) (by show (f.blocks ++ [_]).length ≤ _; rw [List.length_append, HNB.out]; unfold longest; simp; omega) (fun b hb => by
    rcases List.mem_append.1 hb with hb | hb
    · have := (HFT.out.blk b hb); unfold longest; omega
    · rw [List.mem_singleton.1 hb]; unfold longest; simp)
  have y0 : W5.cell? ⟨Y, 0, none⟩ = some (.slice a1 n1 c1) := rY5.cell (i := 0) (by omega)
  have y1 : W5.cell? ⟨Y, 1, none⟩ = some (.slice (some ⟨g, 0, none⟩) (n2 + 1) cap) := rY5.cell (i := 1) (by omega)
  have x0 : W5.cell? ⟨X, 0, none⟩ = some (.int .i64 m0) := (hbN5.cell (p := ⟨X, 0, none⟩) lXN).trans f00
  have x1 : W5.cell? ⟨X, 1, none⟩ = some (.int .i64 m1) := (hbN5.cell (p := ⟨X, 1, none⟩) lXN).trans f01
  have HB5 : Hid (Below w.heap.size w W5) := hb5
  have HRD : Hid (SlOf W5 1 RInt (.slice a1 n1 c1) f.values ∧ SlOf W5 3 (RBlk W5) (.slice (some ⟨g, 0, none⟩) (n2 + 1) cap) (f.blocks ++ [⟨[], [], []⟩])) := hfit5
  have o1' : wb.cell? ⟨Y, 1, none⟩ = some (.slice a2 n2 c2) := (World.cell?_of_block (w := W) (a := ⟨Y, 1, none⟩) hYb).trans g1
  have oz' : wb.frozen? ⟨Y, 1, none⟩ = false := (World.frozen?_of_block (w := W) (a := ⟨Y, 1, none⟩) hYb).trans gz
  have HW5 : Hid (W5 = wb.setCell ⟨Y, 1, none⟩ (.slice (some ⟨g, 0, none⟩) (n2 + 1) cap)) := hW5
  clear hown hgrow hat hgl hwa hP lYa hYb kY hW5 hR5 rY5 hbN5 hb5 hfit5 oA g0 g1 gz f0 f1 nY lY HR HRY HBW
  go_upto_region 4 with fail
  rw [← HW5.out]
  clear HW5 o1' oz'
  by_cases hbig : 16 < n2 + 1
  · have q1 : (16 : Int) < (n2 : Int) + 1 := by omega
    have q2 : decide ((16 : Int) < (n2 : Int) + 1) = true := by simp; omega
    have hsz := size_told (f := ⟨f.values, f.blocks ++ [⟨[], [], []⟩]⟩) HMO.out (by show 16 < (f.blocks ++ [_]).length; rw [List.length_append, HNB.out]; simpa using hbig) 1
    have HC := flowCheck_is ⟨f.values, f.blocks ++ [⟨[], [], []⟩]⟩ 1 n1 (n2 + 1) m0 m1 a1 (some ⟨g, 0, none⟩) c1 cap 1 hsz.1 HNV.out (by rw [List.length_append, HNB.out]; rfl) W5 HRD.out.1 HRD.out.2 (fun h => by rw [hsz.2] at h; cases h)
    clear hsz hbig
    go_wp2_with fail
    refine HC.mono ?_
    clear HC
    rintro e w6 ⟨rfl, hb6⟩
    have HE : Hid (Below w.heap.size w w6) := HB5.out.trans (hb6.mono HB5.out.size)
    clear hb6
    go_wp2
    go_ret
    exact ⟨rfl, HE.out⟩
  · have q1 : ¬ (16 : Int) < (n2 : Int) + 1 := by omega
    have q2 : decide ((16 : Int) < (n2 : Int) + 1) = false := by simp; omega
    have hdd := HDD.out (by omega)
    have HC := flowCheck_is ⟨f.values, f.blocks ++ [⟨[], [], []⟩]⟩ ((n2 + 1) * (n2 + 1) + 1) n1 (n2 + 1) m0 m1 a1 (some ⟨g, 0, none⟩) c1 cap 16 (hdd _).2 HNV.out (by rw [List.length_append, HNB.out]; rfl) W5 HRD.out.1 HRD.out.2 (fun h => by
      have := flowIn_all h
      rw [List.length_append, HNB.out] at this
      exact this)
    clear hdd hbig
    go_wp2_with fail
    refine HC.mono ?_
    clear HC
    rintro e w6 ⟨rfl, hb6⟩
    have HE : Hid (Below w.heap.size w w6) := HB5.out.trans (hb6.mono HB5.out.size)
    clear hb6
    go_wp2
    go_ret
    exact ⟨rfl, HE.out⟩

end Go.Proofs.Ytanhfkpphdbaaaa
