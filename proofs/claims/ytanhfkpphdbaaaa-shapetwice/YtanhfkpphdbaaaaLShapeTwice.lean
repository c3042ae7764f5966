/-
  The walk of ShapeTwice: a value is made once.
-/
import Derived.Test.YtanhfkpphdbaaaaW6
import Derived.Test.YtanhfkpphdbaaaaO7
import Derived.Test.YtanhfkpphdbaaaaO6
namespace Go.Proofs.Ytanhfkpphdbaaaa
open Go.RowKit
set_option linter.unusedVariables false

/-- The cells of a block. -/
theorem OwR.at {N : Nat} {κ : Nat → Nat} {w : World} {gb cb : Nat} {f : Fn} {vv : Value} {bx : Nat → Value × Value × Value} (h : OwR N κ w f vv (.slice (some ⟨gb, 0, none⟩) f.blocks.length cb) bx) (j : Nat) (hj : j < f.blocks.length) :
    w.cell? ⟨gb, j * 3 + 1, none⟩ = some (bx j).2.1 ∧ w.frozen? ⟨gb, j * 3 + 1, none⟩ = false := by
  refine own_cell h.ob (j * 3 + 1) _ ?_
  rw [flat_at (fun j => c3 (bx j)) 3 (fun _ => rfl) (List.range f.blocks.length) j 1 (by simpa using hj) (by omega)]
  simp [c3]
section
variable {P : Program} {Q : Exit → Act → World → Prop} {md : Region.Mode} {S : World → Prop} {L : Nat}
theorem wpX_last14 {o0 o1 o2 o3 o4 o5 o6 o7 o8 o9 o10 o11 o12 o13 : Oper} {o : Oper} {rest : List Oper} {fuel : Nat} {listed : Array Bool} {a : Act} {w : World} (hr : Region.ready md (o0 :: o1 :: o2 :: o3 :: o4 :: o5 :: o6 :: o7 :: o8 :: o9 :: o10 :: o11 :: o12 :: o13 :: o :: rest).toArray listed = [14]) (hL : 14 = L) (hr' : Region.ready md (o0 :: o1 :: o2 :: o3 :: o4 :: o5 :: o6 :: o7 :: o8 :: o9 :: o10 :: o11 :: o12 :: o13 :: o :: rest).toArray (listed.setIfInBounds 14 true) = []) (h : ∀ K' : Act → World → Prop, Shut (∀ a w, Q .normal a w → K' a w) → if Region.wanted o (yielded (o0 :: o1 :: o2 :: o3 :: o4 :: o5 :: o6 :: o7 :: o8 :: o9 :: o10 :: o11 :: o12 :: o13 :: o :: rest).toArray a.tmps) = true then Oper.wp P o a w K' Q else K' (a.put o.dst undef) w) : wpAnyX P md (o0 :: o1 :: o2 :: o3 :: o4 :: o5 :: o6 :: o7 :: o8 :: o9 :: o10 :: o11 :: o12 :: o13 :: o :: rest).toArray Q S L (fuel + 1) listed a w :=
  wpAnyX_last (i := 14) (o := o) rfl hr hL hr' h
end
/-- What the statement takes from the plain side. -/
structure TwF (f : Fn) (m0 m1 : Int) : Prop where
  never : shapeErr ⟨f.values ++ [0], f.blocks⟩ m0 m1 = 6
  some : 1 ≤ totI f.blocks
  pos : 0 < f.blocks.length
  twice : ∀ (j i : Nat) (hj : j < f.blocks.length) (hi : i < f.blocks[j].instrs.length), shapeErr ⟨f.values, setBlk f.blocks (f.blocks.length - 1) (addI (yV (lastDef f.blocks[j].instrs[i].operands)))⟩ m0 m1 = 7
theorem totI_pos (bs : List Blk) (b : Blk) (hb : b ∈ bs) (h : 0 < b.instrs.length) : 1 ≤ totI bs := by
  induction bs with
  | nil => cases hb
  | cons x r ih =>
    unfold totI at ih ⊢
    rw [List.map_cons, List.sum_cons]
    rcases List.mem_cons.1 hb with rfl | hb
    · omega
    · have := ih hb
      omega
theorem end_some (m0 m1 : Int) (h0 : 2 ≤ m0 ∧ m0 ≤ 10) (h1 : 2 ≤ m1 ∧ m1 ≤ 10) (l : List Pc) : 0 < (blkAt (endM m0 m1 l) (endM m0 m1 l).cur).instrs.length := by
  have hI := Inv.fold (l.take 24) (Inv.start m0 m1 h0 h1)
  unfold endM
  generalize (l.take 24).foldl stepM (blockM ⟨m0, m1, ⟨[], []⟩, 0, []⟩ []).1 = s at *
  rw [lay_atx s _ hI.good.ok.cur, if_pos (show (layM s _).cur = s.cur from rfl)]
  simp [addI]
theorem tw_facts (m0 m1 : Int) (h0 : 2 ≤ m0 ∧ m0 ≤ 10) (h1 : 2 ≤ m1 ∧ m1 ≤ 10) (l : List Pc) : TwF (masonM m0 m1 l) m0 m1 := by
  have hs := mason_shape m0 m1 h0 h1 l
  obtain ⟨g, hE, gv, gb, gi⟩ := end_good m0 m1 h0 h1 l
  have hi := end_some m0 m1 h0 h1 l
  have hm := end_m m0 m1 l
  rw [masonM_eq] at hs ⊢
  generalize endM m0 m1 l = s at *
  have hcl := g.ok.cur
  have hall : (allM s.f.blocks).length = s.f.values.length := by rw [g.ok.made.length_eq]; simp
  refine ⟨never_told hs (by omega) hall, totI_pos _ _ (blkAt_mem hcl) hi, by omega, fun j i hj hij => ?_⟩
  have hx := g.ok.ins _ (List.getElem_mem hj) _ (List.getElem_mem hij)
  have hne : oprM s.f.blocks[j].instrs[i].operands ≠ [] := fun e => by have := hx.2.2.2; rw [e] at this; simp at this
  have hmem : lastDef s.f.blocks[j].instrs[i].operands ∈ allM s.f.blocks := by
    refine mem_all (List.getElem_mem hj) ?_
    unfold makersOf insM
    exact List.mem_append_right _ (List.mem_flatMap.2 ⟨_, List.getElem_mem hij, lastDef_mem _ hne⟩)
  have := twice_told g (by omega) gb (fun q => by have := gi q; omega) (s.f.blocks.length - 1) (by omega) _ hmem
  rw [hm.1, hm.2] at this
  exact this
set_option maxRecDepth 8000 in
set_option maxHeartbeats 8000000 in
theorem shapeTwice_walk (a : Int) (wa : (Lit.int .i64 a).wf = true) (b : Int) (wb : (Lit.int .i64 b).wf = true) (l : List Pc) (vl : Value) (n : Int) (wn : (Lit.int .i64 n).wf = true) (w : World) (hl : SlOf w 7 RPc vl l) (hp : ∀ p ∈ l, PcF p) :
    Calls Try.prog 4 #[.int .i64 a, .int .i64 b, vl, .int .i64 n] w fun e w' => e = .returned (.bool true) ∧ Below w.heap.size w w' := by
  obtain ⟨a0, a1⟩ := bounds_i64 wa
  obtain ⟨b0, b1⟩ := bounds_i64 wb
  have HMA := machine_any a b w a0 a1 b0 b1
  have hm0 := machine_bd a
  have hm1 := machine_bd b
  generalize 2 + pickedOf a 9 = m0 at *
  generalize 2 + pickedOf b 9 = m1 at *
  have HM : Hid ((2 ≤ m0 ∧ m0 ≤ 10) ∧ 2 ≤ m1 ∧ m1 ≤ 10) := ⟨hm0, hm1⟩
  have HL : Hid (SlOf w 7 RPc vl l) := hl
  have HP : Hid (∀ p ∈ l, PcOk p ∧ -9223372036854775808 ≤ p.kind ∧ p.kind ≤ 9223372036854775807) := hp
  clear wa wb hl hp hm0 hm1
  obtain ⟨wn0, wn1⟩ := bounds_i64 wn
  clear wn
  go_enter Try.func4, Try.ntmps4
  go_upto_region 2 with (go_at_call 9; refine HMA.mono ?_; rintro e w1 ⟨rfl, hb1⟩)
  obtain ⟨W1, hW1⟩ : ∃ W1, W1 = w1.alloc (.cells #[.int .i64 m0, .int .i64 m1] 25) := ⟨_, rfl⟩
  have r1 : W1.rowIs w1.heap.size 25 2 (fun q => if q = 0 then .int .i64 m0 else .int .i64 m1) := by
    rw [hW1]
    exact World.rowIs_alloc w1 #[.int .i64 m0, .int .i64 m1] 25 _ fun i hi => by
      simp at hi
      match i, hi with | 0, _ => rfl | 1, _ => rfl
  have HB0 : Hid (Below w.heap.size w W1) := by
    show Below _ _ _
    rw [hW1]
    exact hb1.alloc hb1.size _
  rw [← hW1]
  clear hW1 HMA hb1
  obtain ⟨X, hX⟩ : ∃ X, w1.heap.size = X := ⟨_, rfl⟩
  rw [hX] at r1
  rw [hX]
  have f0 : W1.cell? ⟨X, 0, none⟩ = some (.int .i64 m0) := r1.cell (i := 0) (by omega)
  have f1 : W1.cell? ⟨X, 1, none⟩ = some (.int .i64 m1) := r1.cell (i := 1) (by omega)
  have lX := r1.lt
  clear hX r1
  have HFN := ma_func m0 m1 l vl W1 HM.out.1 HM.out.2 (HL.out.below HB0.out fun _ _ h => h) HP.out
  go_wp2_with fail
  refine HFN.mono ?_
  clear HFN
  rintro e w2 ⟨vv, vb, rfl, hv2, hb2, hbw2⟩
  obtain ⟨av, cv, rfl, lv⟩ := hv2.out
  obtain ⟨ab, cb, rfl, lb⟩ := hb2.out
  have HF : Hid (shapeErr (masonM m0 m1 l) m0 m1 = 0) := mason_shape m0 m1 HM.out.1 HM.out.2 l
  have HFT : Hid (FnFit (masonM m0 m1 l)) := fit_of HF.out
  have HTW0 : Hid (TwF (masonM m0 m1 l) m0 m1) := tw_facts m0 m1 HM.out.1 HM.out.2 l
  generalize hf : masonM m0 m1 l = f at *
  clear hf
  have f0' : w2.cell? ⟨X, 0, none⟩ = some (.int .i64 m0) := (hbw2.cell (p := ⟨X, 0, none⟩) lX).trans f0
  have f1' : w2.cell? ⟨X, 1, none⟩ = some (.int .i64 m1) := (hbw2.cell (p := ⟨X, 1, none⟩) lX).trans f1
  have lX' : X < w2.heap.size := Nat.lt_of_lt_of_le lX hbw2.size
  have HB2 : Hid (Below w.heap.size w w2) := HB0.out.trans (hbw2.mono HB0.out.size)
  have HV2 : Hid (SlOf w2 1 RInt (.slice av f.values.length cv) f.values) := hv2
  have HBL2 : Hid (SlOf w2 3 (RBlk w2) (.slice ab f.blocks.length cb) f.blocks) := hb2
  unfold longest at lv lb
  clear f0 f1 lX HB0 hbw2 hv2 hb2
  generalize hnv : f.values.length = nv at *
  generalize hnb : f.blocks.length = nb at *
  have HNV : Hid (f.values.length = nv) := hnv
  have HNB : Hid (f.blocks.length = nb) := hnb
  clear hnv hnb
  have HTW : Hid (TwF f m0 m1) := HTW0
  clear HTW0
  go_upto_region 3 with fail
  obtain ⟨W, hW⟩ : ∃ W, W = w2.alloc (.cells #[.slice av nv cv, .slice ab nb cb] 32) := ⟨_, rfl⟩
  obtain ⟨Y, hY⟩ : ∃ Y, w2.heap.size = Y := ⟨_, rfl⟩
  have rY : W.rowIs Y 32 2 (fun q => if q = 0 then .slice av nv cv else .slice ab nb cb) := by
    rw [hW, ← hY]
    exact World.rowIs_alloc w2 #[.slice av nv cv, .slice ab nb cb] 32 _ fun i hi => by
      simp at hi
      match i, hi with | 0, _ => rfl | 1, _ => rfl
  have hbW : Below w2.heap.size w2 W := by rw [hW]; exact (Below.refl _ _).alloc (Nat.le_refl _) _
  have g0 : W.cell? ⟨Y, 0, none⟩ = some (.slice av nv cv) := rY.cell (i := 0) (by omega)
  have g1 : W.cell? ⟨Y, 1, none⟩ = some (.slice ab nb cb) := rY.cell (i := 1) (by omega)
  have lY := rY.lt
  have f0 : W.cell? ⟨X, 0, none⟩ = some (.int .i64 m0) := (hbW.cell (p := ⟨X, 0, none⟩) lX').trans f0'
  have f1 : W.cell? ⟨X, 1, none⟩ = some (.int .i64 m1) := (hbW.cell (p := ⟨X, 1, none⟩) lX').trans f1'
  have lX : X < W.heap.size := Nat.lt_of_lt_of_le lX' hbW.size
  have HB : Hid (Below w.heap.size w W) := HB2.out.trans (hbW.mono HB2.out.size)
  have HV : Hid (SlOf W 1 RInt (.slice av nv cv) f.values) := HV2.out.below hbW fun _ _ h => h
  have HBL : Hid (SlOf W 3 (RBlk W) (.slice ab nb cb) f.blocks) := HBL2.out.below hbW (RBlk.below hbW)
  rw [← hW, hY]
  clear hW hY rY hbW f0' f1' lX' HB2 HV2 HBL2
  have HOW := own_any f nv nb av ab cv cb W HNV.out HNB.out HV.out HBL.out HFT.out
  go_wp2_with fail
  refine HOW.mono ?_
  clear HOW
  rintro e w3 ⟨a1G, n1, c1G, a2G, n2, c2G, κG, bxG, rfl, hR, hb3⟩
  obtain rfl : n1 = nv := by
    obtain ⟨a, c, hv⟩ := own_out hR.ov
    rw [HNV.out] at hv
    simp only [Value.slice.injEq] at hv
    exact hv.2.1
  obtain rfl : n2 = nb := by
    obtain ⟨a, c, hv⟩ := own_out hR.ob
    rw [HNB.out] at hv
    simp only [Value.slice.injEq] at hv
    exact hv.2.1
  obtain ⟨NG, hN⟩ : ∃ N, W.heap.size = N := ⟨_, rfl⟩
  rw [hN] at hR
  obtain ⟨WG, hW⟩ : ∃ W, W = w3.alloc (.cells #[.slice a1G n1 c1G, .slice a2G n2 c2G] 32) := ⟨_, rfl⟩
  obtain ⟨G, hY⟩ : ∃ Y, w3.heap.size = Y := ⟨_, rfl⟩
  have rY : WG.rowIs G 32 2 (fun q => if q = 0 then .slice a1G n1 c1G else .slice a2G n2 c2G) := by
    rw [hW, ← hY]
    exact World.rowIs_alloc _ _ _ _ fun i hi => by
      simp at hi
      match i, hi with | 0, _ => rfl | 1, _ => rfl
  have hRY : OwR NG (upK κG G 5) WG f (.slice a1G n1 c1G) (.slice a2G n2 c2G) bxG := by
    rw [hW, ← hY]
    exact hR.box _
  have hbW : Below W.heap.size W WG := by
    rw [hW]
    exact hb3.alloc hb3.size _
  have hYN : NG ≤ G := by rw [← hN, ← hY]; exact hb3.size
  have HRG : Hid (OwR NG (upK κG G 5) WG f (.slice a1G n1 c1G) (.slice a2G n2 c2G) bxG) := hRY
  have HRYG : Hid (WG.rowIs G 32 2 (fun q => if q = 0 then .slice a1G n1 c1G else .slice a2G n2 c2G)) := rY
  have HBWG : Hid (Below W.heap.size W WG) := hbW
  have HYNG : Hid (NG ≤ G ∧ W.heap.size = NG) := ⟨hYN, hN⟩
  have HWW : Hid (WG = w3.alloc (.cells #[.slice a1G n1 c1G, .slice a2G n2 c2G] 32)) := hW
  have HYY : Hid (w3.heap.size = G) := hY
  clear hR hb3 hW hY rY hRY hbW hYN hN
  go_upto_region 4 with fail
  rw [← HWW.out, HYY.out]
  clear HWW HYY
  obtain ⟨iI, hiI, ziI, siI, biI⟩ := info_parts infoMI
  have oA0 : WG.ownsRow NG 3 1 (.slice a1G n1 c1G) n1 (f.values.flatMap cI) := by
    have h := HRG.out.ov
    rw [HNV.out] at h
    exact h
  have oA := oA0.alloc (.cells #[.int .i64 0] 3)
  have hNs : NG ≤ WG.heap.size + 1 := by have := HRG.out.szN; omega
  have bnv : n1 ≤ 160 := by rw [← HNV.out]; exact (shape_in HF.out).nv
  have bnb : n2 ≤ 16 := by rw [← HNB.out]; exact (shape_in HF.out).nb
  have lG := HRYG.out.lt
  have nG : some G ≠ (Value.slice a1G n1 c1G).ownBlock := fun e => by
    have h1 := HRG.out.kv G e.symm
    simp [upK] at h1
  have G0 : WG.cell? ⟨G, 0, none⟩ = some (.slice a1G n1 c1G) := HRYG.out.cell (i := 0) (by omega)
  have Gz := HRYG.out.frozen 0
  clear oA0
  go_wp2_with (at_builtin; go_must (refine wpList_append_lies _ rfl _ _ 29 rfl NG 3 iI (.int .i64 0) 1 8 Try.underlying29 hiI ziI siI biI rfl (by omega) (.slice a1G n1 c1G) n1 _ (by rfl) oA ⟨WG.heap.size, 0, none⟩ 1 1 [.int .i64 0] (by rfl) (by rfl) ?g1 ?g2 (by omega) ?g3 ?g4 ?g5 (WG.heap.size + 1) ?g6 ?_))
  rotate_left
  any_goals (first | (exact newsG rfl) | rfl | (intro u hu; simp at hu; subst hu; rfl) | (unfold maxLen; omega) | omega | (simp; omega) | (simp; rfl) | (simp; done))
  intro g cap wb hown hgrow hat hgl
  have hwa : Below WG.heap.size WG (WG.alloc (.cells #[.int .i64 0] 3)) := (Below.refl _ _).alloc (Nat.le_refl _) _
  have hP := HRG.out.pushV (c := 0) hwa hgrow (by rw [HNV.out]; exact hown) (by simpa using hat)
  rw [HNV.out] at hP
  have hGb : wb.heap[G]? = WG.heap[G]? := (hgrow.block G (by simp; omega) nG).trans (hwa.block G lG)
  have kG : upK (upK κG G 5) g 2 G = 5 := by
    have := hP.2.role G lG
    rw [this]
    simp [upK]
  obtain ⟨W5, hW5⟩ : ∃ W5, W5 = wb.setCell ⟨G, 0, none⟩ (.slice (some ⟨g, 0, none⟩) (n1 + 1) cap) := ⟨_, rfl⟩
  have hR5 := hP.1.set kG 0 (.slice (some ⟨g, 0, none⟩) (n1 + 1) cap)
  rw [← hW5] at hR5
  have rG5 : W5.rowIs G 32 2 (fun q => if q = 0 then .slice (some ⟨g, 0, none⟩) (n1 + 1) cap else .slice a2G n2 c2G) := by
    rw [hW5]
    exact ((HRYG.out.of_block hGb).set 0 _).congr fun q hq => by match q, hq with | 0, _ => rfl | 1, _ => rfl
  have hb5 : Below W.heap.size W W5 := by
    have hlow : Below NG WG wb := hP.2.below HRG.out.szN fun b hb => by rw [HRG.out.lowN b hb]; omega
    rw [hW5, HYNG.out.2]
    have h1 := HBWG.out
    rw [HYNG.out.2] at h1
    exact (h1.trans hlow).setCell HYNG.out.1 _
  have hrd := hR5.reads (by show (f.values ++ [0]).length ≤ _; rw [List.length_append, HNV.out]; unfold longest; simp; omega) (by show f.blocks.length ≤ _; rw [HNB.out]; unfold longest; omega) (fun b hb => by have := HFT.out.blk b hb; unfold longest; omega)
  have HGV : Hid (SlOf W5 1 RInt (.slice (some ⟨g, 0, none⟩) (n1 + 1) cap) (f.values ++ [0]) ∧ SlOf W5 3 (RBlk W5) (.slice a2G n2 c2G) f.blocks) := hrd
  have HB5 : Hid (Below W.heap.size W W5) := hb5
  have HV5 : Hid (SlOf W5 1 RInt (.slice av n1 cv) f.values) := HV.out.below hb5 fun _ _ h => h
  have HBL5 : Hid (SlOf W5 3 (RBlk W5) (.slice ab n2 cb) f.blocks) := HBL.out.below hb5 (RBlk.below hb5)
  have p0 := (hb5.cell (p := ⟨Y, 0, none⟩) lY).trans g0
  have p1 := (hb5.cell (p := ⟨Y, 1, none⟩) lY).trans g1
  have s0 := (hb5.cell (p := ⟨X, 0, none⟩) lX).trans f0
  have s1 := (hb5.cell (p := ⟨X, 1, none⟩) lX).trans f1
  have t0 : W5.cell? ⟨G, 0, none⟩ = some (.slice (some ⟨g, 0, none⟩) (n1 + 1) cap) := rG5.cell (i := 0) (by omega)
  have t1 : W5.cell? ⟨G, 1, none⟩ = some (.slice a2G n2 c2G) := rG5.cell (i := 1) (by omega)
  have lX5 : X < W5.heap.size := Nat.lt_of_lt_of_le lX hb5.size
  have lY5 : Y < W5.heap.size := Nat.lt_of_lt_of_le lY hb5.size
  have lG5 := rG5.lt
  have o1' : wb.cell? ⟨G, 0, none⟩ = some (.slice a1G n1 c1G) := (World.cell?_of_block (w := WG) (a := ⟨G, 0, none⟩) hGb).trans G0
  have oz' : wb.frozen? ⟨G, 0, none⟩ = false := (World.frozen?_of_block (w := WG) (a := ⟨G, 0, none⟩) hGb).trans Gz
  have HW5 : Hid (W5 = wb.setCell ⟨G, 0, none⟩ (.slice (some ⟨g, 0, none⟩) (n1 + 1) cap)) := hW5
  clear hown hgrow hat hgl hwa hP hGb kG hW5 hR5 rG5 hb5 hrd oA G0 Gz nG lG HRG HRYG HBWG HYNG f0 f1 g0 g1 lX lY hNs
  go_upto_region 5 with fail
  rw [← HW5.out]
  clear HW5 o1' oz'
  have HOW := own_any f n1 n2 av ab cv cb W5 HNV.out HNB.out HV5.out HBL5.out HFT.out
  go_wp2_with fail
  refine HOW.mono ?_
  clear HOW
  rintro e w6 ⟨a1H, n3, c1H, a2H, n4, c2H, κH, bxH, rfl, hR, hb3⟩
  obtain rfl : n3 = n1 := by
    obtain ⟨a, c, hv⟩ := own_out hR.ov
    rw [HNV.out] at hv
    simp only [Value.slice.injEq] at hv
    exact hv.2.1
  obtain rfl : n4 = n2 := by
    obtain ⟨a, c, hv⟩ := own_out hR.ob
    rw [HNB.out] at hv
    simp only [Value.slice.injEq] at hv
    exact hv.2.1
  obtain ⟨NH, hN⟩ : ∃ N, W5.heap.size = N := ⟨_, rfl⟩
  rw [hN] at hR
  obtain ⟨WH, hW⟩ : ∃ W, W = w6.alloc (.cells #[.slice a1H n3 c1H, .slice a2H n4 c2H] 32) := ⟨_, rfl⟩
  obtain ⟨Hb, hY⟩ : ∃ Y, w6.heap.size = Y := ⟨_, rfl⟩
  have rY : WH.rowIs Hb 32 2 (fun q => if q = 0 then .slice a1H n3 c1H else .slice a2H n4 c2H) := by
    rw [hW, ← hY]
    exact World.rowIs_alloc _ _ _ _ fun i hi => by
      simp at hi
      match i, hi with | 0, _ => rfl | 1, _ => rfl
  have hRY : OwR NH (upK κH Hb 5) WH f (.slice a1H n3 c1H) (.slice a2H n4 c2H) bxH := by
    rw [hW, ← hY]
    exact hR.box _
  have hbW : Below W5.heap.size W5 WH := by
    rw [hW]
    exact hb3.alloc hb3.size _
  have hYN : NH ≤ Hb := by rw [← hN, ← hY]; exact hb3.size
  have HRH : Hid (OwR NH (upK κH Hb 5) WH f (.slice a1H n3 c1H) (.slice a2H n4 c2H) bxH) := hRY
  have HRYH : Hid (WH.rowIs Hb 32 2 (fun q => if q = 0 then .slice a1H n3 c1H else .slice a2H n4 c2H)) := rY
  have HBWH : Hid (Below W5.heap.size W5 WH) := hbW
  have HYNH : Hid (NH ≤ Hb ∧ W5.heap.size = NH) := ⟨hYN, hN⟩
  have HWW : Hid (WH = w6.alloc (.cells #[.slice a1H n3 c1H, .slice a2H n4 c2H] 32)) := hW
  have HYY : Hid (w6.heap.size = Hb) := hY
  clear hR hb3 hW hY rY hRY hbW hYN hN
  go_upto_region 6 with fail
  rw [← HWW.out, HYY.out]
  clear HWW HYY
  have hrdH := HRH.out.reads (by rw [HNV.out]; unfold longest; omega) (by rw [HNB.out]; unfold longest; omega) (fun b hb => by have := HFT.out.blk b hb; unfold longest; omega)
  obtain ⟨kj, ki, hkj, hsp, hki⟩ := spotM_in f.blocks n HTW.out.some
  have HSP := spot_any f n n3 n4 a1H a2H c1H c2H WH HNB.out hrdH.2 HFT.out wn0 wn1 HTW.out.some _ _ hsp
  have bkj : kj < n4 := by rw [← HNB.out]; exact hkj
  have U0 : WH.cell? ⟨Hb, 0, none⟩ = some (.slice a1H n3 c1H) := HRYH.out.cell (i := 0) (by omega)
  have U1 : WH.cell? ⟨Hb, 1, none⟩ = some (.slice a2H n4 c2H) := HRYH.out.cell (i := 1) (by omega)
  clear hrdH hsp
  go_wp2_with fail
  refine HSP.mono ?_
  clear HSP
  rintro e w7 ⟨rfl, hb7⟩
  have HR7 : Hid (OwR NH (upK κH Hb 5) w7 f (.slice a1H n3 c1H) (.slice a2H n4 c2H) bxH) := HRH.out.below hb7
  have HB7 : Hid (Below W5.heap.size W5 w7) := HBWH.out.trans (hb7.mono HBWH.out.size)
  have HRY7 : Hid (w7.rowIs Hb 32 2 (fun q => if q = 0 then .slice a1H n3 c1H else .slice a2H n4 c2H)) := HRYH.out.of_block (hb7.block _ HRYH.out.lt)
  have u1 : w7.cell? ⟨Hb, 1, none⟩ = some (.slice a2H n4 c2H) := HRY7.out.cell (i := 1) (by omega)
  have hrd7 := HR7.out.reads (by rw [HNV.out]; unfold longest; omega) (by rw [HNB.out]; unfold longest; omega) (fun b hb => by have := HFT.out.blk b hb; unfold longest; omega)
  obtain ⟨b5, off5, cs, rfl, hcl5, ⟨vp, vi, ve, rfl, hp, hi, he0⟩, hc⟩ := hrd7.2.at kj hkj
  obtain ⟨ae, ce, rfl, _⟩ := he0.out
  obtain ⟨ap, cp, rfl, _⟩ := hp.out
  obtain ⟨ai, ci, rfl, _⟩ := hi.out
  have v1 := hc 1 (by simp)
  simp at v1
  obtain ⟨b7, off7, cs7, rfl, hcl7, ⟨vo, vs, rfl, hvo, hvs⟩, hc7⟩ := hi.at ki hki
  obtain ⟨ao, co, rfl, _⟩ := hvo.out
  obtain ⟨asp, csp, rfl, _⟩ := hvs.out
  have x0 := hc7 0 (by simp)
  have x1 := hc7 1 (by simp)
  have x2 := hc7 2 (by simp)
  simp at x0 x1 x2
  have htw := HTW.out.twice kj ki hkj hki
  have hox := (HFT.out.ins _ (List.getElem_mem hkj) _ (List.getElem_mem hki)).1
  have hni := (HFT.out.blk _ (List.getElem_mem hkj)).2.1
  generalize f.blocks[kj].instrs[ki] = x at *
  have HTX : Hid (shapeErr ⟨f.values, setBlk f.blocks (f.blocks.length - 1) (addI (yV (lastDef x.operands)))⟩ m0 m1 = 7) := htw
  generalize f.blocks[kj].instrs.length = nki at *
  have HOS0 : Hid (SlOf w7 5 ROpr (.slice ao x.operands.length co) x.operands) := hvo
  obtain ⟨W8, hW8⟩ : ∃ W8, W8 = w7.alloc (.cells #[.int .i64 x.op, .slice ao x.operands.length co, .slice asp x.spoils.length csp] 41) := ⟨_, rfl⟩
  have hb8 : Below w7.heap.size w7 W8 := by rw [hW8]; exact (Below.refl _ _).alloc (Nat.le_refl _) _
  have k1 : W8.cell? ⟨w7.heap.size, 1, none⟩ = some (.slice ao x.operands.length co) := by rw [hW8]; simp
  have HOS : Hid (SlOf W8 5 ROpr (.slice ao x.operands.length co) x.operands) := hvo.below hb8 fun _ _ h => h
  have HB8 : Hid (Below w7.heap.size w7 W8) := hb8
  have HW8 : Hid (W8 = w7.alloc (.cells #[.int .i64 x.op, .slice ao x.operands.length co, .slice asp x.spoils.length csp] 41)) := hW8
  clear hb7 HRH HBWH HRYH U0 U1 hrd7 hcl5 hp hi he0 hc hcl7 hvo hvs hc7 htw hb8 hW8 HOS0
  go_upto_region 8 with fail
  rw [← HW8.out]
  clear HW8 x0 x1 x2 v1
  go_wp2_with fail
  clear k1
  generalize hOS : x.operands = os at *
  clear hOS
  go_loopw [54, 16] (fun y v wr => ∃ j : Nat, j ≤ os.length ∧ y = .int .i64 j ∧ v = .int .i64 (lastDef (os.take j)) ∧ Hid (Below W8.heap.size W8 wr)) (fun y _ _ => os.length - (intOf y).toNat)
  case atStart => exact ⟨0, Nat.zero_le _, rfl, by simp [lastDef], Below.refl _ _⟩
  case round =>
    obtain ⟨j, hj, rfl, rfl, HJ⟩ := hrel
    by_cases hjl : j < os.length
    · obtain ⟨b8, off8, rfl, hb8, o0, o1, o2, o3, o4⟩ := opr_cells HOS.out j hjl
      have hb0 := HJ.out
      have e0 := (hb0.cell (p := ⟨b8, _, none⟩) hb8).trans o0
      have e1 := (hb0.cell (p := ⟨b8, _, none⟩) hb8).trans o1
      have e2 := (hb0.cell (p := ⟨b8, _, none⟩) hb8).trans o2
      have e3 := (hb0.cell (p := ⟨b8, _, none⟩) hb8).trans o3
      have e4 := (hb0.cell (p := ⟨b8, _, none⟩) hb8).trans o4
      have HLD : Hid (lastDef (os.take (j + 1)) = if os[j].kind = 2 then os[j].value else lastDef (os.take j)) := by
        show _ = _
        rw [List.take_succ_eq_append_getElem hjl, lastDef_snoc]
      have HN : Hid (Below W8.heap.size W8 (wr.alloc (.cells #[.int .i64 os[j].kind, .int .i64 os[j].value, .bool os[j].late, .int .i64 os[j].limit, .int .i64 os[j].n] 47))) := hb0.alloc hb0.size _
      clear o0 o1 o2 o3 o4 hb0 HJ
      generalize os[j] = o at *
      by_cases hk2 : o.kind = 2
      · have q : (o.kind == 2) = true := by simp [hk2]
        have HL2 : Hid (o.value = lastDef (os.take (j + 1))) := by show _ = _; rw [HLD.out, if_pos hk2]
        clear hk2 HLD
        go_wp2
        go_roundw
        case rel => exact ⟨j + 1, by omega, by go_num, by rw [← HL2.out], HN⟩
        case measure => simp [intOf]; omega
      · have q : (o.kind == 2) = false := by simp [hk2]
        have HL2 : Hid (lastDef (os.take j) = lastDef (os.take (j + 1))) := by show _ = _; rw [HLD.out, if_neg hk2]
        clear hk2 HLD
        generalize lastDef (os.take j) = ld at *
        go_wp2
        go_roundw
        case rel => exact ⟨j + 1, by omega, by go_num, by rw [← HL2.out], HN⟩
        case measure => simp [intOf]; omega
    · have hto : os.take j = os := List.take_of_length_le (by omega)
      rw [hto]
      clear hto
      have HB9 : Hid (Below W5.heap.size W5 wr) := (HB7.out.trans (HB8.out.mono HB7.out.size)).trans (HJ.out.mono (Nat.le_trans HB7.out.size HB8.out.size))
      have h79 : Below w7.heap.size w7 wr := HB8.out.trans (HJ.out.mono HB8.out.size)
      have HR9 : Hid (OwR NH (upK κH Hb 5) wr f (.slice a1H n3 c1H) (.slice (some ⟨b5, off5, none⟩) n4 c2H) bxH) := HR7.out.below h79
      have HRY9 : Hid (wr.rowIs Hb 32 2 (fun q => if q = 0 then .slice a1H n3 c1H else .slice (some ⟨b5, off5, none⟩) n4 c2H)) := HRY7.out.of_block (h79.block _ HRY7.out.lt)
      have u9 : wr.cell? ⟨Hb, 1, none⟩ = some (.slice (some ⟨b5, off5, none⟩) n4 c2H) := HRY9.out.cell (i := 1) (by omega)
      obtain ⟨v, hv⟩ : ∃ v, lastDef os = v := ⟨_, rfl⟩
      rw [hv] at HTX
      rw [hv]
      clear h79 hv HJ HR7 HRY7 HB7 HB8 HOS u1
      obtain ⟨w9, rfl⟩ : ∃ w9 : World, w9 = wr := ⟨_, rfl⟩
      obtain ⟨c, hc1⟩ : ∃ c, n4 = c + 1 := ⟨n4 - 1, by have := HTW.out.pos; rw [HNB.out] at this; omega⟩
      have hcF : c < f.blocks.length := by rw [HNB.out]; omega
      have bc : c < n4 := by omega
      have HCN : Hid ((n4 : Int) - 1 = (c : Int)) := by show _ = _; omega
      have HCB : Hid (f.blocks.length - 1 = c) := by show _ = _; rw [HNB.out]; omega
      have b4 : n4 ≤ 16 := bnb
      clear hc1
      obtain rfl : off5 = 0 := by
        rcases HR9.out.ob.2 with ⟨h0, _⟩ | ⟨g', cap', cur, h0, _⟩
        · simp at h0
        · simp at h0
          omega
      obtain ⟨W10, hW10⟩ : ∃ W10, W10 = (w9.alloc (.cells #[.int .i64 2, .int .i64 v, .bool false, .int .i64 1, .int .i64 0] 47)).alloc (.cells #[.int .i64 0, .slice (some ⟨w9.heap.size, 0, none⟩) 1 1, .slice none 0 0] 41) := ⟨_, rfl⟩
      have hb10 : Below w9.heap.size w9 W10 := by rw [hW10]; exact ((Below.refl _ _).alloc (Nat.le_refl _) _).alloc (by simp) _
      obtain ⟨P, hP⟩ : ∃ P, w9.heap.size = P := ⟨_, rfl⟩
      have rZ : W10.rowIs (P + 1) 41 3 (insRow 0 (.slice (some ⟨P, 0, none⟩) 1 1) (.slice none 0 0)) := by
        rw [hW10, ← hP]
        have h := World.rowIs_alloc (w9.alloc (.cells #[.int .i64 2, .int .i64 v, .bool false, .int .i64 1, .int .i64 0] 47)) #[.int .i64 0, .slice (some ⟨w9.heap.size, 0, none⟩) 1 1, .slice none 0 0] 41 (insRow 0 (.slice (some ⟨w9.heap.size, 0, none⟩) 1 1) (.slice none 0 0)) fun i hi => by
          simp at hi
          match i, hi with | 0, _ => rfl | 1, _ => rfl | 2, _ => rfl
        simpa using h
      have rO : W10.rowIs P 47 5 (fun q => ([.int .i64 2, .int .i64 v, .bool false, .int .i64 1, .int .i64 0] : List Value).getD q (.int .i64 0)) := by
        rw [hW10, ← hP]
        have h := World.rowIs_alloc w9 #[.int .i64 2, .int .i64 v, .bool false, .int .i64 1, .int .i64 0] 47 (fun q => ([.int .i64 2, .int .i64 v, .bool false, .int .i64 1, .int .i64 0] : List Value).getD q (.int .i64 0)) fun i hi => by
          simp at hi
          match i, hi with | 0, _ => rfl | 1, _ => rfl | 2, _ => rfl | 3, _ => rfl | 4, _ => rfl
        exact h.of_block (((Below.refl _ _).alloc (Nat.le_refl _) _).block _ h.lt)
      have kP : upK κH Hb 5 P = 0 := HR9.out.fresh P (by omega)
      have kP1 : upK κH Hb 5 (P + 1) = 0 := HR9.out.fresh (P + 1) (by omega)
      have hvo : SlK (upK κH Hb 5) W10 5 ROpr (.slice (some ⟨P, 0, none⟩) 1 1) (yV v).operands := by
        refine ⟨⟨_, _, rfl, by unfold longest; simp [yV], Or.inr ⟨P, 0, rfl, fun i hi => ?_⟩⟩, Or.inr fun g' hg' => ?_⟩
        · have hi1 : i = 0 := by simp [yV] at hi; omega
          subst hi1
          refine ⟨[.int .i64 2, .int .i64 v, .bool false, .int .i64 1, .int .i64 0], rfl, rfl, fun j hj => ?_⟩
          have hj5 : j < 5 := by simpa using hj
          have := rO.cell (i := j) hj5
          match j, hj5 with
          | 0, _ => exact this
          | 1, _ => exact this
          | 2, _ => exact this
          | 3, _ => exact this
          | 4, _ => exact this
        · simp [Value.ownBlock] at hg'
          subst hg'
          exact ⟨kP, rO.lt⟩
      have hS10 : OwR NH (upK κH Hb 5) W10 f (.slice a1H n3 c1H) (.slice (some ⟨b5, 0, none⟩) f.blocks.length c2H) bxH := by
        rw [HNB.out]
        exact HR9.out.below hb10
      obtain ⟨L, hL, hLo, hLs⟩ := (hS10.blk c hcF).ins
      have hL1 : L.length ≤ 1000 := by
        have h1 : L.length = f.blocks[c].instrs.length := by rw [← hL]; simp
        have h2 := (HFT.out.blk _ (List.getElem_mem hcF)).2.1
        omega
      have q1 := (hS10.at c hcF).1
      have qz := (hS10.at c hcF).2
      have rH10 : W10.rowIs Hb 32 2 (fun q => if q = 0 then .slice a1H n3 c1H else .slice (some ⟨b5, 0, none⟩) n4 c2H) := HRY9.out.of_block (hb10.block _ HRY9.out.lt)
      have y0 : W10.cell? ⟨P + 1, 0, none⟩ = some (.int .i64 0) := rZ.cell (i := 0) (by omega)
      have y1 : W10.cell? ⟨P + 1, 1, none⟩ = some (.slice (some ⟨P, 0, none⟩) 1 1) := rZ.cell (i := 1) (by omega)
      have y2 : W10.cell? ⟨P + 1, 2, none⟩ = some (.slice none 0 0) := rZ.cell (i := 2) (by omega)
      have y3 : W10.cell? ⟨Hb, 1, none⟩ = some (.slice (some ⟨b5, 0, none⟩) n4 c2H) := rH10.cell (i := 1) (by omega)
      have ly := rZ.lt
      have lh := rH10.lt
      have lgb : b5 < W10.heap.size := (own_base hS10.ob (g := b5) rfl).2
      have nB : some b5 ≠ (bxH c).2.1.ownBlock := fun e => by have := (hS10.blk c hcF).ki b5 e.symm; rw [hS10.kb b5 rfl] at this; omega
      have nY : some (P + 1) ≠ (bxH c).2.1.ownBlock := fun e => by have := (hS10.blk c hcF).ki (P + 1) e.symm; omega
      have kH : upK κH Hb 5 Hb = 5 := by simp [upK]
      have nH : some Hb ≠ (bxH c).2.1.ownBlock := fun e => by have := (hS10.blk c hcF).ki Hb e.symm; omega
      have hNs := hS10.szN
      have HS10 : Hid (OwR NH (upK κH Hb 5) W10 f (.slice a1H n3 c1H) (.slice (some ⟨b5, 0, none⟩) f.blocks.length c2H) bxH) := hS10
      have HLB : Hid (L.map (·.1) = f.blocks[c].instrs ∧ ∀ p ∈ L, SlK (upK κH Hb 5) W10 5 ROpr p.2.1 p.1.operands ∧ SlK (upK κH Hb 5) W10 2 RRg p.2.2 p.1.spoils) := ⟨hL, hLs⟩
      have HVO : Hid (SlK (upK κH Hb 5) W10 5 ROpr (.slice (some ⟨P, 0, none⟩) 1 1) (yV v).operands) := hvo
      have HB10 : Hid (Below W5.heap.size W5 W10) := HB9.out.trans (hb10.mono HB9.out.size)
      have HRH10 : Hid (W10.rowIs Hb 32 2 (fun q => if q = 0 then .slice a1H n3 c1H else .slice (some ⟨b5, 0, none⟩) n4 c2H)) := rH10
      have HW10 : Hid (W10 = (w9.alloc (.cells #[.int .i64 2, .int .i64 v, .bool false, .int .i64 1, .int .i64 0] 47)).alloc (.cells #[.int .i64 0, .slice (some ⟨w9.heap.size, 0, none⟩) 1 1, .slice none 0 0] 41)) := hW10
      have HP9 : Hid (w9.heap.size = P) := hP
      have HKH : Hid (upK κH Hb 5 Hb = 5) := kH
      clear hW10 hb10 hP rZ rO kP kP1 hvo hS10 hL hLs rH10 kH HR9 HRY9 HB9
      generalize hvi : (bxH c).2.1 = vi at *
      have HVI : Hid ((bxH c).2.1 = vi) := hvi
      clear hvi
      generalize hnL : L.length = nL at *
      have HNL : Hid (L.length = nL) := hnL
      clear hnL
      obtain ⟨iX, hiX, hzX, hzX1, hzX2⟩ := info_parts infoMX
      go_upto_region 17 with fail
      rw [← HW10.out, HP9.out, HCN.out]
      clear HW10 HP9 HCN u9
      have oA := (hLo.alloc (.cells #[.int .i64 0, .slice (some ⟨P, 0, none⟩) 1 1, .slice none 0 0] 41)).drew
      have LG := old_cell b5
      have LY := old_cell (P + 1)
      have LH := old_cell Hb
      have cG : ((W10.alloc (.cells #[.int .i64 0, .slice (some ⟨P, 0, none⟩) 1 1, .slice none 0 0] 41)).drew).cell? ⟨b5, c * 3 + 1, none⟩ = some vi := (LG _ _ _ lgb).trans q1
      have cZ : ((W10.alloc (.cells #[.int .i64 0, .slice (some ⟨P, 0, none⟩) 1 1, .slice none 0 0] 41)).drew).frozen? ⟨b5, c * 3 + 1, none⟩ = false := (frozen?_alloc_cells _ _ _ _).trans qz
      have cY0 : ((W10.alloc (.cells #[.int .i64 0, .slice (some ⟨P, 0, none⟩) 1 1, .slice none 0 0] 41)).drew).cell? ⟨P + 1, 0, none⟩ = some (.int .i64 0) := (LY _ _ _ ly).trans y0
      have cY1 : ((W10.alloc (.cells #[.int .i64 0, .slice (some ⟨P, 0, none⟩) 1 1, .slice none 0 0] 41)).drew).cell? ⟨P + 1, 1, none⟩ = some (.slice (some ⟨P, 0, none⟩) 1 1) := (LY _ _ _ ly).trans y1
      have cY2 : ((W10.alloc (.cells #[.int .i64 0, .slice (some ⟨P, 0, none⟩) 1 1, .slice none 0 0] 41)).drew).cell? ⟨P + 1, 2, none⟩ = some (.slice none 0 0) := (LY _ _ _ ly).trans y2
      have cH : ((W10.alloc (.cells #[.int .i64 0, .slice (some ⟨P, 0, none⟩) 1 1, .slice none 0 0] 41)).drew).cell? ⟨Hb, 1, none⟩ = some (.slice (some ⟨b5, 0, none⟩) n4 c2H) := (LH _ _ _ lh).trans y3
      have lG' : b5 < ((W10.alloc (.cells #[.int .i64 0, .slice (some ⟨P, 0, none⟩) 1 1, .slice none 0 0] 41)).drew).heap.size := by simp; omega
      have lY' : P + 1 < ((W10.alloc (.cells #[.int .i64 0, .slice (some ⟨P, 0, none⟩) 1 1, .slice none 0 0] 41)).drew).heap.size := by simp; omega
      have lH' : Hb < ((W10.alloc (.cells #[.int .i64 0, .slice (some ⟨P, 0, none⟩) 1 1, .slice none 0 0] 41)).drew).heap.size := by simp; omega
      have HN : Hid (∀ j u, ([.int .i64 0, .slice (some ⟨P, 0, none⟩) 1 1, .slice none 0 0] : List Value)[j]? = some u → ((W10.alloc (.cells #[.int .i64 0, .slice (some ⟨P, 0, none⟩) 1 1, .slice none 0 0] 41)).drew).cell? ((⟨W10.heap.size, 0, none⟩ : Addr).add j) = some u) := World.news_of_block (cs := #[.int .i64 0, .slice (some ⟨P, 0, none⟩) 1 1, .slice none 0 0]) (t := 41) (fr := (0, 0)) (heap_alloc_new W10 _)
      have h1c : ∀ u ∈ ([.int .i64 0, .slice (some ⟨P, 0, none⟩) 1 1, .slice none 0 0] : List Value), u.oneCell' = true := by intro u hu; simp at hu; rcases hu with rfl | rfl | rfl <;> rfl
      refine wp_region_X (fun w' => w'.cell? ⟨b5, c * 3 + 1, none⟩ = some vi ∧ w'.cell? ⟨P + 1, 0, none⟩ = some (.int .i64 0) ∧ w'.cell? ⟨P + 1, 1, none⟩ = some (.slice (some ⟨P, 0, none⟩) 1 1) ∧ w'.cell? ⟨P + 1, 2, none⟩ = some (.slice none 0 0) ∧ w'.cell? ⟨Hb, 1, none⟩ = some (.slice (some ⟨b5, 0, none⟩) n4 c2H)) 14 (by kernel_rfl) ⟨q1, y0, y1, y2, y3⟩ (fun hHeld => ?_)
      refine wpX_takeg0 (v := ?_) (by kernel_rfl) (fun _ _ _ h => h) (by rfl) ?_ hHeld ?_
      rotate_left
      · intro w' hSw
        go_simp <;> with_reducible rfl
      try simp only [Act.put, List.setIfInBounds_toArray, List.set_cons_zero, List.set_cons_succ]
      refine wpX_takeg1 (v := ?_) (by kernel_rfl) (fun _ _ _ h => h) (by rfl) ?_ hHeld ?_
      rotate_left
      · intro w' hSw
        go_simp <;> with_reducible rfl
      try simp only [Act.put, List.setIfInBounds_toArray, List.set_cons_zero, List.set_cons_succ]
      refine wpX_takeg2 (v := ?_) (by kernel_rfl) (fun _ _ _ h => h) (by rfl) ?_ hHeld ?_
      rotate_left
      · intro w' hSw
        go_simp <;> with_reducible rfl
      try simp only [Act.put, List.setIfInBounds_toArray, List.set_cons_zero, List.set_cons_succ]
      refine wpX_takeg3 (v := ?_) (by kernel_rfl) (fun _ _ _ h => h) (by rfl) ?_ hHeld ?_
      rotate_left
      · intro w' hSw
        go_simp <;> with_reducible rfl
      try simp only [Act.put, List.setIfInBounds_toArray, List.set_cons_zero, List.set_cons_succ]
      refine wpX_takeg4 (v := ?_) (by kernel_rfl) (fun _ _ _ h => h) (by rfl) ?_ hHeld ?_
      rotate_left
      · intro w' hSw
        go_simp <;> with_reducible rfl
      try simp only [Act.put, List.setIfInBounds_toArray, List.set_cons_zero, List.set_cons_succ]
      refine wpX_takeg5 (v := ?_) (by kernel_rfl) (fun _ _ _ h => h) (by rfl) ?_ hHeld ?_
      rotate_left
      · intro w' hSw
        go_simp <;> with_reducible rfl
      try simp only [Act.put, List.setIfInBounds_toArray, List.set_cons_zero, List.set_cons_succ]
      refine wpX_takeg6 (v := ?_) (by kernel_rfl) (fun _ _ _ h => h) (by rfl) ?_ hHeld ?_
      rotate_left
      · intro w' hSw
        go_simp <;> with_reducible rfl
      try simp only [Act.put, List.setIfInBounds_toArray, List.set_cons_zero, List.set_cons_succ]
      refine wpX_takeg7 (v := ?_) (by kernel_rfl) (fun _ _ _ h => h) (by rfl) ?_ hHeld ?_
      rotate_left
      · intro w' hSw
        go_simp <;> with_reducible rfl
      try simp only [Act.put, List.setIfInBounds_toArray, List.set_cons_zero, List.set_cons_succ]
      refine wpX_takeg8 (v := ?_) (by kernel_rfl) (fun _ _ _ h => h) (by rfl) ?_ hHeld ?_
      rotate_left
      · intro w' hSw
        go_simp <;> with_reducible rfl
      try simp only [Act.put, List.setIfInBounds_toArray, List.set_cons_zero, List.set_cons_succ]
      refine wpX_takeg9 (v := ?_) (by kernel_rfl) (fun _ _ _ h => h) (by rfl) ?_ hHeld ?_
      rotate_left
      · intro w' hSw
        go_simp <;> with_reducible rfl
      try simp only [Act.put, List.setIfInBounds_toArray, List.set_cons_zero, List.set_cons_succ]
      refine wpX_step10 (by kernel_rfl) (fun K hK => ?_)
      go_simp
      refine hK.out _ _ ⟨cG, cY0, cY1, cY2, cH⟩ (fun hHeld => ?_)
      clear hK K
      try simp only [Act.put, List.setIfInBounds_toArray, List.set_cons_zero, List.set_cons_succ]
      refine wpX_step11 (by kernel_rfl) (fun K hK => ?_)
      refine step_append_lies _ (by rfl) _ _ _ (by rfl) NH 41 iX _ 3 56 Try.underlying42 hiX hzX hzX1 hzX2 rfl (by omega) vi nL _ (by rfl) oA ⟨W10.heap.size, 0, none⟩ 1 1 [.int .i64 0, .slice (some ⟨P, 0, none⟩) 1 1, .slice none 0 0] (by rfl) (by rfl) HN.out h1c (by omega) (by unfold maxLen; omega) (by omega) (by simp; omega) (W10.heap.size + 1) (by simp) ?_
      intro g1 cap1 wb hown hgrow hat hgl
      have g1' := (hgrow.cell_far _ lG' nB).trans cG
      have gz := (hgrow.frozen_far _ lG' nB).trans cZ
      have g2 := (hgrow.cell_far _ lY' nY).trans cY0
      have g3 := (hgrow.cell_far _ lY' nY).trans cY1
      have g4 := (hgrow.cell_far _ lY' nY).trans cY2
      have g5 := (hgrow.cell_far _ lH' nH).trans cH
      refine hK.out _ _ ⟨g1', g2, g3, g4, g5⟩ (fun hHeld => ?_)
      clear hK K
      try simp only [Act.put, List.setIfInBounds_toArray, List.set_cons_zero, List.set_cons_succ]
      refine wpX_step12 (by kernel_rfl) (fun K hK => ?_)
      go_simp
      refine hK.out _ _ ⟨g1', g2, g3, g4, g5⟩ (fun hHeld => ?_)
      clear hK K
      try simp only [Act.put, List.setIfInBounds_toArray, List.set_cons_zero, List.set_cons_succ]
      refine wpX_step13 (by kernel_rfl) (fun K hK => ?_)
      go_simp
      refine hK.out _ _ ⟨g1', g2, g3, g4, g5⟩ (fun hHeld => ?_)
      clear hK K
      try simp only [Act.put, List.setIfInBounds_toArray, List.set_cons_zero, List.set_cons_succ]
      refine wpX_last14 (by kernel_rfl) rfl (by kernel_rfl) (fun K hK => ?_)
      go_simp
      refine hK.out _ _ ?_
      clear hK K
      have e4 := HNL.out
      subst e4
      have e5 := HVI.out
      subst e5
      have hbx : Below W10.heap.size W10 ((W10.alloc (.cells #[.int .i64 0, .slice (some ⟨P, 0, none⟩) 1 1, .slice none 0 0] 41)).drew) := ((Below.refl _ _).alloc (Nat.le_refl _) _).drew
      have hPI := HS10.out.pushI (c := c) (x := yV v) (vo := .slice (some ⟨P, 0, none⟩) 1 1) (vs := .slice none 0 0) hcF hbx hgrow L HLB.out.1 HLB.out.2 hown (by simpa using hat) (HVO.out.only (Only.of_below (S := fun _ => False) hbx) (fun h => h)) (SlK.nil _ _ _ _)
      obtain ⟨hR11, hO⟩ := hPI
      obtain ⟨W11, hW11⟩ : ∃ W11, W11 = wb.setCell ⟨b5, c * 3 + 1, none⟩ (.slice (some ⟨g1, 0, none⟩) (L.length + 1) cap1) := ⟨_, rfl⟩
      rw [← hW11] at hR11 hO
      rw [← hW11]
      have rH11 := HRH10.out.of_block (hO.block Hb lh (by rw [HKH.out]; omega))
      have hb11 : Below W5.heap.size W5 W11 := by
        have hlow : Below NH W10 W11 := hO.below HS10.out.szN fun b hb => by rw [HS10.out.lowN b hb]; omega
        have h1 := HB10.out
        rw [HYNH.out.2] at h1 ⊢
        exact h1.trans hlow
      have hrd := hR11.reads (by show f.values.length ≤ _; rw [HNV.out]; unfold longest; omega) (by show (setBlk f.blocks c (addI (yV v))).length ≤ _; rw [setBlk_len, HNB.out]; unfold longest; omega) (fun b' hb' => by
        rcases setBlk_mem hcF hb' with h | h
        · have := HFT.out.blk b' h
          unfold longest
          omega
        · have := HFT.out.blk _ (List.getElem_mem hcF)
          rw [h]
          simp only [addI, List.length_append, List.length_singleton]
          unfold longest
          omega)
      rw [HNB.out] at hrd
      have hTX := HTX.out
      rw [HCB.out] at hTX
      have HC1 := shape_is2 f m0 m1 (.slice av n3 cv) (.slice ab n4 cb) W11 0 HF.out (HV5.out.below hb11 fun _ _ h => h) (HBL5.out.below hb11 (RBlk.below hb11))
      have HC2 : ∀ w', Below W11.heap.size W11 w' → Calls Try.prog 10 #[.agg #[.slice (some ⟨g, 0, none⟩) (n3 + 1) cap, .slice a2G n4 c2G], .agg #[.int .i64 m0, .int .i64 m1]] w' fun e w2 => e = .returned (.int .i64 6) ∧ Below w'.heap.size w' w2 := fun w' hw => by
        have hbw := hb11.trans (hw.mono hb11.size)
        exact shape_is2 ⟨f.values ++ [0], f.blocks⟩ m0 m1 _ _ w' 6 HTW.out.never (HGV.out.1.below hbw fun _ _ h => h) (HGV.out.2.below hbw (RBlk.below hbw))
      have HC3 : ∀ w', Below W11.heap.size W11 w' → Calls Try.prog 10 #[.agg #[.slice a1H n3 c1H, .slice (some ⟨b5, 0, none⟩) n4 c2H], .agg #[.int .i64 m0, .int .i64 m1]] w' fun e w2 => e = .returned (.int .i64 7) ∧ Below w'.heap.size w' w2 := fun w' hw =>
        shape_is2 ⟨f.values, setBlk f.blocks c (addI (yV v))⟩ m0 m1 _ _ w' 7 hTX (hrd.1.below hw fun _ _ h => h) (hrd.2.below hw (RBlk.below hw))
      have HE11 : Hid (Below w.heap.size w W11) := HB.out.trans ((HB5.out.trans (hb11.mono HB5.out.size)).mono HB.out.size)
      have z0 := (hb11.cell (p := ⟨Y, 0, none⟩) lY5).trans p0
      have z1 := (hb11.cell (p := ⟨Y, 1, none⟩) lY5).trans p1
      have z2 := (hb11.cell (p := ⟨X, 0, none⟩) lX5).trans s0
      have z3 := (hb11.cell (p := ⟨X, 1, none⟩) lX5).trans s1
      have z4 := (hb11.cell (p := ⟨G, 0, none⟩) lG5).trans t0
      have z5 := (hb11.cell (p := ⟨G, 1, none⟩) lG5).trans t1
      have z6 : W11.cell? ⟨Hb, 0, none⟩ = some (.slice a1H n3 c1H) := rH11.cell (i := 0) (by omega)
      have z7 : W11.cell? ⟨Hb, 1, none⟩ = some (.slice (some ⟨b5, 0, none⟩) n4 c2H) := rH11.cell (i := 1) (by omega)
      have lX11 : X < W11.heap.size := Nat.lt_of_lt_of_le lX5 hb11.size
      have lG11 : G < W11.heap.size := Nat.lt_of_lt_of_le lG5 hb11.size
      have lH11 := rH11.lt
      clear hown hgrow hat hgl hbx hR11 hO hW11 rH11 hrd hTX HS10 HLB HVO HRH10 HKH HTX HB10 oA LG LY LH cG cZ cY0 cY1 cY2 cH lG' lY' lH' HN h1c g1' gz g2 g3 g4 g5 nB nY nH q1 qz y0 y1 y2 y3 ly lh lgb hNs p0 p1 s0 s1 t0 t1 lX5 lY5 lG5 HV5 HBL5 HGV HB5 hLo hHeld
      go_wp2_with fail
      refine HC1.mono ?_
      clear HC1 z0 z1
      rintro e w12 ⟨rfl, hb12⟩
      have HD2 := HC2 w12 hb12
      have m0' := (hb12.cell (p := ⟨X, 0, none⟩) lX11).trans z2
      have m1' := (hb12.cell (p := ⟨X, 1, none⟩) lX11).trans z3
      have m2' := (hb12.cell (p := ⟨G, 0, none⟩) lG11).trans z4
      have m3' := (hb12.cell (p := ⟨G, 1, none⟩) lG11).trans z5
      have HB12 : Hid (Below W11.heap.size W11 w12) := hb12
      clear hb12 HC2 z4 z5
      go_wp2_with fail
      refine HD2.mono ?_
      clear HD2 m0' m1' m2' m3'
      rintro e w13 ⟨rfl, hb13⟩
      have hb13' := HB12.out.trans (hb13.mono HB12.out.size)
      have HD3 := HC3 w13 hb13'
      have m0' := (hb13'.cell (p := ⟨X, 0, none⟩) lX11).trans z2
      have m1' := (hb13'.cell (p := ⟨X, 1, none⟩) lX11).trans z3
      have m2' := (hb13'.cell (p := ⟨Hb, 0, none⟩) lH11).trans z6
      have m3' := (hb13'.cell (p := ⟨Hb, 1, none⟩) lH11).trans z7
      have HB13 : Hid (Below W11.heap.size W11 w13) := hb13'
      clear hb13 hb13' HC3 z2 z3 z6 z7
      go_wp2_with fail
      refine HD3.mono ?_
      clear HD3 m0' m1' m2' m3'
      rintro e w14 ⟨rfl, hb14⟩
      have HE14 : Hid (Below w.heap.size w w14) := HE11.out.trans ((HB13.out.trans (hb14.mono HB13.out.size)).mono HE11.out.size)
      clear hb14
      go_wp2
      go_ret
      exact ⟨rfl, HE14.out⟩

end Go.Proofs.Ytanhfkpphdbaaaa
