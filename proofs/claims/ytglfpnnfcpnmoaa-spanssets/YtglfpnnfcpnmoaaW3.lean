/-
  The contract of the mason's 'lay'.
-/
import Derived.Test.YtglfpnnfcpnmoaaW2w
import Derived.Test.YtglfpnnfcpnmoaaB2
namespace Go.Proofs.Ytglfpnnfcpnmoaa
open Go.RowKit
set_option linter.unusedVariables false
def defsOf (l:List Opr):List Int:=(l.filter fun o => decide (o.kind = 2)).map (·.value)
theorem defsOf_take {l:List Opr} {j:Nat} (h:j < l.length):defsOf (l.take (j + 1)) = defsOf (l.take j) ++ (if l[j].kind = 2 then [l[j].value] else []):=by
 unfold defsOf
 rw [List.take_succ_eq_append_getElem h,List.filter_append,List.map_append]
 congr 1
 by_cases e:l[j].kind = 2 <;> simp [e]
theorem defsOf_le (l:List Opr) (j:Nat):(defsOf (l.take j)).length ≤ l.length:=by
 unfold defsOf
 rw [List.length_map]
 exact Nat.le_trans (List.length_filter_le _ _) (by rw [List.length_take]; omega)
structure LaS (N:Nat) (κ0:Nat → Nat) (w0:World) (P:Nat) (s:Ms) (x:Ins) (vo:Value) (j:Nat) (κ:Nat → Nat) (w:World):Prop where
 ma:MaO N κ w P { s with known:=s.known ++ defsOf (x.operands.take j) }
 only:Only MR κ0 κ w0 w
 ops:SlK κ w 5 ROpr vo x.operands
set_option maxRecDepth 4000 in
set_option maxHeartbeats 16000000 in
theorem ma_lay (N:Nat) (κ:Nat → Nat) (w:World) (P:Nat) (s:Ms) (p:Pc) (h:MaO N κ w P s) (hm:MsOk s) (hp:PcOk p) (hk:s.known.length ≤ 5000) (hv:s.f.values.length ≤ 5000) (hbl:s.f.blocks.length ≤ 1000) (hin:∀ b ∈ s.f.blocks,b.instrs.length ≤ 1000) :
  Calls Try.prog 16 #[.pointer (some ⟨P,0,none⟩),.agg #[.int .i64 p.kind,.int .i64 p.op,.int .i64 p.a,.int .i64 p.b,.int .i64 p.c,.int .i64 p.limits,.int .i64 p.flags]] w fun e w' => e = .returned (.tuple #[])∧∃ κ',MaO N κ' w' P (layM s p)∧Only MR κ κ' w w':=by
 obtain ⟨i3,hi3,hz3,hz31,hz32⟩:=info_parts infoMI
 obtain ⟨iX,hiX,hzX,hzX1,hzX2⟩:=info_parts infoMX
 obtain ⟨W,hW⟩:∃ W,W = w.alloc (.cells #[.int .i64 p.kind,.int .i64 p.op,.int .i64 p.a,.int .i64 p.b,.int .i64 p.c,.int .i64 p.limits,.int .i64 p.flags] 62):=⟨_,rfl⟩
 have hbw:Below w.heap.size w W:=by rw [hW]; exact (Below.refl _ _).alloc (Nat.le_refl _) _
 have HC:=ma_instr N κ W P s p (h.below hbw) hm hp (by omega) (by omega)
 have HO0:Hid (Only MR κ κ w W):=Only.of_below hbw
 have HW:Hid (W = w.alloc (.cells #[.int .i64 p.kind,.int .i64 p.op,.int .i64 p.a,.int .i64 p.b,.int .i64 p.c,.int .i64 p.limits,.int .i64 p.flags] 62)):=hW
 have hIok:=instrM_ok s p hm.m0.1 hm.m1.1 hm.kn (cls_at hm.cls)
 have hopl:(instrM s p).1.operands.length ≤ 5:=by obtain ⟨l,h⟩:=hIok; exact h.2.2.2.2.2.2.1
 have HLAY:Hid (layM s p = { s with f:=⟨(instrM s p).2,setBlk s.f.blocks s.cur (addI (instrM s p).1)⟩,known:=s.known ++ defsOf (instrM s p).1.operands }):=rfl
 have hcur:=hm.cur
 have hinc:=hin s.f.blocks[s.cur] (List.getElem_mem hcur)
 clear hW hbw h hm hp hIok hin
 generalize hR:instrM s p = R at *
 clear hR
 obtain ⟨x,vals⟩:=R
 simp only at HC HLAY hopl
 go_enter Try.func16,Try.ntmps16
 go_wp2_with fail
 rw [← HW.out]
 refine HC.mono ?_
 clear HC HW
 rintro e w1 ⟨vo,vs,κ1,rfl,hM1,hO1,hvo,hvs⟩
 obtain ⟨ao,co,rfl,_⟩:=hvo.1.out
 obtain ⟨asp,csp,rfl,_⟩:=hvs.1.out
 obtain ⟨vv,vb,vk,al,bx,hS⟩:=hM1
 obtain ⟨gb,cb,rfl,hgN,hgl⟩:=hS.ob.form (by show 0 < s.f.blocks.length; omega)
 simp only at hS
 obtain ⟨Y,hY⟩:∃ Y,w1.heap.size = Y:=⟨_,rfl⟩
 obtain ⟨W2,hW2⟩:∃ W2,W2 = w1.alloc (.cells #[.int .i64 x.op,.slice ao x.operands.length co,.slice asp x.spoils.length csp] 44):=⟨_,rfl⟩
 have hb2:Below w1.heap.size w1 W2:=by rw [hW2]; exact (Below.refl _ _).alloc (Nat.le_refl _) _
 have rY:W2.rowIs Y 44 3 (insRow x.op (.slice ao x.operands.length co) (.slice asp x.spoils.length csp)):=by
  rw [hW2,← hY]
  exact World.rowIs_alloc w1 #[.int .i64 x.op,.slice ao x.operands.length co,.slice asp x.spoils.length csp] 44 (insRow x.op (.slice ao x.operands.length co) (.slice asp x.spoils.length csp)) fun i hi => by
   simp at hi
   match i,hi with | 0,_ => rfl | 1,_ => rfl | 2,_ => rfl
 have hS2:=hS.below hb2
 have hO2:Only MR κ κ1 w W2:=(HO0.out.trans hO1).trans (Only.of_below hb2)
 have hvo2:=hvo.only (Only.of_below (S:=MR) (κ:=κ1) hb2) MR0
 have hvs2:=hvs.only (Only.of_below (S:=MR) (κ:=κ1) hb2) MR0
 have HW2:Hid (W2 = w1.alloc (.cells #[.int .i64 x.op,.slice ao x.operands.length co,.slice asp x.spoils.length csp] 44)):=hW2
 have HY:Hid (w1.heap.size = Y):=hY
 have hk1Y:κ1 Y = 0:=hS.fresh Y (by omega)
 have HO2:Hid (Only MR κ κ1 w W2):=hO2
 have HS2:Hid (MaS N κ1 W2 P { s with f:=⟨vals,s.f.blocks⟩ } vv (.slice (some ⟨gb,0,none⟩) s.f.blocks.length cb) vk al bx):=hS2
 have HVO:Hid (SlK κ1 W2 5 ROpr (.slice ao x.operands.length co) x.operands):=hvo2
 have HVS:Hid (SlK κ1 W2 2 RRg (.slice asp x.spoils.length csp) x.spoils):=hvs2
 obtain ⟨L,hL,hLo,hLs⟩:=(hS2.blk s.cur hcur).ins
 have HLB:Hid (L.map (·.1) = s.f.blocks[s.cur].instrs∧∀ p ∈ L,SlK κ1 W2 5 ROpr p.2.1 p.1.operands∧SlK κ1 W2 2 RRg p.2.2 p.1.spoils):=⟨hL,hLs⟩
 have hL1:L.length ≤ 1000:=by
  have:L.length = s.f.blocks[s.cur].instrs.length:=by rw [← hL]; simp
  omega
 have p3:=hS2.cells.2.2.2.1
 have p4:=hS2.cells.2.2.2.2.1
 have q1:=(hS2.at s.cur hcur).2.1
 have qz:=(hS2.at s.cur hcur).2.2.2 1 (by omega)
 have y0:W2.cell? ⟨Y,0,none⟩ = some (.int .i64 x.op):=rY.cell (i:=0) (by omega)
 have y1:W2.cell? ⟨Y,1,none⟩ = some (.slice ao x.operands.length co):=rY.cell (i:=1) (by omega)
 have y2:W2.cell? ⟨Y,2,none⟩ = some (.slice asp x.spoils.length csp):=rY.cell (i:=2) (by omega)
 have ly:=rY.lt
 have nB:some gb ≠ (bx s.cur).2.1.ownBlock:=fun e => by have:=(hS2.blk s.cur hcur).ki gb e.symm; rw [hS2.kb gb rfl] at this; omega
 have nY:some Y ≠ (bx s.cur).2.1.ownBlock:=fun e => by have:=(hS2.blk s.cur hcur).ki Y e.symm; omega
 have hgbY:gb ≠ Y:=by omega
 have hNs:=hS2.szN
 have lgb:gb < W2.heap.size:=by have:=hb2.size; omega
 have HRY:Hid (W2.rowIs Y 44 3 (insRow x.op (.slice ao x.operands.length co) (.slice asp x.spoils.length csp))):=rY
 clear hW2 hY hb2 hS hS2 hO1 hO2 hvo hvs hvo2 hvs2 hL hLs rY hgl HO0 hgN
 generalize hvi:(bx s.cur).2.1 = vi at *
 have HVI:Hid ((bx s.cur).2.1 = vi):=hvi
 clear hvi hinc
 generalize hnL:L.length = nL at *
 have HNL:Hid (L.length = nL):=hnL
 clear hnL
 go_upto_region 2 with fail
 rw [← HW2.out,HY.out]
 clear HW2 HY
 go_quiet (fail)
 go_wp2_with fail
 have hbd:Below W2.heap.size W2 (W2.drewN nq):=below_drewN (Below.refl _ _) nq
 have hod:Only MR κ1 κ1 W2 (W2.drewN nq):=Only.of_below hbd
 have HS3:Hid (MaS N κ1 (W2.drewN nq) P { s with f:=⟨vals,s.f.blocks⟩ } vv (.slice (some ⟨gb,0,none⟩) s.f.blocks.length cb) vk al bx):=HS2.out.below hbd
 have HO3:Hid (Only MR κ κ1 w (W2.drewN nq)):=HO2.out.trans hod
 have HVO3:Hid (SlK κ1 (W2.drewN nq) 5 ROpr (.slice ao x.operands.length co) x.operands):=HVO.out.only hod MR0
 have HVS3:Hid (SlK κ1 (W2.drewN nq) 2 RRg (.slice asp x.spoils.length csp) x.spoils):=HVS.out.only hod MR0
 have HLB3:Hid (L.map (·.1) = s.f.blocks[s.cur].instrs∧∀ p ∈ L,SlK κ1 (W2.drewN nq) 5 ROpr p.2.1 p.1.operands∧SlK κ1 (W2.drewN nq) 2 RRg p.2.2 p.1.spoils):=⟨HLB.out.1,fun p hp => ⟨(HLB.out.2 p hp).1.only hod MR0,(HLB.out.2 p hp).2.only hod MR0⟩⟩
 have HRY3:Hid ((W2.drewN nq).rowIs Y 44 3 (insRow x.op (.slice ao x.operands.length co) (.slice asp x.spoils.length csp))):=HRY.out
 have e1:(W2.drewN nq).cell? ⟨gb,s.cur * 3 + 1,none⟩ = some vi:=q1
 have ez:(W2.drewN nq).frozen? ⟨gb,s.cur * 3 + 1,none⟩ = false:=qz
 have d0:(W2.drewN nq).cell? ⟨Y,0,none⟩ = some (.int .i64 x.op):=y0
 have d1:(W2.drewN nq).cell? ⟨Y,1,none⟩ = some (.slice ao x.operands.length co):=y1
 have d2:(W2.drewN nq).cell? ⟨Y,2,none⟩ = some (.slice asp x.spoils.length csp):=y2
 have dly:Y < (W2.drewN nq).heap.size:=ly
 have dlg:gb < (W2.drewN nq).heap.size:=lgb
 have dNs:N ≤ (W2.drewN nq).heap.size:=hNs
 have dLo:(W2.drewN nq).ownsRow N 44 3 vi nL (L.flatMap cX):=hLo
 clear hbd hod q1 qz y0 y1 y2 ly lgb hNs hLo p3 p4 HS2 HO2 HVO HVS HLB HRY
 generalize W2.drewN nq = W3 at *
 clear nq
 have oA:=(dLo.alloc (.cells #[.int .i64 x.op,.slice ao x.operands.length co,.slice asp x.spoils.length csp] 44)).drew
 have LG:=old_cell gb
 have LY:=old_cell Y
 have cG:((W3.alloc (.cells #[.int .i64 x.op,.slice ao x.operands.length co,.slice asp x.spoils.length csp] 44)).drew).cell? ⟨gb,s.cur * 3 + 1,none⟩ = some vi:=(LG _ _ _ dlg).trans e1
 have cZ:((W3.alloc (.cells #[.int .i64 x.op,.slice ao x.operands.length co,.slice asp x.spoils.length csp] 44)).drew).frozen? ⟨gb,s.cur * 3 + 1,none⟩ = false:=(frozen?_alloc_cells _ _ _ _).trans ez
 have cY0:((W3.alloc (.cells #[.int .i64 x.op,.slice ao x.operands.length co,.slice asp x.spoils.length csp] 44)).drew).cell? ⟨Y,0,none⟩ = some (.int .i64 x.op):=(LY _ _ _ dly).trans d0
 have cY1:((W3.alloc (.cells #[.int .i64 x.op,.slice ao x.operands.length co,.slice asp x.spoils.length csp] 44)).drew).cell? ⟨Y,1,none⟩ = some (.slice ao x.operands.length co):=(LY _ _ _ dly).trans d1
 have cY2:((W3.alloc (.cells #[.int .i64 x.op,.slice ao x.operands.length co,.slice asp x.spoils.length csp] 44)).drew).cell? ⟨Y,2,none⟩ = some (.slice asp x.spoils.length csp):=(LY _ _ _ dly).trans d2
 have lG':gb < ((W3.alloc (.cells #[.int .i64 x.op,.slice ao x.operands.length co,.slice asp x.spoils.length csp] 44)).drew).heap.size:=by simp; omega
 have lY':Y < ((W3.alloc (.cells #[.int .i64 x.op,.slice ao x.operands.length co,.slice asp x.spoils.length csp] 44)).drew).heap.size:=by simp; omega
 have HN:Hid (∀ j u,([.int .i64 x.op,.slice ao x.operands.length co,.slice asp x.spoils.length csp]:List Value)[j]? = some u → ((W3.alloc (.cells #[.int .i64 x.op,.slice ao x.operands.length co,.slice asp x.spoils.length csp] 44)).drew).cell? ((⟨W3.heap.size,0,none⟩:Addr).add j) = some u):=World.news_of_block (cs:=#[.int .i64 x.op,.slice ao x.operands.length co,.slice asp x.spoils.length csp]) (t:=44) (fr:=(0,0)) (heap_alloc_new W3 _)
 have h1c:∀ u ∈ ([.int .i64 x.op,.slice ao x.operands.length co,.slice asp x.spoils.length csp]:List Value),u.oneCell' = true:=by intro u hu; simp at hu; rcases hu with rfl | rfl | rfl <;> rfl
 refine wp_region_X (fun w' => w'.cell? ⟨gb,s.cur * 3 + 1,none⟩ = some vi∧w'.cell? ⟨Y,0,none⟩ = some (.int .i64 x.op)∧w'.cell? ⟨Y,1,none⟩ = some (.slice ao x.operands.length co)∧w'.cell? ⟨Y,2,none⟩ = some (.slice asp x.spoils.length csp)) 10 (by kernel_rfl) ⟨e1,d0,d1,d2⟩ (fun hHeld => ?_)
 refine wpXt 0 rfl (v:=?_) (by kernel_rfl) (fun _ _ _ h => h) (by rfl) ?_ hHeld ?_
 rotate_left
 ·intro w' hSw
  go_simp <;> with_reducible rfl
 try simp only [Act.put,List.setIfInBounds_toArray,List.set_cons_zero,List.set_cons_succ]
 refine wpXt 1 rfl (v:=?_) (by kernel_rfl) (fun _ _ _ h => h) (by rfl) ?_ hHeld ?_
 rotate_left
 ·intro w' hSw
  go_simp <;> with_reducible rfl
 try simp only [Act.put,List.setIfInBounds_toArray,List.set_cons_zero,List.set_cons_succ]
 refine wpXt 2 rfl (v:=?_) (by kernel_rfl) (fun _ _ _ h => h) (by rfl) ?_ hHeld ?_
 rotate_left
 ·intro w' hSw
  go_simp <;> with_reducible rfl
 try simp only [Act.put,List.setIfInBounds_toArray,List.set_cons_zero,List.set_cons_succ]
 refine wpXt 3 rfl (v:=?_) (by kernel_rfl) (fun _ _ _ h => h) (by rfl) ?_ hHeld ?_
 rotate_left
 ·intro w' hSw
  go_simp <;> with_reducible rfl
 try simp only [Act.put,List.setIfInBounds_toArray,List.set_cons_zero,List.set_cons_succ]
 refine wpXt 4 rfl (v:=?_) (by kernel_rfl) (fun _ _ _ h => h) (by rfl) ?_ hHeld ?_
 rotate_left
 ·intro w' hSw
  go_simp <;> with_reducible rfl
 try simp only [Act.put,List.setIfInBounds_toArray,List.set_cons_zero,List.set_cons_succ]
 refine wpXt 5 rfl (v:=?_) (by kernel_rfl) (fun _ _ _ h => h) (by rfl) ?_ hHeld ?_
 rotate_left
 ·intro w' hSw
  go_simp <;> with_reducible rfl
 try simp only [Act.put,List.setIfInBounds_toArray,List.set_cons_zero,List.set_cons_succ]
 refine wpXs 6 rfl (by kernel_rfl) (fun K hK => ?_)
 go_simp
 refine hK.out _ _ ⟨cG,cY0,cY1,cY2⟩ (fun hHeld => ?_)
 clear hK K
 try simp only [Act.put,List.setIfInBounds_toArray,List.set_cons_zero,List.set_cons_succ]
 refine wpXs 7 rfl (by kernel_rfl) (fun K hK => ?_)
 refine step_append_lies _ (by rfl) _ _ _ (by rfl) N 44 iX _ 3 56 Try.underlying37 hiX hzX hzX1 hzX2 rfl (by omega) vi nL _ (by rfl) oA ⟨W3.heap.size,0,none⟩ 1 1 [.int .i64 x.op,.slice ao x.operands.length co,.slice asp x.spoils.length csp] (by rfl) (by rfl) HN.out h1c (by omega) (by unfold maxLen; omega) (by omega) (by simp; omega) (W3.heap.size + 1) (by simp) ?_
 intro g cap wb hown hgrow hat hgl
 have g1:=(hgrow.cell_far _ lG' nB).trans cG
 have gz:=(hgrow.frozen_far _ lG' nB).trans cZ
 have g2:=(hgrow.cell_far _ lY' nY).trans cY0
 have g3:=(hgrow.cell_far _ lY' nY).trans cY1
 have g4:=(hgrow.cell_far _ lY' nY).trans cY2
 refine hK.out _ _ ⟨g1,g2,g3,g4⟩ (fun hHeld => ?_)
 clear hK K
 try simp only [Act.put,List.setIfInBounds_toArray,List.set_cons_zero,List.set_cons_succ]
 refine wpXs 8 rfl (by kernel_rfl) (fun K hK => ?_)
 go_simp
 refine hK.out _ _ ⟨g1,g2,g3,g4⟩ (fun hHeld => ?_)
 clear hK K
 try simp only [Act.put,List.setIfInBounds_toArray,List.set_cons_zero,List.set_cons_succ]
 refine wpXs 9 rfl (by kernel_rfl) (fun K hK => ?_)
 go_simp
 refine hK.out _ _ ⟨g1,g2,g3,g4⟩ (fun hHeld => ?_)
 clear hK K
 try simp only [Act.put,List.setIfInBounds_toArray,List.set_cons_zero,List.set_cons_succ]
 refine wpXl 10 rfl (by kernel_rfl) rfl (by kernel_rfl) (fun K hK => ?_)
 go_simp
 refine hK.out _ _ ?_
 clear hK K
 have e4:=HNL.out
 subst e4
 have e5:=HVI.out
 subst e5
 have hP:=HS3.out.pushI (j:=s.cur) (x:=x) (vo:=.slice ao x.operands.length co) (vs:=.slice asp x.spoils.length csp) hcur (((Below.refl _ _).alloc (Nat.le_refl _) (.cells #[.int .i64 x.op,.slice ao x.operands.length co,.slice asp x.spoils.length csp] 44)).drew) hgrow L HLB3.out.1 HLB3.out.2 hown (by simpa using hat) HVO3.out HVS3.out
 obtain ⟨hM4,hO4⟩:=hP
 have hO4':=hO4.mono (T:=MR) fun r hr => by unfold MR; omega
 have rY4:=HRY3.out.of_block (hO4.block Y dly (by rw [hk1Y]; omega))
 have hV4:=HVO3.out.only hO4 (by omega)
 obtain ⟨W4,hW4⟩:∃ W4,W4 = wb.setCell ⟨gb,s.cur * 3 + 1,none⟩ (.slice (some ⟨g,0,none⟩) (L.length + 1) cap):=⟨_,rfl⟩
 rw [← hW4] at hM4 hO4' rY4 hV4
 rw [← hW4]
 obtain ⟨hM5,hO5⟩:=hM4.setAll (wrap64 (al + 1))
 have a6:=hM4.cells.2.2.2.2.2.2
 have az:=hM4.row.frozen 6
 have kY4:κ1 Y = upK κ1 g (6 + 2 * s.cur) Y:=(hO4.role Y dly).symm
 have rY5:=rY4.of_block (hO5.block Y rY4.lt (by rw [← kY4,hk1Y]; omega))
 have hV5:=hV4.only hO5 (by omega)
 have v1:(W4.setCell ⟨P,6,none⟩ (.int .i64 (wrap64 (al + 1)))).cell? ⟨Y,1,none⟩ = some (.slice ao x.operands.length co):=rY5.cell (i:=1) (by omega)
 obtain ⟨W5,hW5⟩:∃ W5,W5 = W4.setCell ⟨P,6,none⟩ (.int .i64 (wrap64 (al + 1))):=⟨_,rfl⟩
 rw [← hW5] at v1 hM5 hO5 hV5
 have HW5:Hid (W5 = W4.setCell ⟨P,6,none⟩ (.int .i64 (wrap64 (al + 1)))):=hW5
 have HL0:Hid (LaS N κ w P { s with f:=⟨vals,setBlk s.f.blocks s.cur (addI x)⟩ } x (.slice ao x.operands.length co) 0 (upK κ1 g (6 + 2 * s.cur)) W5):=by
  have e:s.known ++ defsOf (x.operands.take 0) = s.known:=by simp [defsOf]
  refine ⟨?_,(HO3.out.trans hO4').trans (hO5.mono fun r hr => by unfold MR; omega),hV5⟩
  show MaO N _ _ P { s with f:=⟨vals,setBlk s.f.blocks s.cur (addI x)⟩,known:=s.known ++ defsOf (x.operands.take 0) }
  rw [e]
  exact ⟨_,_,_,_,_,hM5⟩
 clear hown hgrow hat hgl hM4 hO4 hO4' hM5 hO5 rY4 rY5 hV4 hV5 kY4 hW4 hW5 HS3 HO3 HVO3 HVS3 HLB3 HRY3 oA dLo cG cZ cY0 cY1 cY2 g1 gz g2 g3 g4 e1 ez d0 d1 d2 LG LY HN nB nY
 go_upto_region 5 with fail
 rw [← HW5.out]
 clear HW5 a6 az
 go_wp2_with fail
 clear v1
 obtain ⟨no,hno⟩:∃ no,x.operands.length = no:=⟨_,rfl⟩
 have HNO:Hid (x.operands.length = no):=hno
 rw [hno] at HL0 hopl
 rw [hno]
 clear hno
 go_loopw [41] (fun i wr => ∃ (j:Nat) (κr:Nat → Nat),j ≤ no∧i = .int .i64 j∧Hid (LaS N κ w P { s with f:=⟨vals,setBlk s.f.blocks s.cur (addI x)⟩ } x (.slice ao no co) j κr wr)) (fun i _ => no - (intOf i).toNat)
 case atStart => exact ⟨0,_,Nat.zero_le _,rfl,HL0⟩
 case round =>
  clear HL0
  obtain ⟨j,κr,hj,rfl,HI⟩:=hrel
  by_cases hlt:j < no
  ·have hjl:j < x.operands.length:=by rw [HNO.out]; exact hlt
   obtain ⟨b5,off5,cs,rfl,hcl5,hRo,hcc⟩:=HI.out.ops.1.at j hjl
   unfold ROpr at hRo
   subst hRo
   have c0:=hcc 0 (by simp)
   have c1:=hcc 1 (by simp)
   have c2:=hcc 2 (by simp)
   have c3:=hcc 3 (by simp)
   have c4:=hcc 4 (by simp)
   simp at c0 c1 c2 c3 c4
   clear hcc hcl5
   have HDT:Hid (defsOf (x.operands.take (j + 1)) = defsOf (x.operands.take j) ++ (if x.operands[j].kind = 2 then [x.operands[j].value] else [])):=defsOf_take hjl
   generalize x.operands[j] = o at *
   obtain ⟨B,hB⟩:∃ B,wr.heap.size = B:=⟨_,rfl⟩
   obtain ⟨wo,hwo⟩:∃ wo,wo = wr.alloc (.cells #[.int .i64 o.kind,.int .i64 o.value,.bool o.late,.int .i64 o.limit,.int .i64 o.n] 46):=⟨_,rfl⟩
   have hbo:Below wr.heap.size wr wo:=by rw [hwo]; exact (Below.refl _ _).alloc (Nat.le_refl _) _
   have ro:wo.rowIs B 46 5 (oprRow o.kind o.value o.late o.limit o.n):=by
    rw [hwo,← hB]
    exact World.rowIs_alloc wr #[.int .i64 o.kind,.int .i64 o.value,.bool o.late,.int .i64 o.limit,.int .i64 o.n] 46 (oprRow o.kind o.value o.late o.limit o.n) fun i hi => by
     simp at hi
     match i,hi with | 0,_ => rfl | 1,_ => rfl | 2,_ => rfl | 3,_ => rfl | 4,_ => rfl
   have hod:Only MR κr κr wr wo:=Only.of_below hbo
   have HIo:Hid (LaS N κ w P { s with f:=⟨vals,setBlk s.f.blocks s.cur (addI x)⟩ } x (.slice (some ⟨b5,off5,none⟩) no co) j κr wo):=⟨HI.out.ma.below hbo,HI.out.only.trans hod,HI.out.ops.only hod MR0⟩
   have b0:wo.cell? ⟨B,0,none⟩ = some (.int .i64 o.kind):=ro.cell (i:=0) (by omega)
   have b1:wo.cell? ⟨B,1,none⟩ = some (.int .i64 o.value):=ro.cell (i:=1) (by omega)
   have lB:=ro.lt
   have kB:κr B = 0:=HI.out.ma.fresh B (by omega)
   have HWO:Hid (wo = wr.alloc (.cells #[.int .i64 o.kind,.int .i64 o.value,.bool o.late,.int .i64 o.limit,.int .i64 o.n] 46)):=hwo
   have HB:Hid (wr.heap.size = B):=hB
   clear hbo ro hod HI hwo hB
   go_upto_region 8 with fail
   rw [← HWO.out,HB.out]
   clear HWO HB c0 c1 c2 c3 c4
   by_cases hk2:o.kind = 2
   ·have ek:(o.kind == 2) = true:=by simp [hk2]
    have HDK:Hid (defsOf (x.operands.take (j + 1)) = defsOf (x.operands.take j) ++ [o.value]):=by show _ = _; rw [HDT.out,if_pos hk2]
    clear HDT hk2
    obtain ⟨vv,vb,vk,al2,bx2,hS⟩:=HIo.out.ma
    have HS:Hid (MaS N κr wo P { s with f:=⟨vals,setBlk s.f.blocks s.cur (addI x)⟩,known:=s.known ++ defsOf (x.operands.take j) } vv vb vk al2 bx2):=hS
    have p5:=hS.cells.2.2.2.2.2.1
    have pz:=hS.row.frozen 5
    have pl:=hS.row.lt
    have hok:wo.ownsRow N 3 1 vk (s.known ++ defsOf (x.operands.take j)).length ((s.known ++ defsOf (x.operands.take j)).flatMap cI):=hS.ok
    have nP:some P ≠ vk.ownBlock:=fun e => by have:=hS.kk P e.symm; rw [hS.kP] at this; omega
    have nB:some B ≠ vk.ownBlock:=fun e => by have:=hS.kk B e.symm; omega
    have hNs:=hS.szN
    have hkl:(s.known ++ defsOf (x.operands.take j)).length ≤ 6000:=by
     have:=defsOf_le x.operands j
     rw [HNO.out] at this
     rw [List.length_append]
     omega
    generalize hkn:(s.known ++ defsOf (x.operands.take j)) = kn at *
    have HKN:Hid (s.known ++ defsOf (x.operands.take j) = kn):=hkn
    have oA:=(hok.alloc (.cells #[.int .i64 o.value] 3)).drew
    have LP:=old_cell P
    have LB:=old_cell B
    have cP:((wo.alloc (.cells #[.int .i64 o.value] 3)).drew).cell? ⟨P,5,none⟩ = some vk:=(LP _ _ _ pl).trans p5
    have cZ:((wo.alloc (.cells #[.int .i64 o.value] 3)).drew).frozen? ⟨P,5,none⟩ = false:=(frozen?_alloc_cells _ _ _ _).trans pz
    have cB:((wo.alloc (.cells #[.int .i64 o.value] 3)).drew).cell? ⟨B,1,none⟩ = some (.int .i64 o.value):=(LB _ _ _ lB).trans b1
    have lP':P < ((wo.alloc (.cells #[.int .i64 o.value] 3)).drew).heap.size:=by simp; omega
    have lB':B < ((wo.alloc (.cells #[.int .i64 o.value] 3)).drew).heap.size:=by simp; omega
    have HN:Hid (∀ j u,([.int .i64 o.value]:List Value)[j]? = some u → ((wo.alloc (.cells #[.int .i64 o.value] 3)).drew).cell? ((⟨wo.heap.size,0,none⟩:Addr).add j) = some u):=World.news_of_block (cs:=#[.int .i64 o.value]) (t:=3) (fr:=(0,0)) (heap_alloc_new wo _)
    have h1c':∀ u ∈ ([.int .i64 o.value]:List Value),u.oneCell' = true:=by intro u hu; simp at hu; subst hu; rfl
    clear hkn hS
    go_upto_region 9 with fail
    refine wp_region_X (fun w' => w'.cell? ⟨P,5,none⟩ = some vk∧w'.cell? ⟨B,1,none⟩ = some (.int .i64 o.value)) 11 (by kernel_rfl) ⟨p5,b1⟩ (fun hHeld => ?_)
    refine wpXt 0 rfl (v:=?_) (by kernel_rfl) (fun _ _ _ h => h) (by rfl) ?_ hHeld ?_
    rotate_left
    ·intro w' hSw
     go_simp <;> with_reducible rfl
    try simp only [Act.put,List.setIfInBounds_toArray,List.set_cons_zero,List.set_cons_succ]
    refine wpXt 1 rfl (v:=?_) (by kernel_rfl) (fun _ _ _ h => h) (by rfl) ?_ hHeld ?_
    rotate_left
    ·intro w' hSw
     go_simp <;> with_reducible rfl
    try simp only [Act.put,List.setIfInBounds_toArray,List.set_cons_zero,List.set_cons_succ]
    refine wpXt 2 rfl (v:=?_) (by kernel_rfl) (fun _ _ _ h => h) (by rfl) ?_ hHeld ?_
    rotate_left
    ·intro w' hSw
     go_simp <;> with_reducible rfl
    try simp only [Act.put,List.setIfInBounds_toArray,List.set_cons_zero,List.set_cons_succ]
    refine wpXt 3 rfl (v:=?_) (by kernel_rfl) (fun _ _ _ h => h) (by rfl) ?_ hHeld ?_
    rotate_left
    ·intro w' hSw
     go_simp <;> with_reducible rfl
    try simp only [Act.put,List.setIfInBounds_toArray,List.set_cons_zero,List.set_cons_succ]
    refine wpXt 4 rfl (v:=?_) (by kernel_rfl) (fun _ _ _ h => h) (by rfl) ?_ hHeld ?_
    rotate_left
    ·intro w' hSw
     go_simp <;> with_reducible rfl
    try simp only [Act.put,List.setIfInBounds_toArray,List.set_cons_zero,List.set_cons_succ]
    refine wpXt 5 rfl (v:=?_) (by kernel_rfl) (fun _ _ _ h => h) (by rfl) ?_ hHeld ?_
    rotate_left
    ·intro w' hSw
     go_simp <;> with_reducible rfl
    try simp only [Act.put,List.setIfInBounds_toArray,List.set_cons_zero,List.set_cons_succ]
    refine wpXt 6 rfl (v:=?_) (by kernel_rfl) (fun _ _ _ h => h) (by rfl) ?_ hHeld ?_
    rotate_left
    ·intro w' hSw
     go_simp <;> with_reducible rfl
    try simp only [Act.put,List.setIfInBounds_toArray,List.set_cons_zero,List.set_cons_succ]
    refine wpXs 7 rfl (by kernel_rfl) (fun K hK => ?_)
    go_simp
    refine hK.out _ _ ⟨cP,cB⟩ (fun hHeld => ?_)
    clear hK K
    try simp only [Act.put,List.setIfInBounds_toArray,List.set_cons_zero,List.set_cons_succ]
    refine wpXs 8 rfl (by kernel_rfl) (fun K hK => ?_)
    refine step_append_lies _ (by rfl) _ _ _ (by rfl) N 3 i3 _ 1 8 Try.underlying27 hi3 hz3 hz31 hz32 rfl (by omega) vk kn.length _ (by rfl) oA ⟨wo.heap.size,0,none⟩ 1 1 [.int .i64 o.value] (by rfl) (by rfl) HN.out h1c' (by omega) (by unfold maxLen; omega) (by omega) (by simp; omega) (wo.heap.size + 1) (by simp) ?_
    intro g3 cap3 wb3 hown hgrow hat hgl
    have g1:=(hgrow.cell_far _ lP' nP).trans cP
    have gz:=(hgrow.frozen_far _ lP' nP).trans cZ
    have g2:=(hgrow.cell_far _ lB' nB).trans cB
    refine hK.out _ _ ⟨g1,g2⟩ (fun hHeld => ?_)
    clear hK K
    try simp only [Act.put,List.setIfInBounds_toArray,List.set_cons_zero,List.set_cons_succ]
    refine wpXs 9 rfl (by kernel_rfl) (fun K hK => ?_)
    go_simp
    refine hK.out _ _ ⟨g1,g2⟩ (fun hHeld => ?_)
    clear hK K
    try simp only [Act.put,List.setIfInBounds_toArray,List.set_cons_zero,List.set_cons_succ]
    refine wpXs 10 rfl (by kernel_rfl) (fun K hK => ?_)
    go_simp
    refine hK.out _ _ ⟨g1,g2⟩ (fun hHeld => ?_)
    clear hK K
    try simp only [Act.put,List.setIfInBounds_toArray,List.set_cons_zero,List.set_cons_succ]
    refine wpXl 11 rfl (by kernel_rfl) rfl (by kernel_rfl) (fun K hK => ?_)
    go_simp
    refine hK.out _ _ ?_
    clear hK K
    have hown':wb3.ownsRow N 3 1 (.slice (some ⟨g3,0,none⟩) (kn.length + 1) cap3) (kn.length + 1) ((kn ++ [o.value]).flatMap cI):=by rw [List.flatMap_append]; exact hown
    have hP:=HS.out.putK (kn:=kn ++ [o.value]) (m:=kn.length + 1) (((Below.refl _ _).alloc (Nat.le_refl _) (.cells #[.int .i64 o.value] 3)).drew) hgrow (fun _ h => h) hown' (by simp) (by simpa using hat)
    obtain ⟨hM6,hO6⟩:=hP
    have hO6':=hO6.mono (T:=MR) fun r hr => by unfold MR; omega
    have HP:Hid (LaS N κ w P { s with f:=⟨vals,setBlk s.f.blocks s.cur (addI x)⟩ } x (.slice (some ⟨b5,off5,none⟩) no co) (j + 1) (upK κr g3 3) (wb3.setCell ⟨P,5,none⟩ (.slice (some ⟨g3,0,none⟩) (kn.length + 1) cap3))):=by
     refine ⟨?_,HIo.out.only.trans hO6',HIo.out.ops.only hO6 (by omega)⟩
     show MaO N _ _ P { s with f:=⟨vals,setBlk s.f.blocks s.cur (addI x)⟩,known:=s.known ++ defsOf (x.operands.take (j + 1)) }
     rw [HDK.out,← List.append_assoc,HKN.out]
     exact ⟨_,_,_,_,_,hM6⟩
    clear hM6 hO6 hO6' hown hown' hgrow hat hgl oA hok cP cZ cB g1 gz g2 LP LB HS HIo p5 pz b0 b1
    go_wp2
    go_roundw
    case rel => exact ⟨j + 1,_,by omega,by go_num,HP⟩
    case measure => simp [intOf]; omega
   ·have ek:(o.kind == 2) = false:=by simp [hk2]
    have HP:Hid (LaS N κ w P { s with f:=⟨vals,setBlk s.f.blocks s.cur (addI x)⟩ } x (.slice (some ⟨b5,off5,none⟩) no co) (j + 1) κr wo):=by
     refine ⟨?_,HIo.out.only,HIo.out.ops⟩
     show MaO N _ _ P { s with f:=⟨vals,setBlk s.f.blocks s.cur (addI x)⟩,known:=s.known ++ defsOf (x.operands.take (j + 1)) }
     rw [HDT.out,if_neg hk2,List.append_nil]
     exact HIo.out.ma
    clear HDT hk2 HIo
    go_wp2
    go_roundw
    case rel => exact ⟨j + 1,_,by omega,by go_num,HP⟩
    case measure => simp [intOf]; omega
  ·have HE:Hid (∃ κ',MaO N κ' wr P (layM s p)∧Only MR κ κ' w wr):=by
    refine ⟨κr,?_,HI.out.only⟩
    rw [HLAY.out]
    have h1:=HI.out.ma
    rw [List.take_of_length_le (by rw [HNO.out]; omega)] at h1
    exact h1
   clear HI
   go_wp2
   go_end0
   exact ⟨rfl,HE.out⟩
theorem getLast_at (l:List Int) (h:0 < l.length):l.getD (l.length - 1) 0 = l.getLastD 0:=by
 rw [List.getD_eq_getElem?_getD,← List.getLast?_eq_getElem?,List.getLastD_eq_getLast?]
set_option maxRecDepth 4000 in
set_option maxHeartbeats 16000000 in
theorem ma_newest (N:Nat) (κ:Nat → Nat) (w:World) (P:Nat) (s:Ms) (c:Int) (p:Pc) (h:MaO N κ w P s) (hm:MsOk s) (hp:PcOk p) (hc:c = 0 ∨ c = 1) (hk:s.known.length ≤ 5000) (hv:s.f.values.length ≤ 5000) (hbl:s.f.blocks.length ≤ 1000) (hin:∀ b ∈ s.f.blocks,b.instrs.length ≤ 1000) :
  Calls Try.prog 25 #[.pointer (some ⟨P,0,none⟩),.int .i64 c,.agg #[.int .i64 p.kind,.int .i64 p.op,.int .i64 p.a,.int .i64 p.b,.int .i64 p.c,.int .i64 p.limits,.int .i64 p.flags]] w fun e w' => e = .returned (.int .i64 (newestM s c p).2)∧∃ κ',MaO N κ' w' P (newestM s c p).1∧Only MR κ κ' w w':=by
 obtain ⟨W,hW⟩:∃ W,W = w.alloc (.cells #[.int .i64 p.kind,.int .i64 p.op,.int .i64 p.a,.int .i64 p.b,.int .i64 p.c,.int .i64 p.limits,.int .i64 p.flags] 62):=⟨_,rfl⟩
 have hbw:Below w.heap.size w W:=by rw [hW]; exact (Below.refl _ _).alloc (Nat.le_refl _) _
 obtain ⟨X,hX⟩:∃ X,w.heap.size = X:=⟨_,rfl⟩
 have rX:W.rowIs X 62 7 (pieceRow p):=by
  rw [hW,← hX]
  exact World.rowIs_alloc w #[.int .i64 p.kind,.int .i64 p.op,.int .i64 p.a,.int .i64 p.b,.int .i64 p.c,.int .i64 p.limits,.int .i64 p.flags] 62 (pieceRow p) fun i hi => by
   simp at hi
   match i,hi with | 0,_ => rfl | 1,_ => rfl | 2,_ => rfl | 3,_ => rfl | 4,_ => rfl | 5,_ => rfl | 6,_ => rfl
 obtain ⟨b0,b1⟩:=hp.b
 have HH:Hid (MaO N κ w P s):=h
 have HW:Hid (W = w.alloc (.cells #[.int .i64 p.kind,.int .i64 p.op,.int .i64 p.a,.int .i64 p.b,.int .i64 p.c,.int .i64 p.limits,.int .i64 p.flags] 62)):=hW
 have HX:Hid (w.heap.size = X):=hX
 have HBW:Hid (Below w.heap.size w W):=hbw
 have HRX:Hid (W.rowIs X 62 7 (pieceRow p)):=rX
 have HM:Hid (MsOk s):=hm
 have HP:Hid (PcOk p):=hp
 have HC:Hid (c = 0 ∨ c = 1):=hc
 obtain ⟨vv,vb,vk,al,bx,hS⟩:=h.below hbw
 have P2:=hS.cells.2.2.1
 have P5:=hS.cells.2.2.2.2.2.1
 have HS:Hid (MaS N κ W P s vv vb vk al bx):=hS
 have X3:W.cell? ⟨X,3,none⟩ = some (.int .i64 p.b):=rX.cell (i:=3) (by omega)
 obtain ⟨ak,ck,rfl,_⟩:=(own_ints _ hS.ok (by unfold longest; omega)).out
 obtain ⟨pk,hpk⟩:∃ pk,pickedOf p.b 3 = pk:=⟨_,rfl⟩
 have hpb:=pickedOf_bd p.b 3 (by omega)
 rw [hpk] at hpb
 obtain ⟨pk0,pk1⟩:=hpb
 have HPK:Hid (pickedOf p.b 3 = pk):=hpk
 obtain ⟨n0,hn0⟩:∃ n0:Nat,((s.known.length:Int) - pk).toNat = n0:=⟨_,rfl⟩
 have HN:Hid (newestM s c p = match seekM s c n0 with | some v => (s,v) | none => (layM s { p with c:=3 * c },(layM s { p with c:=3 * c }).known.getLastD 0)):=by
  show _ = _
  unfold newestM
  rw [hpk,hn0]
  rfl
 have HN0:Hid (((s.known.length:Int) - pk).toNat = n0):=hn0
 generalize hR:newestM s c p = R at *
 clear hR hW hbw rX h hm hp hS hpk hX hn0 hc
 have HSIZE:Hid (s.known.length ≤ 5000∧s.f.values.length ≤ 5000∧s.f.blocks.length ≤ 1000∧∀ b ∈ s.f.blocks,b.instrs.length ≤ 1000):=⟨hk,hv,hbl,hin⟩
 clear hin
 go_enter Try.func25,Try.ntmps25
 go_upto_region 1 with fail
 rw [← HW.out,HX.out]
 go_quiet ((go_at_call 12; exact Calls.quiet_of_same (picked_is _ _ _ _ HPK.out (by omega) (by omega) (by omega) (by omega))))
 go_upto_region 2 with fail
 have hb0:Below W.heap.size W (W.drewN nq):=below_drewN (Below.refl _ _) nq
 have HB0:Hid (Below W.heap.size W (W.drewN nq)):=hb0
 clear hb0 X3
 generalize W.drewN nq = W1 at *
 clear nq HW
 go_loopw [7] (fun i wr => ∃ (q:Int) (n:Nat),i = .int .i64 q∧-4 ≤ q∧q ≤ 5000∧Hid (Below W.heap.size W wr∧(q = n - 1 ∨ (n = 0∧q < 0))∧n ≤ s.known.length∧seekM s c n = seekM s c n0)) (fun i _ => (intOf i + 1).toNat)
 case atStart => exact ⟨_,n0,rfl,by omega,by omega,HB0.out,by have:=HN0.out; omega,by have:=HN0.out; omega,rfl⟩
 case round =>
  obtain ⟨q,n,rfl,hq0,hq1,HI⟩:=hrel
  have hbr:=HI.out.1
  have hS:=HS.out.below hbr
  have R2:=(hbr.cell (p:=⟨P,2,none⟩) HS.out.row.lt).trans P2
  have R5:=(hbr.cell (p:=⟨P,5,none⟩) HS.out.row.lt).trans P5
  by_cases hq:0 ≤ q
  ·obtain ⟨m,rfl⟩:∃ m,n = m + 1:=⟨n - 1,by have:=HI.out.2.1; omega⟩
   have hqm:q = (m:Int):=by have:=HI.out.2.1; omega
   subst hqm
   have hml:m < s.known.length:=by have:=HI.out.2.2.1; omega
   obtain ⟨gk,ck',hvk,lgk,K0⟩:=own_int hS.ok rfl m hml
   simp only [Value.slice.injEq,true_and] at hvk
   obtain ⟨rfl,rfl⟩:=hvk
   have hvm:s.known.getD m 0 ∈ s.known:=by
    rw [List.getD_eq_getElem?_getD,List.getElem?_eq_getElem hml]
    exact List.getElem_mem _
   have hsk:=HI.out.2.2.2
   simp only [seekM] at hsk
   generalize s.known.getD m 0 = v at *
   have hvv:=HM.out.kn v hvm
   simp only [isValueB,decide_eq_true_eq] at hvv
   obtain ⟨v0,v1⟩:=hvv
   obtain ⟨gv,cv,rfl,lgv,V0⟩:=own_int hS.ov rfl v.toNat (by omega)
   have eV:s.f.values.getD v.toNat 0 = classAt s.f.values v:=rfl
   rw [eV] at V0
   clear eV hvm
   generalize classAt s.f.values v = cl at *
   by_cases hcl:cl = c
   ·have ecl:(cl == c) = true:=by simp [hcl]
    rw [if_pos hcl] at hsk
    have HE:Hid (R = (s,v)):=by show R = _; rw [HN.out,← hsk]
    have HF:Hid (∃ κ',MaO N κ' wr P s∧Only MR κ κ' w wr):=⟨κ,HH.out.below (HBW.out.trans (hbr.mono HBW.out.size)),Only.of_below (HBW.out.trans (hbr.mono HBW.out.size))⟩
    clear hcl hsk hS HI
    go_wp2_with fail
    go_quiet (fail)
    go_wp2
    go_ret
    refine ⟨ret_int (by rw [HE.out]),?_⟩
    obtain ⟨κ',h1,h2⟩:=HF.out
    refine ⟨κ',?_,h2.trans (Only.of_below (below_drewN (Below.refl _ _) _))⟩
    rw [HE.out]
    exact h1.below (below_drewN (Below.refl _ _) _)
   ·have ecl:(cl == c) = false:=by simp [hcl]
    rw [if_neg hcl] at hsk
    have HJ:Hid (Below W.heap.size W wr∧m + 1 ≤ s.known.length∧seekM s c m = seekM s c n0):=⟨hbr,HI.out.2.2.1,hsk⟩
    clear hcl hsk hS HI hbr
    go_wp2_with fail
    go_quiet (fail)
    go_wp2
    go_roundw
    case rel => exact ⟨_,m,rfl,by omega,by omega,below_drewN HJ.out.1 _,Or.inl rfl,by have:=HJ.out.2.1; omega,HJ.out.2.2⟩
    case measure => (simp [intOf]; try omega)
  ·have hn:n = 0:=by have:=HI.out.2.1; omega
   have hsk:=HI.out.2.2.2
   rw [hn] at hsk
   have HE:Hid (R = (layM s { p with c:=3 * c },(layM s { p with c:=3 * c }).known.getLastD 0)):=by
    show R = _
    rw [HN.out,← hsk]
    rfl
   have rXr:=HRX.out.of_block (hbr.block X HRX.out.lt)
   obtain ⟨x0,x1,x2,x3,x4,x5,x6⟩:wr.cell? ⟨X,0,none⟩ = some (.int .i64 p.kind)∧wr.cell? ⟨X,1,none⟩ = some (.int .i64 p.op)∧wr.cell? ⟨X,2,none⟩ = some (.int .i64 p.a)∧wr.cell? ⟨X,3,none⟩ = some (.int .i64 p.b)∧wr.cell? ⟨X,4,none⟩ = some (.int .i64 p.c)∧wr.cell? ⟨X,5,none⟩ = some (.int .i64 p.limits)∧wr.cell? ⟨X,6,none⟩ = some (.int .i64 p.flags):=⟨rXr.cell (i:=0) (by omega),rXr.cell (i:=1) (by omega),rXr.cell (i:=2) (by omega),rXr.cell (i:=3) (by omega),rXr.cell (i:=4) (by omega),rXr.cell (i:=5) (by omega),rXr.cell (i:=6) (by omega)⟩
   have xz:=rXr.frozen 4
   obtain ⟨wl,hwl⟩:∃ wl,wl = wr.setCell ⟨X,4,none⟩ (.int .i64 (3 * c)):=⟨_,rfl⟩
   have hbl2:Below w.heap.size w wl:=by
    rw [hwl]
    exact Below.setCell (HBW.out.trans (hbr.mono HBW.out.size)) (by rw [HX.out]; exact Nat.le_refl _) _
   have rXl:wl.rowIs X 62 7 (pieceRow { p with c:=3 * c }):=by
    rw [hwl]
    exact (rXr.set 4 _).congr fun q hq => by match q,hq with | 0,_ => rfl | 1,_ => rfl | 2,_ => rfl | 3,_ => rfl | 4,_ => rfl | 5,_ => rfl | 6,_ => rfl
   obtain ⟨y0,y1,y2,y3,y4,y5,y6⟩:wl.cell? ⟨X,0,none⟩ = some (.int .i64 p.kind)∧wl.cell? ⟨X,1,none⟩ = some (.int .i64 p.op)∧wl.cell? ⟨X,2,none⟩ = some (.int .i64 p.a)∧wl.cell? ⟨X,3,none⟩ = some (.int .i64 p.b)∧wl.cell? ⟨X,4,none⟩ = some (.int .i64 (3 * c))∧wl.cell? ⟨X,5,none⟩ = some (.int .i64 p.limits)∧wl.cell? ⟨X,6,none⟩ = some (.int .i64 p.flags):=⟨rXl.cell (i:=0) (by omega),rXl.cell (i:=1) (by omega),rXl.cell (i:=2) (by omega),rXl.cell (i:=3) (by omega),rXl.cell (i:=4) (by omega),rXl.cell (i:=5) (by omega),rXl.cell (i:=6) (by omega)⟩
   have hpc:=HC.out
   have HL:=ma_lay N κ wl P s { p with c:=3 * c } (HH.out.below hbl2) HM.out ⟨HP.out.op,HP.out.a,HP.out.b,by show _ ≤ 3 * c∧3 * c ≤ _; omega,HP.out.limits,HP.out.flags⟩ HSIZE.out.1 HSIZE.out.2.1 HSIZE.out.2.2.1 HSIZE.out.2.2.2
   simp only at HL
   have hlo:=layM_ok s { p with c:=3 * c } HM.out
   have hkn:0 < (layM s { p with c:=3 * c }).known.length∧(layM s { p with c:=3 * c }).known.length ≤ 5002:=by
    obtain ⟨_,_,_,⟨l,hl,_,hkn⟩,_⟩:=hlo
    rw [hkn]
    have:=HSIZE.out.1
    rcases hl with rfl | rfl <;> simp <;> omega
   obtain ⟨c3a,c3b⟩:-3 ≤ 3 * c∧3 * c ≤ 3:=by omega
   have HWL:Hid (wl = wr.setCell ⟨X,4,none⟩ (.int .i64 (3 * c))):=hwl
   have HO:Hid (Only MR κ κ w wl):=Only.of_below hbl2
   clear hlo hwl hbl2 rXl rXr hsk hn hS HI hpc
   generalize hs2:layM s { p with c:=3 * c } = s2 at *
   clear hs2
   have hqd:decide (0 ≤ q) = false:=by simp; omega
   go_upto_region 7 with fail
   rw [← HWL.out]
   clear HWL x0 x1 x2 x3 x4 x5 x6 xz
   go_wp2_with fail
   refine HL.mono ?_
   clear HL
   rintro e w2 ⟨rfl,κ2,hM2,hO2⟩
   obtain ⟨hkn0,hkn1⟩:=hkn
   obtain ⟨vv2,vb2,vk2,al2,bx2,hS2⟩:=hM2
   have S5:=hS2.cells.2.2.2.2.2.1
   obtain ⟨gk2,ck2,rfl,lgk2,K2⟩:=own_int hS2.ok rfl (s2.known.length - 1) (by omega)
   rw [getLast_at _ hkn0] at K2
   have HF:Hid (MaO N κ2 w2 P s2∧Only MR κ κ2 w w2):=⟨⟨_,_,_,_,_,hS2⟩,HO.out.trans hO2⟩
   have HE2:Hid (R = (s2,s2.known.getLastD 0)):=HE
   generalize hnl:s2.known.length = nl at *
   have hin:(((nl:Int) - 1).toNat) = nl - 1:=by omega
   clear hnl hS2 hO2 HE
   generalize s2.known.getLastD 0 = last at *
   have K2':=K2
   rw [← hin] at K2'
   clear hin
   have hnl1:1 ≤ nl:=hkn0
   have hwn:IntKind.i64.wrap ((nl:Int) - 1) = (nl:Int) - 1:=by rw [IntKind.wrap_i64]; omega
   go_wp2_with fail
   go_quiet (fail)
   go_wp2
   go_ret
   refine ⟨ret_int (by rw [HE2.out]),κ2,?_,HF.out.2.trans (Only.of_below (below_drewN (Below.refl _ _) _))⟩
   rw [HE2.out]
   exact HF.out.1.below (below_drewN (Below.refl _ _) _)
structure FoS (N:Nat) (κ0:Nat → Nat) (w0:World) (X P:Nat) (st:Ms) (pc:Pc) (κ:Nat → Nat) (w:World):Prop where
 ma:MaO N κ w P st
 only:Only MR κ0 κ w0 w
 x0:w0.heap.size = X
 k5:κ X = 5
 row:w.rowIs X 62 7 (pieceRow pc)
section
variable {N:Nat} {κ0:Nat → Nat} {w0:World} {X P:Nat} {st:Ms} {pc:Pc} {κ:Nat → Nat} {w:World}
theorem FoS.start (h:MaO N κ w P st) (p:Pc) (hX:w.heap.size = X):FoS N κ w X P st p (upK κ X 5) (w.alloc (.cells #[.int .i64 p.kind,.int .i64 p.op,.int .i64 p.a,.int .i64 p.b,.int .i64 p.c,.int .i64 p.limits,.int .i64 p.flags] 62)):=by
 have hb:Below w.heap.size w (w.alloc (.cells #[.int .i64 p.kind,.int .i64 p.op,.int .i64 p.a,.int .i64 p.b,.int .i64 p.c,.int .i64 p.limits,.int .i64 p.flags] 62)):=(Below.refl _ _).alloc (Nat.le_refl _) _
 have hk:=upK_old (κ:=κ) (g:=X) (r:=5) (M:=w.heap.size) (Or.inr (by omega))
 have hO:∀ S,Only S κ (upK κ X 5) w (w.alloc (.cells #[.int .i64 p.kind,.int .i64 p.op,.int .i64 p.a,.int .i64 p.b,.int .i64 p.c,.int .i64 p.limits,.int .i64 p.flags] 62)):=fun S => (Only.of_below hb).tag hk
 refine ⟨h.only (hO _) fun b hb' => ?_,hO _,hX,by simp [upK],?_⟩
 ·simp at hb'
  unfold upK
  rw [if_neg (by omega)]
  exact h.fresh b (by omega)
 ·rw [← hX]
  exact World.rowIs_alloc w #[.int .i64 p.kind,.int .i64 p.op,.int .i64 p.a,.int .i64 p.b,.int .i64 p.c,.int .i64 p.limits,.int .i64 p.flags] 62 (pieceRow p) fun i hi => by
   simp at hi
   match i,hi with | 0,_ => rfl | 1,_ => rfl | 2,_ => rfl | 3,_ => rfl | 4,_ => rfl | 5,_ => rfl | 6,_ => rfl
theorem FoS.call {κ':Nat → Nat} {w':World} {st':Ms} (h:FoS N κ0 w0 X P st pc κ w) (hm:MaO N κ' w' P st') (ho:Only MR κ κ' w w'):FoS N κ0 w0 X P st' pc κ' w' :=
 ⟨hm,h.only.trans ho,h.x0,by rw [ho.role X h.row.lt]; exact h.k5,h.row.of_block (ho.block X h.row.lt (by rw [h.k5]; exact MR5))⟩
theorem FoS.below {w':World} (h:FoS N κ0 w0 X P st pc κ w) (hb:Below w.heap.size w w'):FoS N κ0 w0 X P st pc κ w':=h.call (h.ma.below hb) (Only.of_below hb)
theorem FoS.setP (h:FoS N κ0 w0 X P st pc κ w) (i:Nat) (v:Value) (pc':Pc) (e:∀ q,q < 7 → (if q = i then v else pieceRow pc q) = pieceRow pc' q):FoS N κ0 w0 X P st pc' κ (w.setCell ⟨X,i,none⟩ v):=by
 have hO:Only (fun r => r = 5) κ κ w (w.setCell ⟨X,i,none⟩ v):=(Only.refl _ _ _).set (Or.inr h.k5) i v
 have hx0:=h.x0
 refine ⟨h.ma.only hO fun b hb => h.ma.fresh b (by simpa [World.setCell] using hb),h.only.set (Or.inl (by omega)) i v,h.x0,h.k5,(h.row.set i v).congr e⟩
theorem FoS.cells (h:FoS N κ0 w0 X P st pc κ w):w.cell? ⟨X,0,none⟩ = some (.int .i64 pc.kind)∧w.cell? ⟨X,1,none⟩ = some (.int .i64 pc.op)∧w.cell? ⟨X,2,none⟩ = some (.int .i64 pc.a)∧w.cell? ⟨X,3,none⟩ = some (.int .i64 pc.b)∧w.cell? ⟨X,4,none⟩ = some (.int .i64 pc.c)∧w.cell? ⟨X,5,none⟩ = some (.int .i64 pc.limits)∧w.cell? ⟨X,6,none⟩ = some (.int .i64 pc.flags) :=
 ⟨h.row.cell (i:=0) (by omega),h.row.cell (i:=1) (by omega),h.row.cell (i:=2) (by omega),h.row.cell (i:=3) (by omega),h.row.cell (i:=4) (by omega),h.row.cell (i:=5) (by omega),h.row.cell (i:=6) (by omega)⟩
theorem FoS.cur (h:FoS N κ0 w0 X P st pc κ w) (k:Nat):FoS N κ0 w0 X P { st with cur:=k } pc κ (w.setCell ⟨P,4,none⟩ (.int .i64 k))∧w.cell? ⟨P,4,none⟩ = some (.int .i64 st.cur)∧w.frozen? ⟨P,4,none⟩ = false:=by
 obtain ⟨vv,vb,vk,al,bx,hS⟩:=h.ma
 obtain ⟨h1,h2⟩:=hS.setCur k
 exact ⟨h.call ⟨_,_,_,_,_,h1⟩ (h2.mono fun r hr => by unfold MR; omega),hS.cells.2.2.2.2.1,hS.row.frozen 4⟩
end
theorem two_slk {κ:Nat → Nat} {w:World} (a b:Int) (hf:∀ b,w.heap.size ≤ b → κ b = 0):SlK κ (w.alloc (.cells #[.int .i64 a,.int .i64 b] 3)) 1 RInt (.slice (some ⟨w.heap.size,0,none⟩) 2 2) [a,b]:=by
 have r:(w.alloc (.cells #[.int .i64 a,.int .i64 b] 3)).rowIs w.heap.size 3 2 (fun q => if q = 0 then .int .i64 a else .int .i64 b):=World.rowIs_alloc w #[.int .i64 a,.int .i64 b] 3 _ fun i hi => by
  simp at hi
  match i,hi with | 0,_ => rfl | 1,_ => rfl
 refine ⟨SlOf_two [.int .i64 a] [.int .i64 b] rfl rfl rfl rfl (cells1 (r.cell (i:=0) (by omega))) (cells1 (r.cell (i:=1) (by omega))),Or.inr fun g hg => ?_⟩
 simp [Value.ownBlock] at hg
 subst hg
 exact ⟨hf _ (Nat.le_refl _),by simp⟩
theorem PcOk.a1 {p:Pc} (h:PcOk p):PcOk { p with a:=up p.a }:=⟨h.op,by show _ ≤ up p.a∧up p.a ≤ _; unfold up wrap64; omega,h.b,h.c,h.limits,h.flags⟩
theorem PcOk.op1 {p:Pc} (h:PcOk p):PcOk { p with op:=up p.op }:=⟨by show _ ≤ up p.op∧up p.op ≤ _; unfold up wrap64; omega,h.a,h.b,h.c,h.limits,h.flags⟩
theorem Good.sizes {B:Nat} {s:Ms} (h:Good B s) (hB:B ≤ 1000):s.known.length ≤ 5000∧s.f.values.length ≤ 5000∧s.f.blocks.length ≤ 1000∧(∀ b ∈ s.f.blocks,b.instrs.length ≤ 1000)∧∀ (j:Nat) (hj:j < s.f.blocks.length),s.f.blocks[j].edges.length ≤ 1000:=by
 obtain ⟨h1,h2,h3,h4⟩:=h.sm
 exact ⟨by omega,by omega,by omega,fun b hb => by have:=(h4 b hb).1; omega,fun j hj => by have:=(h4 _ (List.getElem_mem hj)).2; omega⟩
end Go.Proofs.Ytglfpnnfcpnmoaa
