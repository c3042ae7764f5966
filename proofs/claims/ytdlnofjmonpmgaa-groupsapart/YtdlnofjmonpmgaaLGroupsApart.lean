/-
  The walk of GroupsApart: two values of a group are of one class, and never needed at once; the least one stands for all.
-/
import Derived.Test.YtdlnofjmonpmgaaG11
import Derived.Test.YtdlnofjmonpmgaaF9
import Derived.Deep.QuietTactic
import Derived.BigQuiet
namespace Go.Proofs.Ytdlnofjmonpmgaa
open Go.RowKit
set_option linter.unusedVariables false
set_option maxRecDepth 8000 in
set_option maxHeartbeats 8000000 in
theorem groupsApart_walk (a:Int) (wa:(Lit.int .i64 a).wf = true) (b:Int) (wb:(Lit.int .i64 b).wf = true) (l:List Pc) (vl:Value) (w:World) (hl:SlOf w 7 RPc vl l) (hp:∀ p ∈ l,PcF p) :
  Calls Try.prog 3 #[.int .i64 a,.int .i64 b,vl] w fun e w' => e = .returned (.bool true)∧Below w.heap.size w w':=by
 obtain ⟨a0,a1⟩:=bounds_i64 wa
 obtain ⟨b0,b1⟩:=bounds_i64 wb
 have HMA:=machine_any a b w a0 a1 b0 b1
 have hm0:=machine_bd a
 have hm1:=machine_bd b
 generalize 2 + pickedOf a 9 = m0 at *
 generalize 2 + pickedOf b 9 = m1 at *
 have HM:Hid ((2 ≤ m0∧m0 ≤ 10)∧2 ≤ m1∧m1 ≤ 10):=⟨hm0,hm1⟩
 have HL:Hid (SlOf w 7 RPc vl l):=hl
 have HP:Hid (∀ p ∈ l,PcOk p∧-9223372036854775808 ≤ p.kind∧p.kind ≤ 9223372036854775807):=hp
 clear wa wb hl hp hm0 hm1
 go_enter Try.func3,Try.ntmps3
 go_upto_region 2 with (go_at_call 7; refine HMA.mono ?_; rintro e w1 ⟨rfl,hb1⟩)
 obtain ⟨W1,hW1⟩:∃ W1,W1 = w1.alloc (.cells #[.int .i64 m0,.int .i64 m1] 25):=⟨_,rfl⟩
 have r1:W1.rowIs w1.heap.size 25 2 (fun q => if q = 0 then .int .i64 m0 else .int .i64 m1):=by
  rw [hW1]
  exact World.rowIs_alloc w1 #[.int .i64 m0,.int .i64 m1] 25 _ fun i hi => by
   simp at hi
   match i,hi with | 0,_ => rfl | 1,_ => rfl
 have HB0:Hid (Below w.heap.size w W1):=by
  show Below _ _ _
  rw [hW1]
  exact hb1.alloc hb1.size _
 rw [← hW1]
 clear hW1 HMA hb1
 obtain ⟨X,hX⟩:∃ X,w1.heap.size = X:=⟨_,rfl⟩
 rw [hX] at r1
 rw [hX]
 have f0:W1.cell? ⟨X,0,none⟩ = some (.int .i64 m0):=r1.cell (i:=0) (by omega)
 have f1:W1.cell? ⟨X,1,none⟩ = some (.int .i64 m1):=r1.cell (i:=1) (by omega)
 have lX:=r1.lt
 clear hX r1
 have HFN:=ma_func m0 m1 l vl W1 HM.out.1 HM.out.2 (HL.out.below HB0.out fun _ _ h => h) HP.out
 go_wp2_with fail
 refine HFN.mono ?_
 clear HFN
 rintro e w2 ⟨vv,vb,rfl,hv2,hb2,hbw2⟩
 obtain ⟨av,cv,rfl,lv⟩:=hv2.out
 obtain ⟨ab,cb,rfl,lb⟩:=hb2.out
 have HF:Hid (shapeErr (masonM m0 m1 l) m0 m1 = 0):=mason_shape m0 m1 HM.out.1 HM.out.2 l
 have HFL0:Hid (flowE (masonM m0 m1 l) m0 m1 ((masonM m0 m1 l).blocks.length * (masonM m0 m1 l).blocks.length + 1) = 0):=mason_flow m0 m1 HM.out.1 HM.out.2 l
 generalize hf:masonM m0 m1 l = f at *
 clear hf
 have f0':w2.cell? ⟨X,0,none⟩ = some (.int .i64 m0):=(hbw2.cell (p:=⟨X,0,none⟩) lX).trans f0
 have f1':w2.cell? ⟨X,1,none⟩ = some (.int .i64 m1):=(hbw2.cell (p:=⟨X,1,none⟩) lX).trans f1
 have lX':X < w2.heap.size:=Nat.lt_of_lt_of_le lX hbw2.size
 have HB2:Hid (Below w.heap.size w w2):=HB0.out.trans (hbw2.mono HB0.out.size)
 have HV2:Hid (SlOf w2 1 RInt (.slice av f.values.length cv) f.values):=hv2
 have HBL2:Hid (SlOf w2 3 (RBlk w2) (.slice ab f.blocks.length cb) f.blocks):=hb2
 unfold longest at lv lb
 clear f0 f1 lX HB0 hbw2 hv2 hb2
 generalize hnv:f.values.length = nv at *
 generalize hnb:f.blocks.length = nb at *
 have HNV:Hid (f.values.length = nv):=hnv
 have HNB:Hid (f.blocks.length = nb):=hnb
 clear hnv hnb
 have HFL:Hid (flowE f m0 m1 (nb * nb + 1) = 0):=HFL0
 clear HFL0
 go_upto_region 3 with fail
 obtain ⟨W,hW⟩:∃ W,W = w2.alloc (.cells #[.slice av nv cv,.slice ab nb cb] 30):=⟨_,rfl⟩
 obtain ⟨Y,hY⟩:∃ Y,w2.heap.size = Y:=⟨_,rfl⟩
 have rY:W.rowIs Y 30 2 (fun q => if q = 0 then .slice av nv cv else .slice ab nb cb):=by
  rw [hW,← hY]
  exact World.rowIs_alloc w2 #[.slice av nv cv,.slice ab nb cb] 30 _ fun i hi => by
   simp at hi
   match i,hi with | 0,_ => rfl | 1,_ => rfl
 have hbW:Below w2.heap.size w2 W:=by rw [hW]; exact (Below.refl _ _).alloc (Nat.le_refl _) _
 have g0:W.cell? ⟨Y,0,none⟩ = some (.slice av nv cv):=rY.cell (i:=0) (by omega)
 have g1:W.cell? ⟨Y,1,none⟩ = some (.slice ab nb cb):=rY.cell (i:=1) (by omega)
 have lY:=rY.lt
 have f0:W.cell? ⟨X,0,none⟩ = some (.int .i64 m0):=(hbW.cell (p:=⟨X,0,none⟩) lX').trans f0'
 have f1:W.cell? ⟨X,1,none⟩ = some (.int .i64 m1):=(hbW.cell (p:=⟨X,1,none⟩) lX').trans f1'
 have lX:X < W.heap.size:=Nat.lt_of_lt_of_le lX' hbW.size
 have HB:Hid (Below w.heap.size w W):=HB2.out.trans (hbW.mono HB2.out.size)
 have HV:Hid (SlOf W 1 RInt (.slice av nv cv) f.values):=HV2.out.below hbW fun _ _ h => h
 have HBL:Hid (SlOf W 3 (RBlk W) (.slice ab nb cb) f.blocks):=HBL2.out.below hbW (RBlk.below hbW)
 rw [← hW,hY]
 clear hW hY rY hbW f0' f1' lX' HB2 HV2 HBL2
 have HGR:=groups_any f nv nb m0 m1 av ab cv cb HFL.out HNV.out HNB.out W HV.out HBL.out
 go_wp2_with fail
 refine HGR.mono ?_
 clear HGR
 rintro e w3 ⟨L,I,O,rfl,hrl,htold,hgi,hLl,hb3⟩
 have f0:=(hb3.cell (p:=⟨X,0,none⟩) lX).trans f0
 have f1:=(hb3.cell (p:=⟨X,1,none⟩) lX).trans f1
 have g0:=(hb3.cell (p:=⟨Y,0,none⟩) lY).trans g0
 have g1:=(hb3.cell (p:=⟨Y,1,none⟩) lY).trans g1
 have lY3:Y < w3.heap.size:=Nat.lt_of_lt_of_le lY hb3.size
 have HV3:Hid (SlOf w3 1 RInt (.slice av nv cv) f.values):=HV.out.below hb3 fun _ _ h => h
 have HBL3:Hid (SlOf w3 3 (RBlk w3) (.slice ab nb cb) f.blocks):=HBL.out.below hb3 (RBlk.below hb3)
 have HD:=spans_any f nv nb m0 m1 av ab cv cb HFL.out HNV.out HNB.out w3 HV3.out HBL3.out
 go_wp2_with fail
 refine HD.mono ?_
 clear HD
 rintro e w4 ⟨R,vs,I',O',rfl,hps,htold',hRl,hb4⟩
 rw [spansM_told htold' htold nb] at hps
 obtain ⟨S,hS⟩:∃ S,spansM f.blocks nv I O nb = S:=⟨_,rfl⟩
 obtain ⟨q,hq⟩:∃ q,groupsM nv S f.blocks = q:=⟨_,rfl⟩
 have hlen:∀ v,(S v).length ≤ 16:=fun v => by
  have h:=spansM_len f.blocks nv I O v nb
  have hnb16:=(shape_in (flowE_all (show flowE f m0 m1 (f.blocks.length * f.blocks.length + 1) = 0 by rw [HNB.out]; exact HFL.out)).1).nb
  rw [HNB.out] at hnb16
  rw [← hS]
  omega
 rw [hS] at hps hgi hrl
 rw [hq] at hgi hrl
 have HQ:Hid ((∀ v,v < nv → q v ≤ v∧q (q v) = q v)∧∀ v u,v < nv → u < nv → v ≠ u → q v = q u → meetL (S v) (S u) = false∧f.values.getD v 0 = f.values.getD u 0):=by
  obtain ⟨T,hT⟩:=hgi
  refine ⟨fun v hv => ⟨hT.le v hv,hT.idem v hv⟩,fun v u hv hu hne he => ⟨hT.alone v u hv hu hne he,?_⟩⟩
  have hsh:=(flowE_all (show flowE f m0 m1 (f.blocks.length * f.blocks.length + 1) = 0 by rw [HNB.out]; exact HFL.out)).1
  have h:=groups_cls hsh S
  rw [HNV.out,hq] at h
  have h1:f.values.getD (q v) 0 = f.values.getD v 0:=h.one v hv
  have h2:f.values.getD (q u) 0 = f.values.getD u 0:=h.one u hu
  rw [← h1,← h2,he]
 have lR:=hps.row.lt
 have lL:L < w4.heap.size:=Nat.lt_of_lt_of_le hrl.lt hb4.size
 have lY4:Y < w4.heap.size:=Nat.lt_of_lt_of_le lY3 hb4.size
 have HV4:Hid (SlOf w4 1 RInt (.slice av nv cv) f.values):=HV3.out.below hb4 fun _ _ h => h
 have HLC:Hid (∀ w',Below w4.heap.size w4 w' → ∀ v,v < nv → w'.cell? ⟨L,v,none⟩ = some (.int .i64 (q v:Nat))):=fun w' hh v hv => (hh.cell (p:=⟨L,v,none⟩) lL).trans ((hb4.cell (p:=⟨L,v,none⟩) hrl.lt).trans (hrl.cell hv))
 have HRC:Hid (∀ w',Below w4.heap.size w4 w' → ∀ v,v < nv → ∃ a c,w'.cell? ⟨R,v,none⟩ = some (.slice a (S v).length c)∧SlOf w' 2 RSn (.slice a (S v).length c) (S v)):=fun w' hh v hv => by
  obtain ⟨a,c,e,hsl⟩:=hps.spans v hv (by have:=hlen v; omega)
  exact ⟨a,c,((hh.cell (p:=⟨R,v,none⟩) lR).trans (hps.row.cell hv)).trans (by rw [e]),hsl.below hh fun _ _ h => h⟩
 have HYC:Hid (∀ w',Below w4.heap.size w4 w' → w'.cell? ⟨Y,0,none⟩ = some (.slice av nv cv)):=fun w' hh => (hh.cell (p:=⟨Y,0,none⟩) lY4).trans ((hb4.cell (p:=⟨Y,0,none⟩) lY3).trans g0)
 have y0:=HYC.out w4 (Below.refl _ _)
 have HLEN:Hid (∀ v,(S v).length ≤ 16):=hlen
 have HB4:Hid (Below w.heap.size w w4):=HB.out.trans ((hb3.trans (hb4.mono hb3.size)).mono HB.out.size)
 clear hps htold htold' hb3 hb4 hRl hLl hrl hgi hS hq hlen f0 f1 g0 g1 lX lY lY3 lY4 lR lL HV HBL HV3 HBL3 HB HM
 --CUT1
 go_wp2_with fail
 clear y0
 go_loopw [56] (fun i wr => ∃ v:Nat,v ≤ nv∧i = .int .i64 v∧Hid (Below w4.heap.size w4 wr)) (fun i _ => nv - (intOf i).toNat)
 case atStart => exact ⟨0,Nat.zero_le _,rfl,Below.refl _ _⟩
 case round =>
  obtain ⟨v,hv,rfl,HBR⟩:=hrel
  by_cases hvl:v < nv
  ·have z0:=HLC.out wr HBR.out v hvl
   have hqv:=HQ.out.1 v hvl
   have z1:=HLC.out wr HBR.out (q v) (by omega)
   rw [hqv.2] at z1
   obtain ⟨g,hg⟩:∃ g,q v = g:=⟨_,rfl⟩
   rw [hg] at z0 z1 hqv
   have HG:Hid (q v = g):=hg
   have e1:decide ((g:Int) > (v:Int)) = false:=by simp; omega
   have e2:¬ ((v:Int) < (g:Int)):=by omega
   have e3:¬ ((g:Int) < 0):=by omega
   have e4:(g:Int) < (nv:Int):=by omega
   have e5:(v:Int) < (nv:Int):=by omega
   have e6:g < nv + 1:=by omega
   have e7:v < nv + 1:=by omega
   have e8:¬ v < g:=by omega
   have HVL:Hid (v < nv):=hvl
   clear hg hqv
   go_upto_region 10 with fail
   go_quiet (fail)
   have HB1:Hid (Below w4.heap.size w4 (wr.drewN nq)):=below_drwN HBR.out _
   clear HBR z0 z1 e1 e2 e3 e4 e6 e8
   go_wp2_with fail
   go_loopw [14] (fun i wr => ∃ u:Nat,u ≤ v∧i = .int .i64 u∧Hid (Below w4.heap.size w4 wr)) (fun i _ => v - (intOf i).toNat)
   case atStart => exact ⟨0,Nat.zero_le _,rfl,HB1⟩
   case round =>
    clear HB1
    obtain ⟨u,hu,rfl,HBR⟩:=hrel
    by_cases hul:u < v
    ·have hun:u < nv:=by omega
     have x0:=HLC.out wr HBR.out v HVL.out
     have x1:=HLC.out wr HBR.out u hun
     rw [HG.out] at x0
     have d1:(u:Int) < (nv:Int):=by omega
     have d2:u < nv + 1:=by omega
     have d3:(u:Int) < (v:Int):=by omega
     by_cases hgu:q u = g
     ·rw [hgu] at x1
      obtain ⟨hme,hcl⟩:=HQ.out.2 v u HVL.out hun (by omega) (by rw [HG.out,hgu])
      obtain ⟨a1,c1,r1,s1⟩:=HRC.out wr HBR.out v HVL.out
      obtain ⟨a2,c2,r2,s2⟩:=HRC.out wr HBR.out u hun
      have y0:=HYC.out wr HBR.out
      have hv4:=HV4.out.below HBR.out fun _ _ h => h
      obtain ⟨bv,ov,rfl,lb,k1⟩:=int_at hv4 v (by rw [HNV.out]; exact HVL.out)
      obtain ⟨bv',ov',hbb,_,k2⟩:=int_at hv4 u (by rw [HNV.out]; exact hun)
      simp only [Option.some.injEq,Addr.mk.injEq] at hbb
      obtain ⟨rfl,rfl,_⟩:=hbb
      have hv1:f.values[v]'(by rw [HNV.out]; exact HVL.out) = f.values.getD v 0:=by rw [List.getD_eq_getElem?_getD,List.getElem?_eq_getElem (by rw [HNV.out]; exact HVL.out),Option.getD_some]
      have hv2:f.values[u]'(by rw [HNV.out]; exact hun) = f.values.getD u 0:=by rw [List.getD_eq_getElem?_getD,List.getElem?_eq_getElem (by rw [HNV.out]; exact hun),Option.getD_some]
      rw [hv1] at k1
      rw [hv2,← hcl] at k2
      obtain ⟨c,hc⟩:∃ c,f.values.getD v 0 = c:=⟨_,rfl⟩
      rw [hc] at k1 k2
      obtain ⟨n1,hn1⟩:∃ n,(S v).length = n:=⟨_,rfl⟩
      obtain ⟨n2,hn2⟩:∃ n,(S u).length = n:=⟨_,rfl⟩
      rw [hn1] at r1 s1
      rw [hn2] at r2 s2
      have hdr:Below wr.heap.size wr wr.drew:=(Below.refl _ _).drew
      have HMT:=meetS_any a1 a2 n1 n2 c1 c2 (S v) (S u) wr.drew (s1.below hdr fun _ _ h => h) (s2.below hdr fun _ _ h => h) hn1 hn2 (by have:=HLEN.out v; omega) (by have:=HLEN.out u; omega)
      rw [hme] at HMT
      have lLr:L < wr.heap.size:=block_lt x0
      have lRr:R < wr.heap.size:=block_lt r1
      have lYr:Y < wr.heap.size:=block_lt y0
      have HSF:Hid (∀ w',Below wr.heap.size wr w' → (fun w' => w'.cell? ⟨L,v,none⟩ = some (.int .i64 (g:Int))∧w'.cell? ⟨L,u,none⟩ = some (.int .i64 (g:Int))∧w'.cell? ⟨Y,0,none⟩ = some (.slice (some ⟨bv,ov,none⟩) nv cv)∧w'.cell? ⟨bv,ov + v,none⟩ = some (.int .i64 c)∧w'.cell? ⟨bv,ov + u,none⟩ = some (.int .i64 c)∧w'.cell? ⟨R,v,none⟩ = some (.slice a1 n1 c1)∧w'.cell? ⟨R,u,none⟩ = some (.slice a2 n2 c2)) w'):=fun w' hh => ⟨(hh.cell (p:=⟨L,v,none⟩) lLr).trans x0,(hh.cell (p:=⟨L,u,none⟩) lLr).trans x1,(hh.cell (p:=⟨Y,0,none⟩) lYr).trans y0,(hh.cell (p:=⟨bv,ov + v,none⟩) lb).trans k1,(hh.cell (p:=⟨bv,ov + u,none⟩) lb).trans k2,(hh.cell (p:=⟨R,v,none⟩) lRr).trans r1,(hh.cell (p:=⟨R,u,none⟩) lRr).trans r2⟩
      have q1:((g:Int) == (g:Int)) = true:=by simp
      have q2:(!((c:Int) == (c:Int))) = false:=by simp
      clear x0 x1 hme hcl s1 s2 y0 hv4 lb k1 k2 hv1 hv2 hc hn1 hn2 r1 r2 hdr lLr lRr lYr hgu
      go_upto_region 15 with fail
      --CUT2
      refine wp_region_X (fun w' => w'.cell? ⟨L,v,none⟩ = some (.int .i64 (g:Int))∧w'.cell? ⟨L,u,none⟩ = some (.int .i64 (g:Int))∧w'.cell? ⟨Y,0,none⟩ = some (.slice (some ⟨bv,ov,none⟩) nv cv)∧w'.cell? ⟨bv,ov + v,none⟩ = some (.int .i64 c)∧w'.cell? ⟨bv,ov + u,none⟩ = some (.int .i64 c)∧w'.cell? ⟨R,v,none⟩ = some (.slice a1 n1 c1)∧w'.cell? ⟨R,u,none⟩ = some (.slice a2 n2 c2)) 99 (by kernel_rfl) (HSF.out _ ((Below.refl _ _).drew)) (fun hHeld => ?_)
      refine wpXt (v:=?_) 0 rfl (by kernel_rfl) (fun _ _ _ h => h) (by rfl) ?_ hHeld ?_
      rotate_left
      ·intro w' hSw
       go_simp <;> with_reducible rfl
      try simp only [Act.put,sqa,sqb,sqc]
      refine wpXt (v:=?_) 1 rfl (by kernel_rfl) (fun _ _ _ h => h) (by rfl) ?_ hHeld ?_
      rotate_left
      ·intro w' hSw
       go_simp <;> with_reducible rfl
      try simp only [Act.put,sqa,sqb,sqc]
      refine wpXt (v:=?_) 2 rfl (by kernel_rfl) (fun _ _ _ h => h) (by rfl) ?_ hHeld ?_
      rotate_left
      ·intro w' hSw
       go_simp <;> with_reducible rfl
      try simp only [Act.put,sqa,sqb,sqc]
      refine wpXt (v:=?_) 3 rfl (by kernel_rfl) (fun _ _ _ h => h) (by rfl) ?_ hHeld ?_
      rotate_left
      ·intro w' hSw
       go_simp <;> with_reducible rfl
      try simp only [Act.put,sqa,sqb,sqc]
      refine wpXt (v:=?_) 4 rfl (by kernel_rfl) (fun _ _ _ h => h) (by rfl) ?_ hHeld ?_
      rotate_left
      ·intro w' hSw
       go_simp <;> with_reducible rfl
      try simp only [Act.put,sqa,sqb,sqc]
      refine wpXt (v:=?_) 5 rfl (by kernel_rfl) (fun _ _ _ h => h) (by rfl) ?_ hHeld ?_
      rotate_left
      ·intro w' hSw
       go_simp <;> with_reducible rfl
      try simp only [Act.put,sqa,sqb,sqc]
      refine wpXt (v:=?_) 6 rfl (by kernel_rfl) (fun _ _ _ h => h) (by rfl) ?_ hHeld ?_
      rotate_left
      ·intro w' hSw
       go_simp <;> with_reducible rfl
      try simp only [Act.put,sqa,sqb,sqc]
      refine wpXt (v:=?_) 7 rfl (by kernel_rfl) (fun _ _ _ h => h) (by rfl) ?_ hHeld ?_
      rotate_left
      ·intro w' hSw
       go_simp <;> with_reducible rfl
      try simp only [Act.put,sqa,sqb,sqc]
      refine wpXt (v:=?_) 8 rfl (by kernel_rfl) (fun _ _ _ h => h) (by rfl) ?_ hHeld ?_
      rotate_left
      ·intro w' hSw
       go_simp <;> with_reducible rfl
      try simp only [Act.put,sqa,sqb,sqc]
      refine wpXt (v:=?_) 9 rfl (by kernel_rfl) (fun _ _ _ h => h) (by rfl) ?_ hHeld ?_
      rotate_left
      ·intro w' hSw
       go_simp <;> with_reducible rfl
      try simp only [Act.put,sqa,sqb,sqc]
      refine wpXt (v:=?_) 10 rfl (by kernel_rfl) (fun _ _ _ h => h) (by rfl) ?_ hHeld ?_
      rotate_left
      ·intro w' hSw
       go_simp <;> with_reducible rfl
      try simp only [Act.put,sqa,sqb,sqc]
      refine wpXt (v:=?_) 11 rfl (by kernel_rfl) (fun _ _ _ h => h) (by rfl) ?_ hHeld ?_
      rotate_left
      ·intro w' hSw
       go_simp <;> with_reducible rfl
      try simp only [Act.put,sqa,sqb,sqc]
      refine wpXt (v:=?_) 12 rfl (by kernel_rfl) (fun _ _ _ h => h) (by rfl) ?_ hHeld ?_
      rotate_left
      ·intro w' hSw
       go_simp <;> with_reducible rfl
      try simp only [Act.put,sqa,sqb,sqc]
      refine wpXt (v:=?_) 13 rfl (by kernel_rfl) (fun _ _ _ h => h) (by rfl) ?_ hHeld ?_
      rotate_left
      ·intro w' hSw
       go_simp <;> with_reducible rfl
      try simp only [Act.put,sqa,sqb,sqc]
      refine wpXt (v:=?_) 14 rfl (by kernel_rfl) (fun _ _ _ h => h) (by rfl) ?_ hHeld ?_
      rotate_left
      ·intro w' hSw
       go_simp <;> with_reducible rfl
      try simp only [Act.put,sqa,sqb,sqc]
      refine wpXt (v:=?_) 15 rfl (by kernel_rfl) (fun _ _ _ h => h) (by rfl) ?_ hHeld ?_
      rotate_left
      ·intro w' hSw
       go_simp <;> with_reducible rfl
      try simp only [Act.put,sqa,sqb,sqc]
      refine wpXt (v:=?_) 16 rfl (by kernel_rfl) (fun _ _ _ h => h) (by rfl) ?_ hHeld ?_
      rotate_left
      ·intro w' hSw
       go_simp <;> with_reducible rfl
      try simp only [Act.put,sqa,sqb,sqc]
      refine wpXt (v:=?_) 17 rfl (by kernel_rfl) (fun _ _ _ h => h) (by rfl) ?_ hHeld ?_
      rotate_left
      ·intro w' hSw
       go_simp <;> with_reducible rfl
      try simp only [Act.put,sqa,sqb,sqc]
      refine wpXt (v:=?_) 18 rfl (by kernel_rfl) (fun _ _ _ h => h) (by rfl) ?_ hHeld ?_
      rotate_left
      ·intro w' hSw
       go_simp <;> with_reducible rfl
      try simp only [Act.put,sqa,sqb,sqc]
      refine wpXt (v:=?_) 19 rfl (by kernel_rfl) (fun _ _ _ h => h) (by rfl) ?_ hHeld ?_
      rotate_left
      ·intro w' hSw
       go_simp <;> with_reducible rfl
      try simp only [Act.put,sqa,sqb,sqc]
      refine wpXt (v:=?_) 20 rfl (by kernel_rfl) (fun _ _ _ h => h) (by rfl) ?_ hHeld ?_
      rotate_left
      ·intro w' hSw
       go_simp <;> with_reducible rfl
      try simp only [Act.put,sqa,sqb,sqc]
      refine wpXt (v:=?_) 21 rfl (by kernel_rfl) (fun _ _ _ h => h) (by rfl) ?_ hHeld ?_
      rotate_left
      ·intro w' hSw
       go_simp <;> with_reducible rfl
      try simp only [Act.put,sqa,sqb,sqc]
      refine wpXt (v:=?_) 22 rfl (by kernel_rfl) (fun _ _ _ h => h) (by rfl) ?_ hHeld ?_
      rotate_left
      ·intro w' hSw
       go_simp <;> with_reducible rfl
      try simp only [Act.put,sqa,sqb,sqc]
      refine wpXt (v:=?_) 23 rfl (by kernel_rfl) (fun _ _ _ h => h) (by rfl) ?_ hHeld ?_
      rotate_left
      ·intro w' hSw
       go_simp <;> with_reducible rfl
      try simp only [Act.put,sqa,sqb,sqc]
      refine wpXt (v:=?_) 24 rfl (by kernel_rfl) (fun _ _ _ h => h) (by rfl) ?_ hHeld ?_
      rotate_left
      ·intro w' hSw
       go_simp <;> with_reducible rfl
      try simp only [Act.put,sqa,sqb,sqc]
      refine wpXt (v:=?_) 25 rfl (by kernel_rfl) (fun _ _ _ h => h) (by rfl) ?_ hHeld ?_
      rotate_left
      ·intro w' hSw
       go_simp <;> with_reducible rfl
      try simp only [Act.put,sqa,sqb,sqc]
      refine wpXt (v:=?_) 26 rfl (by kernel_rfl) (fun _ _ _ h => h) (by rfl) ?_ hHeld ?_
      rotate_left
      ·intro w' hSw
       go_simp <;> with_reducible rfl
      try simp only [Act.put,sqa,sqb,sqc]
      refine wpXt (v:=?_) 27 rfl (by kernel_rfl) (fun _ _ _ h => h) (by rfl) ?_ hHeld ?_
      rotate_left
      ·intro w' hSw
       go_simp <;> with_reducible rfl
      try simp only [Act.put,sqa,sqb,sqc]
      refine wpXt (v:=?_) 28 rfl (by kernel_rfl) (fun _ _ _ h => h) (by rfl) ?_ hHeld ?_
      rotate_left
      ·intro w' hSw
       go_simp <;> with_reducible rfl
      try simp only [Act.put,sqa,sqb,sqc]
      refine wpXt (v:=?_) 29 rfl (by kernel_rfl) (fun _ _ _ h => h) (by rfl) ?_ hHeld ?_
      rotate_left
      ·intro w' hSw
       go_simp <;> with_reducible rfl
      try simp only [Act.put,sqa,sqb,sqc]
      refine wpXs 30 rfl (by kernel_rfl) (fun K hK => ?_)
      go_simp
      refine HMT.mono ?_
      clear HMT
      rintro e w9 ⟨rfl,hb9⟩
      refine hK.out _ _ (HSF.out _ (((Below.refl wr.heap.size wr).drew).trans hb9)) (fun hHeld => ?_)
      clear hK K
      try simp only [Act.put,sqa,sqb,sqc]
      refine wpXt (v:=?_) 31 rfl (by kernel_rfl) (fun _ _ _ h => h) (by rfl) ?_ hHeld ?_
      rotate_left
      ·intro w' hSw
       go_simp <;> with_reducible rfl
      try simp only [Act.put,sqa,sqb,sqc]
      refine wpXs 32 rfl (by kernel_rfl) (fun K hK => ?_)
      go_simp
      refine hK.out _ _ hHeld (fun hHeld => ?_)
      clear hK K
      try simp only [Act.put,sqa,sqb,sqc]
      refine wpAnyX_done (by kernel_rfl) ?_ _
      have HN:Hid (Below w4.heap.size w4 w9):=HBR.out.trans ((Below.refl wr.heap.size wr).drew.trans hb9 |>.mono (HBR.out.size))
      clear hb9 HSF
      go_wp2
      go_roundw
      case rel => exact ⟨u + 1,by omega,by go_num,HN⟩
      case measure => simp [intOf]; omega
     ·obtain ⟨g2,hg2⟩:∃ g2,q u = g2:=⟨_,rfl⟩
      rw [hg2] at x1 hgu
      have q1:((g:Int) == (g2:Int)) = false:=by simp; omega
      have q2:¬ ((g:Int) = (g2:Int)):=by omega
      have q3:¬ g = g2:=by omega
      clear hg2 hgu
      go_upto_region 15 with fail
      go_quiet (fail)
      go_wp2
      go_roundw
      case rel => exact ⟨u + 1,by omega,by go_num,below_drwN HBR.out _⟩
      case measure => simp [intOf]; omega
    ·have HN:Hid (Below w4.heap.size w4 wr):=HBR.out
     clear HBR
     go_wp2
     go_roundw
     case rel => exact ⟨v + 1,by omega,by go_num,HN⟩
     case measure => simp [intOf]; omega
  ·have HE:Hid (Below w.heap.size w wr):=HB4.out.trans (HBR.out.mono HB4.out.size)
   clear HBR
   go_wp2
   go_ret
   exact ⟨rfl,HE.out⟩
end Go.Proofs.Ytdlnofjmonpmgaa
