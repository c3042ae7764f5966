/-
  The walk of GroupsAll: a param and its arg are of two groups just if those are needed at once somewhere.
-/
import Derived.Test.YtdlnofjmonpmgaaG11
import Derived.Test.YtdlnofjmonpmgaaF9
import Derived.Deep.QuietTactic
import Derived.BigQuiet
namespace Go.Proofs.Ytdlnofjmonpmgaa
open Go.RowKit
set_option linter.unusedVariables false
set_option maxRecDepth 8000 in
set_option maxHeartbeats 8000000 in
theorem groupsAll_walk (a:Int) (wa:(Lit.int .i64 a).wf = true) (b:Int) (wb:(Lit.int .i64 b).wf = true) (l:List Pc) (vl:Value) (w:World) (hl:SlOf w 7 RPc vl l) (hp:∀ p ∈ l,PcF p) :
  Calls Try.prog 4 #[.int .i64 a,.int .i64 b,vl] w fun e w' => e = .returned (.bool true)∧Below w.heap.size w w':=by
 obtain ⟨a0,a1⟩:=bounds_i64 wa
 obtain ⟨b0,b1⟩:=bounds_i64 wb
 have HMA:=machine_any a b w a0 a1 b0 b1
 have hm0:=machine_bd a
 have hm1:=machine_bd b
 generalize 2 + pickedOf a 9 = m0 at *
 generalize 2 + pickedOf b 9 = m1 at *
 have HM:Hid ((2 ≤ m0∧m0 ≤ 10)∧2 ≤ m1∧m1 ≤ 10):=⟨hm0,hm1⟩
 have HL:Hid (SlOf w 7 RPc vl l):=hl
 have HP:Hid (∀ p ∈ l,PcOk p∧-9223372036854775808 ≤ p.kind∧p.kind ≤ 9223372036854775807):=hp
 clear wa wb hl hp hm0 hm1
 go_enter Try.func4,Try.ntmps4
 go_upto_region 2 with (go_at_call 7; refine HMA.mono ?_; rintro e w1 ⟨rfl,hb1⟩)
 obtain ⟨W1,hW1⟩:∃ W1,W1 = w1.alloc (.cells #[.int .i64 m0,.int .i64 m1] 25):=⟨_,rfl⟩
 have r1:W1.rowIs w1.heap.size 25 2 (fun q => if q = 0 then .int .i64 m0 else .int .i64 m1):=by
  rw [hW1]
  exact World.rowIs_alloc w1 #[.int .i64 m0,.int .i64 m1] 25 _ fun i hi => by
   simp at hi
   match i,hi with | 0,_ => rfl | 1,_ => rfl
 have HB0:Hid (Below w.heap.size w W1):=by
  show Below _ _ _
  rw [hW1]
  exact hb1.alloc hb1.size _
 rw [← hW1]
 clear hW1 HMA hb1
 obtain ⟨X,hX⟩:∃ X,w1.heap.size = X:=⟨_,rfl⟩
 rw [hX] at r1
 rw [hX]
 have f0:W1.cell? ⟨X,0,none⟩ = some (.int .i64 m0):=r1.cell (i:=0) (by omega)
 have f1:W1.cell? ⟨X,1,none⟩ = some (.int .i64 m1):=r1.cell (i:=1) (by omega)
 have lX:=r1.lt
 clear hX r1
 have HFN:=ma_func m0 m1 l vl W1 HM.out.1 HM.out.2 (HL.out.below HB0.out fun _ _ h => h) HP.out
 go_wp2_with fail
 refine HFN.mono ?_
 clear HFN
 rintro e w2 ⟨vv,vb,rfl,hv2,hb2,hbw2⟩
 obtain ⟨av,cv,rfl,lv⟩:=hv2.out
 obtain ⟨ab,cb,rfl,lb⟩:=hb2.out
 have HF:Hid (shapeErr (masonM m0 m1 l) m0 m1 = 0):=mason_shape m0 m1 HM.out.1 HM.out.2 l
 have HFL0:Hid (flowE (masonM m0 m1 l) m0 m1 ((masonM m0 m1 l).blocks.length * (masonM m0 m1 l).blocks.length + 1) = 0):=mason_flow m0 m1 HM.out.1 HM.out.2 l
 generalize hf:masonM m0 m1 l = f at *
 clear hf
 have f0':w2.cell? ⟨X,0,none⟩ = some (.int .i64 m0):=(hbw2.cell (p:=⟨X,0,none⟩) lX).trans f0
 have f1':w2.cell? ⟨X,1,none⟩ = some (.int .i64 m1):=(hbw2.cell (p:=⟨X,1,none⟩) lX).trans f1
 have lX':X < w2.heap.size:=Nat.lt_of_lt_of_le lX hbw2.size
 have HB2:Hid (Below w.heap.size w w2):=HB0.out.trans (hbw2.mono HB0.out.size)
 have HV2:Hid (SlOf w2 1 RInt (.slice av f.values.length cv) f.values):=hv2
 have HBL2:Hid (SlOf w2 3 (RBlk w2) (.slice ab f.blocks.length cb) f.blocks):=hb2
 unfold longest at lv lb
 clear f0 f1 lX HB0 hbw2 hv2 hb2
 generalize hnv:f.values.length = nv at *
 generalize hnb:f.blocks.length = nb at *
 have HNV:Hid (f.values.length = nv):=hnv
 have HNB:Hid (f.blocks.length = nb):=hnb
 clear hnv hnb
 have HFL:Hid (flowE f m0 m1 (nb * nb + 1) = 0):=HFL0
 clear HFL0
 go_upto_region 3 with fail
 obtain ⟨W,hW⟩:∃ W,W = w2.alloc (.cells #[.slice av nv cv,.slice ab nb cb] 30):=⟨_,rfl⟩
 obtain ⟨Y,hY⟩:∃ Y,w2.heap.size = Y:=⟨_,rfl⟩
 have rY:W.rowIs Y 30 2 (fun q => if q = 0 then .slice av nv cv else .slice ab nb cb):=by
  rw [hW,← hY]
  exact World.rowIs_alloc w2 #[.slice av nv cv,.slice ab nb cb] 30 _ fun i hi => by
   simp at hi
   match i,hi with | 0,_ => rfl | 1,_ => rfl
 have hbW:Below w2.heap.size w2 W:=by rw [hW]; exact (Below.refl _ _).alloc (Nat.le_refl _) _
 have g0:W.cell? ⟨Y,0,none⟩ = some (.slice av nv cv):=rY.cell (i:=0) (by omega)
 have g1:W.cell? ⟨Y,1,none⟩ = some (.slice ab nb cb):=rY.cell (i:=1) (by omega)
 have lY:=rY.lt
 have f0:W.cell? ⟨X,0,none⟩ = some (.int .i64 m0):=(hbW.cell (p:=⟨X,0,none⟩) lX').trans f0'
 have f1:W.cell? ⟨X,1,none⟩ = some (.int .i64 m1):=(hbW.cell (p:=⟨X,1,none⟩) lX').trans f1'
 have lX:X < W.heap.size:=Nat.lt_of_lt_of_le lX' hbW.size
 have HB:Hid (Below w.heap.size w W):=HB2.out.trans (hbW.mono HB2.out.size)
 have HV:Hid (SlOf W 1 RInt (.slice av nv cv) f.values):=HV2.out.below hbW fun _ _ h => h
 have HBL:Hid (SlOf W 3 (RBlk W) (.slice ab nb cb) f.blocks):=HBL2.out.below hbW (RBlk.below hbW)
 rw [← hW,hY]
 clear hW hY rY hbW f0' f1' lX' HB2 HV2 HBL2
 have HGR:=groups_any f nv nb m0 m1 av ab cv cb HFL.out HNV.out HNB.out W HV.out HBL.out
 go_wp2_with fail
 refine HGR.mono ?_
 clear HGR
 rintro e w3 ⟨L,I,O,rfl,hrl,htold,hgi,hLl,hb3⟩
 have f0:=(hb3.cell (p:=⟨X,0,none⟩) lX).trans f0
 have f1:=(hb3.cell (p:=⟨X,1,none⟩) lX).trans f1
 have g0:=(hb3.cell (p:=⟨Y,0,none⟩) lY).trans g0
 have g1:=(hb3.cell (p:=⟨Y,1,none⟩) lY).trans g1
 have lY3:Y < w3.heap.size:=Nat.lt_of_lt_of_le lY hb3.size
 have HV3:Hid (SlOf w3 1 RInt (.slice av nv cv) f.values):=HV.out.below hb3 fun _ _ h => h
 have HBL3:Hid (SlOf w3 3 (RBlk w3) (.slice ab nb cb) f.blocks):=HBL.out.below hb3 (RBlk.below hb3)
 have HD:=spans_any f nv nb m0 m1 av ab cv cb HFL.out HNV.out HNB.out w3 HV3.out HBL3.out
 go_wp2_with fail
 refine HD.mono ?_
 clear HD
 rintro e w4 ⟨R,vs,I',O',rfl,hps,htold',hRl,hb4⟩
 rw [spansM_told htold' htold nb] at hps
 obtain ⟨S,hS⟩:∃ S,spansM f.blocks nv I O nb = S:=⟨_,rfl⟩
 obtain ⟨q,hq⟩:∃ q,groupsM nv S f.blocks = q:=⟨_,rfl⟩
 have hlen:∀ v,(S v).length ≤ 16:=fun v => by
  have h:=spansM_len f.blocks nv I O v nb
  have hnb16:=(shape_in (flowE_all (show flowE f m0 m1 (f.blocks.length * f.blocks.length + 1) = 0 by rw [HNB.out]; exact HFL.out)).1).nb
  rw [HNB.out] at hnb16
  rw [← hS]
  omega
 rw [hS] at hps hgi hrl
 rw [hq] at hgi hrl
 have HQ:Hid (∀ {b:Blk},b ∈ f.blocks → ∀ {e:Edg},e ∈ b.edges → ∀ {y:Int × Int},y ∈ (blkA f.blocks e.block.toNat).params.zip e.args → q y.1.toNat = q y.2.toNat ∨ grMeet nv S q (q y.1.toNat) (q y.2.toNat)):=by
  intro b hb e he y hy
  have h:=groups_done nv S f.blocks hb he hy
  rw [hq] at h
  exact h
 have HLE:Hid (∀ v,v < nv → q v < nv):=by
  obtain ⟨T,hT⟩:=hgi
  exact fun v hv => Nat.lt_of_le_of_lt (hT.le v hv) hv
 have hsh:=(flowE_all (show flowE f m0 m1 (f.blocks.length * f.blocks.length + 1) = 0 by rw [HNB.out]; exact HFL.out)).1
 have hGI0:=grIn_of hsh
 rw [HNV.out] at hGI0
 have HGI:Hid (GrIn nv f.blocks):=hGI0
 have HFB:Hid (∀ b ∈ f.blocks,blkFits b = true):=(shape_in hsh).fits
 have hn16:nb ≤ 16:=by have:=(shape_in hsh).nb; rw [HNB.out] at this; omega
 have hnv160:nv ≤ 160:=by have:=(shape_in hsh).nv; rw [HNV.out] at this; omega
 clear hGI0 hsh
 have lR:=hps.row.lt
 have lL:L < w4.heap.size:=Nat.lt_of_lt_of_le hrl.lt hb4.size
 have lY4:Y < w4.heap.size:=Nat.lt_of_lt_of_le lY3 hb4.size
 have HV4:Hid (SlOf w4 1 RInt (.slice av nv cv) f.values):=HV3.out.below hb4 fun _ _ h => h
 have HLC:Hid (∀ w',Below w4.heap.size w4 w' → ∀ v,v < nv → w'.cell? ⟨L,v,none⟩ = some (.int .i64 (q v:Nat))):=fun w' hh v hv => (hh.cell (p:=⟨L,v,none⟩) lL).trans ((hb4.cell (p:=⟨L,v,none⟩) hrl.lt).trans (hrl.cell hv))
 have HRC:Hid (∀ w',Below w4.heap.size w4 w' → ∀ v,v < nv → ∃ a c,w'.cell? ⟨R,v,none⟩ = some (.slice a (S v).length c)∧SlOf w' 2 RSn (.slice a (S v).length c) (S v)):=fun w' hh v hv => by
  obtain ⟨a,c,e,hsl⟩:=hps.spans v hv (by have:=hlen v; omega)
  exact ⟨a,c,((hh.cell (p:=⟨R,v,none⟩) lR).trans (hps.row.cell hv)).trans (by rw [e]),hsl.below hh fun _ _ h => h⟩
 have HYC:Hid (∀ w',Below w4.heap.size w4 w' → w'.cell? ⟨Y,0,none⟩ = some (.slice av nv cv)):=fun w' hh => (hh.cell (p:=⟨Y,0,none⟩) lY4).trans ((hb4.cell (p:=⟨Y,0,none⟩) lY3).trans g0)
 have y0:=HYC.out w4 (Below.refl _ _)
 have HLEN:Hid (∀ v,(S v).length ≤ 16):=hlen
 have HB4:Hid (Below w.heap.size w w4):=HB.out.trans ((hb3.trans (hb4.mono hb3.size)).mono HB.out.size)
 have HBL4:Hid (SlOf w4 3 (RBlk w4) (.slice ab nb cb) f.blocks):=HBL3.out.below hb4 (RBlk.below hb4)
 have HY1:Hid (∀ w',Below w4.heap.size w4 w' → w'.cell? ⟨Y,1,none⟩ = some (.slice ab nb cb)):=fun w' hh => (hh.cell (p:=⟨Y,1,none⟩) lY4).trans ((hb4.cell (p:=⟨Y,1,none⟩) lY3).trans g1)
 have y1:=HY1.out w4 (Below.refl _ _)
 clear hps htold htold' hb3 hb4 hRl hLl hrl hgi hS hq hlen f0 f1 g0 g1 lX lY lY3 lY4 lR lL HV HBL HV3 HBL3 HB HM
 --CUT1
 go_wp2_with fail
 clear y0 y1
 go_loopw [64] (fun i wr => ∃ k:Nat,k ≤ nb∧i = .int .i64 k∧Hid (Below w4.heap.size w4 wr)) (fun i _ => nb - (intOf i).toNat)
 case atStart => exact ⟨0,Nat.zero_le _,rfl,Below.refl _ _⟩
 case round =>
  obtain ⟨k,hk,rfl,HBR⟩:=hrel
  by_cases hkn:k < nb
  ·have hkl:k < f.blocks.length:=by have:=HNB.out; omega
   obtain ⟨bb,ob,ap,cp,ai,ci,ae,ce,rfl,lbb,c0,c1,c2,sp,si,se⟩:=blk_atG HBL4.out k hkl
   obtain ⟨x,hx⟩:∃ x,f.blocks[k] = x:=⟨_,rfl⟩
   have hxm:x ∈ f.blocks:=by rw [← hx]; exact List.getElem_mem hkl
   rw [hx] at c0 c1 c2 sp si se
   obtain ⟨np,hnp⟩:∃ n,x.params.length = n:=⟨_,rfl⟩
   obtain ⟨ni,hni⟩:∃ n,x.instrs.length = n:=⟨_,rfl⟩
   obtain ⟨ne,hne⟩:∃ n,x.edges.length = n:=⟨_,rfl⟩
   rw [hnp] at c0
   rw [hni] at c1
   rw [hne] at c2 se
   have hfit:=HFB.out x hxm
   have hne3:ne ≤ 3:=by
    unfold blkFits at hfit
    simp only [Bool.and_eq_true,decide_eq_true_eq] at hfit
    omega
   have y0:=(HBR.out.cell (p:=⟨bb,ob + k * 3,none⟩) lbb).trans c0
   have y1:=(HBR.out.cell (p:=⟨bb,ob + k * 3 + 1,none⟩) lbb).trans c1
   have y2:=(HBR.out.cell (p:=⟨bb,ob + k * 3 + 2,none⟩) lbb).trans c2
   obtain ⟨W6,hW6⟩:∃ W6,W6 = wr.alloc (.cells #[.slice ap np cp,.slice ai ni ci,.slice ae ne ce] 44):=⟨_,rfl⟩
   obtain ⟨B6,hB6⟩:∃ B,wr.heap.size = B:=⟨_,rfl⟩
   have t2:W6.cell? ⟨B6,2,none⟩ = some (.slice ae ne ce):=by rw [hW6,← hB6]; simp
   have HB6:Hid (Below w4.heap.size w4 W6):=by show Below _ _ _; rw [hW6]; exact HBR.out.alloc HBR.out.size _
   have HW6:Hid (W6 = wr.alloc (.cells #[.slice ap np cp,.slice ai ni ci,.slice ae ne ce] 44)∧wr.heap.size = B6):=⟨hW6,hB6⟩
   have HX6:Hid (x ∈ f.blocks∧SlOf w4 2 (REdg w4) (.slice ae ne ce) x.edges∧x.edges.length = ne):=⟨hxm,se,hne⟩
   have d1:(k:Int) < (nb:Int):=by omega
   have d2:k < nb + 1:=by omega
   clear hkl lbb c0 c1 c2 sp si se hx hxm hnp hni hne hfit hW6 hB6 HBR
   go_upto_region 10 with fail
   rw [← HW6.out.1,HW6.out.2]
   clear HW6 y0 y1 y2
   go_wp2_with fail
   clear t2
   go_loopw [71] (fun i wr => ∃ j:Nat,j ≤ ne∧i = .int .i64 j∧Hid (Below w4.heap.size w4 wr)) (fun i _ => ne - (intOf i).toNat)
   case atStart => exact ⟨0,Nat.zero_le _,rfl,HB6⟩
   case round =>
    clear HB6
    obtain ⟨j,hj,rfl,HBR⟩:=hrel
    by_cases hjn:j < ne
    ·have hjl:j < x.edges.length:=by have:=HX6.out.2.2; omega
     obtain ⟨be,oe,aa,ca,rfl,lbe,e0,e1,sa⟩:=edg_atG HX6.out.2.1 j hjl
     obtain ⟨y,hy⟩:∃ y,x.edges[j] = y:=⟨_,rfl⟩
     have hym:y ∈ x.edges:=by rw [← hy]; exact List.getElem_mem hjl
     rw [hy] at e0 e1 sa
     have hed:=HGI.out.edg x HX6.out.1 y hym
     obtain ⟨t,ht⟩:∃ t:Nat,y.block = t:=⟨y.block.toNat,by omega⟩
     have htl:t < f.blocks.length:=by omega
     have HZ0:∀ z ∈ (blkA f.blocks t).params.zip y.args,q z.1.toNat = q z.2.toNat ∨ grMeet nv S q (q z.1.toNat) (q z.2.toNat):=fun z hz => HQ.out HX6.out.1 hym (by rw [ht,Int.toNat_natCast]; exact hz)
     rw [ht,Int.toNat_natCast] at hed
     rw [ht] at e0
     have eB:blkA f.blocks t = f.blocks[t]:=by unfold blkA; rw [List.getD_eq_getElem?_getD,List.getElem?_eq_getElem htl,Option.getD_some]
     obtain ⟨bb',ob',ap',cp',ai',ci',ae',ce',hbb,_,m0',m1',m2',sp',si',se'⟩:=blk_atG HBL4.out t htl
     simp only [Option.some.injEq,Addr.mk.injEq] at hbb
     obtain ⟨rfl,rfl,_⟩:=hbb
     rw [eB] at hed HZ0
     obtain ⟨ps,hps⟩:∃ ps,f.blocks[t].params = ps:=⟨_,rfl⟩
     rw [hps] at m0' sp' hed HZ0
     have hpv:∀ v ∈ ps,0 ≤ v∧v < (nv:Int):=by rw [← hps]; exact HGI.out.par _ (List.getElem_mem htl)
     have hp5:ps.length ≤ 5:=by
      have h:=HFB.out _ (List.getElem_mem htl)
      unfold blkFits at h
      simp only [Bool.and_eq_true,decide_eq_true_eq] at h
      rw [← hps]
      omega
     obtain ⟨gs,hgs⟩:∃ gs,y.args = gs:=⟨_,rfl⟩
     rw [hgs] at e1 sa hed HZ0
     obtain ⟨na,hna⟩:∃ n,gs.length = n:=⟨_,rfl⟩
     have hnp:ps.length = na:=by omega
     rw [hna] at e1 sa
     rw [hnp] at m0' sp' hp5
     have y0:=(HBR.out.cell (p:=⟨be,oe + j * 2,none⟩) lbe).trans e0
     have y1:=(HBR.out.cell (p:=⟨be,oe + j * 2 + 1,none⟩) lbe).trans e1
     have lbb:=block_lt m0'
     obtain ⟨W8,hW8⟩:∃ W8,W8 = wr.alloc (.cells #[.int .i64 (t:Int),.slice aa na ca] 46):=⟨_,rfl⟩
     obtain ⟨B8,hB8⟩:∃ B,wr.heap.size = B:=⟨_,rfl⟩
     have hb8:Below w4.heap.size w4 W8:=by rw [hW8]; exact HBR.out.alloc HBR.out.size _
     have u0:W8.cell? ⟨B8,0,none⟩ = some (.int .i64 (t:Int)):=by rw [hW8,← hB8]; simp
     have u1:W8.cell? ⟨B8,1,none⟩ = some (.slice aa na ca):=by rw [hW8,← hB8]; simp
     have lB8:B8 < W8.heap.size:=by rw [hW8,← hB8]; simp
     have x2:=HY1.out W8 hb8
     have x3:=(hb8.cell (p:=⟨bb,ob + t * 3,none⟩) lbb).trans m0'
     have HW8:Hid (W8 = wr.alloc (.cells #[.int .i64 (t:Int),.slice aa na ca] 46)∧wr.heap.size = B8):=⟨hW8,hB8⟩
     have H8:Hid (Below w4.heap.size w4 W8∧W8.cell? ⟨B8,1,none⟩ = some (.slice aa na ca)∧B8 < W8.heap.size∧SlOf w4 1 RInt (.slice ap' na cp') ps∧SlOf w4 1 RInt (.slice aa na ca) gs∧ps.length = na∧gs.length = na∧(∀ v ∈ ps,0 ≤ v∧v < (nv:Int))∧(∀ v ∈ gs,0 ≤ v∧v < (nv:Int))∧∀ z ∈ ps.zip gs,q z.1.toNat = q z.2.toNat ∨ grMeet nv S q (q z.1.toNat) (q z.2.toNat)):=⟨hb8,u1,lB8,sp',sa,hnp,hna,hpv,hed.2.2.1,HZ0⟩
     have d3:(j:Int) < (ne:Int):=by omega
     have d4:j < ne + 1:=by omega
     have htn:t < nb:=by have:=HNB.out; omega
     have d5:(t:Int) < (nb:Int):=by omega
     have d6:t < nb + 1:=by omega
     clear m1' m2' si' se' sp' m0' e0 e1 sa hy hym hed ht eB hps hpv hna hnp hW8 hB8 hb8 lbe lbb hjl HZ0 HBR lB8 u1 hgs
     go_upto_region 13 with fail
     --CUT2
     rw [← HW8.out.1,HW8.out.2]
     clear HW8 y0 y1
     go_wp2_with fail
     clear x2 x3 u0
     go_loopw [83] (fun i wr => ∃ r:Nat,r ≤ na∧i = .int .i64 r∧Hid (Below W8.heap.size W8 wr)) (fun i _ => na - (intOf i).toNat)
     case atStart => exact ⟨0,Nat.zero_le _,rfl,Below.refl _ _⟩
     case round =>
      obtain ⟨r,hr,rfl,HBR⟩:=hrel
      have HB4r:Hid (Below w4.heap.size w4 wr):=H8.out.1.trans (HBR.out.mono H8.out.1.size)
      by_cases hrn:r < na
      ·have h1:r < ps.length:=by have:=H8.out.2.2.2.2.2.1; omega
       have h2:r < gs.length:=by have:=H8.out.2.2.2.2.2.2.1; omega
       obtain ⟨b1,o1,rfl,l1,p1⟩:=int_at H8.out.2.2.2.1 r h1
       obtain ⟨b2,o2,rfl,l2,p2⟩:=int_at H8.out.2.2.2.2.1 r h2
       obtain ⟨p,hp,hpn⟩:∃ p:Nat,ps[r] = p∧p < nv:=by have:=H8.out.2.2.2.2.2.2.2.1 ps[r] (List.getElem_mem h1); exact ⟨ps[r].toNat,by omega,by omega⟩
       obtain ⟨u,hu,hun⟩:∃ u:Nat,gs[r] = u∧u < nv:=by have:=H8.out.2.2.2.2.2.2.2.2.1 gs[r] (List.getElem_mem h2); exact ⟨gs[r].toNat,by omega,by omega⟩
       have hz:=H8.out.2.2.2.2.2.2.2.2.2 (ps[r],gs[r]) (by
        have h3:(ps.zip gs)[r]'(by rw [List.length_zip]; omega) = (ps[r],gs[r]):=List.getElem_zip
        rw [← h3]
        exact List.getElem_mem _)
       simp only [hp,hu,Int.toNat_natCast] at hz
       rw [hp] at p1
       rw [hu] at p2
       have z1:=(HB4r.out.cell (p:=⟨b1,o1 + r,none⟩) l1).trans p1
       have z2:=(HB4r.out.cell (p:=⟨b2,o2 + r,none⟩) l2).trans p2
       have z3:=(HBR.out.cell (p:=⟨B8,1,none⟩) H8.out.2.2.1).trans H8.out.2.1
       have z4:=HLC.out wr HB4r.out p hpn
       have z5:=HLC.out wr HB4r.out u hun
       obtain ⟨gp,hgp⟩:∃ g,q p = g:=⟨_,rfl⟩
       obtain ⟨ga,hga⟩:∃ g,q u = g:=⟨_,rfl⟩
       rw [hgp] at z4 hz
       rw [hga] at z5 hz
       have d7:(r:Int) < (na:Int):=by omega
       have d8:r < na + 1:=by omega
       have d9:(p:Int) < (nv:Int):=by omega
       have d10:p < nv + 1:=by omega
       have d11:(u:Int) < (nv:Int):=by omega
       have d12:u < nv + 1:=by omega
       have HPU:Hid (q p = gp∧q u = ga∧w4.cell? ⟨b2,o2 + r,none⟩ = some (.int .i64 (u:Int))∧b2 < w4.heap.size∧p < nv∧u < nv):=⟨hgp,hga,p2,l2,hpn,hun⟩
       have HZ:Hid (gp = ga ∨ grMeet nv S q gp ga):=hz
       clear h1 h2 l1 p1 l2 p2 hp hu hz hgp hga hpn hun
       by_cases hpa:gp = ga
       ·have q1:((gp:Int) == (ga:Int)) = true:=by simp; omega
        subst hpa
        go_upto_region 16 with fail
        go_quiet (fail)
        go_wp2
        go_roundw
        case rel => exact ⟨r + 1,by omega,by go_num,below_drwN HBR.out _⟩
        case measure => simp [intOf]; omega
       ·have q1:((gp:Int) == (ga:Int)) = false:=by simp; omega
        have q2:¬ ((gp:Int) = (ga:Int)):=by omega
        go_upto_region 16 with fail
        go_quiet (fail)
        have HB0:Hid (Below W8.heap.size W8 (wr.drewN nq)):=below_drwN HBR.out _
        have HM:Hid (grMeet nv S q gp ga):=HZ.out.resolve_left hpa
        clear HBR HB4r z1 z2 z3 z4 z5 q1 q2 HZ
        go_wp2_with fail
        --CUT3
        go_loopw [19,103] (fun s i wr => ∃ (v:Nat) (b:Bool),s = .bool b∧v ≤ nv∧i = .int .i64 v∧Hid (Below W8.heap.size W8 wr∧(b = true ↔ ∃ v' w',v' < v∧w' < nv∧q v' = gp∧q w' = ga∧meetL (S v') (S w') = true))) (fun _ i _ => nv - (intOf i).toNat)
        case atStart => exact ⟨0,false,rfl,Nat.zero_le _,rfl,HB0.out,⟨fun h => (by cases h),fun ⟨_,_,h,_⟩ => absurd h (Nat.not_lt_zero _)⟩⟩
        case round =>
         clear HB0
         obtain ⟨v,b,rfl,hv,rfl,HJ⟩:=hrel
         by_cases hvn:v < nv
         ·go_wp2_with fail
          go_loopw [19,108] (fun s i wr => ∃ (x:Nat) (b:Bool),s = .bool b∧x ≤ nv∧i = .int .i64 x∧Hid (Below W8.heap.size W8 wr∧(b = true ↔ ((∃ v' w',v' < v∧w' < nv∧q v' = gp∧q w' = ga∧meetL (S v') (S w') = true) ∨ ∃ w',w' < x∧q v = gp∧q w' = ga∧meetL (S v) (S w') = true)))) (fun _ i _ => nv - (intOf i).toNat)
          case atStart => exact ⟨0,b,rfl,Nat.zero_le _,rfl,HJ.out.1,⟨fun h => Or.inl (HJ.out.2.1 h),fun h => h.elim HJ.out.2.2 fun ⟨_,h,_⟩ => absurd h (Nat.not_lt_zero _)⟩⟩
          case round =>
           clear HJ
           obtain ⟨x,b,rfl,hx,rfl,HJ⟩:=hrel
           by_cases hxn:x < nv
           ·--CUT4
            have HB4r:Hid (Below w4.heap.size w4 wr):=H8.out.1.trans (HJ.out.1.mono H8.out.1.size)
            have z2:=(HB4r.out.cell (p:=⟨b2,o2 + r,none⟩) HPU.out.2.2.2.1).trans HPU.out.2.2.1
            have z3:=(HJ.out.1.cell (p:=⟨B8,1,none⟩) H8.out.2.2.1).trans H8.out.2.1
            have z4:=HLC.out wr HB4r.out p HPU.out.2.2.2.2.1
            have z5:=HLC.out wr HB4r.out u HPU.out.2.2.2.2.2
            have z6:=HLC.out wr HB4r.out v hvn
            have z7:=HLC.out wr HB4r.out x hxn
            rw [HPU.out.1] at z4
            rw [HPU.out.2.1] at z5
            have e1:(v:Int) < (nv:Int):=by omega
            have e2:v < nv + 1:=by omega
            have e3:(x:Int) < (nv:Int):=by omega
            have e4:x < nv + 1:=by omega
            have HSTEP:∀ b':Bool,(b' = true ↔ (b = true ∨ (q v = gp∧q x = ga∧meetL (S v) (S x) = true))) → (b' = true ↔ ((∃ v' w',v' < v∧w' < nv∧q v' = gp∧q w' = ga∧meetL (S v') (S w') = true) ∨ ∃ w',w' < x + 1∧q v = gp∧q w' = ga∧meetL (S v) (S w') = true)):=fun b' hb' => by
             rw [hb',HJ.out.2]
             constructor
             ·rintro ((h | ⟨c,h1,h2⟩) | h)
              ·exact Or.inl h
              ·exact Or.inr ⟨c,by omega,h2⟩
              ·exact Or.inr ⟨x,by omega,h⟩
             ·rintro (h | ⟨c,h1,h2⟩)
              ·exact Or.inl (Or.inl h)
              ·by_cases e:c = x
               ·subst e; exact Or.inr h2
               ·exact Or.inl (Or.inr ⟨c,by omega,h2⟩)
            have HST:Hid (∀ b':Bool,(b' = true ↔ (b = true ∨ (q v = gp∧q x = ga∧meetL (S v) (S x) = true))) → (b' = true ↔ ((∃ v' w',v' < v∧w' < nv∧q v' = gp∧q w' = ga∧meetL (S v') (S w') = true) ∨ ∃ w',w' < x + 1∧q v = gp∧q w' = ga∧meetL (S v) (S w') = true))):=HSTEP
            have HJ1:Hid (Below W8.heap.size W8 wr):=HJ.out.1
            clear HSTEP HJ
            cases b
            ·obtain ⟨g1,hg1⟩:∃ g,q v = g:=⟨_,rfl⟩
             obtain ⟨g2,hg2⟩:∃ g,q x = g:=⟨_,rfl⟩
             rw [hg1] at z6
             rw [hg2] at z7
             have HG:Hid (q v = g1∧q x = g2):=⟨hg1,hg2⟩
             clear hg1 hg2
             by_cases h1:g1 = gp
             ·by_cases h2:g2 = ga
              ·subst h1 h2
               obtain ⟨a1,c1,r1,s1⟩:=HRC.out wr HB4r.out v hvn
               obtain ⟨a2,c2,r2,s2⟩:=HRC.out wr HB4r.out x hxn
               obtain ⟨n1,hn1⟩:∃ n,(S v).length = n:=⟨_,rfl⟩
               obtain ⟨n2,hn2⟩:∃ n,(S x).length = n:=⟨_,rfl⟩
               rw [hn1] at r1 s1
               rw [hn2] at r2 s2
               have hdr:Below wr.heap.size wr wr.drew:=(Below.refl _ _).drew
               have HMT:=meetS_any a1 a2 n1 n2 c1 c2 (S v) (S x) wr.drew (s1.below hdr fun _ _ h => h) (s2.below hdr fun _ _ h => h) hn1 hn2 (by have:=HLEN.out v; omega) (by have:=HLEN.out x; omega)
               obtain ⟨bm,hbm⟩:∃ bm,meetL (S v) (S x) = bm:=⟨_,rfl⟩
               rw [hbm] at HMT
               have HBM:Hid (meetL (S v) (S x) = bm):=hbm
               have lL:L < wr.heap.size:=block_lt z4
               have lR':R < wr.heap.size:=block_lt r1
               have lB:B8 < wr.heap.size:=block_lt z3
               have lb2:b2 < wr.heap.size:=block_lt z2
               have HSF:Hid (∀ w',Below wr.heap.size wr w' → (fun w' => w'.cell? ⟨L,v,none⟩ = some (.int .i64 (g1:Int))∧w'.cell? ⟨L,p,none⟩ = some (.int .i64 (g1:Int))∧w'.cell? ⟨L,x,none⟩ = some (.int .i64 (g2:Int))∧w'.cell? ⟨B8,1,none⟩ = some (.slice (some ⟨b2,o2,none⟩) na ca)∧w'.cell? ⟨b2,o2 + r,none⟩ = some (.int .i64 (u:Int))∧w'.cell? ⟨L,u,none⟩ = some (.int .i64 (g2:Int))∧w'.cell? ⟨R,v,none⟩ = some (.slice a1 n1 c1)∧w'.cell? ⟨R,x,none⟩ = some (.slice a2 n2 c2)) w'):=fun w' hh => ⟨(hh.cell (p:=⟨L,v,none⟩) lL).trans z6,(hh.cell (p:=⟨L,p,none⟩) lL).trans z4,(hh.cell (p:=⟨L,x,none⟩) lL).trans z7,(hh.cell (p:=⟨B8,1,none⟩) lB).trans z3,(hh.cell (p:=⟨b2,o2 + r,none⟩) lb2).trans z2,(hh.cell (p:=⟨L,u,none⟩) lL).trans z5,(hh.cell (p:=⟨R,v,none⟩) lR').trans r1,(hh.cell (p:=⟨R,x,none⟩) lR').trans r2⟩
               clear hbm s1 s2 hn1 hn2 r1 r2 hdr lL lR' lB lb2 z2 z3 z4 z5 z6 z7
               go_upto_region 24 with fail
               --CUT5
               refine wp_region_X (fun w' => w'.cell? ⟨L,v,none⟩ = some (.int .i64 (g1:Int))∧w'.cell? ⟨L,p,none⟩ = some (.int .i64 (g1:Int))∧w'.cell? ⟨L,x,none⟩ = some (.int .i64 (g2:Int))∧w'.cell? ⟨B8,1,none⟩ = some (.slice (some ⟨b2,o2,none⟩) na ca)∧w'.cell? ⟨b2,o2 + r,none⟩ = some (.int .i64 (u:Int))∧w'.cell? ⟨L,u,none⟩ = some (.int .i64 (g2:Int))∧w'.cell? ⟨R,v,none⟩ = some (.slice a1 n1 c1)∧w'.cell? ⟨R,x,none⟩ = some (.slice a2 n2 c2)) 99 (by kernel_rfl) (HSF.out _ ((Below.refl _ _).drew)) (fun hHeld => ?_)
               refine wpXt (v:=?_) 0 rfl (by kernel_rfl) (fun _ _ _ h => h) (by rfl) ?_ hHeld ?_
               rotate_left
               ·intro w' hSw
                go_simp <;> with_reducible rfl
               try simp only [Act.put,sqa,sqb,sqc]
               refine wpXt (v:=?_) 1 rfl (by kernel_rfl) (fun _ _ _ h => h) (by rfl) ?_ hHeld ?_
               rotate_left
               ·intro w' hSw
                go_simp <;> with_reducible rfl
               try simp only [Act.put,sqa,sqb,sqc]
               refine wpXt (v:=?_) 2 rfl (by kernel_rfl) (fun _ _ _ h => h) (by rfl) ?_ hHeld ?_
               rotate_left
               ·intro w' hSw
                go_simp <;> with_reducible rfl
               try simp only [Act.put,sqa,sqb,sqc]
               refine wpXt (v:=?_) 3 rfl (by kernel_rfl) (fun _ _ _ h => h) (by rfl) ?_ hHeld ?_
               rotate_left
               ·intro w' hSw
                go_simp <;> with_reducible rfl
               try simp only [Act.put,sqa,sqb,sqc]
               refine wpXt (v:=?_) 4 rfl (by kernel_rfl) (fun _ _ _ h => h) (by rfl) ?_ hHeld ?_
               rotate_left
               ·intro w' hSw
                go_simp <;> with_reducible rfl
               try simp only [Act.put,sqa,sqb,sqc]
               refine wpXt (v:=?_) 5 rfl (by kernel_rfl) (fun _ _ _ h => h) (by rfl) ?_ hHeld ?_
               rotate_left
               ·intro w' hSw
                go_simp <;> with_reducible rfl
               try simp only [Act.put,sqa,sqb,sqc]
               refine wpXt (v:=?_) 6 rfl (by kernel_rfl) (fun _ _ _ h => h) (by rfl) ?_ hHeld ?_
               rotate_left
               ·intro w' hSw
                go_simp <;> with_reducible rfl
               try simp only [Act.put,sqa,sqb,sqc]
               refine wpXt (v:=?_) 7 rfl (by kernel_rfl) (fun _ _ _ h => h) (by rfl) ?_ hHeld ?_
               rotate_left
               ·intro w' hSw
                go_simp <;> with_reducible rfl
               try simp only [Act.put,sqa,sqb,sqc]
               refine wpXt (v:=?_) 8 rfl (by kernel_rfl) (fun _ _ _ h => h) (by rfl) ?_ hHeld ?_
               rotate_left
               ·intro w' hSw
                go_simp <;> with_reducible rfl
               try simp only [Act.put,sqa,sqb,sqc]
               refine wpXt (v:=?_) 9 rfl (by kernel_rfl) (fun _ _ _ h => h) (by rfl) ?_ hHeld ?_
               rotate_left
               ·intro w' hSw
                go_simp <;> with_reducible rfl
               try simp only [Act.put,sqa,sqb,sqc]
               refine wpXt (v:=?_) 10 rfl (by kernel_rfl) (fun _ _ _ h => h) (by rfl) ?_ hHeld ?_
               rotate_left
               ·intro w' hSw
                go_simp <;> with_reducible rfl
               try simp only [Act.put,sqa,sqb,sqc]
               refine wpXt (v:=?_) 11 rfl (by kernel_rfl) (fun _ _ _ h => h) (by rfl) ?_ hHeld ?_
               rotate_left
               ·intro w' hSw
                go_simp <;> with_reducible rfl
               try simp only [Act.put,sqa,sqb,sqc]
               refine wpXt (v:=?_) 12 rfl (by kernel_rfl) (fun _ _ _ h => h) (by rfl) ?_ hHeld ?_
               rotate_left
               ·intro w' hSw
                go_simp <;> with_reducible rfl
               try simp only [Act.put,sqa,sqb,sqc]
               refine wpXt (v:=?_) 13 rfl (by kernel_rfl) (fun _ _ _ h => h) (by rfl) ?_ hHeld ?_
               rotate_left
               ·intro w' hSw
                go_simp <;> with_reducible rfl
               try simp only [Act.put,sqa,sqb,sqc]
               refine wpXt (v:=?_) 14 rfl (by kernel_rfl) (fun _ _ _ h => h) (by rfl) ?_ hHeld ?_
               rotate_left
               ·intro w' hSw
                go_simp <;> with_reducible rfl
               try simp only [Act.put,sqa,sqb,sqc]
               refine wpXt (v:=?_) 15 rfl (by kernel_rfl) (fun _ _ _ h => h) (by rfl) ?_ hHeld ?_
               rotate_left
               ·intro w' hSw
                go_simp <;> with_reducible rfl
               try simp only [Act.put,sqa,sqb,sqc]
               refine wpXt (v:=?_) 16 rfl (by kernel_rfl) (fun _ _ _ h => h) (by rfl) ?_ hHeld ?_
               rotate_left
               ·intro w' hSw
                go_simp <;> with_reducible rfl
               try simp only [Act.put,sqa,sqb,sqc]
               refine wpXt (v:=?_) 17 rfl (by kernel_rfl) (fun _ _ _ h => h) (by rfl) ?_ hHeld ?_
               rotate_left
               ·intro w' hSw
                go_simp <;> with_reducible rfl
               try simp only [Act.put,sqa,sqb,sqc]
               refine wpXt (v:=?_) 18 rfl (by kernel_rfl) (fun _ _ _ h => h) (by rfl) ?_ hHeld ?_
               rotate_left
               ·intro w' hSw
                go_simp <;> with_reducible rfl
               try simp only [Act.put,sqa,sqb,sqc]
               refine wpXt (v:=?_) 19 rfl (by kernel_rfl) (fun _ _ _ h => h) (by rfl) ?_ hHeld ?_
               rotate_left
               ·intro w' hSw
                go_simp <;> with_reducible rfl
               try simp only [Act.put,sqa,sqb,sqc]
               refine wpXt (v:=?_) 20 rfl (by kernel_rfl) (fun _ _ _ h => h) (by rfl) ?_ hHeld ?_
               rotate_left
               ·intro w' hSw
                go_simp <;> with_reducible rfl
               try simp only [Act.put,sqa,sqb,sqc]
               refine wpXt (v:=?_) 21 rfl (by kernel_rfl) (fun _ _ _ h => h) (by rfl) ?_ hHeld ?_
               rotate_left
               ·intro w' hSw
                go_simp <;> with_reducible rfl
               try simp only [Act.put,sqa,sqb,sqc]
               refine wpXt (v:=?_) 22 rfl (by kernel_rfl) (fun _ _ _ h => h) (by rfl) ?_ hHeld ?_
               rotate_left
               ·intro w' hSw
                go_simp <;> with_reducible rfl
               try simp only [Act.put,sqa,sqb,sqc]
               refine wpXt (v:=?_) 23 rfl (by kernel_rfl) (fun _ _ _ h => h) (by rfl) ?_ hHeld ?_
               rotate_left
               ·intro w' hSw
                go_simp <;> with_reducible rfl
               try simp only [Act.put,sqa,sqb,sqc]
               refine wpXt (v:=?_) 24 rfl (by kernel_rfl) (fun _ _ _ h => h) (by rfl) ?_ hHeld ?_
               rotate_left
               ·intro w' hSw
                go_simp <;> with_reducible rfl
               try simp only [Act.put,sqa,sqb,sqc]
               refine wpXt (v:=?_) 25 rfl (by kernel_rfl) (fun _ _ _ h => h) (by rfl) ?_ hHeld ?_
               rotate_left
               ·intro w' hSw
                go_simp <;> with_reducible rfl
               try simp only [Act.put,sqa,sqb,sqc]
               refine wpXt (v:=?_) 26 rfl (by kernel_rfl) (fun _ _ _ h => h) (by rfl) ?_ hHeld ?_
               rotate_left
               ·intro w' hSw
                go_simp <;> with_reducible rfl
               try simp only [Act.put,sqa,sqb,sqc]
               refine wpXt (v:=?_) 27 rfl (by kernel_rfl) (fun _ _ _ h => h) (by rfl) ?_ hHeld ?_
               rotate_left
               ·intro w' hSw
                go_simp <;> with_reducible rfl
               try simp only [Act.put,sqa,sqb,sqc]
               refine wpXt (v:=?_) 28 rfl (by kernel_rfl) (fun _ _ _ h => h) (by rfl) ?_ hHeld ?_
               rotate_left
               ·intro w' hSw
                go_simp <;> with_reducible rfl
               try simp only [Act.put,sqa,sqb,sqc]
               refine wpXt (v:=?_) 29 rfl (by kernel_rfl) (fun _ _ _ h => h) (by rfl) ?_ hHeld ?_
               rotate_left
               ·intro w' hSw
                go_simp <;> with_reducible rfl
               try simp only [Act.put,sqa,sqb,sqc]
               refine wpXt (v:=?_) 30 rfl (by kernel_rfl) (fun _ _ _ h => h) (by rfl) ?_ hHeld ?_
               rotate_left
               ·intro w' hSw
                go_simp <;> with_reducible rfl
               try simp only [Act.put,sqa,sqb,sqc]
               refine wpXt (v:=?_) 31 rfl (by kernel_rfl) (fun _ _ _ h => h) (by rfl) ?_ hHeld ?_
               rotate_left
               ·intro w' hSw
                go_simp <;> with_reducible rfl
               try simp only [Act.put,sqa,sqb,sqc]
               refine wpXt (v:=?_) 32 rfl (by kernel_rfl) (fun _ _ _ h => h) (by rfl) ?_ hHeld ?_
               rotate_left
               ·intro w' hSw
                go_simp <;> with_reducible rfl
               try simp only [Act.put,sqa,sqb,sqc]
               refine wpXt (v:=?_) 33 rfl (by kernel_rfl) (fun _ _ _ h => h) (by rfl) ?_ hHeld ?_
               rotate_left
               ·intro w' hSw
                go_simp <;> with_reducible rfl
               try simp only [Act.put,sqa,sqb,sqc]
               refine wpXt (v:=?_) 34 rfl (by kernel_rfl) (fun _ _ _ h => h) (by rfl) ?_ hHeld ?_
               rotate_left
               ·intro w' hSw
                go_simp <;> with_reducible rfl
               try simp only [Act.put,sqa,sqb,sqc]
               refine wpXs 35 rfl (by kernel_rfl) (fun K hK => ?_)
               go_simp
               refine HMT.mono ?_
               clear HMT
               rintro e w9 ⟨rfl,hb9⟩
               refine hK.out _ _ (HSF.out _ (((Below.refl wr.heap.size wr).drew).trans hb9)) (fun hHeld => ?_)
               clear hK K
               try simp only [Act.put,sqa,sqb,sqc]
               refine wpXt (v:=?_) 36 rfl (by kernel_rfl) (fun _ _ _ h => h) (by rfl) ?_ hHeld ?_
               rotate_left
               ·intro w' hSw
                go_simp <;> with_reducible rfl
               try simp only [Act.put,sqa,sqb,sqc]
               refine wpXt (v:=?_) 37 rfl (by kernel_rfl) (fun _ _ _ h => h) (by rfl) ?_ hHeld ?_
               rotate_left
               ·intro w' hSw
                go_simp <;> with_reducible rfl
               try simp only [Act.put,sqa,sqb,sqc]
               refine wpXs 38 rfl (by kernel_rfl) (fun K hK => ?_)
               go_simp
               refine hK.out _ _ hHeld (fun hHeld => ?_)
               clear hK K
               try simp only [Act.put,sqa,sqb,sqc]
               refine wpAnyX_done (by kernel_rfl) ?_ _
               have HN:Hid (Below W8.heap.size W8 w9∧(bm = true ↔ ((∃ v' w',v' < v∧w' < nv∧q v' = g1∧q w' = g2∧meetL (S v') (S w') = true) ∨ ∃ w',w' < x + 1∧q v = g1∧q w' = g2∧meetL (S v) (S w') = true))):=by
                refine ⟨HJ1.out.trans (((Below.refl wr.heap.size wr).drew.trans hb9).mono HJ1.out.size),HST.out bm ?_⟩
                rw [HBM.out]
                exact ⟨fun h => Or.inr ⟨HG.out.1,HG.out.2,h⟩,fun h => h.elim (fun h => (by cases h)) fun h => h.2.2⟩
               clear hb9 HSF HST
               go_wp2
               go_roundw
               case rel => exact ⟨x + 1,bm,rfl,by omega,by go_num,HN⟩
               case measure => simp [intOf]; omega
              ·have k1:((g1:Int) == (gp:Int)) = true:=by simp; omega
               have k2:((g2:Int) == (ga:Int)) = false:=by simp; omega
               have k3:¬ ((g2:Int) = (ga:Int)):=by omega
               have HS:Hid (false = true ↔ ((∃ v' w',v' < v∧w' < nv∧q v' = gp∧q w' = ga∧meetL (S v') (S w') = true) ∨ ∃ w',w' < x + 1∧q v = gp∧q w' = ga∧meetL (S v) (S w') = true)):=HST.out false ⟨fun h => (by cases h),fun h => h.elim (fun h => h) fun h => absurd (HG.out.2.symm.trans h.2.1) h2⟩
               subst h1
               clear HST
               go_upto_region 24 with fail
               go_quiet (fail)
               go_wp2
               go_roundw
               case rel => exact ⟨x + 1,false,rfl,by omega,by go_num,below_drwN HJ1.out _,HS.out⟩
               case measure => simp [intOf]; omega
             ·have k1:((g1:Int) == (gp:Int)) = false:=by simp; omega
              have k3:¬ ((g1:Int) = (gp:Int)):=by omega
              have HS:Hid (false = true ↔ ((∃ v' w',v' < v∧w' < nv∧q v' = gp∧q w' = ga∧meetL (S v') (S w') = true) ∨ ∃ w',w' < x + 1∧q v = gp∧q w' = ga∧meetL (S v) (S w') = true)):=HST.out false ⟨fun h => (by cases h),fun h => h.elim (fun h => h) fun h => absurd (HG.out.1.symm.trans h.1) h1⟩
              clear HST
              go_upto_region 24 with fail
              go_quiet (fail)
              go_wp2
              go_roundw
              case rel => exact ⟨x + 1,false,rfl,by omega,by go_num,below_drwN HJ1.out _,HS.out⟩
              case measure => simp [intOf]; omega
            ·have HS:Hid (true = true ↔ ((∃ v' w',v' < v∧w' < nv∧q v' = gp∧q w' = ga∧meetL (S v') (S w') = true) ∨ ∃ w',w' < x + 1∧q v = gp∧q w' = ga∧meetL (S v) (S w') = true)):=HST.out true ⟨fun h => Or.inl h,fun _ => rfl⟩
             clear HST z2 z3 z4 z5 z6 z7
             go_upto_region 24 with fail
             go_quiet (fail)
             go_wp2
             go_roundw
             case rel => exact ⟨x + 1,true,rfl,by omega,by go_num,below_drwN HJ1.out _,HS.out⟩
             case measure => simp [intOf]; omega
           ·have HN:Hid (Below W8.heap.size W8 wr∧(b = true ↔ ∃ v' w',v' < v + 1∧w' < nv∧q v' = gp∧q w' = ga∧meetL (S v') (S w') = true)):=by
             refine ⟨HJ.out.1,HJ.out.2.trans ⟨?_,?_⟩⟩
             ·rintro (⟨a,c,h1,h2,h3⟩ | ⟨c,h1,h2⟩)
              ·exact ⟨a,c,by omega,h2,h3⟩
              ·exact ⟨v,c,by omega,by omega,h2⟩
             ·rintro ⟨a,c,h1,h2,h3⟩
              by_cases e:a = v
              ·subst e; exact Or.inr ⟨c,by omega,h3⟩
              ·exact Or.inl ⟨a,c,by omega,h2,h3⟩
            clear HJ
            go_wp2
            go_roundw
            case rel => exact ⟨v + 1,b,rfl,by omega,by go_num,HN⟩
            case measure => simp [intOf]; omega
         ·have hbt:b = true:=by
           obtain ⟨a,c,h1,h2,h3,h4,h5⟩:=HM.out
           exact HJ.out.2.2 ⟨a,c,by omega,h2,h3,h4,h5⟩
          have HN:Hid (Below W8.heap.size W8 wr):=HJ.out.1
          subst hbt
          clear HJ
          go_wp2
          go_roundw
          case rel => exact ⟨r + 1,by omega,by go_num,HN⟩
          case measure => simp [intOf]; omega
      ·have HN:Hid (Below w4.heap.size w4 wr):=HB4r.out
       clear HBR HB4r
       go_wp2
       go_roundw
       case rel => exact ⟨j + 1,by omega,by go_num,HN⟩
       case measure => simp [intOf]; omega
    ·have HN:Hid (Below w4.heap.size w4 wr):=HBR.out
     clear HBR
     go_wp2
     go_roundw
     case rel => exact ⟨k + 1,by omega,by go_num,HN⟩
     case measure => simp [intOf]; omega
  ·have HE:Hid (Below w.heap.size w wr):=HB4.out.trans (HBR.out.mono HB4.out.size)
   clear HBR
   go_wp2
   go_ret
   exact ⟨rfl,HE.out⟩
end Go.Proofs.Ytdlnofjmonpmgaa
