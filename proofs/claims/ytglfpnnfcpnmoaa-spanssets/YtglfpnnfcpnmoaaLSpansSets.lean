/-
  The walk of SpansSets: the spans hold a block's ends just where the sets say so.
-/
import Derived.Test.YtglfpnnfcpnmoaaV19
import Derived.Test.YtglfpnnfcpnmoaaF9
import Derived.Test.YtglfpnnfcpnmoaaD2
import Derived.Test.YtglfpnnfcpnmoaaV10
import Derived.Deep.QuietTactic
import Derived.BigQuiet
import Derived.Deep.DeepCutAuto
import Derived.Deep.CutBlock
namespace Go.Proofs.Ytglfpnnfcpnmoaa
open Go.RowKit
set_option linter.unusedVariables false
theorem blk_atH {w:World} {ab:Option Addr} {nb cb:Nat} {bs:List Blk} (h:SlOf w 3 (RBlk w) (.slice ab nb cb) bs) (t:Nat) (ht:t < bs.length):∃ b off ap cp ai ci ae ce,ab = some ⟨b,off,none⟩∧b < w.heap.size∧w.cell? ⟨b,off + t * 3,none⟩ = some (.slice ap bs[t].params.length cp)∧w.cell? ⟨b,off + t * 3 + 1,none⟩ = some (.slice ai bs[t].instrs.length ci)∧w.cell? ⟨b,off + t * 3 + 2,none⟩ = some (.slice ae bs[t].edges.length ce)∧SlOf w 1 RInt (.slice ap bs[t].params.length cp) bs[t].params∧SlOf w 3 (RIns w) (.slice ai bs[t].instrs.length ci) bs[t].instrs∧SlOf w 2 (REdg w) (.slice ae bs[t].edges.length ce) bs[t].edges:=by
 obtain ⟨b,off,cs,h1,h2,⟨vp,vi,ve,rfl,hp,hi,he⟩,h4⟩:=h.at t ht
 obtain ⟨ap,cp,rfl,_⟩:=hp.out
 obtain ⟨ai,ci,rfl,_⟩:=hi.out
 obtain ⟨ae,ce,rfl,_⟩:=he.out
 exact ⟨b,off,ap,cp,ai,ci,ae,ce,h1,block_lt (h4 0 (by simp)),h4 0 (by simp),h4 1 (by simp),h4 2 (by simp),hp,hi,he⟩
theorem start_bdH {bs:List Blk} (h:∀ b ∈ bs,b.instrs.length ≤ 40):∀ k,k ≤ bs.length → startM bs k ≤ 82 * (k:Int)
 | 0,_ => by simp [startM]
 | k + 1,hk => by
  have ih:=start_bdH h k (by omega)
  have h1:=h _ (List.getElem_mem (show k < bs.length by omega))
  rw [startM_succ bs k (by omega)]
  omega
set_option maxRecDepth 8000 in
set_option maxHeartbeats 8000000 in
theorem spansSets_walk (a:Int) (wa:(Lit.int .i64 a).wf = true) (b:Int) (wb:(Lit.int .i64 b).wf = true) (l:List Pc) (vl:Value) (w:World) (hl:SlOf w 7 RPc vl l) (hp:∀ p ∈ l,PcF p) :
  Calls Try.prog 4 #[.int .i64 a,.int .i64 b,vl] w fun e w' => e = .returned (.bool true)∧Below w.heap.size w w':=by
 obtain ⟨a0,a1⟩:=bounds_i64 wa
 obtain ⟨b0,b1⟩:=bounds_i64 wb
 have HMA:=machine_any a b w a0 a1 b0 b1
 have hm0:=machine_bd a
 have hm1:=machine_bd b
 generalize 2 + pickedOf a 9 = m0 at *
 generalize 2 + pickedOf b 9 = m1 at *
 have HM:Hid ((2 ≤ m0∧m0 ≤ 10)∧2 ≤ m1∧m1 ≤ 10):=⟨hm0,hm1⟩
 have HL:Hid (SlOf w 7 RPc vl l):=hl
 have HP:Hid (∀ p ∈ l,PcOk p∧-9223372036854775808 ≤ p.kind∧p.kind ≤ 9223372036854775807):=hp
 clear wa wb hl hp hm0 hm1
 go_enter Try.func4,Try.ntmps4
 go_upto_region 2 with (go_at_call 5; refine HMA.mono ?_; rintro e w1 ⟨rfl,hb1⟩)
 obtain ⟨W1,hW1⟩:∃ W1,W1 = w1.alloc (.cells #[.int .i64 m0,.int .i64 m1] 25):=⟨_,rfl⟩
 have r1:W1.rowIs w1.heap.size 25 2 (fun q => if q = 0 then .int .i64 m0 else .int .i64 m1):=by
  rw [hW1]
  exact World.rowIs_alloc w1 #[.int .i64 m0,.int .i64 m1] 25 _ fun i hi => by
   simp at hi
   match i,hi with | 0,_ => rfl | 1,_ => rfl
 have HB0:Hid (Below w.heap.size w W1):=by
  show Below _ _ _
  rw [hW1]
  exact hb1.alloc hb1.size _
 rw [← hW1]
 clear hW1 HMA hb1
 obtain ⟨X,hX⟩:∃ X,w1.heap.size = X:=⟨_,rfl⟩
 rw [hX] at r1
 rw [hX]
 have f0:W1.cell? ⟨X,0,none⟩ = some (.int .i64 m0):=r1.cell (i:=0) (by omega)
 have f1:W1.cell? ⟨X,1,none⟩ = some (.int .i64 m1):=r1.cell (i:=1) (by omega)
 have lX:=r1.lt
 clear hX r1
 have HFN:=ma_func m0 m1 l vl W1 HM.out.1 HM.out.2 (HL.out.below HB0.out fun _ _ h => h) HP.out
 go_wp2_with fail
 refine HFN.mono ?_
 clear HFN
 rintro e w2 ⟨vv,vb,rfl,hv2,hb2,hbw2⟩
 obtain ⟨av,cv,rfl,lv⟩:=hv2.out
 obtain ⟨ab,cb,rfl,lb⟩:=hb2.out
 have HF:Hid (shapeErr (masonM m0 m1 l) m0 m1 = 0):=mason_shape m0 m1 HM.out.1 HM.out.2 l
 have HFL0:Hid (flowE (masonM m0 m1 l) m0 m1 ((masonM m0 m1 l).blocks.length * (masonM m0 m1 l).blocks.length + 1) = 0):=mason_flow m0 m1 HM.out.1 HM.out.2 l
 generalize hf:masonM m0 m1 l = f at *
 clear hf
 have f0':w2.cell? ⟨X,0,none⟩ = some (.int .i64 m0):=(hbw2.cell (p:=⟨X,0,none⟩) lX).trans f0
 have f1':w2.cell? ⟨X,1,none⟩ = some (.int .i64 m1):=(hbw2.cell (p:=⟨X,1,none⟩) lX).trans f1
 have lX':X < w2.heap.size:=Nat.lt_of_lt_of_le lX hbw2.size
 have HB2:Hid (Below w.heap.size w w2):=HB0.out.trans (hbw2.mono HB0.out.size)
 have HV2:Hid (SlOf w2 1 RInt (.slice av f.values.length cv) f.values):=hv2
 have HBL2:Hid (SlOf w2 3 (RBlk w2) (.slice ab f.blocks.length cb) f.blocks):=hb2
 unfold longest at lv lb
 clear f0 f1 lX HB0 hbw2 hv2 hb2
 generalize hnv:f.values.length = nv at *
 generalize hnb:f.blocks.length = nb at *
 have HNV:Hid (f.values.length = nv):=hnv
 have HNB:Hid (f.blocks.length = nb):=hnb
 clear hnv hnb
 have HFL:Hid (flowE f m0 m1 (nb * nb + 1) = 0):=HFL0
 clear HFL0
 go_upto_region 3 with fail
 obtain ⟨W,hW⟩:∃ W,W = w2.alloc (.cells #[.slice av nv cv,.slice ab nb cb] 30):=⟨_,rfl⟩
 obtain ⟨Y,hY⟩:∃ Y,w2.heap.size = Y:=⟨_,rfl⟩
 have rY:W.rowIs Y 30 2 (fun q => if q = 0 then .slice av nv cv else .slice ab nb cb):=by
  rw [hW,← hY]
  exact World.rowIs_alloc w2 #[.slice av nv cv,.slice ab nb cb] 30 _ fun i hi => by
   simp at hi
   match i,hi with | 0,_ => rfl | 1,_ => rfl
 have hbW:Below w2.heap.size w2 W:=by rw [hW]; exact (Below.refl _ _).alloc (Nat.le_refl _) _
 have g0:W.cell? ⟨Y,0,none⟩ = some (.slice av nv cv):=rY.cell (i:=0) (by omega)
 have g1:W.cell? ⟨Y,1,none⟩ = some (.slice ab nb cb):=rY.cell (i:=1) (by omega)
 have lY:=rY.lt
 have f0:W.cell? ⟨X,0,none⟩ = some (.int .i64 m0):=(hbW.cell (p:=⟨X,0,none⟩) lX').trans f0'
 have f1:W.cell? ⟨X,1,none⟩ = some (.int .i64 m1):=(hbW.cell (p:=⟨X,1,none⟩) lX').trans f1'
 have lX:X < W.heap.size:=Nat.lt_of_lt_of_le lX' hbW.size
 have HB:Hid (Below w.heap.size w W):=HB2.out.trans (hbW.mono HB2.out.size)
 have HV:Hid (SlOf W 1 RInt (.slice av nv cv) f.values):=HV2.out.below hbW fun _ _ h => h
 have HBL:Hid (SlOf W 3 (RBlk W) (.slice ab nb cb) f.blocks):=HBL2.out.below hbW (RBlk.below hbW)
 rw [← hW,hY]
 clear hW hY rY hbW f0' f1' lX' HB2 HV2 HBL2
 have HD:=spans_any f nv nb m0 m1 av ab cv cb HFL.out HNV.out HNB.out W HV.out HBL.out
 go_wp2_with fail
 refine HD.mono ?_
 clear HD
 rintro e w3 ⟨R,vs,I,O,rfl,hps,htold,hRl,hb3⟩
 have f0:=(hb3.cell (p:=⟨X,0,none⟩) lX).trans f0
 have f1:=(hb3.cell (p:=⟨X,1,none⟩) lX).trans f1
 have g0:=(hb3.cell (p:=⟨Y,0,none⟩) lY).trans g0
 have g1:=(hb3.cell (p:=⟨Y,1,none⟩) lY).trans g1
 have lY3:Y < w3.heap.size:=Nat.lt_of_lt_of_le lY hb3.size
 have HV3:Hid (SlOf w3 1 RInt (.slice av nv cv) f.values):=HV.out.below hb3 fun _ _ h => h
 have HBL3:Hid (SlOf w3 3 (RBlk w3) (.slice ab nb cb) f.blocks):=HBL.out.below hb3 (RBlk.below hb3)
 have hE:flowE f m0 m1 (f.blocks.length * f.blocks.length + 1) = 0:=by rw [HNB.out]; exact HFL.out
 have hsh:=(flowE_all hE).1
 have SI:=shape_in hsh
 have hn16:nb ≤ 16:=by have:=SI.nb; rw [HNB.out] at this; omega
 have hnv160:nv ≤ 160:=by have:=SI.nv; rw [HNV.out] at this; omega
 have HTA:Hid (Told3 f.blocks nv I O):=htold
 have HFB:Hid (∀ b ∈ f.blocks,b.params.length ≤ 5∧b.instrs.length ≤ 40∧∀ x ∈ b.instrs,x.operands.length ≤ longest):=fun b hb => by
  have h1:=SI.fits b hb
  unfold blkFits at h1
  simp only [Bool.and_eq_true,decide_eq_true_eq,List.all_eq_true] at h1
  refine ⟨by omega,by omega,fun x hx => ?_⟩
  have h2:=h1.2 x hx
  unfold insFits at h2
  simp only [decide_eq_true_eq] at h2
  unfold longest
  omega
 have HVV:Hid ((∀ b ∈ f.blocks,∀ v ∈ b.params,0 ≤ v∧v < (nv:Int))∧∀ b ∈ f.blocks,∀ x ∈ b.instrs,∀ o ∈ x.operands,0 ≤ o.value∧o.value < (nv:Int)):=by
  rw [← HNV.out]
  exact ⟨fun b hb v hv => isValue_bd (marks_val _ _ _ SI.mks v (mem_all hb (List.mem_append_left _ hv))),fun b hb x hx o ho => isValue_bd (instrErr_val (SI.ins b hb x hx) o ho)⟩
 have ht':=htold
 rw [← HNV.out] at ht'
 have HSA:Hid (∀ k,k < nb → ∀ u,u < nv → StayAt f.blocks nv I O k u):=fun k hk u hu => by
  have h:=stay_at hE ht' k (by rw [HNB.out]; exact hk) u (by rw [HNV.out]; exact hu)
  rw [HNV.out] at h
  exact h
 have HSP:Hid (∀ k,k < nb → ∀ u,u < nv → ∀ p,startM f.blocks k ≤ p → p < startM f.blocks (k + 1) → (inB (spansM f.blocks nv I O nb u) p = true ↔ ((stayM (blkA f.blocks k) I O k nv (startM f.blocks k) u).1 ≤ p∧p < (stayM (blkA f.blocks k) I O k nv (startM f.blocks k) u).2))):=fun k hk u hu p h1 h2 => by
  rw [inB_iff]
  have hst:=stays_in hE ht'
  rw [HNV.out] at hst
  have h:=spans_blk hst u hu k (by rw [HNB.out]; exact hk) p h1 h2
  rw [HNB.out] at h
  exact h
 have HSN:Hid (∀ k,k ≤ nb → 0 ≤ startM f.blocks k∧startM f.blocks k ≤ 1312):=fun k hk => by
  have h:=start_bdH (bs:=f.blocks) (fun b hb => (HFB.out b hb).2.1) k (by rw [HNB.out]; exact hk)
  exact ⟨start_nn _ _,by omega⟩
 obtain ⟨S,hS⟩:∃ S,spansM f.blocks nv I O nb = S:=⟨_,rfl⟩
 have hlen:∀ v,(S v).length ≤ 16:=fun v => by
  have h:=spansM_len f.blocks nv I O v nb
  rw [← hS]
  omega
 rw [hS] at hps HSP
 have HLEN:Hid (∀ v,(S v).length ≤ 16):=hlen
 have lR3:=hps.row.lt
 clear hE hsh SI ht' htold hS
 have HD2:=sets_any f nv nb m0 m1 av ab cv cb HFL.out HNV.out HNB.out w3 HV3.out HBL3.out
 go_wp2_with fail
 refine HD2.mono ?_
 clear HD2
 rintro e w5 ⟨ga,gb,I',O',rfl,s1,s2,htold2,hb5⟩
 have HII:Hid (∀ k u,u < nv → I' k u = I k u∧O' k u = O k u):=fun k u hu => by
  have h1:=htold2.1 k u hu
  have h2:=HTA.out.1 k u hu
  have h3:=htold2.2 k u hu
  have h4:=HTA.out.2 k u hu
  exact ⟨Bool.eq_iff_iff.2 (h1.trans h2.symm),Bool.eq_iff_iff.2 (h3.trans h4.symm)⟩
 clear htold2
 obtain ⟨W5,hW5⟩:∃ W5,W5 = w5.alloc (.cells #[.slice (some ⟨ga,0,none⟩) nb nb,.slice (some ⟨gb,0,none⟩) nb nb] 52):=⟨_,rfl⟩
 obtain ⟨Z,hZ⟩:∃ Z,w5.heap.size = Z:=⟨_,rfl⟩
 have z0:W5.cell? ⟨Z,0,none⟩ = some (.slice (some ⟨ga,0,none⟩) nb nb):=by rw [hW5,← hZ]; simp
 have z1:W5.cell? ⟨Z,1,none⟩ = some (.slice (some ⟨gb,0,none⟩) nb nb):=by rw [hW5,← hZ]; simp
 have hb55:Below w5.heap.size w5 W5:=by rw [hW5]; exact (Below.refl _ _).alloc (Nat.le_refl _) _
 have hb35:Below w3.heap.size w3 W5:=hb5.trans (hb55.mono hb5.size)
 have g0':=(hb35.cell (p:=⟨Y,0,none⟩) lY3).trans g0
 have g1':=(hb35.cell (p:=⟨Y,1,none⟩) lY3).trans g1
 have y2:=(hb5.cell (p:=⟨Y,0,none⟩) lY3).trans g0
 have y3:=(hb5.cell (p:=⟨Y,1,none⟩) lY3).trans g1
 have lY5:Y < W5.heap.size:=Nat.lt_of_lt_of_le lY3 hb35.size
 have HRI:Hid (SlOf W5 1 (RRow W5) (.slice (some ⟨ga,0,none⟩) nb nb) ((List.range nb).map fun b => rowL nv (I' b))):=s1.below hb55 (RRow.below hb55)
 have HRO:Hid (SlOf W5 1 (RRow W5) (.slice (some ⟨gb,0,none⟩) nb nb) ((List.range nb).map fun b => rowL nv (O' b))):=s2.below hb55 (RRow.below hb55)
 have HBL5:Hid (SlOf W5 3 (RBlk W5) (.slice ab nb cb) f.blocks):=HBL3.out.below hb35 (RBlk.below hb35)
 have HW5:Hid (W5 = w5.alloc (.cells #[.slice (some ⟨ga,0,none⟩) nb nb,.slice (some ⟨gb,0,none⟩) nb nb] 52)):=hW5
 have HZ:Hid (w5.heap.size = Z):=hZ
 have HLZ:Hid (Z < W5.heap.size):=block_lt z0
 clear hW5 hZ hb55 hb5 s1 s2
 go_upto_region 5 with fail
 rw [← HW5.out,HZ.out]
 clear HW5 HZ y2 y3
 --CUTs
 have HC:=starts_any f.blocks nb nv av ab cv cb W5 HNB.out HBL5.out (by omega)
 go_wp2_with fail
 refine HC.mono ?_
 clear HC
 rintro e w4 ⟨gs,cap,rfl,hgl,hs3,hb4⟩
 have lY4:Y < w4.heap.size:=Nat.lt_of_lt_of_le lY5 hb4.size
 have y0:=(hb4.cell (p:=⟨Y,0,none⟩) lY5).trans g0'
 have y1:=(hb4.cell (p:=⟨Y,1,none⟩) lY5).trans g1'
 have HBL4:Hid (SlOf w4 3 (RBlk w4) (.slice ab nb cb) f.blocks):=HBL5.out.below hb4 (RBlk.below hb4)
 have HLS:Hid (∀ w',Below w4.heap.size w4 w' → ∀ k,k ≤ nb → w'.cell? ⟨gs,k,none⟩ = some (.int .i64 (startM f.blocks k))):=fun w' hh k hk => by
  have h:=rowl_at hs3 k (by rw [startsW_length]; omega)
  have e:(startsW f.blocks (nb + 1)).getD k 0 = ptW (startM f.blocks k):=by
   have hk':k < nb + 1:=by omega
   simp [startsW,List.getD,hk']
  have hbd:=HSN.out k hk
  rw [e,ptW_id (by omega) (by omega)] at h
  exact (hh.cell (p:=⟨gs,k,none⟩) h.2).trans h.1
 have lR:=hps.row.lt
 have HZC:Hid (∀ w',Below w4.heap.size w4 w' → w'.cell? ⟨Z,0,none⟩ = some (.slice (some ⟨ga,0,none⟩) nb nb)∧w'.cell? ⟨Z,1,none⟩ = some (.slice (some ⟨gb,0,none⟩) nb nb)):=fun w' hh => by
  have h:=hb4.trans (hh.mono hb4.size)
  exact ⟨(h.cell (p:=⟨Z,0,none⟩) HLZ.out).trans z0,(h.cell (p:=⟨Z,1,none⟩) HLZ.out).trans z1⟩
 have HRI4:Hid (SlOf w4 1 (RRow w4) (.slice (some ⟨ga,0,none⟩) nb nb) ((List.range nb).map fun b => rowL nv (I' b))):=HRI.out.below hb4 (RRow.below hb4)
 have HRO4:Hid (SlOf w4 1 (RRow w4) (.slice (some ⟨gb,0,none⟩) nb nb) ((List.range nb).map fun b => rowL nv (O' b))):=HRO.out.below hb4 (RRow.below hb4)
 have HRC:Hid (∀ w',Below w4.heap.size w4 w' → ∀ v,v < nv → ∃ a c,w'.cell? ⟨R,v,none⟩ = some (.slice a (S v).length c)∧SlOf w' 2 RSn (.slice a (S v).length c) (S v)):=fun w' hh v hv => by
  have hh3:=hb35.trans ((hb4.trans (hh.mono hb4.size)).mono hb35.size)
  obtain ⟨a,c,e,hsl⟩:=hps.spans v hv (by have:=hlen v; omega)
  exact ⟨a,c,((hh3.cell (p:=⟨R,v,none⟩) lR).trans (hps.row.cell hv)).trans (by rw [e]),hsl.below hh3 fun _ _ h => h⟩
 have HB4:Hid (Below w.heap.size w w4):=HB.out.trans ((hb3.trans ((hb35.trans (hb4.mono hb35.size)).mono hb3.size)).mono HB.out.size)
 have wn:IntKind.i64.wrap ((nb:Int) + 1) = (nb:Int) + 1:=by rw [IntKind.wrap_i64]; omega
 clear hps hb3 hb4 hRl hgl hs3 hlen f0 f1 g0 g1 g0' g1' hb35 z0 z1 lX lY lY3 lY5 lR lR3 HV HV3 HBL HBL3 HBL5 HRI HRO HB HM
 --CUT0
 have HY:Hid (w4.cell? ⟨Y,0,none⟩ = some (.slice av nv cv)∧Y < w4.heap.size):=⟨y0,lY4⟩
 go_wp2_with fail
 clear y0 y1 wn lY4
 go_loopw [63] (fun i wr => ∃ k:Nat,k ≤ nb∧i = .int .i64 k∧Hid (Below w4.heap.size w4 wr)) (fun i _ => nb - (intOf i).toNat)
 case atStart => exact ⟨0,Nat.zero_le _,rfl,Below.refl _ _⟩
 case round =>
  obtain ⟨k,hk,rfl,HBR⟩:=hrel
  by_cases hkn:k < nb
  ·have hkl:k < f.blocks.length:=by have:=HNB.out; omega
   obtain ⟨bb,ob,ap,cp,ai,ci,ae,ce,rfl,lbb,c0,c1,c2,sp,si,se⟩:=blk_atH HBL4.out k hkl
   obtain ⟨x,hx⟩:∃ x,f.blocks[k] = x:=⟨_,rfl⟩
   have hxm:x ∈ f.blocks:=by rw [← hx]; exact List.getElem_mem hkl
   have hxA:blkA f.blocks k = x:=by rw [blkA_at hkl,hx]
   have hst1:=startM_succ f.blocks k hkl
   rw [hx] at c0 c1 c2 sp si hst1
   obtain ⟨np,hnp⟩:∃ n,x.params.length = n:=⟨_,rfl⟩
   obtain ⟨ni,hni⟩:∃ n,x.instrs.length = n:=⟨_,rfl⟩
   rw [hnp] at c0 sp
   rw [hni] at c1 hst1
   have hfit:=HFB.out x hxm
   have hbd:=HSN.out k (by omega)
   have hbd2:=HSN.out (k + 1) (by omega)
   obtain ⟨st,hst⟩:∃ st,startM f.blocks k = st:=⟨_,rfl⟩
   obtain ⟨sn,hsn⟩:∃ sn,startM f.blocks (k + 1) = sn:=⟨_,rfl⟩
   rw [hst] at hbd hst1
   rw [hsn] at hbd2 hst1
   have HSK:Hid (∀ u,u < nv → inB (S u) st = (I k u || decide ((u:Int) ∈ x.params))∧inB (S u) (sn - 1) = O k u):=fun u hu => by
    have hA:=HSA.out k hkn u hu
    have h1:=HSP.out k hkn u hu st (by omega) (by omega)
    have h2:=HSP.out k hkn u hu (sn - 1) (by omega) (by omega)
    have i1:=hA.inn
    have i2:=hA.out
    have i3:=hA.fin
    rw [hxA,hst] at i1 i2 i3 h1 h2
    rw [hni] at i3
    have e:sn - 1 = st + 1 + 2 * (ni:Int):=by omega
    refine ⟨?_,?_⟩
    ·rw [Bool.eq_iff_iff,h1,Bool.or_eq_true,decide_eq_true_eq]
     constructor
     ·intro h
      by_cases hc:I k u = true ∨ (u:Int) ∈ x.params
      ·exact hc
      ·exact absurd h (i2 hc)
     ·intro h
      have:=i1 h
      omega
    ·rw [Bool.eq_iff_iff,h2,← i3,e]
   have HST:Hid (∀ w',Below w4.heap.size w4 w' → w'.cell? ⟨gs,k,none⟩ = some (.int .i64 st)∧w'.cell? ⟨gs,k + 1,none⟩ = some (.int .i64 sn)):=fun w' hh => by
    have e1:=HLS.out w' hh k (by omega)
    have e2:=HLS.out w' hh (k + 1) (by omega)
    rw [hst] at e1
    rw [hsn] at e2
    exact ⟨e1,e2⟩
   have HKX:Hid (SlOf w4 1 RInt (.slice ap np cp) x.params∧x.params.length = np):=⟨sp,hnp⟩
   have y0:=(HBR.out.cell (p:=⟨bb,ob + k * 3,none⟩) lbb).trans c0
   have y1:=(HBR.out.cell (p:=⟨bb,ob + k * 3 + 1,none⟩) lbb).trans c1
   have y2:=(HBR.out.cell (p:=⟨bb,ob + k * 3 + 2,none⟩) lbb).trans c2
   obtain ⟨ne,hne⟩:∃ n,f.blocks[k].edges.length = n:=⟨_,rfl⟩
   rw [hx] at hne
   rw [hne] at y2
   obtain ⟨aI,cI,lga,kI,sI,lI⟩:=rowS_at HRI4.out k hkn
   obtain ⟨aO,cO,lgb,kO,sO,lO⟩:=rowS_at HRO4.out k hkn
   obtain ⟨nI,hnI⟩:∃ n,(rowL nv (I' k)).length = n:=⟨_,rfl⟩
   obtain ⟨nO,hnO⟩:∃ n,(rowL nv (O' k)).length = n:=⟨_,rfl⟩
   rw [hnI] at kI sI lI
   rw [hnO] at kO sO lO
   have HIO:Hid ((rowL nv (I' k)).length = nI∧SlOf w4 1 RInt (.slice aI nI cI) (rowL nv (I' k))∧(rowL nv (O' k)).length = nO∧SlOf w4 1 RInt (.slice aO nO cO) (rowL nv (O' k))):=⟨hnI,sI,hnO,sO⟩
   have HKC:Hid (∀ w',Below w4.heap.size w4 w' → w'.cell? ⟨ga,k,none⟩ = some (.slice aI nI cI)∧w'.cell? ⟨gb,k,none⟩ = some (.slice aO nO cO)):=fun w' hh => ⟨(hh.cell (p:=⟨ga,k,none⟩) lga).trans kI,(hh.cell (p:=⟨gb,k,none⟩) lgb).trans kO⟩
   obtain ⟨W6,hW6⟩:∃ W6,W6 = wr.alloc (.cells #[.slice ap np cp,.slice ai ni ci,.slice ae ne ce] 40):=⟨_,rfl⟩
   obtain ⟨B6,hB6⟩:∃ B,wr.heap.size = B:=⟨_,rfl⟩
   have t0:W6.cell? ⟨B6,0,none⟩ = some (.slice ap np cp):=by rw [hW6,← hB6]; simp
   have lB6:B6 < W6.heap.size:=by rw [hW6,← hB6]; simp
   have H6:Hid (Below w4.heap.size w4 W6∧W6.cell? ⟨B6,0,none⟩ = some (.slice ap np cp)∧B6 < W6.heap.size):=⟨by rw [hW6]; exact HBR.out.alloc HBR.out.size _,t0,lB6⟩
   have y3:=(H6.out.1.cell (p:=⟨Y,0,none⟩) HY.out.2).trans HY.out.1
   have HW6:Hid (W6 = wr.alloc (.cells #[.slice ap np cp,.slice ai ni ci,.slice ae ne ce] 40)∧wr.heap.size = B6):=⟨hW6,hB6⟩
   have d1:(k:Int) < (nb:Int):=by omega
   have d2:k < nb + 1:=by omega
   have hni40:ni ≤ 40∧np ≤ 5:=by omega
   clear hkl lbb c0 c1 c2 sp si se hx hxm hxA hnp hni hfit hW6 hB6 HBR hst hsn hst1 hne t0 lB6 hnI hnO lga lgb kI kO sI sO
   go_upto_region 11 with fail
   --CUT1
   rw [← HW6.out.1,HW6.out.2]
   clear HW6 y0 y1 y2
   go_wp2_with fail
   clear y3
   --CUT2
   go_loopw [71] (fun i wr => ∃ u:Nat,u ≤ nv∧i = .int .i64 u∧Hid (Below W6.heap.size W6 wr)) (fun i _ => nv - (intOf i).toNat)
   case atStart => exact ⟨0,Nat.zero_le _,rfl,Below.refl _ _⟩
   case round =>
    obtain ⟨u,hu,rfl,HBR⟩:=hrel
    by_cases hun:u < nv
    ·have HB4r:Hid (Below w4.heap.size w4 wr):=H6.out.1.trans (HBR.out.mono H6.out.1.size)
     have q0:=(HBR.out.cell (p:=⟨B6,0,none⟩) H6.out.2.2).trans H6.out.2.1
     obtain ⟨q1,q2⟩:=HST.out wr HB4r.out
     obtain ⟨q3,q4⟩:=HKC.out wr HB4r.out
     obtain ⟨q5,q6⟩:=HZC.out wr HB4r.out
     obtain ⟨a1,c1,q7,s7⟩:=HRC.out w4 (Below.refl _ _) u hun
     have q7:=(HB4r.out.cell (p:=⟨R,u,none⟩) (block_lt q7)).trans q7
     obtain ⟨n1,hn1⟩:∃ n,(S u).length = n:=⟨_,rfl⟩
     rw [hn1] at q7 s7
     have hl1:=HLEN.out u
     have hI1:=(HSK.out u hun).1
     have hI2:=(HSK.out u hun).2
     obtain ⟨hJ1,hJ2⟩:=HII.out k u hun
     obtain ⟨ri,hri⟩:∃ b,I k u = b:=⟨_,rfl⟩
     obtain ⟨ro,hro⟩:∃ b,O k u = b:=⟨_,rfl⟩
     obtain ⟨rp,hrp⟩:∃ b,decide ((u:Int) ∈ x.params) = b:=⟨_,rfl⟩
     rw [hri,hrp] at hI1
     rw [hro] at hI2 hJ2
     rw [hri] at hJ1
     have mI:decide ((u:Int) ∈ rowL nv (I' k)) = ri:=by rw [Bool.eq_iff_iff,decide_eq_true_eq,mem_rowL,hJ1]; exact ⟨fun h => h.2,fun h => ⟨hun,h⟩⟩
     have mO:decide ((u:Int) ∈ rowL nv (O' k)) = ro:=by rw [Bool.eq_iff_iff,decide_eq_true_eq,mem_rowL,hJ2]; exact ⟨fun h => h.2,fun h => ⟨hun,h⟩⟩
     have h4:∀ {w'},Below wr.heap.size wr w' → Below w4.heap.size w4 w':=fun hh => HB4r.out.trans (hh.mono HB4r.out.size)
     have HC1:Hid (∀ w',Below wr.heap.size wr w' → Calls Try.prog 9 #[.slice a1 n1 c1,.int .i64 st] w' fun e w'' => e = .returned (.bool (ri || rp))∧Below w'.heap.size w' w''):=fun w' hh => by
      have h:=needed_any a1 n1 c1 (S u) st w' (s7.below (h4 hh) fun _ _ h => h) hn1 (by omega)
      rw [hI1] at h
      exact h
     have HC2:Hid (∀ w',Below wr.heap.size wr w' → Calls Try.prog 11 #[.slice aI nI cI,.int .i64 u] w' fun e w'' => e = .returned (.bool ri)∧Below w'.heap.size w' w''):=fun w' hh =>
      has_any (rowL nv (I' k)) aI nI cI u w' HIO.out.1 (HIO.out.2.1.below (h4 hh) fun _ _ h => h) ri mI
     have HC3:Hid (∀ w',Below wr.heap.size wr w' → Calls Try.prog 11 #[.slice ap np cp,.int .i64 u] w' fun e w'' => e = .returned (.bool rp)∧Below w'.heap.size w' w''):=fun w' hh =>
      has_any x.params ap np cp u w' HKX.out.2 (HKX.out.1.below (h4 hh) fun _ _ h => h) rp hrp
     have HC4:Hid (∀ w',Below wr.heap.size wr w' → Calls Try.prog 9 #[.slice a1 n1 c1,.int .i64 (sn - 1)] w' fun e w'' => e = .returned (.bool ro)∧Below w'.heap.size w' w''):=fun w' hh => by
      have h:=needed_any a1 n1 c1 (S u) (sn - 1) w' (s7.below (h4 hh) fun _ _ h => h) hn1 (by omega)
      rw [hI2] at h
      exact h
     have HC5:Hid (∀ w',Below wr.heap.size wr w' → Calls Try.prog 11 #[.slice aO nO cO,.int .i64 u] w' fun e w'' => e = .returned (.bool ro)∧Below w'.heap.size w' w''):=fun w' hh =>
      has_any (rowL nv (O' k)) aO nO cO u w' HIO.out.2.2.1 (HIO.out.2.2.2.below (h4 hh) fun _ _ h => h) ro mO
     have HSF:Hid (∀ w',Below wr.heap.size wr w' → (fun w' => w'.cell? ⟨R,u,none⟩ = some (.slice a1 n1 c1)∧w'.cell? ⟨gs,k,none⟩ = some (.int .i64 st)∧w'.cell? ⟨gs,k + 1,none⟩ = some (.int .i64 sn)∧w'.cell? ⟨Z,0,none⟩ = some (.slice (some ⟨ga,0,none⟩) nb nb)∧w'.cell? ⟨Z,1,none⟩ = some (.slice (some ⟨gb,0,none⟩) nb nb)∧w'.cell? ⟨ga,k,none⟩ = some (.slice aI nI cI)∧w'.cell? ⟨gb,k,none⟩ = some (.slice aO nO cO)∧w'.cell? ⟨B6,0,none⟩ = some (.slice ap np cp)) w'):=fun w' hh => ⟨(hh.cell (p:=⟨R,u,none⟩) (block_lt q7)).trans q7,(hh.cell (p:=⟨gs,k,none⟩) (block_lt q1)).trans q1,(hh.cell (p:=⟨gs,k + 1,none⟩) (block_lt q2)).trans q2,(hh.cell (p:=⟨Z,0,none⟩) (block_lt q5)).trans q5,(hh.cell (p:=⟨Z,1,none⟩) (block_lt q6)).trans q6,(hh.cell (p:=⟨ga,k,none⟩) (block_lt q3)).trans q3,(hh.cell (p:=⟨gb,k,none⟩) (block_lt q4)).trans q4,(hh.cell (p:=⟨B6,0,none⟩) (block_lt q0)).trans q0⟩
     have d7:(u:Int) < (nv:Int):=by omega
     have d8:u < nv + 1:=by omega
     have d9:(k:Int) < (nb:Int) + 1:=by omega
     have d10:k < nb + 1 + 1:=by omega
     have d11:k + 1 < nb + 1 + 1:=by omega
     have d12:(k:Int) + 1 < (nb:Int) + 1:=by omega
     have d13:(0:Int) ≤ (k:Int) + 1:=by omega
     have r1:IntKind.i64.wrap ((k:Int) + 1) = (k:Int) + 1:=by rw [IntKind.wrap_i64]; omega
     have r2:IntKind.i64.wrap (sn - 1) = sn - 1:=by rw [IntKind.wrap_i64]; omega
     have HBW:Hid (Below W6.heap.size W6 wr):=HBR.out
     have hq0:Below wr.heap.size wr wr.drew:=(Below.refl _ _).drew
     clear HB4r HBR q0 q1 q2 q3 q4 q5 q6 q7 s7 hn1 hl1 hI1 hI2 hJ1 hJ2 hri hro hrp mI mO h4
     go_upto_region 14 with fail
     --CUT3
     cases ri
     ·replace HC1:Hid (∀ w',Below wr.heap.size wr w' → Calls Try.prog 9 #[.slice a1 n1 c1,.int .i64 st] w' fun e w'' => e = .returned (.bool rp)∧Below w'.heap.size w' w''):=HC1
      refine wp_region_X (fun w' => w'.cell? ⟨R,u,none⟩ = some (.slice a1 n1 c1)∧w'.cell? ⟨gs,k,none⟩ = some (.int .i64 st)∧w'.cell? ⟨gs,k + 1,none⟩ = some (.int .i64 sn)∧w'.cell? ⟨Z,0,none⟩ = some (.slice (some ⟨ga,0,none⟩) nb nb)∧w'.cell? ⟨Z,1,none⟩ = some (.slice (some ⟨gb,0,none⟩) nb nb)∧w'.cell? ⟨ga,k,none⟩ = some (.slice aI nI cI)∧w'.cell? ⟨gb,k,none⟩ = some (.slice aO nO cO)∧w'.cell? ⟨B6,0,none⟩ = some (.slice ap np cp)) 99 (by kernel_rfl) (HSF.out _ hq0) (fun hHeld => ?_)
      refine wpXt (v:=?_) 0 rfl (by kernel_rfl) (fun _ _ _ h => h) (by rfl) ?_ hHeld ?_
      rotate_left
      ·intro w' hSw
       go_simp <;> with_reducible rfl
      try simp only [Act.put,List.setIfInBounds_toArray,List.set_cons_zero,List.set_cons_succ]
      refine wpXt (v:=?_) 1 rfl (by kernel_rfl) (fun _ _ _ h => h) (by rfl) ?_ hHeld ?_
      rotate_left
      ·intro w' hSw
       go_simp <;> with_reducible rfl
      try simp only [Act.put,List.setIfInBounds_toArray,List.set_cons_zero,List.set_cons_succ]
      refine wpXt (v:=?_) 2 rfl (by kernel_rfl) (fun _ _ _ h => h) (by rfl) ?_ hHeld ?_
      rotate_left
      ·intro w' hSw
       go_simp <;> with_reducible rfl
      try simp only [Act.put,List.setIfInBounds_toArray,List.set_cons_zero,List.set_cons_succ]
      refine wpXt (v:=?_) 3 rfl (by kernel_rfl) (fun _ _ _ h => h) (by rfl) ?_ hHeld ?_
      rotate_left
      ·intro w' hSw
       go_simp <;> with_reducible rfl
      try simp only [Act.put,List.setIfInBounds_toArray,List.set_cons_zero,List.set_cons_succ]
      refine wpXt (v:=?_) 4 rfl (by kernel_rfl) (fun _ _ _ h => h) (by rfl) ?_ hHeld ?_
      rotate_left
      ·intro w' hSw
       go_simp <;> with_reducible rfl
      try simp only [Act.put,List.setIfInBounds_toArray,List.set_cons_zero,List.set_cons_succ]
      refine wpXt (v:=?_) 5 rfl (by kernel_rfl) (fun _ _ _ h => h) (by rfl) ?_ hHeld ?_
      rotate_left
      ·intro w' hSw
       go_simp <;> with_reducible rfl
      try simp only [Act.put,List.setIfInBounds_toArray,List.set_cons_zero,List.set_cons_succ]
      refine wpXt (v:=?_) 6 rfl (by kernel_rfl) (fun _ _ _ h => h) (by rfl) ?_ hHeld ?_
      rotate_left
      ·intro w' hSw
       go_simp <;> with_reducible rfl
      try simp only [Act.put,List.setIfInBounds_toArray,List.set_cons_zero,List.set_cons_succ]
      refine wpXt (v:=?_) 7 rfl (by kernel_rfl) (fun _ _ _ h => h) (by rfl) ?_ hHeld ?_
      rotate_left
      ·intro w' hSw
       go_simp <;> with_reducible rfl
      try simp only [Act.put,List.setIfInBounds_toArray,List.set_cons_zero,List.set_cons_succ]
      refine wpXt (v:=?_) 9 rfl (by kernel_rfl) (fun _ _ _ h => h) (by rfl) ?_ hHeld ?_
      rotate_left
      ·intro w' hSw
       go_simp <;> with_reducible rfl
      try simp only [Act.put,List.setIfInBounds_toArray,List.set_cons_zero,List.set_cons_succ]
      refine wpXt (v:=?_) 10 rfl (by kernel_rfl) (fun _ _ _ h => h) (by rfl) ?_ hHeld ?_
      rotate_left
      ·intro w' hSw
       go_simp <;> with_reducible rfl
      try simp only [Act.put,List.setIfInBounds_toArray,List.set_cons_zero,List.set_cons_succ]
      refine wpXt (v:=?_) 11 rfl (by kernel_rfl) (fun _ _ _ h => h) (by rfl) ?_ hHeld ?_
      rotate_left
      ·intro w' hSw
       go_simp <;> with_reducible rfl
      try simp only [Act.put,List.setIfInBounds_toArray,List.set_cons_zero,List.set_cons_succ]
      refine wpXt (v:=?_) 12 rfl (by kernel_rfl) (fun _ _ _ h => h) (by rfl) ?_ hHeld ?_
      rotate_left
      ·intro w' hSw
       go_simp <;> with_reducible rfl
      try simp only [Act.put,List.setIfInBounds_toArray,List.set_cons_zero,List.set_cons_succ]
      refine wpXt (v:=?_) 13 rfl (by kernel_rfl) (fun _ _ _ h => h) (by rfl) ?_ hHeld ?_
      rotate_left
      ·intro w' hSw
       go_simp <;> with_reducible rfl
      try simp only [Act.put,List.setIfInBounds_toArray,List.set_cons_zero,List.set_cons_succ]
      refine wpXt (v:=?_) 14 rfl (by kernel_rfl) (fun _ _ _ h => h) (by rfl) ?_ hHeld ?_
      rotate_left
      ·intro w' hSw
       go_simp <;> with_reducible rfl
      try simp only [Act.put,List.setIfInBounds_toArray,List.set_cons_zero,List.set_cons_succ]
      refine wpXs 8 rfl (by kernel_rfl) (fun K hK => ?_)
      go_simp
      refine (HC1.out _ hq0).mono ?_
      rintro e v1 ⟨rfl,hb1⟩
      have hq1:Below wr.heap.size wr v1:=hq0.trans (hb1.mono hq0.size)
      refine hK.out _ _ (HSF.out _ hq1) (fun hHeld => ?_)
      clear hK K
      try simp only [Act.put,List.setIfInBounds_toArray,List.set_cons_zero,List.set_cons_succ]
      refine wpXs 15 rfl (by kernel_rfl) (fun K hK => ?_)
      go_simp
      refine (HC2.out _ hq1).mono ?_
      rintro e v2 ⟨rfl,hb2⟩
      have hq2:Below wr.heap.size wr v2:=hq1.trans (hb2.mono hq1.size)
      refine hK.out _ _ (HSF.out _ hq2) (fun hHeld => ?_)
      clear hK K
      try simp only [Act.put,List.setIfInBounds_toArray,List.set_cons_zero,List.set_cons_succ]
      refine wpXt (v:=?_) 16 rfl (by kernel_rfl) (fun _ _ _ h => h) (by rfl) ?_ hHeld ?_
      rotate_left
      ·intro w' hSw
       go_simp <;> with_reducible rfl
      try simp only [Act.put,List.setIfInBounds_toArray,List.set_cons_zero,List.set_cons_succ]
      refine wpXt (v:=?_) 17 rfl (by kernel_rfl) (fun _ _ _ h => h) (by rfl) ?_ hHeld ?_
      rotate_left
      ·intro w' hSw
       go_simp <;> with_reducible rfl
      try simp only [Act.put,List.setIfInBounds_toArray,List.set_cons_zero,List.set_cons_succ]
      refine wpXt (v:=?_) 18 rfl (by kernel_rfl) (fun _ _ _ h => h) (by rfl) ?_ hHeld ?_
      rotate_left
      ·intro w' hSw
       go_simp <;> with_reducible rfl
      try simp only [Act.put,List.setIfInBounds_toArray,List.set_cons_zero,List.set_cons_succ]
      refine wpXt (v:=?_) 19 rfl (by kernel_rfl) (fun _ _ _ h => h) (by rfl) ?_ hHeld ?_
      rotate_left
      ·intro w' hSw
       go_simp <;> with_reducible rfl
      try simp only [Act.put,List.setIfInBounds_toArray,List.set_cons_zero,List.set_cons_succ]
      refine wpXs 20 rfl (by kernel_rfl) (fun K hK => ?_)
      go_simp
      refine (HC3.out _ hq2).mono ?_
      rintro e v3 ⟨rfl,hb3⟩
      have hq3:Below wr.heap.size wr v3:=hq2.trans (hb3.mono hq2.size)
      refine hK.out _ _ (HSF.out _ hq3) (fun hHeld => ?_)
      clear hK K
      try simp only [Act.put,List.setIfInBounds_toArray,List.set_cons_zero,List.set_cons_succ]
      refine wpXt (v:=?_) 21 rfl (by kernel_rfl) (fun _ _ _ h => h) (by rfl) ?_ hHeld ?_
      rotate_left
      ·intro w' hSw
       go_simp <;> with_reducible rfl
      try simp only [Act.put,List.setIfInBounds_toArray,List.set_cons_zero,List.set_cons_succ]
      refine wpXt (v:=?_) 22 rfl (by kernel_rfl) (fun _ _ _ h => h) (by rfl) ?_ hHeld ?_
      rotate_left
      ·intro w' hSw
       go_simp <;> with_reducible rfl
      try simp only [Act.put,List.setIfInBounds_toArray,List.set_cons_zero,List.set_cons_succ]
      --CUT4f
      refine wpXt (v:=?_) 23 rfl (by kernel_rfl) (fun _ _ _ h => h) (by rfl) ?_ hHeld ?_
      rotate_left
      ·intro w' hSw
       go_simp <;> with_reducible rfl
      try simp only [Act.put,List.setIfInBounds_toArray,List.set_cons_zero,List.set_cons_succ]
      refine wpXt (v:=?_) 24 rfl (by kernel_rfl) (fun _ _ _ h => h) (by rfl) ?_ hHeld ?_
      rotate_left
      ·intro w' hSw
       go_simp <;> with_reducible rfl
      try simp only [Act.put,List.setIfInBounds_toArray,List.set_cons_zero,List.set_cons_succ]
      refine wpXt (v:=?_) 25 rfl (by kernel_rfl) (fun _ _ _ h => h) (by rfl) ?_ hHeld ?_
      rotate_left
      ·intro w' hSw
       go_simp <;> with_reducible rfl
      try simp only [Act.put,List.setIfInBounds_toArray,List.set_cons_zero,List.set_cons_succ]
      refine wpXt (v:=?_) 26 rfl (by kernel_rfl) (fun _ _ _ h => h) (by rfl) ?_ hHeld ?_
      rotate_left
      ·intro w' hSw
       go_simp <;> with_reducible rfl
      try simp only [Act.put,List.setIfInBounds_toArray,List.set_cons_zero,List.set_cons_succ]
      refine wpXt (v:=?_) 27 rfl (by kernel_rfl) (fun _ _ _ h => h) (by rfl) ?_ hHeld ?_
      rotate_left
      ·intro w' hSw
       go_simp <;> with_reducible rfl
      try simp only [Act.put,List.setIfInBounds_toArray,List.set_cons_zero,List.set_cons_succ]
      refine wpXt (v:=?_) 28 rfl (by kernel_rfl) (fun _ _ _ h => h) (by rfl) ?_ hHeld ?_
      rotate_left
      ·intro w' hSw
       go_simp <;> with_reducible rfl
      try simp only [Act.put,List.setIfInBounds_toArray,List.set_cons_zero,List.set_cons_succ]
      refine wpXt (v:=?_) 29 rfl (by kernel_rfl) (fun _ _ _ h => h) (by rfl) ?_ hHeld ?_
      rotate_left
      ·intro w' hSw
       go_simp <;> with_reducible rfl
      try simp only [Act.put,List.setIfInBounds_toArray,List.set_cons_zero,List.set_cons_succ]
      --CUT7f
      refine wpXt (v:=?_) 30 rfl (by kernel_rfl) (fun _ _ _ h => h) (by rfl) ?_ hHeld ?_
      rotate_left
      ·intro w' hSw
       go_simp <;> with_reducible rfl
      try simp only [Act.put,List.setIfInBounds_toArray,List.set_cons_zero,List.set_cons_succ]
      refine wpXt (v:=?_) 31 rfl (by kernel_rfl) (fun _ _ _ h => h) (by rfl) ?_ hHeld ?_
      rotate_left
      ·intro w' hSw
       go_simp <;> with_reducible rfl
      try simp only [Act.put,List.setIfInBounds_toArray,List.set_cons_zero,List.set_cons_succ]
      refine wpXt (v:=?_) 32 rfl (by kernel_rfl) (fun _ _ _ h => h) (by rfl) ?_ hHeld ?_
      rotate_left
      ·intro w' hSw
       go_simp <;> with_reducible rfl
      try simp only [Act.put,List.setIfInBounds_toArray,List.set_cons_zero,List.set_cons_succ]
      refine wpXt (v:=?_) 33 rfl (by kernel_rfl) (fun _ _ _ h => h) (by rfl) ?_ hHeld ?_
      rotate_left
      ·intro w' hSw
       go_simp <;> with_reducible rfl
      try simp only [Act.put,List.setIfInBounds_toArray,List.set_cons_zero,List.set_cons_succ]
      refine wpXt (v:=?_) 35 rfl (by kernel_rfl) (fun _ _ _ h => h) (by rfl) ?_ hHeld ?_
      rotate_left
      ·intro w' hSw
       go_simp <;> with_reducible rfl
      try simp only [Act.put,List.setIfInBounds_toArray,List.set_cons_zero,List.set_cons_succ]
      refine wpXt (v:=?_) 36 rfl (by kernel_rfl) (fun _ _ _ h => h) (by rfl) ?_ hHeld ?_
      rotate_left
      ·intro w' hSw
       go_simp <;> with_reducible rfl
      try simp only [Act.put,List.setIfInBounds_toArray,List.set_cons_zero,List.set_cons_succ]
      refine wpXt (v:=?_) 37 rfl (by kernel_rfl) (fun _ _ _ h => h) (by rfl) ?_ hHeld ?_
      rotate_left
      ·intro w' hSw
       go_simp <;> with_reducible rfl
      try simp only [Act.put,List.setIfInBounds_toArray,List.set_cons_zero,List.set_cons_succ]
      refine wpXt (v:=?_) 38 rfl (by kernel_rfl) (fun _ _ _ h => h) (by rfl) ?_ hHeld ?_
      rotate_left
      ·intro w' hSw
       go_simp <;> with_reducible rfl
      try simp only [Act.put,List.setIfInBounds_toArray,List.set_cons_zero,List.set_cons_succ]
      refine wpXt (v:=?_) 39 rfl (by kernel_rfl) (fun _ _ _ h => h) (by rfl) ?_ hHeld ?_
      rotate_left
      ·intro w' hSw
       go_simp <;> with_reducible rfl
      try simp only [Act.put,List.setIfInBounds_toArray,List.set_cons_zero,List.set_cons_succ]
      refine wpXt (v:=?_) 40 rfl (by kernel_rfl) (fun _ _ _ h => h) (by rfl) ?_ hHeld ?_
      rotate_left
      ·intro w' hSw
       go_simp <;> with_reducible rfl
      try simp only [Act.put,List.setIfInBounds_toArray,List.set_cons_zero,List.set_cons_succ]
      --CUT8f
      refine wpXs 34 rfl (by kernel_rfl) (fun K hK => ?_)
      go_simp
      refine (HC4.out _ hq3).mono ?_
      rintro e v4 ⟨rfl,hb4⟩
      have hq4:Below wr.heap.size wr v4:=hq3.trans (hb4.mono hq3.size)
      refine hK.out _ _ (HSF.out _ hq4) (fun hHeld => ?_)
      clear hK K
      try simp only [Act.put,List.setIfInBounds_toArray,List.set_cons_zero,List.set_cons_succ]
      --CUT9f
      refine wpXs 41 rfl (by kernel_rfl) (fun K hK => ?_)
      go_simp
      refine (HC5.out _ hq4).mono ?_
      rintro e v5 ⟨rfl,hb5⟩
      have hq5:Below wr.heap.size wr v5:=hq4.trans (hb5.mono hq4.size)
      refine hK.out _ _ (HSF.out _ hq5) (fun hHeld => ?_)
      clear hK K
      try simp only [Act.put,List.setIfInBounds_toArray,List.set_cons_zero,List.set_cons_succ]
      refine wpXt (v:=?_) 42 rfl (by kernel_rfl) (fun _ _ _ h => h) (by rfl) ?_ hHeld ?_
      rotate_left
      ·intro w' hSw
       go_simp <;> with_reducible rfl
      try simp only [Act.put,List.setIfInBounds_toArray,List.set_cons_zero,List.set_cons_succ]
      refine wpXs 43 rfl (by kernel_rfl) (fun K hK => ?_)
      go_simp
      refine hK.out _ _ (HSF.out _ hq5) (fun hHeld => ?_)
      clear hK K
      try simp only [Act.put,List.setIfInBounds_toArray,List.set_cons_zero,List.set_cons_succ]
      refine wpAnyX_done (by kernel_rfl) ?_ _
      --CUT5f
      have HN:Hid (Below W6.heap.size W6 v5):=HBW.out.trans (hq5.mono HBW.out.size)
      clear hq0 hq1 hq2 hq3 hq4 hq5 hb1 hb2 hb3 hb4 hb5 HSF
      go_wp2
      go_roundw
      case rel => exact ⟨u + 1,by omega,by go_num,HN⟩
      case measure => simp [intOf]; omega
     ·replace HC1:Hid (∀ w',Below wr.heap.size wr w' → Calls Try.prog 9 #[.slice a1 n1 c1,.int .i64 st] w' fun e w'' => e = .returned (.bool true)∧Below w'.heap.size w' w''):=HC1
      refine wp_region_X (fun w' => w'.cell? ⟨R,u,none⟩ = some (.slice a1 n1 c1)∧w'.cell? ⟨gs,k,none⟩ = some (.int .i64 st)∧w'.cell? ⟨gs,k + 1,none⟩ = some (.int .i64 sn)∧w'.cell? ⟨Z,0,none⟩ = some (.slice (some ⟨ga,0,none⟩) nb nb)∧w'.cell? ⟨Z,1,none⟩ = some (.slice (some ⟨gb,0,none⟩) nb nb)∧w'.cell? ⟨ga,k,none⟩ = some (.slice aI nI cI)∧w'.cell? ⟨gb,k,none⟩ = some (.slice aO nO cO)∧w'.cell? ⟨B6,0,none⟩ = some (.slice ap np cp)) 99 (by kernel_rfl) (HSF.out _ hq0) (fun hHeld => ?_)
      refine wpXt (v:=?_) 0 rfl (by kernel_rfl) (fun _ _ _ h => h) (by rfl) ?_ hHeld ?_
      rotate_left
      ·intro w' hSw
       go_simp <;> with_reducible rfl
      try simp only [Act.put,List.setIfInBounds_toArray,List.set_cons_zero,List.set_cons_succ]
      refine wpXt (v:=?_) 1 rfl (by kernel_rfl) (fun _ _ _ h => h) (by rfl) ?_ hHeld ?_
      rotate_left
      ·intro w' hSw
       go_simp <;> with_reducible rfl
      try simp only [Act.put,List.setIfInBounds_toArray,List.set_cons_zero,List.set_cons_succ]
      refine wpXt (v:=?_) 2 rfl (by kernel_rfl) (fun _ _ _ h => h) (by rfl) ?_ hHeld ?_
      rotate_left
      ·intro w' hSw
       go_simp <;> with_reducible rfl
      try simp only [Act.put,List.setIfInBounds_toArray,List.set_cons_zero,List.set_cons_succ]
      refine wpXt (v:=?_) 3 rfl (by kernel_rfl) (fun _ _ _ h => h) (by rfl) ?_ hHeld ?_
      rotate_left
      ·intro w' hSw
       go_simp <;> with_reducible rfl
      try simp only [Act.put,List.setIfInBounds_toArray,List.set_cons_zero,List.set_cons_succ]
      refine wpXt (v:=?_) 4 rfl (by kernel_rfl) (fun _ _ _ h => h) (by rfl) ?_ hHeld ?_
      rotate_left
      ·intro w' hSw
       go_simp <;> with_reducible rfl
      try simp only [Act.put,List.setIfInBounds_toArray,List.set_cons_zero,List.set_cons_succ]
      refine wpXt (v:=?_) 5 rfl (by kernel_rfl) (fun _ _ _ h => h) (by rfl) ?_ hHeld ?_
      rotate_left
      ·intro w' hSw
       go_simp <;> with_reducible rfl
      try simp only [Act.put,List.setIfInBounds_toArray,List.set_cons_zero,List.set_cons_succ]
      refine wpXt (v:=?_) 6 rfl (by kernel_rfl) (fun _ _ _ h => h) (by rfl) ?_ hHeld ?_
      rotate_left
      ·intro w' hSw
       go_simp <;> with_reducible rfl
      try simp only [Act.put,List.setIfInBounds_toArray,List.set_cons_zero,List.set_cons_succ]
      refine wpXt (v:=?_) 7 rfl (by kernel_rfl) (fun _ _ _ h => h) (by rfl) ?_ hHeld ?_
      rotate_left
      ·intro w' hSw
       go_simp <;> with_reducible rfl
      try simp only [Act.put,List.setIfInBounds_toArray,List.set_cons_zero,List.set_cons_succ]
      refine wpXt (v:=?_) 9 rfl (by kernel_rfl) (fun _ _ _ h => h) (by rfl) ?_ hHeld ?_
      rotate_left
      ·intro w' hSw
       go_simp <;> with_reducible rfl
      try simp only [Act.put,List.setIfInBounds_toArray,List.set_cons_zero,List.set_cons_succ]
      refine wpXt (v:=?_) 10 rfl (by kernel_rfl) (fun _ _ _ h => h) (by rfl) ?_ hHeld ?_
      rotate_left
      ·intro w' hSw
       go_simp <;> with_reducible rfl
      try simp only [Act.put,List.setIfInBounds_toArray,List.set_cons_zero,List.set_cons_succ]
      refine wpXt (v:=?_) 11 rfl (by kernel_rfl) (fun _ _ _ h => h) (by rfl) ?_ hHeld ?_
      rotate_left
      ·intro w' hSw
       go_simp <;> with_reducible rfl
      try simp only [Act.put,List.setIfInBounds_toArray,List.set_cons_zero,List.set_cons_succ]
      refine wpXt (v:=?_) 12 rfl (by kernel_rfl) (fun _ _ _ h => h) (by rfl) ?_ hHeld ?_
      rotate_left
      ·intro w' hSw
       go_simp <;> with_reducible rfl
      try simp only [Act.put,List.setIfInBounds_toArray,List.set_cons_zero,List.set_cons_succ]
      refine wpXt (v:=?_) 13 rfl (by kernel_rfl) (fun _ _ _ h => h) (by rfl) ?_ hHeld ?_
      rotate_left
      ·intro w' hSw
       go_simp <;> with_reducible rfl
      try simp only [Act.put,List.setIfInBounds_toArray,List.set_cons_zero,List.set_cons_succ]
      refine wpXt (v:=?_) 14 rfl (by kernel_rfl) (fun _ _ _ h => h) (by rfl) ?_ hHeld ?_
      rotate_left
      ·intro w' hSw
       go_simp <;> with_reducible rfl
      try simp only [Act.put,List.setIfInBounds_toArray,List.set_cons_zero,List.set_cons_succ]
      refine wpXs 8 rfl (by kernel_rfl) (fun K hK => ?_)
      go_simp
      refine (HC1.out _ hq0).mono ?_
      rintro e v1 ⟨rfl,hb1⟩
      have hq1:Below wr.heap.size wr v1:=hq0.trans (hb1.mono hq0.size)
      refine hK.out _ _ (HSF.out _ hq1) (fun hHeld => ?_)
      clear hK K
      try simp only [Act.put,List.setIfInBounds_toArray,List.set_cons_zero,List.set_cons_succ]
      refine wpXs 15 rfl (by kernel_rfl) (fun K hK => ?_)
      go_simp
      refine (HC2.out _ hq1).mono ?_
      rintro e v2 ⟨rfl,hb2⟩
      have hq2:Below wr.heap.size wr v2:=hq1.trans (hb2.mono hq1.size)
      refine hK.out _ _ (HSF.out _ hq2) (fun hHeld => ?_)
      clear hK K
      try simp only [Act.put,List.setIfInBounds_toArray,List.set_cons_zero,List.set_cons_succ]
      refine wpXt (v:=?_) 16 rfl (by kernel_rfl) (fun _ _ _ h => h) (by rfl) ?_ hHeld ?_
      rotate_left
      ·intro w' hSw
       go_simp <;> with_reducible rfl
      try simp only [Act.put,List.setIfInBounds_toArray,List.set_cons_zero,List.set_cons_succ]
      refine wpXk 17 rfl (by kernel_rfl) (fun _ _ _ h => h) (by rfl) hHeld ?_
      try simp only [Act.put,List.setIfInBounds_toArray,List.set_cons_zero,List.set_cons_succ]
      refine wpXk 18 rfl (by kernel_rfl) (fun _ _ _ h => h) (by rfl) hHeld ?_
      try simp only [Act.put,List.setIfInBounds_toArray,List.set_cons_zero,List.set_cons_succ]
      refine wpXk 19 rfl (by kernel_rfl) (fun _ _ _ h => h) (by rfl) hHeld ?_
      try simp only [Act.put,List.setIfInBounds_toArray,List.set_cons_zero,List.set_cons_succ]
      refine wpXk 20 rfl (by kernel_rfl) (fun _ _ _ h => h) (by rfl) hHeld ?_
      try simp only [Act.put,List.setIfInBounds_toArray,List.set_cons_zero,List.set_cons_succ]
      refine wpXt (v:=?_) 21 rfl (by kernel_rfl) (fun _ _ _ h => h) (by rfl) ?_ hHeld ?_
      rotate_left
      ·intro w' hSw
       go_simp <;> with_reducible rfl
      try simp only [Act.put,List.setIfInBounds_toArray,List.set_cons_zero,List.set_cons_succ]
      refine wpXt (v:=?_) 22 rfl (by kernel_rfl) (fun _ _ _ h => h) (by rfl) ?_ hHeld ?_
      rotate_left
      ·intro w' hSw
       go_simp <;> with_reducible rfl
      try simp only [Act.put,List.setIfInBounds_toArray,List.set_cons_zero,List.set_cons_succ]
      --CUT4t
      refine wpXt (v:=?_) 23 rfl (by kernel_rfl) (fun _ _ _ h => h) (by rfl) ?_ hHeld ?_
      rotate_left
      ·intro w' hSw
       go_simp <;> with_reducible rfl
      try simp only [Act.put,List.setIfInBounds_toArray,List.set_cons_zero,List.set_cons_succ]
      refine wpXt (v:=?_) 24 rfl (by kernel_rfl) (fun _ _ _ h => h) (by rfl) ?_ hHeld ?_
      rotate_left
      ·intro w' hSw
       go_simp <;> with_reducible rfl
      try simp only [Act.put,List.setIfInBounds_toArray,List.set_cons_zero,List.set_cons_succ]
      refine wpXt (v:=?_) 25 rfl (by kernel_rfl) (fun _ _ _ h => h) (by rfl) ?_ hHeld ?_
      rotate_left
      ·intro w' hSw
       go_simp <;> with_reducible rfl
      try simp only [Act.put,List.setIfInBounds_toArray,List.set_cons_zero,List.set_cons_succ]
      refine wpXt (v:=?_) 26 rfl (by kernel_rfl) (fun _ _ _ h => h) (by rfl) ?_ hHeld ?_
      rotate_left
      ·intro w' hSw
       go_simp <;> with_reducible rfl
      try simp only [Act.put,List.setIfInBounds_toArray,List.set_cons_zero,List.set_cons_succ]
      refine wpXt (v:=?_) 27 rfl (by kernel_rfl) (fun _ _ _ h => h) (by rfl) ?_ hHeld ?_
      rotate_left
      ·intro w' hSw
       go_simp <;> with_reducible rfl
      try simp only [Act.put,List.setIfInBounds_toArray,List.set_cons_zero,List.set_cons_succ]
      refine wpXt (v:=?_) 28 rfl (by kernel_rfl) (fun _ _ _ h => h) (by rfl) ?_ hHeld ?_
      rotate_left
      ·intro w' hSw
       go_simp <;> with_reducible rfl
      try simp only [Act.put,List.setIfInBounds_toArray,List.set_cons_zero,List.set_cons_succ]
      refine wpXt (v:=?_) 29 rfl (by kernel_rfl) (fun _ _ _ h => h) (by rfl) ?_ hHeld ?_
      rotate_left
      ·intro w' hSw
       go_simp <;> with_reducible rfl
      try simp only [Act.put,List.setIfInBounds_toArray,List.set_cons_zero,List.set_cons_succ]
      --CUT7t
      refine wpXt (v:=?_) 30 rfl (by kernel_rfl) (fun _ _ _ h => h) (by rfl) ?_ hHeld ?_
      rotate_left
      ·intro w' hSw
       go_simp <;> with_reducible rfl
      try simp only [Act.put,List.setIfInBounds_toArray,List.set_cons_zero,List.set_cons_succ]
      refine wpXt (v:=?_) 31 rfl (by kernel_rfl) (fun _ _ _ h => h) (by rfl) ?_ hHeld ?_
      rotate_left
      ·intro w' hSw
       go_simp <;> with_reducible rfl
      try simp only [Act.put,List.setIfInBounds_toArray,List.set_cons_zero,List.set_cons_succ]
      refine wpXt (v:=?_) 32 rfl (by kernel_rfl) (fun _ _ _ h => h) (by rfl) ?_ hHeld ?_
      rotate_left
      ·intro w' hSw
       go_simp <;> with_reducible rfl
      try simp only [Act.put,List.setIfInBounds_toArray,List.set_cons_zero,List.set_cons_succ]
      refine wpXt (v:=?_) 33 rfl (by kernel_rfl) (fun _ _ _ h => h) (by rfl) ?_ hHeld ?_
      rotate_left
      ·intro w' hSw
       go_simp <;> with_reducible rfl
      try simp only [Act.put,List.setIfInBounds_toArray,List.set_cons_zero,List.set_cons_succ]
      refine wpXt (v:=?_) 35 rfl (by kernel_rfl) (fun _ _ _ h => h) (by rfl) ?_ hHeld ?_
      rotate_left
      ·intro w' hSw
       go_simp <;> with_reducible rfl
      try simp only [Act.put,List.setIfInBounds_toArray,List.set_cons_zero,List.set_cons_succ]
      refine wpXt (v:=?_) 36 rfl (by kernel_rfl) (fun _ _ _ h => h) (by rfl) ?_ hHeld ?_
      rotate_left
      ·intro w' hSw
       go_simp <;> with_reducible rfl
      try simp only [Act.put,List.setIfInBounds_toArray,List.set_cons_zero,List.set_cons_succ]
      refine wpXt (v:=?_) 37 rfl (by kernel_rfl) (fun _ _ _ h => h) (by rfl) ?_ hHeld ?_
      rotate_left
      ·intro w' hSw
       go_simp <;> with_reducible rfl
      try simp only [Act.put,List.setIfInBounds_toArray,List.set_cons_zero,List.set_cons_succ]
      refine wpXt (v:=?_) 38 rfl (by kernel_rfl) (fun _ _ _ h => h) (by rfl) ?_ hHeld ?_
      rotate_left
      ·intro w' hSw
       go_simp <;> with_reducible rfl
      try simp only [Act.put,List.setIfInBounds_toArray,List.set_cons_zero,List.set_cons_succ]
      refine wpXt (v:=?_) 39 rfl (by kernel_rfl) (fun _ _ _ h => h) (by rfl) ?_ hHeld ?_
      rotate_left
      ·intro w' hSw
       go_simp <;> with_reducible rfl
      try simp only [Act.put,List.setIfInBounds_toArray,List.set_cons_zero,List.set_cons_succ]
      refine wpXt (v:=?_) 40 rfl (by kernel_rfl) (fun _ _ _ h => h) (by rfl) ?_ hHeld ?_
      rotate_left
      ·intro w' hSw
       go_simp <;> with_reducible rfl
      try simp only [Act.put,List.setIfInBounds_toArray,List.set_cons_zero,List.set_cons_succ]
      --CUT8t
      refine wpXs 34 rfl (by kernel_rfl) (fun K hK => ?_)
      go_simp
      refine (HC4.out _ hq2).mono ?_
      rintro e v4 ⟨rfl,hb4⟩
      have hq4:Below wr.heap.size wr v4:=hq2.trans (hb4.mono hq2.size)
      refine hK.out _ _ (HSF.out _ hq4) (fun hHeld => ?_)
      clear hK K
      try simp only [Act.put,List.setIfInBounds_toArray,List.set_cons_zero,List.set_cons_succ]
      --CUT9t
      refine wpXs 41 rfl (by kernel_rfl) (fun K hK => ?_)
      go_simp
      refine (HC5.out _ hq4).mono ?_
      rintro e v5 ⟨rfl,hb5⟩
      have hq5:Below wr.heap.size wr v5:=hq4.trans (hb5.mono hq4.size)
      refine hK.out _ _ (HSF.out _ hq5) (fun hHeld => ?_)
      clear hK K
      try simp only [Act.put,List.setIfInBounds_toArray,List.set_cons_zero,List.set_cons_succ]
      refine wpXt (v:=?_) 42 rfl (by kernel_rfl) (fun _ _ _ h => h) (by rfl) ?_ hHeld ?_
      rotate_left
      ·intro w' hSw
       go_simp <;> with_reducible rfl
      try simp only [Act.put,List.setIfInBounds_toArray,List.set_cons_zero,List.set_cons_succ]
      refine wpXs 43 rfl (by kernel_rfl) (fun K hK => ?_)
      go_simp
      refine hK.out _ _ (HSF.out _ hq5) (fun hHeld => ?_)
      clear hK K
      try simp only [Act.put,List.setIfInBounds_toArray,List.set_cons_zero,List.set_cons_succ]
      refine wpAnyX_done (by kernel_rfl) ?_ _
      --CUT5t
      have HN:Hid (Below W6.heap.size W6 v5):=HBW.out.trans (hq5.mono HBW.out.size)
      clear hq0 hq1 hq2 hq4 hq5 hb1 hb2 hb4 hb5 HSF
      go_wp2
      go_roundw
      case rel => exact ⟨u + 1,by omega,by go_num,HN⟩
      case measure => simp [intOf]; omega
    ·have HN:Hid (Below w4.heap.size w4 wr):=H6.out.1.trans (HBR.out.mono H6.out.1.size)
     clear HBR
     go_wp2
     go_roundw
     case rel => exact ⟨k + 1,by omega,by go_num,HN⟩
     case measure => simp [intOf]; omega
  ·have HE:Hid (Below w.heap.size w wr):=HB4.out.trans (HBR.out.mono HB4.out.size)
   clear HBR
   go_wp2
   go_ret
   exact ⟨rfl,HE.out⟩
end Go.Proofs.Ytglfpnnfcpnmoaa
