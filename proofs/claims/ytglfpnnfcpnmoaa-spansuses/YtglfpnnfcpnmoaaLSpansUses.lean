/-
  The walk of SpansUses: a value is needed where it is used, and where it is made; never ahead of that, where it is made.
-/
import Derived.Test.YtglfpnnfcpnmoaaV19
import Derived.Test.YtglfpnnfcpnmoaaF9
import Derived.Deep.QuietTactic
import Derived.BigQuiet
import Derived.Deep.DeepCutAuto
import Derived.Deep.CutBlock
namespace Go.Proofs.Ytglfpnnfcpnmoaa
open Go.RowKit
set_option linter.unusedVariables false
theorem blk_atG {w:World} {ab:Option Addr} {nb cb:Nat} {bs:List Blk} (h:SlOf w 3 (RBlk w) (.slice ab nb cb) bs) (t:Nat) (ht:t < bs.length):∃ b off ap cp ai ci ae ce,ab = some ⟨b,off,none⟩∧b < w.heap.size∧w.cell? ⟨b,off + t * 3,none⟩ = some (.slice ap bs[t].params.length cp)∧w.cell? ⟨b,off + t * 3 + 1,none⟩ = some (.slice ai bs[t].instrs.length ci)∧w.cell? ⟨b,off + t * 3 + 2,none⟩ = some (.slice ae bs[t].edges.length ce)∧SlOf w 1 RInt (.slice ap bs[t].params.length cp) bs[t].params∧SlOf w 3 (RIns w) (.slice ai bs[t].instrs.length ci) bs[t].instrs∧SlOf w 2 (REdg w) (.slice ae bs[t].edges.length ce) bs[t].edges:=by
 obtain ⟨b,off,cs,h1,h2,⟨vp,vi,ve,rfl,hp,hi,he⟩,h4⟩:=h.at t ht
 obtain ⟨ap,cp,rfl,_⟩:=hp.out
 obtain ⟨ai,ci,rfl,_⟩:=hi.out
 obtain ⟨ae,ce,rfl,_⟩:=he.out
 exact ⟨b,off,ap,cp,ai,ci,ae,ce,h1,block_lt (h4 0 (by simp)),h4 0 (by simp),h4 1 (by simp),h4 2 (by simp),hp,hi,he⟩
theorem ins_atG {w:World} {ai:Option Addr} {ni ci:Nat} {xs:List Ins} (h:SlOf w 3 (RIns w) (.slice ai ni ci) xs) (k:Nat) (hk:k < xs.length):∃ b off ao co asp nsp csp,ai = some ⟨b,off,none⟩∧b < w.heap.size∧w.cell? ⟨b,off + k * 3,none⟩ = some (.int .i64 xs[k].op)∧w.cell? ⟨b,off + k * 3 + 1,none⟩ = some (.slice ao xs[k].operands.length co)∧w.cell? ⟨b,off + k * 3 + 2,none⟩ = some (.slice asp nsp csp)∧SlOf w 5 ROpr (.slice ao xs[k].operands.length co) xs[k].operands:=by
 obtain ⟨b,off,cs,h1,h2,⟨vo,vs,rfl,ho,hs⟩,h4⟩:=h.at k hk
 obtain ⟨ao,co,rfl,_⟩:=ho.out
 obtain ⟨asp,csp,rfl,_⟩:=hs.out
 exact ⟨b,off,ao,co,asp,_,csp,h1,block_lt (h4 0 (by simp)),h4 0 (by simp),h4 1 (by simp),h4 2 (by simp),ho⟩
theorem start_bd {bs:List Blk} (h:∀ b ∈ bs,b.instrs.length ≤ 40):∀ k,k ≤ bs.length → startM bs k ≤ 82 * (k:Int)
 | 0,_ => by simp [startM]
 | k + 1,hk => by
  have ih:=start_bd h k (by omega)
  have h1:=h _ (List.getElem_mem (show k < bs.length by omega))
  rw [startM_succ bs k (by omega)]
  omega
set_option maxRecDepth 8000 in
set_option maxHeartbeats 8000000 in
theorem spansUses_walk (a:Int) (wa:(Lit.int .i64 a).wf = true) (b:Int) (wb:(Lit.int .i64 b).wf = true) (l:List Pc) (vl:Value) (w:World) (hl:SlOf w 7 RPc vl l) (hp:∀ p ∈ l,PcF p) :
  Calls Try.prog 3 #[.int .i64 a,.int .i64 b,vl] w fun e w' => e = .returned (.bool true)∧Below w.heap.size w w':=by
 obtain ⟨a0,a1⟩:=bounds_i64 wa
 obtain ⟨b0,b1⟩:=bounds_i64 wb
 have HMA:=machine_any a b w a0 a1 b0 b1
 have hm0:=machine_bd a
 have hm1:=machine_bd b
 generalize 2 + pickedOf a 9 = m0 at *
 generalize 2 + pickedOf b 9 = m1 at *
 have HM:Hid ((2 ≤ m0∧m0 ≤ 10)∧2 ≤ m1∧m1 ≤ 10):=⟨hm0,hm1⟩
 have HL:Hid (SlOf w 7 RPc vl l):=hl
 have HP:Hid (∀ p ∈ l,PcOk p∧-9223372036854775808 ≤ p.kind∧p.kind ≤ 9223372036854775807):=hp
 clear wa wb hl hp hm0 hm1
 go_enter Try.func3,Try.ntmps3
 go_upto_region 2 with (go_at_call 5; refine HMA.mono ?_; rintro e w1 ⟨rfl,hb1⟩)
 obtain ⟨W1,hW1⟩:∃ W1,W1 = w1.alloc (.cells #[.int .i64 m0,.int .i64 m1] 25):=⟨_,rfl⟩
 have r1:W1.rowIs w1.heap.size 25 2 (fun q => if q = 0 then .int .i64 m0 else .int .i64 m1):=by
  rw [hW1]
  exact World.rowIs_alloc w1 #[.int .i64 m0,.int .i64 m1] 25 _ fun i hi => by
   simp at hi
   match i,hi with | 0,_ => rfl | 1,_ => rfl
 have HB0:Hid (Below w.heap.size w W1):=by
  show Below _ _ _
  rw [hW1]
  exact hb1.alloc hb1.size _
 rw [← hW1]
 clear hW1 HMA hb1
 obtain ⟨X,hX⟩:∃ X,w1.heap.size = X:=⟨_,rfl⟩
 rw [hX] at r1
 rw [hX]
 have f0:W1.cell? ⟨X,0,none⟩ = some (.int .i64 m0):=r1.cell (i:=0) (by omega)
 have f1:W1.cell? ⟨X,1,none⟩ = some (.int .i64 m1):=r1.cell (i:=1) (by omega)
 have lX:=r1.lt
 clear hX r1
 have HFN:=ma_func m0 m1 l vl W1 HM.out.1 HM.out.2 (HL.out.below HB0.out fun _ _ h => h) HP.out
 go_wp2_with fail
 refine HFN.mono ?_
 clear HFN
 rintro e w2 ⟨vv,vb,rfl,hv2,hb2,hbw2⟩
 obtain ⟨av,cv,rfl,lv⟩:=hv2.out
 obtain ⟨ab,cb,rfl,lb⟩:=hb2.out
 have HF:Hid (shapeErr (masonM m0 m1 l) m0 m1 = 0):=mason_shape m0 m1 HM.out.1 HM.out.2 l
 have HFL0:Hid (flowE (masonM m0 m1 l) m0 m1 ((masonM m0 m1 l).blocks.length * (masonM m0 m1 l).blocks.length + 1) = 0):=mason_flow m0 m1 HM.out.1 HM.out.2 l
 generalize hf:masonM m0 m1 l = f at *
 clear hf
 have f0':w2.cell? ⟨X,0,none⟩ = some (.int .i64 m0):=(hbw2.cell (p:=⟨X,0,none⟩) lX).trans f0
 have f1':w2.cell? ⟨X,1,none⟩ = some (.int .i64 m1):=(hbw2.cell (p:=⟨X,1,none⟩) lX).trans f1
 have lX':X < w2.heap.size:=Nat.lt_of_lt_of_le lX hbw2.size
 have HB2:Hid (Below w.heap.size w w2):=HB0.out.trans (hbw2.mono HB0.out.size)
 have HV2:Hid (SlOf w2 1 RInt (.slice av f.values.length cv) f.values):=hv2
 have HBL2:Hid (SlOf w2 3 (RBlk w2) (.slice ab f.blocks.length cb) f.blocks):=hb2
 unfold longest at lv lb
 clear f0 f1 lX HB0 hbw2 hv2 hb2
 generalize hnv:f.values.length = nv at *
 generalize hnb:f.blocks.length = nb at *
 have HNV:Hid (f.values.length = nv):=hnv
 have HNB:Hid (f.blocks.length = nb):=hnb
 clear hnv hnb
 have HFL:Hid (flowE f m0 m1 (nb * nb + 1) = 0):=HFL0
 clear HFL0
 go_upto_region 3 with fail
 obtain ⟨W,hW⟩:∃ W,W = w2.alloc (.cells #[.slice av nv cv,.slice ab nb cb] 30):=⟨_,rfl⟩
 obtain ⟨Y,hY⟩:∃ Y,w2.heap.size = Y:=⟨_,rfl⟩
 have rY:W.rowIs Y 30 2 (fun q => if q = 0 then .slice av nv cv else .slice ab nb cb):=by
  rw [hW,← hY]
  exact World.rowIs_alloc w2 #[.slice av nv cv,.slice ab nb cb] 30 _ fun i hi => by
   simp at hi
   match i,hi with | 0,_ => rfl | 1,_ => rfl
 have hbW:Below w2.heap.size w2 W:=by rw [hW]; exact (Below.refl _ _).alloc (Nat.le_refl _) _
 have g0:W.cell? ⟨Y,0,none⟩ = some (.slice av nv cv):=rY.cell (i:=0) (by omega)
 have g1:W.cell? ⟨Y,1,none⟩ = some (.slice ab nb cb):=rY.cell (i:=1) (by omega)
 have lY:=rY.lt
 have f0:W.cell? ⟨X,0,none⟩ = some (.int .i64 m0):=(hbW.cell (p:=⟨X,0,none⟩) lX').trans f0'
 have f1:W.cell? ⟨X,1,none⟩ = some (.int .i64 m1):=(hbW.cell (p:=⟨X,1,none⟩) lX').trans f1'
 have lX:X < W.heap.size:=Nat.lt_of_lt_of_le lX' hbW.size
 have HB:Hid (Below w.heap.size w W):=HB2.out.trans (hbW.mono HB2.out.size)
 have HV:Hid (SlOf W 1 RInt (.slice av nv cv) f.values):=HV2.out.below hbW fun _ _ h => h
 have HBL:Hid (SlOf W 3 (RBlk W) (.slice ab nb cb) f.blocks):=HBL2.out.below hbW (RBlk.below hbW)
 rw [← hW,hY]
 clear hW hY rY hbW f0' f1' lX' HB2 HV2 HBL2
 have HD:=spans_any f nv nb m0 m1 av ab cv cb HFL.out HNV.out HNB.out W HV.out HBL.out
 go_wp2_with fail
 refine HD.mono ?_
 clear HD
 rintro e w3 ⟨R,vs,I,O,rfl,hps,htold,hRl,hb3⟩
 have f0:=(hb3.cell (p:=⟨X,0,none⟩) lX).trans f0
 have f1:=(hb3.cell (p:=⟨X,1,none⟩) lX).trans f1
 have g0:=(hb3.cell (p:=⟨Y,0,none⟩) lY).trans g0
 have g1:=(hb3.cell (p:=⟨Y,1,none⟩) lY).trans g1
 have lY3:Y < w3.heap.size:=Nat.lt_of_lt_of_le lY hb3.size
 have HBL3:Hid (SlOf w3 3 (RBlk w3) (.slice ab nb cb) f.blocks):=HBL.out.below hb3 (RBlk.below hb3)
 have hE:flowE f m0 m1 (f.blocks.length * f.blocks.length + 1) = 0:=by rw [HNB.out]; exact HFL.out
 have hsh:=(flowE_all hE).1
 have SI:=shape_in hsh
 have hn16:nb ≤ 16:=by have:=SI.nb; rw [HNB.out] at this; omega
 have hnv160:nv ≤ 160:=by have:=SI.nv; rw [HNV.out] at this; omega
 have HFB:Hid (∀ b ∈ f.blocks,b.params.length ≤ 5∧b.instrs.length ≤ 40∧∀ x ∈ b.instrs,x.operands.length ≤ longest):=fun b hb => by
  have h1:=SI.fits b hb
  unfold blkFits at h1
  simp only [Bool.and_eq_true,decide_eq_true_eq,List.all_eq_true] at h1
  refine ⟨by omega,by omega,fun x hx => ?_⟩
  have h2:=h1.2 x hx
  unfold insFits at h2
  simp only [decide_eq_true_eq] at h2
  unfold longest
  omega
 have HVV:Hid ((∀ b ∈ f.blocks,∀ v ∈ b.params,0 ≤ v∧v < (nv:Int))∧∀ b ∈ f.blocks,∀ x ∈ b.instrs,∀ o ∈ x.operands,0 ≤ o.value∧o.value < (nv:Int)):=by
  rw [← HNV.out]
  exact ⟨fun b hb v hv => isValue_bd (marks_val _ _ _ SI.mks v (mem_all hb (List.mem_append_left _ hv))),fun b hb x hx o ho => isValue_bd (instrErr_val (SI.ins b hb x hx) o ho)⟩
 have ht':=htold
 rw [← HNV.out] at ht'
 have HSA:Hid (∀ k,k < nb → ∀ u,u < nv → StayAt f.blocks nv I O k u):=fun k hk u hu => by
  have h:=stay_at hE ht' k (by rw [HNB.out]; exact hk) u (by rw [HNV.out]; exact hu)
  rw [HNV.out] at h
  exact h
 have HSP:Hid (∀ k,k < nb → ∀ u,u < nv → ∀ p,startM f.blocks k ≤ p → p < startM f.blocks (k + 1) → (inB (spansM f.blocks nv I O nb u) p = true ↔ ((stayM (blkA f.blocks k) I O k nv (startM f.blocks k) u).1 ≤ p∧p < (stayM (blkA f.blocks k) I O k nv (startM f.blocks k) u).2))):=fun k hk u hu p h1 h2 => by
  rw [inB_iff]
  have hst:=stays_in hE ht'
  rw [HNV.out] at hst
  have h:=spans_blk hst u hu k (by rw [HNB.out]; exact hk) p h1 h2
  rw [HNB.out] at h
  exact h
 have HSN:Hid (∀ k,k ≤ nb → 0 ≤ startM f.blocks k∧startM f.blocks k ≤ 1312):=fun k hk => by
  have h:=start_bd (bs:=f.blocks) (fun b hb => (HFB.out b hb).2.1) k (by rw [HNB.out]; exact hk)
  exact ⟨start_nn _ _,by omega⟩
 obtain ⟨S,hS⟩:∃ S,spansM f.blocks nv I O nb = S:=⟨_,rfl⟩
 have hlen:∀ v,(S v).length ≤ 16:=fun v => by
  have h:=spansM_len f.blocks nv I O v nb
  rw [← hS]
  omega
 rw [hS] at hps HSP
 have HLEN:Hid (∀ v,(S v).length ≤ 16):=hlen
 have HC:=starts_any f.blocks nb nv av ab cv cb w3 HNB.out HBL3.out (by omega)
 clear hE hsh SI ht' htold hS
 go_wp2_with fail
 refine HC.mono ?_
 clear HC
 rintro e w4 ⟨gs,cap,rfl,hgl,hs3,hb4⟩
 have lY4:Y < w4.heap.size:=Nat.lt_of_lt_of_le lY3 hb4.size
 have y0:=(hb4.cell (p:=⟨Y,0,none⟩) lY3).trans g0
 have y1:=(hb4.cell (p:=⟨Y,1,none⟩) lY3).trans g1
 have HBL4:Hid (SlOf w4 3 (RBlk w4) (.slice ab nb cb) f.blocks):=HBL3.out.below hb4 (RBlk.below hb4)
 have HLS:Hid (∀ w',Below w4.heap.size w4 w' → ∀ k,k ≤ nb → w'.cell? ⟨gs,k,none⟩ = some (.int .i64 (startM f.blocks k))):=fun w' hh k hk => by
  have h:=rowl_at hs3 k (by rw [startsW_length]; omega)
  have e:(startsW f.blocks (nb + 1)).getD k 0 = ptW (startM f.blocks k):=by
   have hk':k < nb + 1:=by omega
   simp [startsW,List.getD,hk']
  have hbd:=HSN.out k hk
  rw [e,ptW_id (by omega) (by omega)] at h
  exact (hh.cell (p:=⟨gs,k,none⟩) h.2).trans h.1
 have lR:=hps.row.lt
 have HRC:Hid (∀ w',Below w4.heap.size w4 w' → ∀ v,v < nv → ∃ a c,w'.cell? ⟨R,v,none⟩ = some (.slice a (S v).length c)∧SlOf w' 2 RSn (.slice a (S v).length c) (S v)):=fun w' hh v hv => by
  have hh3:=hb4.trans (hh.mono hb4.size)
  obtain ⟨a,c,e,hsl⟩:=hps.spans v hv (by have:=hlen v; omega)
  exact ⟨a,c,((hh3.cell (p:=⟨R,v,none⟩) lR).trans (hps.row.cell hv)).trans (by rw [e]),hsl.below hh3 fun _ _ h => h⟩
 have HB4:Hid (Below w.heap.size w w4):=HB.out.trans ((hb3.trans (hb4.mono hb3.size)).mono HB.out.size)
 have wn:IntKind.i64.wrap ((nb:Int) + 1) = (nb:Int) + 1:=by rw [IntKind.wrap_i64]; omega
 clear hps hb3 hb4 hRl hgl hs3 hlen f0 f1 g0 g1 lX lY lY3 lY4 lR HV HBL HBL3 HB HM
 --CUT0
 go_wp2_with fail
 clear y0 y1 wn
 go_loopw [58] (fun i wr => ∃ k:Nat,k ≤ nb∧i = .int .i64 k∧Hid (Below w4.heap.size w4 wr)) (fun i _ => nb - (intOf i).toNat)
 case atStart => exact ⟨0,Nat.zero_le _,rfl,Below.refl _ _⟩
 case round =>
  obtain ⟨k,hk,rfl,HBR⟩:=hrel
  by_cases hkn:k < nb
  ·have hkl:k < f.blocks.length:=by have:=HNB.out; omega
   obtain ⟨bb,ob,ap,cp,ai,ci,ae,ce,rfl,lbb,c0,c1,c2,sp,si,se⟩:=blk_atG HBL4.out k hkl
   obtain ⟨x,hx⟩:∃ x,f.blocks[k] = x:=⟨_,rfl⟩
   have hxm:x ∈ f.blocks:=by rw [← hx]; exact List.getElem_mem hkl
   have hxA:blkA f.blocks k = x:=by rw [blkA_at hkl,hx]
   have hst1:=startM_succ f.blocks k hkl
   rw [hx] at c0 c1 c2 sp si hst1
   obtain ⟨np,hnp⟩:∃ n,x.params.length = n:=⟨_,rfl⟩
   obtain ⟨ni,hni⟩:∃ n,x.instrs.length = n:=⟨_,rfl⟩
   rw [hnp] at c0 sp
   rw [hni] at c1 si hst1
   have hfit:=HFB.out x hxm
   have hbd:=HSN.out k (by omega)
   obtain ⟨st,hst⟩:∃ st,startM f.blocks k = st:=⟨_,rfl⟩
   have HSK:Hid (∀ u,u < nv → StayAt f.blocks nv I O k u):=HSA.out k hkn
   have HPK:Hid (∀ u,u < nv → ∀ p,st ≤ p → p < st + (2 + 2 * (ni:Int)) → (inB (S u) p = true ↔ ((stayM x I O k nv st u).1 ≤ p∧p < (stayM x I O k nv st u).2))):=fun u hu p h1 h2 => by
    have h:=HSP.out k hkn u hu p (by omega) (by omega)
    rw [hxA,hst] at h
    exact h
   have HKX:Hid (x ∈ f.blocks∧blkA f.blocks k = x∧startM f.blocks k = st∧x.params.length = np∧x.instrs.length = ni∧SlOf w4 1 RInt (.slice ap np cp) x.params∧SlOf w4 3 (RIns w4) (.slice ai ni ci) x.instrs):=⟨hxm,hxA,hst,hnp,hni,sp,si⟩
   rw [hst] at hbd
   have hni40:ni ≤ 40∧np ≤ 5:=by omega
   have y0:=(HBR.out.cell (p:=⟨bb,ob + k * 3,none⟩) lbb).trans c0
   have y1:=(HBR.out.cell (p:=⟨bb,ob + k * 3 + 1,none⟩) lbb).trans c1
   have y2:=(HBR.out.cell (p:=⟨bb,ob + k * 3 + 2,none⟩) lbb).trans c2
   obtain ⟨ne,hne⟩:∃ n,f.blocks[k].edges.length = n:=⟨_,rfl⟩
   rw [hx] at hne
   rw [hne] at y2
   obtain ⟨W6,hW6⟩:∃ W6,W6 = wr.alloc (.cells #[.slice ap np cp,.slice ai ni ci,.slice ae ne ce] 40):=⟨_,rfl⟩
   obtain ⟨B6,hB6⟩:∃ B,wr.heap.size = B:=⟨_,rfl⟩
   have t1:W6.cell? ⟨B6,1,none⟩ = some (.slice ai ni ci):=by rw [hW6,← hB6]; simp
   have t0:W6.cell? ⟨B6,0,none⟩ = some (.slice ap np cp):=by rw [hW6,← hB6]; simp
   have lB6:B6 < W6.heap.size:=by rw [hW6,← hB6]; simp
   have H6:Hid (Below w4.heap.size w4 W6∧W6.cell? ⟨B6,0,none⟩ = some (.slice ap np cp)∧B6 < W6.heap.size):=⟨by rw [hW6]; exact HBR.out.alloc HBR.out.size _,t0,lB6⟩
   have HW6:Hid (W6 = wr.alloc (.cells #[.slice ap np cp,.slice ai ni ci,.slice ae ne ce] 40)∧wr.heap.size = B6):=⟨hW6,hB6⟩
   have d1:(k:Int) < (nb:Int):=by omega
   have d2:k < nb + 1:=by omega
   clear hkl lbb c0 c1 c2 sp si se hx hxm hxA hnp hni hfit hW6 hB6 HBR hst hst1 hne t0 lB6
   go_upto_region 10 with fail
   --CUT1
   rw [← HW6.out.1,HW6.out.2]
   clear HW6 y0 y1 y2
   go_wp2_with fail
   clear t1
   go_loopw [66] (fun i wr => ∃ j:Nat,j ≤ ni∧i = .int .i64 j∧Hid (Below W6.heap.size W6 wr)) (fun i _ => ni - (intOf i).toNat)
   case atStart => exact ⟨0,Nat.zero_le _,rfl,Below.refl _ _⟩
   case round =>
    obtain ⟨j,hj,rfl,HBR⟩:=hrel
    have HB4r:Hid (Below w4.heap.size w4 wr):=H6.out.1.trans (HBR.out.mono H6.out.1.size)
    by_cases hjn:j < ni
    ·have hjl:j < x.instrs.length:=by have:=HKX.out.2.2.2.2.1; omega
     obtain ⟨bi,oi,ao,co,asp,nsp,csp,rfl,lbi,i0,i1,i2,so⟩:=ins_atG HKX.out.2.2.2.2.2.2 j hjl
     obtain ⟨y,hy⟩:∃ y,x.instrs[j] = y:=⟨_,rfl⟩
     have hym:y ∈ x.instrs:=by rw [← hy]; exact List.getElem_mem hjl
     rw [hy] at i0 i1 so
     obtain ⟨no,hno⟩:∃ n,y.operands.length = n:=⟨_,rfl⟩
     rw [hno] at i1 so
     have hno63:no ≤ longest:=by have:=(HFB.out x HKX.out.1).2.2 y hym; omega
     unfold longest at hno63
     have z0:=(HB4r.out.cell (p:=⟨bi,oi + j * 3,none⟩) lbi).trans i0
     have z1:=(HB4r.out.cell (p:=⟨bi,oi + j * 3 + 1,none⟩) lbi).trans i1
     have z2:=(HB4r.out.cell (p:=⟨bi,oi + j * 3 + 2,none⟩) lbi).trans i2
     obtain ⟨W7,hW7⟩:∃ W7,W7 = wr.alloc (.cells #[.int .i64 y.op,.slice ao no co,.slice asp nsp csp] 44):=⟨_,rfl⟩
     obtain ⟨B7,hB7⟩:∃ B,wr.heap.size = B:=⟨_,rfl⟩
     have t1:W7.cell? ⟨B7,1,none⟩ = some (.slice ao no co):=by rw [hW7,← hB7]; simp
     have hb7:Below W6.heap.size W6 W7:=by rw [hW7]; exact HBR.out.alloc HBR.out.size _
     have H7:Hid (Below W6.heap.size W6 W7∧Below w4.heap.size w4 W7):=⟨hb7,H6.out.1.trans (hb7.mono H6.out.1.size)⟩
     have s0:=HLS.out W7 H7.out.2 k (by omega)
     rw [HKX.out.2.2.1] at s0
     have HW7:Hid (W7 = wr.alloc (.cells #[.int .i64 y.op,.slice ao no co,.slice asp nsp csp] 44)∧wr.heap.size = B7):=⟨hW7,hB7⟩
     have HYX:Hid (y ∈ x.instrs∧y.operands.length = no∧SlOf w4 5 ROpr (.slice ao no co) y.operands∧∃ h:j < x.instrs.length,x.instrs[j] = y):=⟨hym,hno,so,hjl,hy⟩
     have d3:(j:Int) < (ni:Int):=by omega
     have d4:j < ni + 1:=by omega
     have r1:IntKind.i64.wrap (st + 1) = st + 1:=by rw [IntKind.wrap_i64]; omega
     have r2:IntKind.i64.wrap (2 * (j:Int)) = 2 * (j:Int):=by rw [IntKind.wrap_i64]; omega
     have r3:IntKind.i64.wrap (st + 1 + 2 * (j:Int)) = st + 1 + 2 * (j:Int):=by rw [IntKind.wrap_i64]; omega
     have d5:(k:Int) < (nb:Int) + 1:=by omega
     have d6:k < nb + 1 + 1:=by omega
     clear hjl lbi i0 i1 i2 so hy hym hno hW7 hB7 hb7 HBR HB4r
     go_upto_region 13 with fail
     rw [← HW7.out.1,HW7.out.2]
     clear HW7 z0 z1 z2
     --CUT2
     go_wp2_with fail
     clear t1 s0 r1 r2 r3
     go_loopw [82] (fun i wr => ∃ q:Nat,q ≤ no∧i = .int .i64 q∧Hid (Below W7.heap.size W7 wr)) (fun i _ => no - (intOf i).toNat)
     case atStart => exact ⟨0,Nat.zero_le _,rfl,Below.refl _ _⟩
     case round =>
      obtain ⟨q,hq,rfl,HBR⟩:=hrel
      by_cases hqn:q < no
      ·have hql:q < y.operands.length:=by have:=HYX.out.2.1; omega
       have HB4r:Hid (Below w4.heap.size w4 wr):=H7.out.2.trans (HBR.out.mono H7.out.2.size)
       obtain ⟨bo,oo,rfl,lbo,o0,o1,o2,o3,o4⟩:=opr_cells HYX.out.2.2.1 q hql
       obtain ⟨o,ho⟩:∃ o,y.operands[q] = o:=⟨_,rfl⟩
       have hom:o ∈ y.operands:=by rw [← ho]; exact List.getElem_mem hql
       rw [ho] at o0 o1 o2 o3 o4
       have z0:=(HB4r.out.cell (p:=⟨bo,oo + q * 5,none⟩) lbo).trans o0
       have z1:=(HB4r.out.cell (p:=⟨bo,oo + q * 5 + 1,none⟩) lbo).trans o1
       have z2:=(HB4r.out.cell (p:=⟨bo,oo + q * 5 + 2,none⟩) lbo).trans o2
       have z3:=(HB4r.out.cell (p:=⟨bo,oo + q * 5 + 3,none⟩) lbo).trans o3
       have z4:=(HB4r.out.cell (p:=⟨bo,oo + q * 5 + 4,none⟩) lbo).trans o4
       have hvv:=HVV.out.2 x HKX.out.1 y HYX.out.1 o hom
       obtain ⟨u,hu⟩:∃ u:Nat,o.value = u:=⟨o.value.toNat,by omega⟩
       have hun:u < nv:=by omega
       rw [hu] at z1
       -- where it is needed
       obtain ⟨hjl,hyj⟩:=HYX.out.2.2.2
       have hp:=ptO_bd (st + 1 + 2 * (j:Int)) o
       have hA:=HSK.out u hun
       have hkey:(stayM x I O k nv st u).1 ≤ ptO (st + 1 + 2 * (j:Int)) o∧ptO (st + 1 + 2 * (j:Int)) o < (stayM x I O k nv st u).2∧(o.kind = 2 → (stayM x I O k nv st u).1 = ptO (st + 1 + 2 * (j:Int)) o):=by
        have eA:=HKX.out.2.1
        have eS:=HKX.out.2.2.1
        have hjA:j < (blkA f.blocks k).instrs.length:=by rw [eA]; exact hjl
        have hoA:o ∈ ((blkA f.blocks k).instrs[j]).operands:=by
         have e:(blkA f.blocks k).instrs[j] = y:=by simp only [eA]; exact hyj
         rw [e]; exact hom
        by_cases hk2:o.kind = 2
        ·have h1:=hA.dfn j hjA o hoA hk2 hu
         rw [eA,eS] at h1
         exact ⟨by omega,h1.2,fun _ => h1.1⟩
        ·have h1:=hA.use j hjA o hoA hk2 hu
         rw [eA,eS] at h1
         exact ⟨h1.1,h1.2,fun h => absurd h hk2⟩
       obtain ⟨p,hpp⟩:∃ p,ptO (st + 1 + 2 * (j:Int)) o = p:=⟨_,rfl⟩
       rw [hpp] at hp hkey
       have HN1:Hid (inB (S u) p = true):=(HPK.out u hun p (by omega) (by omega)).2 ⟨hkey.1,hkey.2.1⟩
       have HN2:Hid (o.kind = 2 → inB (S u) (p - 1) = false):=fun h2 => by
        have h3:=HPK.out u hun (p - 1) (by omega) (by omega)
        cases hb:inB (S u) (p - 1)
        ·rfl
        ·have h4:=h3.1 hb
         have:=hkey.2.2 h2
         omega
       have hpl:p = if o.late = true then st + 1 + 2 * (j:Int) + 1 else st + 1 + 2 * (j:Int):=by rw [← hpp]; rfl
       obtain ⟨W9,hW9⟩:∃ W9,W9 = wr.alloc (.cells #[.int .i64 o.kind,.int .i64 u,.bool o.late,.int .i64 o.limit,.int .i64 o.n] 46):=⟨_,rfl⟩
       obtain ⟨B9,hB9⟩:∃ B,wr.heap.size = B:=⟨_,rfl⟩
       have hb9:Below W7.heap.size W7 W9:=by rw [hW9]; exact HBR.out.alloc HBR.out.size _
       have u0:W9.cell? ⟨B9,0,none⟩ = some (.int .i64 o.kind):=by rw [hW9,← hB9]; simp
       have u1:W9.cell? ⟨B9,1,none⟩ = some (.int .i64 u):=by rw [hW9,← hB9]; simp
       have u2:W9.cell? ⟨B9,2,none⟩ = some (.bool o.late):=by rw [hW9,← hB9]; simp
       have lB9:B9 < W9.heap.size:=by rw [hW9,← hB9]; simp
       have hb49:Below w4.heap.size w4 W9:=H7.out.2.trans (hb9.mono H7.out.2.size)
       obtain ⟨a1,c1,k1,s1⟩:=HRC.out W9 hb49 u hun
       obtain ⟨n1,hn1⟩:∃ n,(S u).length = n:=⟨_,rfl⟩
       rw [hn1] at k1 s1
       have HC1:=needed_any a1 n1 c1 (S u) p W9 s1 hn1 (by have:=HLEN.out u; omega)
       rw [HN1.out] at HC1
       have H9:Hid (Below W7.heap.size W7 W9∧Below w4.heap.size w4 W9∧B9 < W9.heap.size∧W9.cell? ⟨B9,0,none⟩ = some (.int .i64 o.kind)∧W9.cell? ⟨B9,1,none⟩ = some (.int .i64 u)∧SlOf W9 2 RSn (.slice a1 n1 c1) (S u)∧(S u).length = n1∧W9.cell? ⟨R,u,none⟩ = some (.slice a1 n1 c1)∧R < W9.heap.size):=⟨hb9,hb49,lB9,u0,u1,s1,hn1,k1,block_lt k1⟩
       have HW9:Hid (W9 = wr.alloc (.cells #[.int .i64 o.kind,.int .i64 u,.bool o.late,.int .i64 o.limit,.int .i64 o.n] 46)∧wr.heap.size = B9):=⟨hW9,hB9⟩
       have hPB:st ≤ p - 1∧p ≤ st + 1 + 2 * (j:Int) + 1:=by omega
       have HPB:Hid (st ≤ p - 1∧p ≤ st + 1 + 2 * (j:Int) + 1):=hPB
       clear hPB
       have d7:(q:Int) < (no:Int):=by omega
       have d8:q < no + 1:=by omega
       have d9:(u:Int) < (nv:Int):=by omega
       have d10:u < nv + 1:=by omega
       have r4:IntKind.i64.wrap (st + 1 + 2 * (j:Int) + 1) = st + 1 + 2 * (j:Int) + 1:=by rw [IntKind.wrap_i64]; omega
       obtain ⟨kd,hkd⟩:∃ kd,o.kind = kd:=⟨_,rfl⟩
       obtain ⟨lt,hlt⟩:∃ lt,o.late = lt:=⟨_,rfl⟩
       rw [hkd] at z0 u0 HN2 H9 HW9
       rw [hlt] at z2 u2 hpl HW9
       clear hql lbo o0 o1 o2 o3 o4 ho hom hvv hu hjl hyj hp hA hkey hpp HN1 hW9 hB9 hb9 hb49 s1 hn1 hkd hlt HB4r HBR lB9
       go_upto_region 17 with fail
       --CUT3
       rw [← HW9.out.1,HW9.out.2]
       clear HW9 z0 z1 z2 z3 z4
       have hfin:∀ w',Below W9.heap.size W9 w' → Hid (Below W7.heap.size W7 w'):=fun w' hh => H9.out.1.trans (hh.mono H9.out.1.size)
       have HFIN:Hid (∀ w',Below W9.heap.size W9 w' → Hid (Below W7.heap.size W7 w')):=hfin
       clear hfin
       cases lt
       ·rw [if_neg (by simp)] at hpl
        subst hpl
        go_wp2_with fail
        refine HC1.mono ?_
        clear HC1
        rintro e w10 ⟨rfl,hb10⟩
        have v0:=(hb10.cell (p:=⟨B9,0,none⟩) H9.out.2.2.1).trans H9.out.2.2.2.1
        by_cases hk2:kd = 2
        ·have v1:=(hb10.cell (p:=⟨B9,1,none⟩) H9.out.2.2.1).trans H9.out.2.2.2.2.1
         have v2:=(hb10.cell (p:=⟨R,u,none⟩) H9.out.2.2.2.2.2.2.2.2).trans H9.out.2.2.2.2.2.2.2.1
         have HC2:=needed_any a1 n1 c1 (S u) ((st + 1 + 2 * (j:Int)) - 1) w10 (H9.out.2.2.2.2.2.1.below hb10 fun _ _ h => h) H9.out.2.2.2.2.2.2.1 (by have:=HLEN.out u; have:=H9.out.2.2.2.2.2.2.1; omega)
         rw [HN2.out hk2] at HC2
         have r5:IntKind.i64.wrap ((st + 1 + 2 * (j:Int)) - 1) = (st + 1 + 2 * (j:Int)) - 1:=by rw [IntKind.wrap_i64]; have:=HPB.out; omega
         have HB10:Hid (Below W9.heap.size W9 w10):=hb10
         subst hk2
         clear u0 u1 u2 k1 hb10
         --CUT4
         go_wp2_with fail
         refine HC2.mono ?_
         clear HC2
         rintro e w11 ⟨rfl,hb11⟩
         have HN:=HFIN.out w11 (HB10.out.trans (hb11.mono HB10.out.size))
         clear hb11
         go_wp2
         go_roundw
         case rel => exact ⟨q + 1,by omega,by go_num,HN⟩
         case measure => simp [intOf]; omega
        ·have g2:((kd:Int) == 2) = false:=by simpa using hk2
         have HN:=HFIN.out w10 hb10
         clear u0 u1 u2 k1 hb10
         go_wp2
         go_roundw
         case rel => exact ⟨q + 1,by omega,by go_num,HN⟩
         case measure => simp [intOf]; omega
       ·rw [if_pos rfl] at hpl
        subst hpl
        go_wp2_with fail
        refine HC1.mono ?_
        clear HC1
        rintro e w10 ⟨rfl,hb10⟩
        have v0:=(hb10.cell (p:=⟨B9,0,none⟩) H9.out.2.2.1).trans H9.out.2.2.2.1
        by_cases hk2:kd = 2
        ·have v1:=(hb10.cell (p:=⟨B9,1,none⟩) H9.out.2.2.1).trans H9.out.2.2.2.2.1
         have v2:=(hb10.cell (p:=⟨R,u,none⟩) H9.out.2.2.2.2.2.2.2.2).trans H9.out.2.2.2.2.2.2.2.1
         have e9:st + 1 + 2 * (j:Int) + 1 - 1 = st + 1 + 2 * (j:Int):=by omega
         have h9:=HN2.out hk2
         rw [e9] at h9
         have HC2:=needed_any a1 n1 c1 (S u) (st + 1 + 2 * (j:Int)) w10 (H9.out.2.2.2.2.2.1.below hb10 fun _ _ h => h) H9.out.2.2.2.2.2.2.1 (by have:=HLEN.out u; have:=H9.out.2.2.2.2.2.2.1; omega)
         rw [h9] at HC2
         have r5:IntKind.i64.wrap (st + 1 + 2 * (j:Int) + 1 - 1) = st + 1 + 2 * (j:Int):=by rw [IntKind.wrap_i64]; have:=HPB.out; omega
         have r6:IntKind.i64.wrap (st + 1 + 2 * (j:Int)) = st + 1 + 2 * (j:Int):=by rw [IntKind.wrap_i64]; have:=HPB.out; omega
         clear e9 h9
         have HB10:Hid (Below W9.heap.size W9 w10):=hb10
         subst hk2
         clear u0 u1 u2 k1 hb10
         --CUT4b
         go_wp2_with fail
         refine HC2.mono ?_
         clear HC2
         rintro e w11 ⟨rfl,hb11⟩
         have HN:=HFIN.out w11 (HB10.out.trans (hb11.mono HB10.out.size))
         clear hb11
         go_wp2
         go_roundw
         case rel => exact ⟨q + 1,by omega,by go_num,HN⟩
         case measure => simp [intOf]; omega
        ·have g2:((kd:Int) == 2) = false:=by simpa using hk2
         have HN:=HFIN.out w10 hb10
         clear u0 u1 u2 k1 hb10
         go_wp2
         go_roundw
         case rel => exact ⟨q + 1,by omega,by go_num,HN⟩
         case measure => simp [intOf]; omega
      ·--CUT4c
       have HN:Hid (Below W6.heap.size W6 wr):=H7.out.1.trans (HBR.out.mono H7.out.1.size)
       clear HBR
       go_wp2
       go_roundw
       case rel => exact ⟨j + 1,by omega,by go_num,HN⟩
       case measure => simp [intOf]; omega
    ·have t0:=(HBR.out.cell (p:=⟨B6,0,none⟩) H6.out.2.2).trans H6.out.2.1
     clear HBR
     --CUT4d
     go_wp2_with fail
     clear t0
     --CUT5
     go_loopw [119] (fun i wr => ∃ q:Nat,q ≤ np∧i = .int .i64 q∧Hid (Below w4.heap.size w4 wr)) (fun i _ => np - (intOf i).toNat)
     case atStart => exact ⟨0,Nat.zero_le _,rfl,HB4r⟩
     case round =>
      clear HB4r
      obtain ⟨q,hq,rfl,HBR⟩:=hrel
      by_cases hqn:q < np
      ·have hql:q < x.params.length:=by have:=HKX.out.2.2.2.1; omega
       obtain ⟨b1,o1,rfl,l1,p1⟩:=int_cell HKX.out.2.2.2.2.2.1 q hql
       obtain ⟨v,hv⟩:∃ v,x.params[q] = v:=⟨_,rfl⟩
       have hvm:v ∈ x.params:=by rw [← hv]; exact List.getElem_mem hql
       have hvb:=HVV.out.1 x HKX.out.1 v hvm
       rw [hv] at p1
       obtain ⟨u,hu⟩:∃ u:Nat,v = u:=⟨v.toNat,by omega⟩
       subst hu
       have hun:u < nv:=by omega
       have z0:=(HBR.out.cell (p:=⟨b1,o1 + q,none⟩) l1).trans p1
       have hA:=(HSK.out u hun).inn (Or.inr (by rw [HKX.out.2.1]; exact hvm))
       rw [HKX.out.2.1,HKX.out.2.2.1] at hA
       have HN1:Hid (inB (S u) st = true):=(HPK.out u hun st (by omega) (by omega)).2 ⟨by omega,hA.2⟩
       have s0:=HLS.out wr HBR.out k (by omega)
       rw [HKX.out.2.2.1] at s0
       obtain ⟨a1,c1,k1,s1⟩:=HRC.out wr HBR.out u hun
       obtain ⟨n1,hn1⟩:∃ n,(S u).length = n:=⟨_,rfl⟩
       rw [hn1] at k1 s1
       have hdr:Below wr.heap.size wr wr.drew:=(Below.refl _ _).drew
       have HC1:=needed_any a1 n1 c1 (S u) st wr.drew (s1.below hdr fun _ _ h => h) hn1 (by have:=HLEN.out u; omega)
       rw [HN1.out] at HC1
       have lR':R < wr.heap.size:=block_lt k1
       have lgs:gs < wr.heap.size:=block_lt s0
       have HSF:Hid (∀ w',Below wr.heap.size wr w' → (fun w' => w'.cell? ⟨R,u,none⟩ = some (.slice a1 n1 c1)∧w'.cell? ⟨gs,k,none⟩ = some (.int .i64 st)) w'):=fun w' hh => ⟨(hh.cell (p:=⟨R,u,none⟩) lR').trans k1,(hh.cell (p:=⟨gs,k,none⟩) lgs).trans s0⟩
       have d7:(q:Int) < (np:Int):=by omega
       have d8:q < np + 1:=by omega
       have d9:(u:Int) < (nv:Int):=by omega
       have d10:u < nv + 1:=by omega
       have d11:(k:Int) < (nb:Int) + 1:=by omega
       have d12:k < nb + 1 + 1:=by omega
       clear hql l1 p1 hv hvm hvb hA HN1 s0 k1 s1 hn1 hdr lR' lgs
       go_upto_region 27 with fail
       --CUT6
       refine wp_region_X (fun w' => w'.cell? ⟨R,u,none⟩ = some (.slice a1 n1 c1)∧w'.cell? ⟨gs,k,none⟩ = some (.int .i64 st)) 99 (by kernel_rfl) (HSF.out _ ((Below.refl _ _).drew)) (fun hHeld => ?_)
       refine wpXt (v:=?_) 0 rfl (by kernel_rfl) (fun _ _ _ h => h) (by rfl) ?_ hHeld ?_
       rotate_left
       ·intro w' hSw
        go_simp <;> with_reducible rfl
       try simp only [Act.put,List.setIfInBounds_toArray,List.set_cons_zero,List.set_cons_succ]
       refine wpXt (v:=?_) 1 rfl (by kernel_rfl) (fun _ _ _ h => h) (by rfl) ?_ hHeld ?_
       rotate_left
       ·intro w' hSw
        go_simp <;> with_reducible rfl
       try simp only [Act.put,List.setIfInBounds_toArray,List.set_cons_zero,List.set_cons_succ]
       refine wpXt (v:=?_) 2 rfl (by kernel_rfl) (fun _ _ _ h => h) (by rfl) ?_ hHeld ?_
       rotate_left
       ·intro w' hSw
        go_simp <;> with_reducible rfl
       try simp only [Act.put,List.setIfInBounds_toArray,List.set_cons_zero,List.set_cons_succ]
       refine wpXt (v:=?_) 3 rfl (by kernel_rfl) (fun _ _ _ h => h) (by rfl) ?_ hHeld ?_
       rotate_left
       ·intro w' hSw
        go_simp <;> with_reducible rfl
       try simp only [Act.put,List.setIfInBounds_toArray,List.set_cons_zero,List.set_cons_succ]
       refine wpXt (v:=?_) 4 rfl (by kernel_rfl) (fun _ _ _ h => h) (by rfl) ?_ hHeld ?_
       rotate_left
       ·intro w' hSw
        go_simp <;> with_reducible rfl
       try simp only [Act.put,List.setIfInBounds_toArray,List.set_cons_zero,List.set_cons_succ]
       refine wpXt (v:=?_) 5 rfl (by kernel_rfl) (fun _ _ _ h => h) (by rfl) ?_ hHeld ?_
       rotate_left
       ·intro w' hSw
        go_simp <;> with_reducible rfl
       try simp only [Act.put,List.setIfInBounds_toArray,List.set_cons_zero,List.set_cons_succ]
       refine wpXt (v:=?_) 6 rfl (by kernel_rfl) (fun _ _ _ h => h) (by rfl) ?_ hHeld ?_
       rotate_left
       ·intro w' hSw
        go_simp <;> with_reducible rfl
       try simp only [Act.put,List.setIfInBounds_toArray,List.set_cons_zero,List.set_cons_succ]
       refine wpXt (v:=?_) 7 rfl (by kernel_rfl) (fun _ _ _ h => h) (by rfl) ?_ hHeld ?_
       rotate_left
       ·intro w' hSw
        go_simp <;> with_reducible rfl
       try simp only [Act.put,List.setIfInBounds_toArray,List.set_cons_zero,List.set_cons_succ]
       refine wpXs 8 rfl (by kernel_rfl) (fun K hK => ?_)
       go_simp
       refine HC1.mono ?_
       clear HC1
       rintro e w9 ⟨rfl,hb9⟩
       refine hK.out _ _ (HSF.out _ (((Below.refl wr.heap.size wr).drew).trans hb9)) (fun hHeld => ?_)
       clear hK K
       try simp only [Act.put,List.setIfInBounds_toArray,List.set_cons_zero,List.set_cons_succ]
       refine wpXs 9 rfl (by kernel_rfl) (fun K hK => ?_)
       go_simp
       refine hK.out _ _ hHeld (fun hHeld => ?_)
       clear hK K
       try simp only [Act.put,List.setIfInBounds_toArray,List.set_cons_zero,List.set_cons_succ]
       refine wpAnyX_done (by kernel_rfl) ?_ _
       have HN:Hid (Below w4.heap.size w4 w9):=HBR.out.trans (((Below.refl wr.heap.size wr).drew.trans hb9).mono HBR.out.size)
       clear hb9 HSF HBR
       go_wp2
       go_roundw
       case rel => exact ⟨q + 1,by omega,by go_num,HN⟩
       case measure => simp [intOf]; omega
      ·have HN:Hid (Below w4.heap.size w4 wr):=HBR.out
       clear HBR
       go_wp2
       go_roundw
       case rel => exact ⟨k + 1,by omega,by go_num,HN⟩
       case measure => simp [intOf]; omega
  ·have HE:Hid (Below w.heap.size w wr):=HB4.out.trans (HBR.out.mono HB4.out.size)
   clear HBR
   go_wp2
   go_ret
   exact ⟨rfl,HE.out⟩
end Go.Proofs.Ytglfpnnfcpnmoaa
