/-
  The contract of 'stays': how long the values stay in a block.
-/
import Derived.Test.YtglfpnnfcpnmoaaV12
import Derived.Test.YtglfpnnfcpnmoaaV4
import Derived.Test.YtglfpnnfcpnmoaaA5
namespace Go.Proofs.Ytglfpnnfcpnmoaa
open Go.RowKit
set_option linter.unusedVariables false
theorem infoSn:(Try.prog.info? 71).map (fun i => (i.zero,i.size,i.bytes)) = some (some (.agg #[.int .i64 0,.int .i64 0]),2,16):=by kernel_rfl
theorem make_sn (n:Nat) (hn:n ≤ 1000000) (w:World):(Instr.makeSlice 48 (.int .i64 (n:Int)) (.int .i64 (n:Int))).run Try.prog w = .ok (.slice (some ⟨w.heap.size,0,none⟩) n n) (w.alloc (.cells (madeCells #[.int .i64 0,.int .i64 0] (n * 2)) 71)):=by
 obtain ⟨i3,hi3,hz⟩:=Option.map_eq_some_iff.1 infoSn
 simp only [Prod.mk.injEq] at hz
 have h:=run_make (P:=Try.prog) w 48 71 i3 (.agg #[.int .i64 0,.int .i64 0]) Try.underlying48 hi3 hz.1 .i64 .i64 n n (by omega) (by omega) (by rw [hz.2.2]; omega) (by omega)
 rw [hz.2.1] at h
 have e:(Value.agg #[.int .i64 0,.int .i64 0]).cells = #[.int .i64 0,.int .i64 0]:=rfl
 rw [e] at h
 simp only [Int.toNat_natCast] at h
 exact h
theorem madeS (w:World) (n:Nat) (t:Nat):(w.alloc (.cells (madeCells #[.int .i64 0,.int .i64 0] (n * 2)) t)).rowIs w.heap.size t (n * 2) (spanC fun _ => (0,0)):=by
 refine ⟨_,heap_alloc_new _ _,size_madeCells _ _,fun i hi => ?_⟩
 have e:spanC (fun _ => (0,0)) i = .int .i64 0:=by unfold spanC; simp
 rw [e]
 have hm:i % 2 = 0 ∨ i % 2 = 1:=by omega
 rcases hm with h | h <;> simp [madeCells,hi,h]
theorem span_c0 (s:Nat → Sp) (v:Nat):spanC s (v * 2) = .int .i64 (s v).1:=by
 unfold spanC
 rw [if_pos (by omega),show v * 2 / 2 = v by omega]
theorem span_c1 (s:Nat → Sp) (v:Nat):spanC s (v * 2 + 1) = .int .i64 (s v).2:=by
 unfold spanC
 rw [if_neg (by omega),show (v * 2 + 1) / 2 = v by omega]
structure TyS (w0:World) (X r1 r2 r3 n nv:Nat) (vp vi ve:Value) (w:World) (s:Nat → Sp):Prop where
 bn:w.rowIs X 67 3 (fun q => if q = 0 then .slice (some ⟨r1,0,none⟩) n n else if q = 1 then .slice (some ⟨r2,0,none⟩) n n else .slice (some ⟨r3,0,none⟩) n n)
 bb:w.rowIs (X + 1 + 1) 40 3 (fun q => if q = 0 then vp else if q = 1 then vi else ve)
 sp:w.rowIs (X + 1 + 1 + 1) 71 (nv * 2) (spanC s)
 low:Below X w0 w
theorem TyS.below {w0:World} {X r1 r2 r3 n nv:Nat} {vp vi ve:Value} {w w':World} {s:Nat → Sp} (h:TyS w0 X r1 r2 r3 n nv vp vi ve w s) (hb:Below w.heap.size w w'):TyS w0 X r1 r2 r3 n nv vp vi ve w' s :=
 ⟨h.bn.of_block (hb.block _ h.bn.lt),h.bb.of_block (hb.block _ h.bb.lt),h.sp.of_block (hb.block _ h.sp.lt),h.low.trans (hb.mono (by have:=h.bn.lt; omega))⟩
theorem TyS.put {w0:World} {X r1 r2 r3 n nv:Nat} {vp vi ve:Value} {w:World} {s:Nat → Sp} (h:TyS w0 X r1 r2 r3 n nv vp vi ve w s) (v:Nat) (a b:Int):TyS w0 X r1 r2 r3 n nv vp vi ve ((w.setCell ⟨X + 1 + 1 + 1,v * 2,none⟩ (.int .i64 a)).setCell ⟨X + 1 + 1 + 1,v * 2 + 1,none⟩ (.int .i64 b)) (upS s v (a,b)) :=
 ⟨(h.bn.setOther (by simp; omega) _).setOther (by simp; omega) _,(h.bb.setOther (by simp) _).setOther (by simp) _,span_put h.sp v (a,b),(h.low.setCell (by simp; omega) _).setCell (by simp; omega) _⟩
theorem TyS.c0 {w0:World} {X r1 r2 r3 n nv:Nat} {vp vi ve:Value} {w:World} {s:Nat → Sp} (h:TyS w0 X r1 r2 r3 n nv vp vi ve w s) (v:Nat) (hv:v < nv):w.cell? ⟨X + 1 + 1 + 1,v * 2,none⟩ = some (.int .i64 (s v).1):=by
 rw [h.sp.cell (by omega),span_c0]
theorem TyS.c1 {w0:World} {X r1 r2 r3 n nv:Nat} {vp vi ve:Value} {w:World} {s:Nat → Sp} (h:TyS w0 X r1 r2 r3 n nv vp vi ve w s) (v:Nat) (hv:v < nv):w.cell? ⟨X + 1 + 1 + 1,v * 2 + 1,none⟩ = some (.int .i64 (s v).2):=by
 rw [h.sp.cell (by omega),span_c1]
set_option maxRecDepth 4000 in
set_option maxHeartbeats 8000000 in
theorem stays_any (bs:List Blk) (n nv r1 r2 r3:Nat) (I O M:Tb) (b:Nat) (hbl:bs.length = n) (hb:b < bs.length) (fst:Int) (av ab:Option Addr) (cv cb X:Nat) (w:World) (hX:w.heap.size = X) (h:NdS w r1 r2 r3 n nv I O M) (hs:SlOf w 3 (RBlk w) (.slice ab n cb) bs) (hd:BlkIn nv bs[b]) (hni:bs[b].instrs.length ≤ 1000) (h0:0 ≤ fst) (h1:fst ≤ 1000000) (hn:n ≤ 1000) (hnv:nv ≤ 1000) :
  Calls Try.prog 19 #[.agg #[.slice (some ⟨r1,0,none⟩) n n,.slice (some ⟨r2,0,none⟩) n n,.slice (some ⟨r3,0,none⟩) n n],.agg #[.slice av nv cv,.slice ab n cb],.int .i64 b,.int .i64 fst] w fun e w' => e = .returned (.slice (some ⟨X + 1 + 1 + 1,0,none⟩) nv nv)∧w'.rowIs (X + 1 + 1 + 1) 71 (nv * 2) (spanC (stayM bs[b] I O b nv fst))∧Below w.heap.size w w':=by
 have hmk:=make_sn nv (by omega)
 have hbn:b < n:=by omega
 obtain ⟨b5,off5,cs,rfl,hcl5,⟨vp,vi,ve,rfl,hp,hi,he⟩,hc⟩:=hs.at b hb
 obtain ⟨ap,cp,rfl,lp⟩:=hp.out
 obtain ⟨ai,ci,rfl,li⟩:=hi.out
 obtain ⟨ae,ce,rfl,_⟩:=he.out
 have c0:=hc 0 (by simp)
 have c1:=hc 1 (by simp)
 have c2:=hc 2 (by simp)
 simp at c0 c1 c2
 have lb5:b5 < w.heap.size:=block_lt c0
 have lb5b:b5 < w.heap.size + 1:=by omega
 have L5:=old_cell b5
 unfold stayM stMid
 unfold longest at lp
 obtain ⟨hdp,hdi,_⟩:=hd
 clear he hc hcl5 hs li hbl
 generalize bs[b].edges.length = ne at *
 generalize bs[b].params = ps at *
 generalize bs[b].instrs = is at *
 obtain ⟨W,hW⟩:∃ W,W = (((w.alloc (.cells #[.slice (some ⟨r1,0,none⟩) n n,.slice (some ⟨r2,0,none⟩) n n,.slice (some ⟨r3,0,none⟩) n n] 67)).alloc (.cells #[.slice av nv cv,.slice (some ⟨b5,off5,none⟩) n cb] 30)).alloc (.cells #[.slice ap ps.length cp,.slice ai is.length ci,.slice ae ne ce] 40)).alloc (.cells (madeCells #[.int .i64 0,.int .i64 0] (nv * 2)) 71):=⟨_,rfl⟩
 have hst:TyS w X r1 r2 r3 n nv (.slice ap ps.length cp) (.slice ai is.length ci) (.slice ae ne ce) W (stIn I b fst 0):=by
  obtain ⟨V1,hV1⟩:∃ V1,V1 = w.alloc (.cells #[.slice (some ⟨r1,0,none⟩) n n,.slice (some ⟨r2,0,none⟩) n n,.slice (some ⟨r3,0,none⟩) n n] 67):=⟨_,rfl⟩
  obtain ⟨V2,hV2⟩:∃ V2,V2 = V1.alloc (.cells #[.slice av nv cv,.slice (some ⟨b5,off5,none⟩) n cb] 30):=⟨_,rfl⟩
  obtain ⟨V3,hV3⟩:∃ V3,V3 = V2.alloc (.cells #[.slice ap ps.length cp,.slice ai is.length ci,.slice ae ne ce] 40):=⟨_,rfl⟩
  have z1:V1.heap.size = X + 1:=by rw [hV1]; simp [hX]
  have z2:V2.heap.size = X + 1 + 1:=by rw [hV2]; simp [z1]
  have z3:V3.heap.size = X + 1 + 1 + 1:=by rw [hV3]; simp [z2]
  have q0:V1.rowIs X 67 3 (fun q => if q = 0 then .slice (some ⟨r1,0,none⟩) n n else if q = 1 then .slice (some ⟨r2,0,none⟩) n n else .slice (some ⟨r3,0,none⟩) n n):=by
   rw [hV1,← hX]
   exact World.rowIs_alloc _ _ _ _ fun i hi => by
    simp at hi
    match i,hi with | 0,_ => rfl | 1,_ => rfl | 2,_ => rfl
  have q2:V3.rowIs (X + 1 + 1) 40 3 (fun q => if q = 0 then .slice ap ps.length cp else if q = 1 then .slice ai is.length ci else .slice ae ne ce):=by
   rw [hV3,← z2]
   exact World.rowIs_alloc _ _ _ _ fun i hi => by
    simp at hi
    match i,hi with | 0,_ => rfl | 1,_ => rfl | 2,_ => rfl
  have q3:=madeS V3 nv 71
  rw [z3] at q3
  have b1:Below X w V1:=by rw [hV1]; exact (Below.refl _ _).alloc (by omega) _
  have b2:Below X w V2:=by rw [hV2]; exact b1.alloc (by omega) _
  have b3:Below X w V3:=by rw [hV3]; exact b2.alloc (by omega) _
  rw [hW,← hV1,← hV2,← hV3]
  refine ⟨?_,q2.alloc _,q3.congr fun i hi => by unfold spanC stIn; simp,b3.alloc (by omega) _⟩
  rw [hV3,hV2]
  exact ((q0.alloc _).alloc _).alloc _
 have HW:Hid (W = (((w.alloc (.cells #[.slice (some ⟨r1,0,none⟩) n n,.slice (some ⟨r2,0,none⟩) n n,.slice (some ⟨r3,0,none⟩) n n] 67)).alloc (.cells #[.slice av nv cv,.slice (some ⟨b5,off5,none⟩) n cb] 30)).alloc (.cells #[.slice ap ps.length cp,.slice ai is.length ci,.slice ae ne ce] 40)).alloc (.cells (madeCells #[.int .i64 0,.int .i64 0] (nv * 2)) 71)):=hW
 have HS0:Hid (TyS w X r1 r2 r3 n nv (.slice ap ps.length cp) (.slice ai is.length ci) (.slice ae ne ce) W (stIn I b fst 0)):=hst
 have HTI:Hid (∀ w',Below X w w' → Tab w' r1 n nv I):=fun w' hh => h.ti.keep fun k hk _ _ => hh.block k (by omega)
 have HTO:Hid (∀ w',Below X w w' → Tab w' r2 n nv O):=fun w' hh => h.tu.keep fun k hk _ _ => hh.block k (by omega)
 have HX:Hid (w.heap.size = X):=hX
 have HPS:Hid (SlOf w 1 RInt (.slice ap ps.length cp) ps):=hp
 have HIS:Hid (SlOf w 3 (RIns w) (.slice ai is.length ci) is):=hi
 have HDP:Hid (∀ v ∈ ps,0 ≤ v∧v < (nv:Int)):=hdp
 have HDI:Hid (∀ i ∈ is,∀ o ∈ i.operands,0 ≤ o.value∧o.value < (nv:Int)):=hdi
 clear hW hst h hp hi hdp hdi hX
 go_enter Try.func19,Try.ntmps19
 go_upto_region 3 with fail
 rw [← HW.out,HX.out]
 clear HW hmk c0 c1 c2 L5 lb5b
 go_wp2_with fail
 go_loopw [32] (fun i wr => ∃ v:Nat,v ≤ nv∧i = .int .i64 v∧Hid (TyS w X r1 r2 r3 n nv (.slice ap ps.length cp) (.slice ai is.length ci) (.slice ae ne ce) wr (stIn I b fst v))) (fun i _ => nv - (intOf i).toNat)
 case atStart => exact ⟨0,Nat.zero_le _,rfl,HS0⟩
 case round =>
  clear HS0
  obtain ⟨v,hv,rfl,HI⟩:=hrel
  by_cases hvl:v < nv
  ·have tb:=HTI.out _ HI.out.low
   have i1:wr.cell? ⟨r1,b,none⟩ = some (.slice (some ⟨r1 + 1 + b,0,none⟩) nv nv):=tb.row.cell hbn
   have i2:=(tb.rows b hbn).cell hvl
   have d0:wr.cell? ⟨X,0,none⟩ = some (.slice (some ⟨r1,0,none⟩) n n):=HI.out.bn.cell (i:=0) (by omega)
   have hsu:=stIn_succ I b fst v
   clear tb
   cases hiv:I b v
   ·rw [hiv] at i2
    rw [hiv,if_neg (by simp)] at hsu
    have HN:Hid (TyS w X r1 r2 r3 n nv (.slice ap ps.length cp) (.slice ai is.length ci) (.slice ae ne ce) wr (stIn I b fst (v + 1))):=by rw [hsu]; exact HI
    clear hsu hiv HI
    go_wp2
    go_roundw
    case rel => exact ⟨v + 1,by omega,by go_num,HN⟩
    case measure => simp [intOf]; omega
   ·rw [hiv] at i2
    rw [hiv,if_pos rfl] at hsu
    have HC:=only_any fst wr h0 (by omega)
    clear hiv
    go_wp2_with fail
    refine HC.mono ?_
    clear HC i1 i2 d0
    rintro e w6 ⟨rfl,hb6⟩
    have h6:=HI.out.below hb6
    have s1:=h6.c0 v hvl
    have s2:=h6.c1 v hvl
    have z1:=h6.sp.frozen (v * 2)
    have z2:=h6.sp.frozen (v * 2 + 1)
    have HN:Hid (TyS w X r1 r2 r3 n nv (.slice ap ps.length cp) (.slice ai is.length ci) (.slice ae ne ce) ((w6.setCell ⟨X + 1 + 1 + 1,v * 2,none⟩ (.int .i64 fst)).setCell ⟨X + 1 + 1 + 1,v * 2 + 1,none⟩ (.int .i64 (fst + 1))) (stIn I b fst (v + 1))):=by
     rw [hsu]
     exact h6.put v fst (fst + 1)
    clear h6 hb6 HI hsu
    go_wp2
    go_roundw
    case rel => exact ⟨v + 1,by omega,by go_num,HN⟩
    case measure => simp [intOf]; omega
  ·have HJ:Hid (TyS w X r1 r2 r3 n nv (.slice ap ps.length cp) (.slice ai is.length ci) (.slice ae ne ce) wr (stIn I b fst nv)):=by
    have h:=HI.out
    rw [show v = nv by omega] at h
    exact h
   have x1:wr.cell? ⟨X + 1 + 1,0,none⟩ = some (.slice ap ps.length cp):=HJ.out.bb.cell (i:=0) (by omega)
   clear HI
   go_wp2_with fail
   clear x1
   obtain ⟨sI,hsI⟩:∃ sI,stIn I b fst nv = sI:=⟨_,rfl⟩
   rw [hsI] at HJ
   have HsI:Hid (stIn I b fst nv = sI):=hsI
   clear hsI
   go_loopw [52] (fun i wr => ∃ j:Nat,j ≤ ps.length∧i = .int .i64 j∧Hid (TyS w X r1 r2 r3 n nv (.slice ap ps.length cp) (.slice ai is.length ci) (.slice ae ne ce) wr (stPar fst sI (ps.take j)))) (fun i _ => ps.length - (intOf i).toNat)
   case atStart => exact ⟨0,Nat.zero_le _,rfl,HJ⟩
   case round =>
    clear HJ
    obtain ⟨j,hj,rfl,HI⟩:=hrel
    by_cases hjl:j < ps.length
    ·obtain ⟨b6,off6,rfl,hb6,hc6⟩:=ints_at HPS.out j (by omega) (by omega)
     have e:ps.getD (j:Int).toNat 0 = ps[j]:=by simp [List.getD,hjl]
     rw [e,Int.toNat_natCast] at hc6
     have f0:=(HI.out.low.cell (p:=⟨b6,off6 + j,none⟩) (by rw [← HX.out]; exact hb6)).trans hc6
     have hvr:=HDP.out ps[j] (List.getElem_mem hjl)
     have hsu:=stPar_take fst sI ps j hjl
     clear e hc6 hb6
     generalize ps[j] = v0 at *
     obtain ⟨v,rfl⟩:∃ v:Nat,v0 = v:=⟨v0.toNat,by omega⟩
     rw [Int.toNat_natCast] at hsu
     have hvl:v < nv:=by omega
     have HC:=only_any fst wr h0 (by omega)
     clear hvr
     go_wp2_with fail
     refine HC.mono ?_
     clear HC f0
     rintro e w6 ⟨rfl,hb6⟩
     have h6:=HI.out.below hb6
     have s1:=h6.c0 v hvl
     have s2:=h6.c1 v hvl
     have z1:=h6.sp.frozen (v * 2)
     have z2:=h6.sp.frozen (v * 2 + 1)
     have HN:Hid (TyS w X r1 r2 r3 n nv (.slice (some ⟨b6,off6,none⟩) ps.length cp) (.slice ai is.length ci) (.slice ae ne ce) ((w6.setCell ⟨X + 1 + 1 + 1,v * 2,none⟩ (.int .i64 fst)).setCell ⟨X + 1 + 1 + 1,v * 2 + 1,none⟩ (.int .i64 (fst + 1))) (stPar fst sI (ps.take (j + 1)))):=by
      rw [hsu]
      exact h6.put v fst (fst + 1)
     clear h6 hb6 HI hsu
     go_wp2
     go_roundw
     case rel => exact ⟨j + 1,by omega,by go_num,HN⟩
     case measure => simp [intOf]; omega
    ·have HJ:Hid (TyS w X r1 r2 r3 n nv (.slice ap ps.length cp) (.slice ai is.length ci) (.slice ae ne ce) wr (stPar fst sI ps)):=by
      have h:=HI.out
      rw [show ps.take j = ps from List.take_of_length_le (by omega)] at h
      exact h
     have x1:wr.cell? ⟨X + 1 + 1,1,none⟩ = some (.slice ai is.length ci):=HJ.out.bb.cell (i:=1) (by omega)
     clear HI
     go_wp2_with fail
     clear x1
     obtain ⟨sP,hsP⟩:∃ sP,stPar fst sI ps = sP:=⟨_,rfl⟩
     rw [hsP] at HJ
     have HsP:Hid (stPar fst sI ps = sP):=hsP
     clear hsP
     go_loopw [65] (fun i wr => ∃ k:Nat,k ≤ is.length∧i = .int .i64 k∧Hid (TyS w X r1 r2 r3 n nv (.slice ap ps.length cp) (.slice ai is.length ci) (.slice ae ne ce) wr (stIns fst sP is k))) (fun i _ => is.length - (intOf i).toNat)
     case atStart => exact ⟨0,Nat.zero_le _,rfl,HJ⟩
     case round =>
      clear HJ
      obtain ⟨i,hi,rfl,HI⟩:=hrel
      by_cases hil:i < is.length
      ·obtain ⟨b7,off7,cs,rfl,hcl7,⟨vo,vs,rfl,hvo,hvs⟩,hc⟩:=HIS.out.at i hil
       obtain ⟨ao,co,rfl,lo⟩:=hvo.out
       obtain ⟨asp,cs',rfl,_⟩:=hvs.out
       unfold longest at lo
       have hb0:Below w.heap.size w wr:=by rw [HX.out]; exact HI.out.low
       have c0:=(hb0.cell (p:=⟨b7,off7 + i * 3 + 0,none⟩) (block_lt (hc 0 (by simp)))).trans (hc 0 (by simp))
       have c1:=(hb0.cell (p:=⟨b7,off7 + i * 3 + 1,none⟩) (block_lt (hc 1 (by simp)))).trans (hc 1 (by simp))
       have c2:=(hb0.cell (p:=⟨b7,off7 + i * 3 + 2,none⟩) (block_lt (hc 2 (by simp)))).trans (hc 2 (by simp))
       simp at c0 c1 c2
       have hdi:=HDI.out is[i] (List.getElem_mem hil)
       have HSI:Hid (stIns fst sP is (i + 1) = stOprs (fst + 1 + 2 * (i:Int)) (stIns fst sP is i) is[i].operands):=stIns_succ fst sP is i hil
       clear hc hcl7 hvs hb0
       generalize is[i].op = op at *
       generalize is[i].spoils.length = ns at *
       generalize is[i].operands = os at *
       generalize stIns fst sP is i = sK at *
       have HOS:Hid (SlOf w 5 ROpr (.slice ao os.length co) os):=hvo
       have HDO:Hid (∀ o ∈ os,0 ≤ o.value∧o.value < (nv:Int)):=hdi
       obtain ⟨early,hearly⟩:∃ early:Int,fst + 1 + 2 * (i:Int) = early:=⟨_,rfl⟩
       have he0:0 ≤ early:=by omega
       have he1:early ≤ 10000000:=by omega
       have hew:ptW (fst + 1 + 2 * (i:Int)) = early:=by rw [ptW_id (by omega) (by omega)]; exact hearly
       rw [hearly] at HSI
       have HC:=earlyOf_any fst (i:Int) (wr.alloc (.cells #[.int .i64 op,.slice ao os.length co,.slice asp ns cs'] 44))
       rw [hew] at HC
       have HI2:Hid (TyS w X r1 r2 r3 n nv (.slice ap ps.length cp) (.slice (some ⟨b7,off7,none⟩) is.length ci) (.slice ae ne ce) (wr.alloc (.cells #[.int .i64 op,.slice ao os.length co,.slice asp ns cs'] 44)) (stOprs early sK (os.take 0))):=HI.out.below ((Below.refl _ _).alloc (Nat.le_refl _) _)
       clear hvo hdi HI hew hearly
       go_wp2_with fail
       refine HC.mono ?_
       clear HC
       rintro e w8 ⟨rfl,hw8⟩
       rw [hw8]
       clear hw8
       go_wp2_with fail
       obtain ⟨wc,hwc⟩:∃ wc,wc = wr.alloc (.cells #[.int .i64 op,.slice ao os.length co,.slice asp ns cs'] 44):=⟨_,rfl⟩
       rw [← hwc] at HI2 ⊢
       clear hwc c0 c1 c2
       go_loopw [76] (fun i wr => ∃ j:Nat,j ≤ os.length∧i = .int .i64 j∧Hid (TyS w X r1 r2 r3 n nv (.slice ap ps.length cp) (.slice (some ⟨b7,off7,none⟩) is.length ci) (.slice ae ne ce) wr (stOprs early sK (os.take j)))) (fun i _ => os.length - (intOf i).toNat)
       case atStart => exact ⟨0,Nat.zero_le _,rfl,HI2⟩
       case round =>
        clear HI2
        obtain ⟨j,hj,rfl,HO⟩:=hrel
        by_cases hjl:j < os.length
        ·obtain ⟨b8,off8,rfl,hb8,o0,o1,o2,o3,o4⟩:=opr_cells HOS.out j hjl
         have hb0:Below w.heap.size w wr:=by rw [HX.out]; exact HO.out.low
         have e0:=(hb0.cell (p:=⟨b8,_,none⟩) hb8).trans o0
         have e1:=(hb0.cell (p:=⟨b8,_,none⟩) hb8).trans o1
         have e2:=(hb0.cell (p:=⟨b8,_,none⟩) hb8).trans o2
         have e3:=(hb0.cell (p:=⟨b8,_,none⟩) hb8).trans o3
         have e4:=(hb0.cell (p:=⟨b8,_,none⟩) hb8).trans o4
         have hdo:=HDO.out os[j] (List.getElem_mem hjl)
         have HT:Hid (stOprs early sK (os.take (j + 1)) = stOpr early (stOprs early sK (os.take j)) os[j]):=stOprs_take early sK os j hjl
         clear o0 o1 o2 o3 o4 hb0 hb8
         generalize os[j] = o at *
         obtain ⟨okd,ovl,olt,olm,onn⟩:=o
         simp only at hdo e0 e1 e2 e3 e4
         obtain ⟨V,rfl⟩:∃ V:Nat,ovl = V:=⟨ovl.toNat,by omega⟩
         have hvl:V < nv:=by omega
         have HX2:Hid (TyS w X r1 r2 r3 n nv (.slice ap ps.length cp) (.slice (some ⟨b7,off7,none⟩) is.length ci) (.slice ae ne ce) (wr.alloc (.cells #[.int .i64 okd,.int .i64 V,.bool olt,.int .i64 olm,.int .i64 onn] 46)) (stOprs early sK (os.take j))):=HO.out.below ((Below.refl _ _).alloc (Nat.le_refl _) _)
         obtain ⟨W5,hW5⟩:∃ W5,W5 = wr.alloc (.cells #[.int .i64 okd,.int .i64 V,.bool olt,.int .i64 olm,.int .i64 onn] 46):=⟨_,rfl⟩
         obtain ⟨Q,hQ⟩:∃ Q,wr.heap.size = Q:=⟨_,rfl⟩
         have q0:W5.cell? ⟨Q,0,none⟩ = some (.int .i64 okd):=by rw [hW5,← hQ]; simp
         have q1:W5.cell? ⟨Q,1,none⟩ = some (.int .i64 V):=by rw [hW5,← hQ]; simp
         have q2:W5.cell? ⟨Q,2,none⟩ = some (.bool olt):=by rw [hW5,← hQ]; simp
         have lQ:Q < W5.heap.size:=by rw [hW5,← hQ]; simp
         rw [← hW5] at HX2
         have s1:=HX2.out.c0 V hvl
         have s2:=HX2.out.c1 V hvl
         have lR:=HX2.out.sp.lt
         have HW5:Hid (W5 = wr.alloc (.cells #[.int .i64 okd,.int .i64 V,.bool olt,.int .i64 olm,.int .i64 onn] 46)):=hW5
         have HQ:Hid (wr.heap.size = Q):=hQ
         obtain ⟨p,hp⟩:∃ p,(if olt = true then early + 1 else early) = p:=⟨_,rfl⟩
         have hp0:0 ≤ p:=by rw [← hp]; split <;> omega
         have hp1:p ≤ 1000000000:=by rw [← hp]; split <;> omega
         have we:IntKind.i64.wrap (early + 1) = early + 1:=by rw [IntKind.wrap_i64]; omega
         have we2:IntKind.i64.wrap (early + 2) = early + 2:=by rw [IntKind.wrap_i64]; omega
         clear hW5 hQ hdo HO
         go_upto_region 21 with fail
         rw [← HW5.out,HQ.out]
         clear HW5 HQ e0 e1 e2 e3 e4
         by_cases hk2:okd = 2
         ·have qk:(okd == 2) = true:=by simp [hk2]
          have z1:=HX2.out.sp.frozen (V * 2)
          have z2:=HX2.out.sp.frozen (V * 2 + 1)
          have HN:Hid (TyS w X r1 r2 r3 n nv (.slice ap ps.length cp) (.slice (some ⟨b7,off7,none⟩) is.length ci) (.slice ae ne ce) ((W5.setCell ⟨X + 1 + 1 + 1,V * 2,none⟩ (.int .i64 p)).setCell ⟨X + 1 + 1 + 1,V * 2 + 1,none⟩ (.int .i64 (early + 2))) (stOprs early sK (os.take (j + 1)))):=by
           have e:stOprs early sK (os.take (j + 1)) = upS (stOprs early sK (os.take j)) V (p,early + 2):=by
            rw [HT.out]
            unfold stOpr
            simp only
            rw [if_pos hk2,Int.toNat_natCast,hp]
           rw [e]
           exact HX2.out.put V p (early + 2)
          clear HT HX2 hk2
          cases olt
          ·have hpe:p = early:=by rw [← hp]; simp
           rw [hpe] at HN
           clear hp hpe
           go_wp2
           go_roundw
           case rel => exact ⟨j + 1,by omega,by go_num,HN⟩
           case measure => simp [intOf]; omega
          ·have hpe:p = early + 1:=by rw [← hp]; simp
           rw [hpe] at HN
           clear hp hpe
           go_wp2
           go_roundw
           case rel => exact ⟨j + 1,by omega,by go_num,HN⟩
           case measure => simp [intOf]; omega
         ·have qk:(okd == 2) = false:=by simp [hk2]
          have HT2:Hid (stOprs early sK (os.take (j + 1)) = upS (stOprs early sK (os.take j)) V ((stOprs early sK (os.take j) V).1,max (stOprs early sK (os.take j) V).2 (p + 1))):=by
           show _ = _
           rw [HT.out]
           unfold stOpr
           simp only
           rw [if_neg hk2,Int.toNat_natCast,hp]
          obtain ⟨a0,ha0⟩:∃ a0,(stOprs early sK (os.take j) V).1 = a0:=⟨_,rfl⟩
          obtain ⟨b0,hb00⟩:∃ b0,(stOprs early sK (os.take j) V).2 = b0:=⟨_,rfl⟩
          rw [ha0,hb00] at HT2
          rw [ha0] at s1
          rw [hb00] at s2
          clear ha0 hb00 HT hk2
          cases olt
          ·have hpe:p = early:=by rw [← hp]; simp
           rw [hpe] at HT2 hp0 hp1
           clear hp hpe
           go_upto_region 26 with fail
           have HSF:Hid (∀ w',Below W5.heap.size W5 w' → (fun w' => w'.cell? ⟨Q,1,none⟩ = some (.int .i64 V)∧w'.cell? ⟨X + 1 + 1 + 1,V * 2,none⟩ = some (.int .i64 a0)∧w'.cell? ⟨X + 1 + 1 + 1,V * 2 + 1,none⟩ = some (.int .i64 b0)) w'):=fun w' hh => ⟨(hh.cell lQ).trans q1,(hh.cell lR).trans s1,(hh.cell lR).trans s2⟩
           have hbd:Below W5.heap.size W5 W5.drew:=(Below.refl _ _).drew
           refine wp_region_X (fun w' => w'.cell? ⟨Q,1,none⟩ = some (.int .i64 V)∧w'.cell? ⟨X + 1 + 1 + 1,V * 2,none⟩ = some (.int .i64 a0)∧w'.cell? ⟨X + 1 + 1 + 1,V * 2 + 1,none⟩ = some (.int .i64 b0)) 11 (by kernel_rfl) (HSF.out _ hbd) (fun hHeld => ?_)
           refine wpXt 0 rfl (v:=?_) (by kernel_rfl) (fun _ _ _ h => h) (by rfl) ?_ hHeld ?_
           rotate_left
           ·intro w' hSw
            go_simp <;> with_reducible rfl
           try simp only [Act.put,List.setIfInBounds_toArray,List.set_cons_zero,List.set_cons_succ]
           refine wpXt 1 rfl (v:=?_) (by kernel_rfl) (fun _ _ _ h => h) (by rfl) ?_ hHeld ?_
           rotate_left
           ·intro w' hSw
            go_simp <;> with_reducible rfl
           try simp only [Act.put,List.setIfInBounds_toArray,List.set_cons_zero,List.set_cons_succ]
           refine wpXt 2 rfl (v:=?_) (by kernel_rfl) (fun _ _ _ h => h) (by rfl) ?_ hHeld ?_
           rotate_left
           ·intro w' hSw
            go_simp <;> with_reducible rfl
           try simp only [Act.put,List.setIfInBounds_toArray,List.set_cons_zero,List.set_cons_succ]
           refine wpXt 3 rfl (v:=?_) (by kernel_rfl) (fun _ _ _ h => h) (by rfl) ?_ hHeld ?_
           rotate_left
           ·intro w' hSw
            go_simp <;> with_reducible rfl
           try simp only [Act.put,List.setIfInBounds_toArray,List.set_cons_zero,List.set_cons_succ]
           refine wpXt 4 rfl (v:=?_) (by kernel_rfl) (fun _ _ _ h => h) (by rfl) ?_ hHeld ?_
           rotate_left
           ·intro w' hSw
            go_simp <;> with_reducible rfl
           try simp only [Act.put,List.setIfInBounds_toArray,List.set_cons_zero,List.set_cons_succ]
           refine wpXt 5 rfl (v:=?_) (by kernel_rfl) (fun _ _ _ h => h) (by rfl) ?_ hHeld ?_
           rotate_left
           ·intro w' hSw
            go_simp <;> with_reducible rfl
           try simp only [Act.put,List.setIfInBounds_toArray,List.set_cons_zero,List.set_cons_succ]
           refine wpXt 6 rfl (v:=?_) (by kernel_rfl) (fun _ _ _ h => h) (by rfl) ?_ hHeld ?_
           rotate_left
           ·intro w' hSw
            go_simp <;> with_reducible rfl
           try simp only [Act.put,List.setIfInBounds_toArray,List.set_cons_zero,List.set_cons_succ]
           refine wpXt 7 rfl (v:=?_) (by kernel_rfl) (fun _ _ _ h => h) (by rfl) ?_ hHeld ?_
           rotate_left
           ·intro w' hSw
            go_simp <;> with_reducible rfl
           try simp only [Act.put,List.setIfInBounds_toArray,List.set_cons_zero,List.set_cons_succ]
           refine wpXt 8 rfl (v:=?_) (by kernel_rfl) (fun _ _ _ h => h) (by rfl) ?_ hHeld ?_
           rotate_left
           ·intro w' hSw
            go_simp <;> with_reducible rfl
           try simp only [Act.put,List.setIfInBounds_toArray,List.set_cons_zero,List.set_cons_succ]
           refine wpXs 9 rfl (by kernel_rfl) (fun K hK => ?_)
           go_simp
           refine (upTo_any a0 b0 early _ hp0 hp1).mono ?_
           rintro e w6 ⟨rfl,hb6⟩
           have hc6:Below W5.heap.size W5 w6:=hbd.trans (hb6.mono hbd.size)
           refine hK.out _ _ (HSF.out _ hc6) (fun hHeld => ?_)
           clear hK K
           try simp only [Act.put,List.setIfInBounds_toArray,List.set_cons_zero,List.set_cons_succ]
           refine wpXt 10 rfl (v:=?_) (by kernel_rfl) (fun _ _ _ h => h) (by rfl) ?_ hHeld ?_
           rotate_left
           ·intro w' hSw
            go_simp <;> with_reducible rfl
           try simp only [Act.put,List.setIfInBounds_toArray,List.set_cons_zero,List.set_cons_succ]
           have h6:=HX2.out.below hc6
           have t1:=h6.c0 V hvl
           have t2:=h6.c1 V hvl
           have z1:=h6.sp.frozen (V * 2)
           have z2:=h6.sp.frozen (V * 2 + 1)
           have HN:Hid (TyS w X r1 r2 r3 n nv (.slice ap ps.length cp) (.slice (some ⟨b7,off7,none⟩) is.length ci) (.slice ae ne ce) ((w6.setCell ⟨X + 1 + 1 + 1,V * 2,none⟩ (.int .i64 a0)).setCell ⟨X + 1 + 1 + 1,V * 2 + 1,none⟩ (.int .i64 (max b0 (early + 1)))) (stOprs early sK (os.take (j + 1)))):=by
            rw [HT2.out]
            exact h6.put V a0 (max b0 (early + 1))
           clear h6 hc6 hb6 HX2 HT2
           refine wpXl 11 rfl (by kernel_rfl) rfl (by kernel_rfl) (fun K hK => ?_)
           go_simp
           refine hK.out _ _ ?_
           clear hK K
           go_wp2
           go_roundw
           case rel => exact ⟨j + 1,by omega,by go_num,HN⟩
           case measure => simp [intOf]; omega
          ·have hpe:p = early + 1:=by rw [← hp]; simp
           rw [hpe] at HT2 hp0 hp1
           clear hp hpe
           go_upto_region 26 with fail
           have HSF:Hid (∀ w',Below W5.heap.size W5 w' → (fun w' => w'.cell? ⟨Q,1,none⟩ = some (.int .i64 V)∧w'.cell? ⟨X + 1 + 1 + 1,V * 2,none⟩ = some (.int .i64 a0)∧w'.cell? ⟨X + 1 + 1 + 1,V * 2 + 1,none⟩ = some (.int .i64 b0)) w'):=fun w' hh => ⟨(hh.cell lQ).trans q1,(hh.cell lR).trans s1,(hh.cell lR).trans s2⟩
           have hbd:Below W5.heap.size W5 W5.drew:=(Below.refl _ _).drew
           refine wp_region_X (fun w' => w'.cell? ⟨Q,1,none⟩ = some (.int .i64 V)∧w'.cell? ⟨X + 1 + 1 + 1,V * 2,none⟩ = some (.int .i64 a0)∧w'.cell? ⟨X + 1 + 1 + 1,V * 2 + 1,none⟩ = some (.int .i64 b0)) 11 (by kernel_rfl) (HSF.out _ hbd) (fun hHeld => ?_)
           refine wpXt 0 rfl (v:=?_) (by kernel_rfl) (fun _ _ _ h => h) (by rfl) ?_ hHeld ?_
           rotate_left
           ·intro w' hSw
            go_simp <;> with_reducible rfl
           try simp only [Act.put,List.setIfInBounds_toArray,List.set_cons_zero,List.set_cons_succ]
           refine wpXt 1 rfl (v:=?_) (by kernel_rfl) (fun _ _ _ h => h) (by rfl) ?_ hHeld ?_
           rotate_left
           ·intro w' hSw
            go_simp <;> with_reducible rfl
           try simp only [Act.put,List.setIfInBounds_toArray,List.set_cons_zero,List.set_cons_succ]
           refine wpXt 2 rfl (v:=?_) (by kernel_rfl) (fun _ _ _ h => h) (by rfl) ?_ hHeld ?_
           rotate_left
           ·intro w' hSw
            go_simp <;> with_reducible rfl
           try simp only [Act.put,List.setIfInBounds_toArray,List.set_cons_zero,List.set_cons_succ]
           refine wpXt 3 rfl (v:=?_) (by kernel_rfl) (fun _ _ _ h => h) (by rfl) ?_ hHeld ?_
           rotate_left
           ·intro w' hSw
            go_simp <;> with_reducible rfl
           try simp only [Act.put,List.setIfInBounds_toArray,List.set_cons_zero,List.set_cons_succ]
           refine wpXt 4 rfl (v:=?_) (by kernel_rfl) (fun _ _ _ h => h) (by rfl) ?_ hHeld ?_
           rotate_left
           ·intro w' hSw
            go_simp <;> with_reducible rfl
           try simp only [Act.put,List.setIfInBounds_toArray,List.set_cons_zero,List.set_cons_succ]
           refine wpXt 5 rfl (v:=?_) (by kernel_rfl) (fun _ _ _ h => h) (by rfl) ?_ hHeld ?_
           rotate_left
           ·intro w' hSw
            go_simp <;> with_reducible rfl
           try simp only [Act.put,List.setIfInBounds_toArray,List.set_cons_zero,List.set_cons_succ]
           refine wpXt 6 rfl (v:=?_) (by kernel_rfl) (fun _ _ _ h => h) (by rfl) ?_ hHeld ?_
           rotate_left
           ·intro w' hSw
            go_simp <;> with_reducible rfl
           try simp only [Act.put,List.setIfInBounds_toArray,List.set_cons_zero,List.set_cons_succ]
           refine wpXt 7 rfl (v:=?_) (by kernel_rfl) (fun _ _ _ h => h) (by rfl) ?_ hHeld ?_
           rotate_left
           ·intro w' hSw
            go_simp <;> with_reducible rfl
           try simp only [Act.put,List.setIfInBounds_toArray,List.set_cons_zero,List.set_cons_succ]
           refine wpXt 8 rfl (v:=?_) (by kernel_rfl) (fun _ _ _ h => h) (by rfl) ?_ hHeld ?_
           rotate_left
           ·intro w' hSw
            go_simp <;> with_reducible rfl
           try simp only [Act.put,List.setIfInBounds_toArray,List.set_cons_zero,List.set_cons_succ]
           refine wpXs 9 rfl (by kernel_rfl) (fun K hK => ?_)
           go_simp
           refine (upTo_any a0 b0 (early + 1) _ hp0 hp1).mono ?_
           rintro e w6 ⟨rfl,hb6⟩
           have hc6:Below W5.heap.size W5 w6:=hbd.trans (hb6.mono hbd.size)
           refine hK.out _ _ (HSF.out _ hc6) (fun hHeld => ?_)
           clear hK K
           try simp only [Act.put,List.setIfInBounds_toArray,List.set_cons_zero,List.set_cons_succ]
           refine wpXt 10 rfl (v:=?_) (by kernel_rfl) (fun _ _ _ h => h) (by rfl) ?_ hHeld ?_
           rotate_left
           ·intro w' hSw
            go_simp <;> with_reducible rfl
           try simp only [Act.put,List.setIfInBounds_toArray,List.set_cons_zero,List.set_cons_succ]
           have h6:=HX2.out.below hc6
           have t1:=h6.c0 V hvl
           have t2:=h6.c1 V hvl
           have z1:=h6.sp.frozen (V * 2)
           have z2:=h6.sp.frozen (V * 2 + 1)
           have HN:Hid (TyS w X r1 r2 r3 n nv (.slice ap ps.length cp) (.slice (some ⟨b7,off7,none⟩) is.length ci) (.slice ae ne ce) ((w6.setCell ⟨X + 1 + 1 + 1,V * 2,none⟩ (.int .i64 a0)).setCell ⟨X + 1 + 1 + 1,V * 2 + 1,none⟩ (.int .i64 (max b0 ((early + 1) + 1)))) (stOprs early sK (os.take (j + 1)))):=by
            rw [HT2.out]
            exact h6.put V a0 (max b0 ((early + 1) + 1))
           clear h6 hc6 hb6 HX2 HT2
           refine wpXl 11 rfl (by kernel_rfl) rfl (by kernel_rfl) (fun K hK => ?_)
           go_simp
           refine hK.out _ _ ?_
           clear hK K
           go_wp2
           go_roundw
           case rel => exact ⟨j + 1,by omega,by go_num,HN⟩
           case measure => simp [intOf]; omega
        ·have HN:Hid (TyS w X r1 r2 r3 n nv (.slice ap ps.length cp) (.slice (some ⟨b7,off7,none⟩) is.length ci) (.slice ae ne ce) wr (stIns fst sP is (i + 1))):=by
          have h:=HO.out
          rw [show os.take j = os from List.take_of_length_le (by omega)] at h
          rw [HSI.out]
          exact h
         clear HO
         go_wp2
         go_roundw
         case rel => exact ⟨i + 1,by omega,by go_num,HN⟩
         case measure => simp [intOf]; omega
      ·have HJ:Hid (TyS w X r1 r2 r3 n nv (.slice ap ps.length cp) (.slice ai is.length ci) (.slice ae ne ce) wr (stIns fst sP is is.length)):=by
        have h:=HI.out
        rw [show i = is.length by omega] at h
        exact h
       clear HI
       go_wp2_with fail
       obtain ⟨sM,hsM⟩:∃ sM,stIns fst sP is is.length = sM:=⟨_,rfl⟩
       rw [hsM] at HJ
       have HsM:Hid (stIns fst sP is is.length = sM):=hsM
       clear hsM
       obtain ⟨fin,hfin⟩:∃ fin:Int,fst + 1 + 2 * (is.length:Int) = fin:=⟨_,rfl⟩
       have hf0:0 ≤ fin:=by omega
       have hf1:fin ≤ 1000000000:=by omega
       have HFW:Hid (ptW (fst + 1 + 2 * (is.length:Int)) = fin):=by show _ = _; rw [ptW_id (by omega) (by omega)]; exact hfin
       have HFIN:Hid (fst + 1 + 2 * (is.length:Int) = fin):=hfin
       clear hfin
       go_loopw [111] (fun i wr => ∃ v:Nat,v ≤ nv∧i = .int .i64 v∧Hid (TyS w X r1 r2 r3 n nv (.slice ap ps.length cp) (.slice ai is.length ci) (.slice ae ne ce) wr (stOut O b fin sM v))) (fun i _ => nv - (intOf i).toNat)
       case atStart =>
        refine ⟨0,Nat.zero_le _,rfl,?_⟩
        have e:stOut O b fin sM 0 = sM:=by funext v; unfold stOut; simp
        rw [e]
        exact HJ
       case round =>
        clear HJ
        obtain ⟨v,hv,rfl,HI⟩:=hrel
        by_cases hvl:v < nv
        ·have tb:=HTO.out _ HI.out.low
         have i1:wr.cell? ⟨r2,b,none⟩ = some (.slice (some ⟨r2 + 1 + b,0,none⟩) nv nv):=tb.row.cell hbn
         have i2:=(tb.rows b hbn).cell hvl
         have d0:wr.cell? ⟨X,1,none⟩ = some (.slice (some ⟨r2,0,none⟩) n n):=HI.out.bn.cell (i:=1) (by omega)
         have hsu:=stOut_succ O b fin sM v
         clear tb
         cases hiv:O b v
         ·rw [hiv] at i2
          rw [hiv,if_neg (by simp)] at hsu
          have HN:Hid (TyS w X r1 r2 r3 n nv (.slice ap ps.length cp) (.slice ai is.length ci) (.slice ae ne ce) wr (stOut O b fin sM (v + 1))):=by rw [hsu]; exact HI
          clear hsu hiv HI
          go_wp2
          go_roundw
          case rel => exact ⟨v + 1,by omega,by go_num,HN⟩
          case measure => simp [intOf]; omega
         ·rw [hiv] at i2
          rw [hiv,if_pos rfl] at hsu
          have s1:=HI.out.c0 v hvl
          have s2:=HI.out.c1 v hvl
          obtain ⟨a0,ha0⟩:∃ a0,(stOut O b fin sM v v).1 = a0:=⟨_,rfl⟩
          obtain ⟨b0,hb00⟩:∃ b0,(stOut O b fin sM v v).2 = b0:=⟨_,rfl⟩
          rw [ha0,hb00] at hsu
          rw [ha0] at s1
          rw [hb00] at s2
          have HSU:Hid (stOut O b fin sM (v + 1) = upS (stOut O b fin sM v) v (a0,max b0 (fin + 1))):=hsu
          have x0:wr.cell? ⟨X + 1 + 1,0,none⟩ = some (.slice ap ps.length cp):=HI.out.bb.cell (i:=0) (by omega)
          have x1:wr.cell? ⟨X + 1 + 1,1,none⟩ = some (.slice ai is.length ci):=HI.out.bb.cell (i:=1) (by omega)
          have x2:wr.cell? ⟨X + 1 + 1,2,none⟩ = some (.slice ae ne ce):=HI.out.bb.cell (i:=2) (by omega)
          have lB:=HI.out.bb.lt
          have lR:=HI.out.sp.lt
          clear hiv ha0 hb00 hsu
          go_upto_region 33 with fail
          have HSF:Hid (∀ w',Below wr.heap.size wr w' → (fun w' => w'.cell? ⟨X + 1 + 1,0,none⟩ = some (.slice ap ps.length cp)∧w'.cell? ⟨X + 1 + 1,1,none⟩ = some (.slice ai is.length ci)∧w'.cell? ⟨X + 1 + 1,2,none⟩ = some (.slice ae ne ce)∧w'.cell? ⟨X + 1 + 1 + 1,v * 2,none⟩ = some (.int .i64 a0)∧w'.cell? ⟨X + 1 + 1 + 1,v * 2 + 1,none⟩ = some (.int .i64 b0)) w'):=fun w' hh => ⟨(hh.cell lB).trans x0,(hh.cell lB).trans x1,(hh.cell lB).trans x2,(hh.cell lR).trans s1,(hh.cell lR).trans s2⟩
          have hbd:Below wr.heap.size wr wr.drew:=(Below.refl _ _).drew
          refine wp_region_X (fun w' => w'.cell? ⟨X + 1 + 1,0,none⟩ = some (.slice ap ps.length cp)∧w'.cell? ⟨X + 1 + 1,1,none⟩ = some (.slice ai is.length ci)∧w'.cell? ⟨X + 1 + 1,2,none⟩ = some (.slice ae ne ce)∧w'.cell? ⟨X + 1 + 1 + 1,v * 2,none⟩ = some (.int .i64 a0)∧w'.cell? ⟨X + 1 + 1 + 1,v * 2 + 1,none⟩ = some (.int .i64 b0)) 11 (by kernel_rfl) (HSF.out _ hbd) (fun hHeld => ?_)
          refine wpXt 0 rfl (v:=?_) (by kernel_rfl) (fun _ _ _ h => h) (by rfl) ?_ hHeld ?_
          rotate_left
          ·intro w' hSw
           go_simp <;> with_reducible rfl
          try simp only [Act.put,List.setIfInBounds_toArray,List.set_cons_zero,List.set_cons_succ]
          refine wpXt 1 rfl (v:=?_) (by kernel_rfl) (fun _ _ _ h => h) (by rfl) ?_ hHeld ?_
          rotate_left
          ·intro w' hSw
           go_simp <;> with_reducible rfl
          try simp only [Act.put,List.setIfInBounds_toArray,List.set_cons_zero,List.set_cons_succ]
          refine wpXt 2 rfl (v:=?_) (by kernel_rfl) (fun _ _ _ h => h) (by rfl) ?_ hHeld ?_
          rotate_left
          ·intro w' hSw
           go_simp <;> with_reducible rfl
          try simp only [Act.put,List.setIfInBounds_toArray,List.set_cons_zero,List.set_cons_succ]
          refine wpXt 3 rfl (v:=?_) (by kernel_rfl) (fun _ _ _ h => h) (by rfl) ?_ hHeld ?_
          rotate_left
          ·intro w' hSw
           go_simp <;> with_reducible rfl
          try simp only [Act.put,List.setIfInBounds_toArray,List.set_cons_zero,List.set_cons_succ]
          refine wpXt 4 rfl (v:=?_) (by kernel_rfl) (fun _ _ _ h => h) (by rfl) ?_ hHeld ?_
          rotate_left
          ·intro w' hSw
           go_simp <;> with_reducible rfl
          try simp only [Act.put,List.setIfInBounds_toArray,List.set_cons_zero,List.set_cons_succ]
          refine wpXt 5 rfl (v:=?_) (by kernel_rfl) (fun _ _ _ h => h) (by rfl) ?_ hHeld ?_
          rotate_left
          ·intro w' hSw
           go_simp <;> with_reducible rfl
          try simp only [Act.put,List.setIfInBounds_toArray,List.set_cons_zero,List.set_cons_succ]
          refine wpXt 6 rfl (v:=?_) (by kernel_rfl) (fun _ _ _ h => h) (by rfl) ?_ hHeld ?_
          rotate_left
          ·intro w' hSw
           go_simp <;> with_reducible rfl
          try simp only [Act.put,List.setIfInBounds_toArray,List.set_cons_zero,List.set_cons_succ]
          refine wpXt 7 rfl (v:=?_) (by kernel_rfl) (fun _ _ _ h => h) (by rfl) ?_ hHeld ?_
          rotate_left
          ·intro w' hSw
           go_simp <;> with_reducible rfl
          try simp only [Act.put,List.setIfInBounds_toArray,List.set_cons_zero,List.set_cons_succ]
          refine wpXs 8 rfl (by kernel_rfl) (fun K hK => ?_)
          go_simp
          refine (endOf_any _ _ _ _ _ _ _ (by omega)).mono ?_
          rintro e w6 ⟨rfl,hb6⟩
          have hc6:Below wr.heap.size wr w6:=hbd.trans (hb6.mono hbd.size)
          rw [HFW.out]
          refine hK.out _ _ (HSF.out _ hc6) (fun hHeld => ?_)
          clear hK K
          try simp only [Act.put,List.setIfInBounds_toArray,List.set_cons_zero,List.set_cons_succ]
          refine wpXs 9 rfl (by kernel_rfl) (fun K hK => ?_)
          go_simp
          refine (upTo_any a0 b0 fin _ hf0 hf1).mono ?_
          rintro e w7 ⟨rfl,hb7⟩
          have hc7:Below wr.heap.size wr w7:=hc6.trans (hb7.mono hc6.size)
          refine hK.out _ _ (HSF.out _ hc7) (fun hHeld => ?_)
          clear hK K
          try simp only [Act.put,List.setIfInBounds_toArray,List.set_cons_zero,List.set_cons_succ]
          refine wpXt 10 rfl (v:=?_) (by kernel_rfl) (fun _ _ _ h => h) (by rfl) ?_ hHeld ?_
          rotate_left
          ·intro w' hSw
           go_simp <;> with_reducible rfl
          try simp only [Act.put,List.setIfInBounds_toArray,List.set_cons_zero,List.set_cons_succ]
          have h7:=HI.out.below hc7
          have t1:=h7.c0 v hvl
          have t2:=h7.c1 v hvl
          have z1:=h7.sp.frozen (v * 2)
          have z2:=h7.sp.frozen (v * 2 + 1)
          have HN:Hid (TyS w X r1 r2 r3 n nv (.slice ap ps.length cp) (.slice ai is.length ci) (.slice ae ne ce) ((w7.setCell ⟨X + 1 + 1 + 1,v * 2,none⟩ (.int .i64 a0)).setCell ⟨X + 1 + 1 + 1,v * 2 + 1,none⟩ (.int .i64 (max b0 (fin + 1)))) (stOut O b fin sM (v + 1))):=by
           rw [HSU.out]
           exact h7.put v a0 (max b0 (fin + 1))
          clear h7 hc6 hb6 hc7 hb7 HI HSU
          refine wpXl 11 rfl (by kernel_rfl) rfl (by kernel_rfl) (fun K hK => ?_)
          go_simp
          refine hK.out _ _ ?_
          clear hK K
          go_wp2
          go_roundw
          case rel => exact ⟨v + 1,by omega,by go_num,HN⟩
          case measure => simp [intOf]; omega
        ·have HE:Hid (wr.rowIs (X + 1 + 1 + 1) 71 (nv * 2) (spanC (stOut O b fin sM nv))∧Below w.heap.size w wr):=by
          have h:=HI.out
          rw [show v = nv by omega] at h
          exact ⟨h.sp,by rw [HX.out]; exact h.low⟩
         clear HI
         go_wp2
         go_ret
         exact ⟨rfl,by rw [HsI.out,HsP.out,HsM.out,HFIN.out]; exact HE.out⟩
end Go.Proofs.Ytglfpnnfcpnmoaa
