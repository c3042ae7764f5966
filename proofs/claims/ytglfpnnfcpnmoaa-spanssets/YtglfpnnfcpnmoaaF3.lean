/-
  The contract of 'makers': for each value where it is made.
-/
import Derived.Test.YtglfpnnfcpnmoaaF1
import Derived.Test.YtglfpnnfcpnmoaaA3
import Derived.Laws.MakeOwn
import Derived.Deep.OwnRows
namespace Go.Proofs.Ytglfpnnfcpnmoaa
open Go.RowKit
set_option linter.unusedVariables false
abbrev Spot:=Int × Int
def insSp (b i:Nat) (l:List Opr):List (Int × Spot):=(oprM l).map fun v => (v,((b:Int),(i:Int)))
def insSpU (b:Nat) (l:List Ins) (k:Nat):List (Int × Spot):=(List.range k).flatMap fun i => insSp b i (l.getD i ⟨0,[],[]⟩).operands
def parSp (b:Nat) (l:List Int):List (Int × Spot):=l.map fun v => (v,((b:Int),(-1:Int)))
def blkSp (b:Nat) (x:Blk):List (Int × Spot):=parSp b x.params ++ insSpU b x.instrs x.instrs.length
def spU (bs:List Blk) (k:Nat):List (Int × Spot):=(List.range k).flatMap fun b => blkSp b (bs.getD b ⟨[],[],[]⟩)
theorem insSpU_succ (b:Nat) (l:List Ins) (k:Nat) (h:k < l.length):insSpU b l (k + 1) = insSpU b l k ++ insSp b k l[k].operands:=by
 unfold insSpU
 rw [List.range_succ,List.flatMap_append]
 simp [List.getD,h]
theorem spU_succ (bs:List Blk) (k:Nat) (h:k < bs.length):spU bs (k + 1) = spU bs k ++ (parSp k bs[k].params ++ insSpU k bs[k].instrs bs[k].instrs.length):=by
 unfold spU
 rw [List.range_succ,List.flatMap_append]
 simp [List.getD,h,blkSp]
theorem spotOf_snoc (L:List (Int × Spot)) (v:Int) (s:Spot) (u:Nat):spotOf (L ++ [(v,s)]) u = if v = (u:Int) then s else spotOf L u:=by
 unfold spotOf
 rw [List.foldl_append]
 rfl
def spotC (L:List (Int × Spot)) (i:Nat):Value:=.int .i64 (if i % 2 = 0 then (spotOf L (i / 2)).1 else (spotOf L (i / 2)).2)
theorem map_take_sp (k:Nat) (ps:List Int) (j:Nat) (h:j < ps.length):parSp k (ps.take (j + 1)) = parSp k (ps.take j) ++ [(ps[j],((k:Int),(-1:Int)))]:=by
 unfold parSp
 rw [List.take_succ_eq_append_getElem h,List.map_append]
 rfl
theorem insSp_def (b i j:Nat) (l:List Opr) (h:j < l.length) (hk:l[j].kind = 2):insSp b i (l.take (j + 1)) = insSp b i (l.take j) ++ [(l[j].value,((b:Int),(i:Int)))]:=by
 unfold insSp oprM
 rw [List.take_succ_eq_append_getElem h,List.filter_append,List.map_append,List.map_append]
 simp [hk]
theorem insSp_use (b i j:Nat) (l:List Opr) (h:j < l.length) (hk:¬ l[j].kind = 2):insSp b i (l.take (j + 1)) = insSp b i (l.take j):=by
 unfold insSp oprM
 rw [List.take_succ_eq_append_getElem h,List.filter_append,List.map_append,List.map_append]
 simp [hk]
def MkS (w0:World) (N n:Nat) (w:World) (L:List (Int × Spot)):Prop:=w.rowIs (N + 1) 116 (n * 2) (spotC L)∧Below N w0 w
theorem MkS.below {w0:World} {N n:Nat} {w w':World} {L:List (Int × Spot)} (h:MkS w0 N n w L) (hb:Below w.heap.size w w'):MkS w0 N n w' L:=⟨h.1.of_block (hb.block _ h.1.lt),h.2.trans (hb.mono (by have:=h.1.lt; omega))⟩
theorem MkS.put {w0:World} {N n:Nat} {w:World} {L:List (Int × Spot)} (h:MkS w0 N n w L) (v:Int) (s:Spot) (h0:0 ≤ v):MkS w0 N n ((w.setCell ⟨N + 1,v.toNat * 2,none⟩ (.int .i64 s.1)).setCell ⟨N + 1,v.toNat * 2 + 1,none⟩ (.int .i64 s.2)) (L ++ [(v,s)]):=by
 refine ⟨((h.1.set (v.toNat * 2) _).set (v.toNat * 2 + 1) _).congr fun i hi => ?_,(h.2.setCell (by simp) _).setCell (by simp) _⟩
 unfold spotC
 rw [spotOf_snoc]
 by_cases e1:i = v.toNat * 2 + 1
 ·rw [if_pos e1]
  have:v = ((i / 2:Nat):Int):=by omega
  rw [if_pos this,if_neg (by omega)]
 ·rw [if_neg e1]
  by_cases e2:i = v.toNat * 2
  ·rw [if_pos e2]
   have:v = ((i / 2:Nat):Int):=by omega
   rw [if_pos this,if_pos (by omega)]
  ·rw [if_neg e2]
   have:¬ v = ((i / 2:Nat):Int):=by omega
   rw [if_neg this]
theorem infoSp:(Try.prog.info? 116).map (fun i => (i.zero,i.size,i.bytes)) = some (some (.agg #[.int .i64 0,.int .i64 0]),2,16):=by kernel_rfl
theorem make_sp (n:Nat) (hn:n ≤ 1000000) (w:World):(Instr.makeSlice 112 (.int .i64 (n:Int)) (.int .i64 (n:Int))).run Try.prog w = .ok (.slice (some ⟨w.heap.size,0,none⟩) n n) (w.alloc (.cells (madeCells #[.int .i64 0,.int .i64 0] (n * 2)) 116)):=by
 obtain ⟨i3,hi3,hz⟩:=Option.map_eq_some_iff.1 infoSp
 simp only [Prod.mk.injEq] at hz
 have h:=run_make (P:=Try.prog) w 112 116 i3 (.agg #[.int .i64 0,.int .i64 0]) Try.underlying112 hi3 hz.1 .i64 .i64 n n (by omega) (by omega) (by rw [hz.2.2]; omega) (by omega)
 rw [hz.2.1] at h
 have e:(Value.agg #[.int .i64 0,.int .i64 0]).cells = #[.int .i64 0,.int .i64 0]:=rfl
 rw [e] at h
 simp only [Int.toNat_natCast] at h
 exact h
theorem made2 (w:World) (n:Nat) (t:Nat):(w.alloc (.cells (madeCells #[.int .i64 0,.int .i64 0] (n * 2)) t)).rowIs w.heap.size t (n * 2) (spotC []):=by
 refine ⟨_,heap_alloc_new _ _,size_madeCells _ _,fun i hi => ?_⟩
 have e:spotC [] i = .int .i64 0:=by unfold spotC spotOf; simp
 rw [e]
 have hm:i % 2 = 0 ∨ i % 2 = 1:=by omega
 rcases hm with h | h <;> simp [madeCells,hi,h]
def DefsIn (n:Nat) (bs:List Blk):Prop:=∀ b ∈ bs,(∀ v ∈ b.params,0 ≤ v∧v < (n:Int))∧∀ x ∈ b.instrs,∀ o ∈ x.operands,o.kind = 2 → 0 ≤ o.value∧o.value < (n:Int)
set_option maxRecDepth 4000 in
set_option maxHeartbeats 4000000 in
theorem makers_any (values:List Int) (bs:List Blk) (av ab:Option Addr) (cv cb:Nat) (w:World) (hv:SlOf w 1 RInt (.slice av values.length cv) values) (hb:SlOf w 3 (RBlk w) (.slice ab bs.length cb) bs) (hn:values.length ≤ 1000) (hd:DefsIn values.length bs) :
  Calls Try.prog 52 #[.agg #[.slice av values.length cv,.slice ab bs.length cb]] w fun e w' => e = .returned (.slice (some ⟨w.heap.size + 1,0,none⟩) values.length values.length)∧w'.rowIs (w.heap.size + 1) 116 (values.length * 2) (spotC (spU bs bs.length))∧Below w.heap.size w w':=by
 have hmk:=make_sp values.length (by omega)
 obtain ⟨_,_,_,lb⟩:=hb.out
 unfold longest at lb
 obtain ⟨W,hW⟩:∃ W,W = (w.alloc (.cells #[.slice av values.length cv,.slice ab bs.length cb] 30)).alloc (.cells (madeCells #[.int .i64 0,.int .i64 0] (values.length * 2)) 116):=⟨_,rfl⟩
 have hst:MkS w w.heap.size values.length W (spU bs 0):=by
  rw [hW]
  have h:=made2 (w.alloc (.cells #[.slice av values.length cv,.slice ab bs.length cb] 30)) values.length 116
  have e:(w.alloc (.cells #[.slice av values.length cv,.slice ab bs.length cb] 30)).heap.size = w.heap.size + 1:=by simp
  rw [e] at h
  exact ⟨h,((Below.refl _ _).alloc (Nat.le_refl _) _).alloc (by simp) _⟩
 have d1:W.cell? ⟨w.heap.size,1,none⟩ = some (.slice ab bs.length cb):=by rw [hW]; simp
 have HW:Hid (W = (w.alloc (.cells #[.slice av values.length cv,.slice ab bs.length cb] 30)).alloc (.cells (madeCells #[.int .i64 0,.int .i64 0] (values.length * 2)) 116)):=hW
 have HB:Hid (SlOf w 3 (RBlk w) (.slice ab bs.length cb) bs):=hb
 have HD:Hid (DefsIn values.length bs):=hd
 have HS0:Hid (MkS w w.heap.size values.length W (spU bs 0)):=hst
 clear hW hst hb hd
 go_enter Try.func52,Try.ntmps52
 go_upto_region 2 with fail
 rw [← HW.out]
 go_wp2_with fail
 clear hmk HW
 go_loopw [19] (fun i wr => ∃ k:Nat,k ≤ bs.length∧i = .int .i64 k∧Hid (MkS w w.heap.size values.length wr (spU bs k))) (fun i _ => bs.length - (intOf i).toNat)
 case atStart => exact ⟨0,Nat.zero_le _,rfl,HS0⟩
 case round =>
  obtain ⟨k,hk,rfl,HK⟩:=hrel
  by_cases hlt:k < bs.length
  ·obtain ⟨b5,off5,cs,rfl,hcl5,⟨vp,vi,ve,rfl,hp,hi,he0⟩,hc⟩:=HB.out.at k hlt
   obtain ⟨ae,ce,rfl,_⟩:=he0.out
   obtain ⟨ap,cp,rfl,lp⟩:=hp.out
   obtain ⟨ai,ci,rfl,li⟩:=hi.out
   unfold longest at lp li
   have hb0:=HK.out.2
   have c0:=(hb0.cell (p:=⟨b5,off5 + k * 3 + 0,none⟩) (block_lt (hc 0 (by simp)))).trans (hc 0 (by simp))
   have c1:=(hb0.cell (p:=⟨b5,off5 + k * 3 + 1,none⟩) (block_lt (hc 1 (by simp)))).trans (hc 1 (by simp))
   have c2:=(hb0.cell (p:=⟨b5,off5 + k * 3 + 2,none⟩) (block_lt (hc 2 (by simp)))).trans (hc 2 (by simp))
   simp at c0 c1 c2
   have hdk:=HD.out bs[k] (List.getElem_mem hlt)
   have HSP:Hid (spU bs (k + 1) = spU bs k ++ (parSp k bs[k].params ++ insSpU k bs[k].instrs bs[k].instrs.length)):=spU_succ bs k hlt
   clear hc hcl5
   generalize bs[k].edges.length = ne at *
   generalize bs[k].params = ps at *
   generalize bs[k].instrs = is at *
   have HPS:Hid (SlOf w 1 RInt (.slice ap ps.length cp) ps):=hp
   have HIS:Hid (SlOf w 3 (RIns w) (.slice ai is.length ci) is):=hi
   have HDP:Hid (∀ v ∈ ps,0 ≤ v∧v < (values.length:Int)):=hdk.1
   have HDI:Hid (∀ x ∈ is,∀ o ∈ x.operands,o.kind = 2 → 0 ≤ o.value∧o.value < (values.length:Int)):=hdk.2
   have hsz:=HK.out.1.lt
   generalize spU bs k = L0 at *
   have HK2:Hid (MkS w w.heap.size values.length (wr.alloc (.cells #[.slice ap ps.length cp,.slice ai is.length ci,.slice ae ne ce] 40)) L0):=HK.out.below ((Below.refl _ _).alloc (Nat.le_refl _) _)
   have HBX:Hid ((wr.alloc (.cells #[.slice ap ps.length cp,.slice ai is.length ci,.slice ae ne ce] 40)).rowIs wr.heap.size 40 3 (fun q => if q = 0 then .slice ap ps.length cp else if q = 1 then .slice ai is.length ci else .slice ae ne ce)):=World.rowIs_alloc _ _ _ _ fun i hi => by
    simp at hi
    match i,hi with | 0,_ => rfl | 1,_ => rfl | 2,_ => rfl
   clear hp hi he0 hdk hb0 HK
   go_wp2_with fail
   obtain ⟨XB,hXB⟩:∃ XB,XB = wr.heap.size:=⟨_,rfl⟩
   obtain ⟨wb,hwb⟩:∃ wb,wb = wr.alloc (.cells #[.slice ap ps.length cp,.slice ai is.length ci,.slice ae ne ce] 40):=⟨_,rfl⟩
   rw [← hwb] at HK2 HBX ⊢
   rw [← hXB] at HBX hsz ⊢
   clear hwb hXB c0 c1 c2
   go_loopw [27] (fun i w2 => ∃ j:Nat,j ≤ ps.length∧i = .int .i64 j∧Hid (MkS w w.heap.size values.length w2 (L0 ++ parSp k (ps.take j))∧w2.rowIs XB 40 3 (fun q => if q = 0 then .slice ap ps.length cp else if q = 1 then .slice ai is.length ci else .slice ae ne ce))) (fun i _ => ps.length - (intOf i).toNat)
   case atStart => exact ⟨0,Nat.zero_le _,rfl,by simpa [parSp] using HK2.out,HBX.out⟩
   case round =>
    obtain ⟨j,hj,rfl,HJ⟩:=hrel
    by_cases hjl:j < ps.length
    ·obtain ⟨b6,off6,rfl,hb6,hc6⟩:=ints_at HPS.out j (by omega) (by omega)
     have e:ps.getD (j:Int).toNat 0 = ps[j]:=by simp [List.getD,hjl]
     rw [e,Int.toNat_natCast] at hc6
     have f0:=(HJ.out.1.2.cell (p:=⟨b6,off6 + j,none⟩) hb6).trans hc6
     have hvr:=HDP.out ps[j] (List.getElem_mem hjl)
     have hpt:parSp k (ps.take (j + 1)) = parSp k (ps.take j) ++ [(ps[j],((k:Int),(-1:Int)))]:=map_take_sp _ _ _ hjl
     have HPT:Hid (L0 ++ parSp k (ps.take (j + 1)) = (L0 ++ parSp k (ps.take j)) ++ [(ps[j],((k:Int),(-1:Int)))]):=by show _ = _; rw [hpt,List.append_assoc]
     clear e hc6 hpt
     generalize ps[j] = v at *
     have v0:=hvr.1
     have v1:=hvr.2
     generalize L0 ++ parSp k (ps.take j) = L1 at *
     have HN:Hid (MkS w w.heap.size values.length ((wr.setCell ⟨w.heap.size + 1,v.toNat * 2,none⟩ (.int .i64 k)).setCell ⟨w.heap.size + 1,v.toNat * 2 + 1,none⟩ (.int .i64 (-1))) (L1 ++ [(v,((k:Int),(-1:Int)))])∧((wr.setCell ⟨w.heap.size + 1,v.toNat * 2,none⟩ (.int .i64 k)).setCell ⟨w.heap.size + 1,v.toNat * 2 + 1,none⟩ (.int .i64 (-1))).rowIs XB 40 3 (fun q => if q = 0 then .slice (some ⟨b6,off6,none⟩) ps.length cp else if q = 1 then .slice ai is.length ci else .slice ae ne ce)):=⟨HJ.out.1.put v ((k:Int),(-1:Int)) v0,(HJ.out.2.setOther (by simp; omega) _).setOther (by simp; omega) _⟩
     have s1:=HJ.out.1.1.cell (i:=v.toNat * 2) (by omega)
     have s2:=HJ.out.1.1.cell (i:=v.toNat * 2 + 1) (by omega)
     have z1:=HJ.out.1.1.frozen (v.toNat * 2)
     have z2:=HJ.out.1.1.frozen (v.toNat * 2 + 1)
     unfold spotC at s1 s2
     clear hvr HJ
     go_wp2
     go_roundw
     case rel =>
      refine ⟨j + 1,by omega,by go_num,?_⟩
      rw [HPT.out]
      exact HN
     case measure => simp [intOf]; omega
    ·have HJ2:Hid (MkS w w.heap.size values.length wr (L0 ++ parSp k ps)∧wr.rowIs XB 40 3 (fun q => if q = 0 then .slice ap ps.length cp else if q = 1 then .slice ai is.length ci else .slice ae ne ce)):=by
      have h:=HJ.out
      rw [List.take_of_length_le (by omega)] at h
      exact h
     have x1:wr.cell? ⟨XB,1,none⟩ = some (.slice ai is.length ci):=HJ2.out.2.cell (i:=1) (by omega)
     clear HJ
     go_wp2_with fail
     have HSP2:Hid (spU bs (k + 1) = (L0 ++ parSp k ps) ++ insSpU k is is.length):=by show _ = _; rw [HSP.out,List.append_assoc]
     have HJ3:Hid (MkS w w.heap.size values.length wr (L0 ++ parSp k ps)):=HJ2.out.1
     clear HSP HJ2 x1
     generalize L0 ++ parSp k ps = L1 at *
     go_loopw [40] (fun i w2 => ∃ j:Nat,j ≤ is.length∧i = .int .i64 j∧Hid (MkS w w.heap.size values.length w2 (L1 ++ insSpU k is j))) (fun i _ => is.length - (intOf i).toNat)
     case atStart => exact ⟨0,Nat.zero_le _,rfl,by simpa [insSpU] using HJ3⟩
     case round =>
      obtain ⟨i,hi,rfl,HI⟩:=hrel
      by_cases hil:i < is.length
      ·obtain ⟨b7,off7,cs,rfl,hcl7,⟨vo,vs,rfl,hvo,hvs⟩,hc⟩:=HIS.out.at i hil
       obtain ⟨ao,co,rfl,lo⟩:=hvo.out
       obtain ⟨asp,cs',rfl,_⟩:=hvs.out
       unfold longest at lo
       have hb0:=HI.out.2
       have c0:=(hb0.cell (p:=⟨b7,off7 + i * 3 + 0,none⟩) (block_lt (hc 0 (by simp)))).trans (hc 0 (by simp))
       have c1:=(hb0.cell (p:=⟨b7,off7 + i * 3 + 1,none⟩) (block_lt (hc 1 (by simp)))).trans (hc 1 (by simp))
       have c2:=(hb0.cell (p:=⟨b7,off7 + i * 3 + 2,none⟩) (block_lt (hc 2 (by simp)))).trans (hc 2 (by simp))
       simp at c0 c1 c2
       have hdi:=HDI.out is[i] (List.getElem_mem hil)
       have HSI:Hid (L1 ++ insSpU k is (i + 1) = (L1 ++ insSpU k is i) ++ insSp k i is[i].operands):=by show _ = _; rw [insSpU_succ _ _ _ hil,List.append_assoc]
       clear hc hcl7 hvs
       generalize is[i].op = op at *
       generalize is[i].spoils.length = ns at *
       generalize is[i].operands = os at *
       generalize L1 ++ insSpU k is i = L2 at *
       have HOS:Hid (SlOf w 5 ROpr (.slice ao os.length co) os):=hvo
       have HDO:Hid (∀ o ∈ os,o.kind = 2 → 0 ≤ o.value∧o.value < (values.length:Int)):=hdi
       have HI2:Hid (MkS w w.heap.size values.length (wr.alloc (.cells #[.int .i64 op,.slice ao os.length co,.slice asp ns cs'] 44)) L2):=HI.out.below ((Below.refl _ _).alloc (Nat.le_refl _) _)
       clear hvo hdi hb0 HI
       go_wp2_with fail
       obtain ⟨wb,hwb⟩:∃ wb,wb = wr.alloc (.cells #[.int .i64 op,.slice ao os.length co,.slice asp ns cs'] 44):=⟨_,rfl⟩
       rw [← hwb] at HI2 ⊢
       clear hwb c0 c1 c2
       go_loopw [48] (fun x w3 => ∃ j:Nat,j ≤ os.length∧x = .int .i64 j∧Hid (MkS w w.heap.size values.length w3 (L2 ++ insSp k i (os.take j)))) (fun x _ => os.length - (intOf x).toNat)
       case atStart => exact ⟨0,Nat.zero_le _,rfl,by simpa [insSp,oprM] using HI2⟩
       case round =>
        obtain ⟨j,hj,rfl,HO⟩:=hrel
        by_cases hjl:j < os.length
        ·obtain ⟨b8,off8,rfl,hb8,o0,o1,o2,o3,o4⟩:=opr_cells HOS.out j hjl
         have hb0:=HO.out.2
         have e0:=(hb0.cell (p:=⟨b8,_,none⟩) hb8).trans o0
         have e1:=(hb0.cell (p:=⟨b8,_,none⟩) hb8).trans o1
         have e2:=(hb0.cell (p:=⟨b8,_,none⟩) hb8).trans o2
         have e3:=(hb0.cell (p:=⟨b8,_,none⟩) hb8).trans o3
         have e4:=(hb0.cell (p:=⟨b8,_,none⟩) hb8).trans o4
         have hdo:=HDO.out os[j] (List.getElem_mem hjl)
         have HD2:Hid (os[j].kind = 2 → insSp k i (os.take (j + 1)) = insSp k i (os.take j) ++ [(os[j].value,((k:Int),(i:Int)))]):=fun h => insSp_def k i j os hjl h
         have HU2:Hid (¬ os[j].kind = 2 → insSp k i (os.take (j + 1)) = insSp k i (os.take j)):=fun h => insSp_use k i j os hjl h
         clear o0 o1 o2 o3 o4 hb0
         generalize os[j] = o at *
         have hwx:Below wr.heap.size wr (wr.alloc (.cells #[.int .i64 o.kind,.int .i64 o.value,.bool o.late,.int .i64 o.limit,.int .i64 o.n] 46)):=(Below.refl _ _).alloc (Nat.le_refl _) _
         have HX:=HO.out.below hwx
         by_cases hk2:o.kind = 2
         ·have q:(o.kind == 2) = true:=by simp [hk2]
          have v0:=(hdo hk2).1
          have v1:=(hdo hk2).2
          have HE:=HD2.out hk2
          have s1:=HO.out.1.cell (i:=o.value.toNat * 2) (by omega)
          have s2:=HO.out.1.cell (i:=o.value.toNat * 2 + 1) (by omega)
          have z1:=HO.out.1.frozen (o.value.toNat * 2)
          have z2:=HO.out.1.frozen (o.value.toNat * 2 + 1)
          have l1:=HO.out.1.lt
          have hlx:¬ wr.heap.size = w.heap.size + 1:=by omega
          unfold spotC at s1 s2
          have HN:Hid (MkS w w.heap.size values.length (((wr.setCell ⟨w.heap.size + 1,o.value.toNat * 2,none⟩ (.int .i64 k)).setCell ⟨w.heap.size + 1,o.value.toNat * 2 + 1,none⟩ (.int .i64 i)).alloc (.cells #[.int .i64 o.kind,.int .i64 o.value,.bool o.late,.int .i64 o.limit,.int .i64 o.n] 46)) (L2 ++ insSp k i (os.take (j + 1)))):=by
           have h:=HO.out.put o.value ((k:Int),(i:Int)) v0
           rw [HE,← List.append_assoc]
           exact h.below ((Below.refl _ _).alloc (Nat.le_refl _) _)
          have LS:=old_cell (w.heap.size + 1)
          clear hdo HE HD2 HU2 hk2 HX HO hwx
          go_wp2
          go_roundw
          case rel =>
           refine ⟨j + 1,by omega,by go_num,?_⟩
           exact HN
          case measure => simp [intOf]; omega
         ·have q:(o.kind == 2) = false:=by simp [hk2]
          have HE:=HU2.out hk2
          have HN:Hid (MkS w w.heap.size values.length (wr.alloc (.cells #[.int .i64 o.kind,.int .i64 o.value,.bool o.late,.int .i64 o.limit,.int .i64 o.n] 46)) (L2 ++ insSp k i (os.take (j + 1)))):=by
           show MkS _ _ _ _ _
           rw [HE]
           exact HX
          clear hdo HE HD2 HU2 hk2 HX HO hwx
          go_wp2
          go_roundw
          case rel => exact ⟨j + 1,by omega,by go_num,HN⟩
          case measure => simp [intOf]; omega
        ·have HN:Hid (MkS w w.heap.size values.length wr (L1 ++ insSpU k is (i + 1))):=by
          have h:=HO.out
          rw [List.take_of_length_le (by omega)] at h
          rw [HSI.out]
          exact h
         clear HO
         go_wp2
         go_roundw
         case rel => exact ⟨i + 1,by omega,by go_num,HN⟩
         case measure => simp [intOf]; omega
      ·have HN:Hid (MkS w w.heap.size values.length wr (spU bs (k + 1))):=by
        have h:=HI.out
        have e:i = is.length:=by omega
        rw [e] at h
        rw [HSP2.out]
        exact h
       clear HI
       go_wp2
       go_roundw
       case rel => exact ⟨k + 1,by omega,by go_num,HN⟩
       case measure => simp [intOf]; omega
  ·have hk2:k = bs.length:=by omega
   have HI2:Hid (MkS w w.heap.size values.length wr (spU bs bs.length)):=by
    have h:=HK.out
    rw [hk2] at h
    exact h
   clear HK hk2
   go_wp2
   go_ret
   exact ⟨rfl,HI2.out.1,HI2.out.2⟩
end Go.Proofs.Ytglfpnnfcpnmoaa
