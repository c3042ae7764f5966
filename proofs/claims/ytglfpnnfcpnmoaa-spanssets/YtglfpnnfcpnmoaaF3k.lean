/-
  The contracts of 'ahead' and of 'madeAhead': whether each value is made ahead of where it is used.
-/
import Derived.Test.YtglfpnnfcpnmoaaF3
import Derived.Test.YtglfpnnfcpnmoaaA5
namespace Go.Proofs.Ytglfpnnfcpnmoaa
open Go.RowKit
set_option linter.unusedVariables false
theorem dominates_is (n:Nat) (rank idom:Nat → Int) (vp vo:Value) (ad:Option Addr) (cd:Nat) (a b0:Int) (r:Bool) (hr:domM idom (n + 1) a b0 = r) (w:World) (hd:SlOf w 1 RInt (.slice ad n cd) (fnL n idom)) (hk:DomOk n rank idom) (hb0:-1 ≤ b0) (hb1:b0 < n) (hn:n ≤ 1000) :
  Calls Try.prog 60 #[.agg #[vp,vo,.slice ad n cd],.int .i64 a,.int .i64 b0] w fun e w' => e = .returned (.bool r)∧Below w.heap.size w w':=by
 rw [← hr]; exact dominates_any n rank idom vp vo ad cd a b0 w hd hk hb0 hb1 hn
set_option maxHeartbeats 2000000 in
theorem ahead_is (n:Nat) (rank idom:Nat → Int) (ap ao ad:Option Addr) (np no cp co cd:Nat) (a0 a1 u0 u1:Int) (r:Bool) (hr:aheadM idom n (a0,a1) (u0,u1) = r) (w:World) (hd:SlOf w 1 RInt (.slice ad n cd) (fnL n idom)) (hk:DomOk n rank idom) (hb0:0 ≤ u0) (hb1:u0 < n) (hn:n ≤ 1000) :
  Calls Try.prog 53 #[.agg #[.slice ap np cp,.slice ao no co,.slice ad n cd],.agg #[.int .i64 a0,.int .i64 a1],.agg #[.int .i64 u0,.int .i64 u1]] w fun e w' => e = .returned (.bool r)∧Below w.heap.size w w':=by
 unfold aheadM at hr
 obtain ⟨W,hW⟩:∃ W,W = ((w.alloc (.cells #[.slice ap np cp,.slice ao no co,.slice ad n cd] 81)).alloc (.cells #[.int .i64 a0,.int .i64 a1] 116)).alloc (.cells #[.int .i64 u0,.int .i64 u1] 116):=⟨_,rfl⟩
 have hbw:Below w.heap.size w W:=by
  rw [hW]
  repeat (first | exact Below.refl _ _ | refine Below.alloc ?_ (by simp; try omega) _)
 have HB:Hid (Below w.heap.size w W):=hbw
 have HW:Hid (W = ((w.alloc (.cells #[.slice ap np cp,.slice ao no co,.slice ad n cd] 81)).alloc (.cells #[.int .i64 a0,.int .i64 a1] 116)).alloc (.cells #[.int .i64 u0,.int .i64 u1] 116)):=hW
 have hdW:=hd.below hbw fun _ _ h => h
 clear hW
 by_cases he:a0 = u0
 ·have q:(a0 == u0) = true:=by simp [he]
  have H:Hid (decide (a1 < u1) = r):=by show _ = _; rw [← hr,if_pos he]
  clear he hr hd hdW hbw
  go_enter Try.func53,Try.ntmps53
  go_wp2
  go_ret
  exact ⟨ret_bool H.out,by rw [← HW.out]; exact HB.out⟩
 ·have q:(a0 == u0) = false:=by simp [he]
  have hr':domM idom (n + 1) a0 u0 = r:=by rw [← hr,if_neg he]
  have HC:=dominates_is n rank idom (.slice ap np cp) (.slice ao no co) ad cd a0 u0 r hr' W hdW hk (by omega) hb1 hn
  clear he hr hr' hd hdW hbw hk
  go_enter Try.func53,Try.ntmps53
  go_wp2_with fail
  rw [← HW.out]
  refine HC.mono ?_
  rintro e w2 ⟨rfl,hb2⟩
  clear HC
  go_wp2
  go_ret
  exact ⟨rfl,HB.out.trans (hb2.mono HB.out.size)⟩
def useOk (L:List (Int × Spot)) (idom:Nat → Int) (n b i:Nat) (o:Opr):Bool:=!(o.kind == 1) || aheadM idom n (spotOf L o.value.toNat) ((b:Int),(i:Int))
def argOk (L:List (Int × Spot)) (idom:Nat → Int) (n b i:Nat) (v:Int):Bool:=aheadM idom n (spotOf L v.toNat) ((b:Int),(i:Int))
def insOk (L:List (Int × Spot)) (idom:Nat → Int) (n b:Nat) (is:List Ins) (i:Nat):Bool:=(is.getD i ⟨0,[],[]⟩).operands.all (useOk L idom n b i)
def edgOk (L:List (Int × Spot)) (idom:Nat → Int) (n b ni:Nat) (e:Edg):Bool:=e.args.all (argOk L idom n b ni)
def blkOk (L:List (Int × Spot)) (idom:Nat → Int) (n:Nat) (bs:List Blk) (b:Nat):Bool:=(List.range (bs.getD b ⟨[],[],[]⟩).instrs.length).all (insOk L idom n b (bs.getD b ⟨[],[],[]⟩).instrs) && (bs.getD b ⟨[],[],[]⟩).edges.all (edgOk L idom n b (bs.getD b ⟨[],[],[]⟩).instrs.length)
def madeL (L:List (Int × Spot)) (idom:Nat → Int) (bs:List Blk):Bool:=(List.range bs.length).all (blkOk L idom bs.length bs)
theorem allF_snoc {α:Type} (p:α → Bool) (l:List α) (k:Nat) (h:k < l.length) (h1:(l.take k).all p = true) (h2:p l[k] = true):(l.take (k + 1)).all p = true:=by
 rw [List.take_succ_eq_append_getElem h,List.all_append,h1]
 simp [h2]
theorem allF_at {α:Type} (p:α → Bool) (l:List α) (k:Nat) (h:k < l.length) (h2:p l[k] = false):l.all p = false:=by
 cases e:l.all p
 ·rfl
 ·have:=List.all_eq_true.1 e _ (List.getElem_mem h)
  rw [h2] at this
  cases this
theorem allF_end {α:Type} (p:α → Bool) (l:List α) (k:Nat) (h:l.length ≤ k) (h1:(l.take k).all p = true):l.all p = true:=by
 rw [List.take_of_length_le h] at h1
 exact h1
theorem allR_snoc (p:Nat → Bool) (k:Nat) (h1:(List.range k).all p = true) (h2:p k = true):(List.range (k + 1)).all p = true:=by
 rw [List.range_succ,List.all_append,h1]
 simp [h2]
theorem allR_at (p:Nat → Bool) (n k:Nat) (h:k < n) (h2:p k = false):(List.range n).all p = false:=by
 cases e:(List.range n).all p
 ·rfl
 ·have:=List.all_eq_true.1 e k (List.mem_range.2 h)
  rw [h2] at this
  cases this
def UsesIn (n:Nat) (bs:List Blk):Prop:=∀ b ∈ bs,(∀ x ∈ b.instrs,∀ o ∈ x.operands,o.kind = 1 → 0 ≤ o.value∧o.value < (n:Int))∧∀ e ∈ b.edges,∀ v ∈ e.args,0 ≤ v∧v < (n:Int)
theorem spotC_even (L:List (Int × Spot)) (v:Nat):spotC L (v * 2) = .int .i64 (spotOf L v).1:=by
 unfold spotC
 rw [if_pos (by omega),show v * 2 / 2 = v by omega]
theorem spotC_odd (L:List (Int × Spot)) (v:Nat):spotC L (v * 2 + 1) = .int .i64 (spotOf L v).2:=by
 unfold spotC
 rw [if_neg (by omega),show (v * 2 + 1) / 2 = v by omega]
theorem getD_blk (bs:List Blk) (k:Nat) (h:k < bs.length):bs.getD k ⟨[],[],[]⟩ = bs[k]:=by simp [List.getD,h]
theorem getD_ins (is:List Ins) (k:Nat) (h:k < is.length):is.getD k ⟨0,[],[]⟩ = is[k]:=by simp [List.getD,h]
theorem makers_is (f:List Int) (bs:List Blk) (av ab:Option Addr) (cv cb N:Nat) (w:World) (hN:w.heap.size = N) (hv:SlOf w 1 RInt (.slice av f.length cv) f) (hb:SlOf w 3 (RBlk w) (.slice ab bs.length cb) bs) (hn:f.length ≤ 1000) (hd:DefsIn f.length bs) :
  Calls Try.prog 52 #[.agg #[.slice av f.length cv,.slice ab bs.length cb]] w fun e w' => e = .returned (.slice (some ⟨N + 1,0,none⟩) f.length f.length)∧w'.rowIs (N + 1) 116 (f.length * 2) (spotC (spU bs bs.length))∧Below w.heap.size w w':=by
 subst hN; exact makers_any f bs av ab cv cb w hv hb hn hd
set_option maxRecDepth 8000 in
set_option maxHeartbeats 8000000 in
theorem madeAhead_any (n:Nat) (rank idom:Nat → Int) (values:List Int) (bs:List Blk) (av ab ap ao ad:Option Addr) (cv cb np no cp co cd:Nat) (w:World) (hnb:bs.length = n) (hv:SlOf w 1 RInt (.slice av values.length cv) values) (hb:SlOf w 3 (RBlk w) (.slice ab bs.length cb) bs)
  (hn:values.length ≤ 1000) (hn2:n ≤ 1000) (hd:DefsIn values.length bs) (hu:UsesIn values.length bs) (hid:SlOf w 1 RInt (.slice ad n cd) (fnL n idom)) (hk:DomOk n rank idom) :
  Calls Try.prog 40 #[.agg #[.slice ap np cp,.slice ao no co,.slice ad n cd],.agg #[.slice av values.length cv,.slice ab bs.length cb]] w fun e w' => e = .returned (.bool (madeL (spU bs bs.length) idom bs))∧Below w.heap.size w w':=by
 have lb:bs.length ≤ longest:=by
  obtain ⟨_,_,_,h⟩:=hb.out
  exact h
 unfold longest at lb
 obtain ⟨res,hres⟩:∃ res,madeL (spU bs bs.length) idom bs = res:=⟨_,rfl⟩
 rw [hres]
 unfold madeL at hres
 have HRES:Hid ((List.range bs.length).all (blkOk (spU bs bs.length) idom n bs) = res):=by rw [← hnb] at *; exact hres
 obtain ⟨W,hW⟩:∃ W,W = (w.alloc (.cells #[.slice ap np cp,.slice ao no co,.slice ad n cd] 81)).alloc (.cells #[.slice av values.length cv,.slice ab bs.length cb] 30):=⟨_,rfl⟩
 have hz:W.heap.size = w.heap.size + 1 + 1:=by rw [hW]; simp
 have hbw:Below w.heap.size w W:=by rw [hW]; exact ((Below.refl _ _).alloc (Nat.le_refl _) _).alloc (by simp) _
 have g0:W.cell? ⟨w.heap.size,0,none⟩ = some (.slice ap np cp):=by rw [hW]; exact (World.cell?_alloc_lt _ _ _ (by simp)).trans (by simp)
 have g1:W.cell? ⟨w.heap.size,1,none⟩ = some (.slice ao no co):=by rw [hW]; exact (World.cell?_alloc_lt _ _ _ (by simp)).trans (by simp)
 have g2:W.cell? ⟨w.heap.size,2,none⟩ = some (.slice ad n cd):=by rw [hW]; exact (World.cell?_alloc_lt _ _ _ (by simp)).trans (by simp)
 have f0:W.cell? ⟨w.heap.size + 1,0,none⟩ = some (.slice av values.length cv):=by rw [hW]; simp
 have f1:W.cell? ⟨w.heap.size + 1,1,none⟩ = some (.slice ab bs.length cb):=by rw [hW]; simp
 have HW:Hid (W = (w.alloc (.cells #[.slice ap np cp,.slice ao no co,.slice ad n cd] 81)).alloc (.cells #[.slice av values.length cv,.slice ab bs.length cb] 30)):=hW
 have HC:=makers_is values bs av ab cv cb (w.heap.size + 1 + 1) W hz (hv.below hbw fun _ _ h => h) (hb.below hbw (RBlk.below hbw)) hn hd
 have HB:Hid (SlOf w 3 (RBlk w) (.slice ab bs.length cb) bs):=hb
 have HU:Hid (UsesIn values.length bs):=hu
 have HID:Hid (SlOf w 1 RInt (.slice ad n cd) (fnL n idom)∧DomOk n rank idom):=⟨hid,hk⟩
 have HNB:Hid (bs.length = n):=hnb
 have HBW:Hid (Below w.heap.size w W∧W.heap.size = w.heap.size + 1 + 1):=⟨hbw,hz⟩
 clear hW hv hb hu hid hk hres hnb hd hbw hz
 go_enter Try.func40,Try.ntmps40
 go_upto_region 1 with fail
 rw [← HW.out]
 go_wp2_with fail
 refine HC.mono ?_
 rintro e M ⟨rfl,hrow,hbM⟩
 clear HC HW
 have hszM:=hbM.size
 have hzW:=HBW.out.2
 have hgs:w.heap.size < W.heap.size:=by omega
 have hgs1:w.heap.size + 1 < W.heap.size:=by omega
 have HG:Hid (∀ w',Below M.heap.size M w' → w'.cell? ⟨w.heap.size,0,none⟩ = some (.slice ap np cp)∧w'.cell? ⟨w.heap.size,1,none⟩ = some (.slice ao no co)∧w'.cell? ⟨w.heap.size,2,none⟩ = some (.slice ad n cd)∧Below w.heap.size w w'∧∀ i,i < values.length * 2 → w'.cell? ⟨w.heap.size + 1 + 1 + 1,i,none⟩ = some (spotC (spU bs bs.length) i)):=by
  intro w' hh
  have h1:Below W.heap.size W w':=hbM.trans (hh.mono hszM)
  exact ⟨(h1.cell (p:=⟨w.heap.size,0,none⟩) hgs).trans g0,(h1.cell (p:=⟨w.heap.size,1,none⟩) hgs).trans g1,(h1.cell (p:=⟨w.heap.size,2,none⟩) hgs).trans g2,HBW.out.1.trans (h1.mono (by omega)),fun i hi => (hh.cell (p:=⟨w.heap.size + 1 + 1 + 1,i,none⟩) hrow.lt).trans (hrow.cell hi)⟩
 have f1':M.cell? ⟨w.heap.size + 1,1,none⟩ = some (.slice ab bs.length cb):=(hbM.cell (p:=⟨w.heap.size + 1,1,none⟩) hgs1).trans f1
 have hMl:w.heap.size + 1 + 1 + 1 < M.heap.size:=hrow.lt
 clear hrow hbM g0 g1 g2 f0 f1 hzW hgs hgs1 hszM
 generalize spU bs bs.length = L at *
 go_wp2_with fail
 clear f1'
 go_loopw [21] (fun i wr => ∃ k:Nat,k ≤ bs.length∧i = .int .i64 k∧Below M.heap.size M wr∧Hid ((List.range k).all (blkOk L idom n bs) = true)) (fun i _ => bs.length - (intOf i).toNat)
 case atStart => exact ⟨0,Nat.zero_le _,rfl,Below.refl _ _,rfl⟩
 case round =>
  obtain ⟨k,hk,rfl,hbr,HK⟩:=hrel
  have hbl:=(HG.out _ hbr).2.2.2.1
  by_cases hlt:k < bs.length
  ·obtain ⟨b5,off5,cs,rfl,hcl5,⟨vp,vi,ve,rfl,hp,hi,he0⟩,hc⟩:=HB.out.at k hlt
   obtain ⟨ae,ce,rfl,le⟩:=he0.out
   obtain ⟨apa,cpa,rfl,lp⟩:=hp.out
   obtain ⟨ai,ci,rfl,li⟩:=hi.out
   unfold longest at le li
   have c0:=(hbl.cell (p:=⟨b5,off5 + k * 3 + 0,none⟩) (block_lt (hc 0 (by simp)))).trans (hc 0 (by simp))
   have c1:=(hbl.cell (p:=⟨b5,off5 + k * 3 + 1,none⟩) (block_lt (hc 1 (by simp)))).trans (hc 1 (by simp))
   have c2:=(hbl.cell (p:=⟨b5,off5 + k * 3 + 2,none⟩) (block_lt (hc 2 (by simp)))).trans (hc 2 (by simp))
   simp at c0 c1 c2
   have huk:=HU.out bs[k] (List.getElem_mem hlt)
   have HTk:Hid (blkOk L idom n bs k = false → false = res):=fun h => by rw [← HRES.out]; exact (allR_at _ _ _ hlt h).symm
   have HNk:Hid (blkOk L idom n bs k = true → (List.range (k + 1)).all (blkOk L idom n bs) = true):=fun h => allR_snoc _ _ HK.out h
   have hbk:blkOk L idom n bs k = ((List.range bs[k].instrs.length).all (insOk L idom n k bs[k].instrs) && bs[k].edges.all (edgOk L idom n k bs[k].instrs.length)):=by
    unfold blkOk
    rw [getD_blk _ _ hlt]
   have HBK:Hid (blkOk L idom n bs k = ((List.range bs[k].instrs.length).all (insOk L idom n k bs[k].instrs) && bs[k].edges.all (edgOk L idom n k bs[k].instrs.length))):=hbk
   generalize blkOk L idom n bs k = bk at *
   clear hc hcl5 hbk HK
   generalize bs[k].params.length = npa at *
   generalize bs[k].edges = es at *
   generalize bs[k].instrs = is at *
   have HES:Hid (SlOf w 2 (REdg w) (.slice ae es.length ce) es):=he0
   have HIS:Hid (SlOf w 3 (RIns w) (.slice ai is.length ci) is):=hi
   have HUI:Hid (∀ x ∈ is,∀ o ∈ x.operands,o.kind = 1 → 0 ≤ o.value∧o.value < (values.length:Int)):=huk.1
   have HUE:Hid (∀ e ∈ es,∀ v ∈ e.args,0 ≤ v∧v < (values.length:Int)):=huk.2
   have hkn:(k:Int) < n:=by rw [← HNB.out]; omega
   clear he0 hi hp huk
   go_upto_region 5 with fail
   obtain ⟨X,hX⟩:∃ X,X = wr.heap.size:=⟨_,rfl⟩
   obtain ⟨B,hB⟩:∃ B,B = wr.alloc (.cells #[.slice apa npa cpa,.slice ai is.length ci,.slice ae es.length ce] 40):=⟨_,rfl⟩
   have x1:B.cell? ⟨X,1,none⟩ = some (.slice ai is.length ci):=by rw [hB,hX]; simp
   have x2:B.cell? ⟨X,2,none⟩ = some (.slice ae es.length ce):=by rw [hB,hX]; simp
   have hXB:X < B.heap.size:=by rw [hB,hX]; simp
   have hMB:Below M.heap.size M B:=by rw [hB]; exact hbr.alloc hbr.size _
   rw [← hB,← hX]
   clear hB hX hbr hbl c0 c1 c2
   have HBX:Hid (∀ w',Below B.heap.size B w' → Below M.heap.size M w'∧w'.cell? ⟨X,1,none⟩ = some (.slice ai is.length ci)∧w'.cell? ⟨X,2,none⟩ = some (.slice ae es.length ce)):=fun w' hh => ⟨hMB.trans (hh.mono hMB.size),(hh.cell (p:=⟨X,1,none⟩) hXB).trans x1,(hh.cell (p:=⟨X,2,none⟩) hXB).trans x2⟩
   go_wp2_with fail
   clear x1 x2
   go_loopw [29] (fun x wr => ∃ i:Nat,i ≤ is.length∧x = .int .i64 i∧Below B.heap.size B wr∧Hid ((List.range i).all (insOk L idom n k is) = true)) (fun x _ => is.length - (intOf x).toNat)
   case atStart => exact ⟨0,Nat.zero_le _,rfl,Below.refl _ _,rfl⟩
   case round =>
    obtain ⟨i,hi,rfl,hbr,HI⟩:=hrel
    have hbM:=(HBX.out _ hbr).1
    have hbl:=(HG.out _ hbM).2.2.2.1
    by_cases hil:i < is.length
    ·obtain ⟨b7,off7,cs,rfl,hcl7,⟨vo,vs,rfl,hvo,hvs⟩,hc⟩:=HIS.out.at i hil
     obtain ⟨aop,cop,rfl,lo⟩:=hvo.out
     obtain ⟨asp,csp,rfl,_⟩:=hvs.out
     unfold longest at lo
     have c0:=(hbl.cell (p:=⟨b7,off7 + i * 3 + 0,none⟩) (block_lt (hc 0 (by simp)))).trans (hc 0 (by simp))
     have c1:=(hbl.cell (p:=⟨b7,off7 + i * 3 + 1,none⟩) (block_lt (hc 1 (by simp)))).trans (hc 1 (by simp))
     have c2:=(hbl.cell (p:=⟨b7,off7 + i * 3 + 2,none⟩) (block_lt (hc 2 (by simp)))).trans (hc 2 (by simp))
     simp at c0 c1 c2
     have hui:=HUI.out is[i] (List.getElem_mem hil)
     have HTi:Hid (insOk L idom n k is i = false → false = res):=fun h => HTk.out (by rw [HBK.out,allR_at _ _ _ hil h]; rfl)
     have HNi:Hid (insOk L idom n k is i = true → (List.range (i + 1)).all (insOk L idom n k is) = true):=fun h => allR_snoc _ _ HI.out h
     have hik:insOk L idom n k is i = is[i].operands.all (useOk L idom n k i):=by unfold insOk; rw [getD_ins _ _ hil]
     have HIK:Hid (insOk L idom n k is i = is[i].operands.all (useOk L idom n k i)):=hik
     generalize insOk L idom n k is i = ik at *
     clear hc hcl7 hik HI hvs
     generalize is[i].op = op at *
     generalize is[i].spoils.length = ns at *
     generalize is[i].operands = os at *
     have HOS:Hid (SlOf w 5 ROpr (.slice aop os.length cop) os):=hvo
     have HUO:Hid (∀ o ∈ os,o.kind = 1 → 0 ≤ o.value∧o.value < (values.length:Int)):=hui
     clear hvo hui
     go_wp2_with fail
     obtain ⟨C,hC⟩:∃ C,C = wr.alloc (.cells #[.int .i64 op,.slice aop os.length cop,.slice asp ns csp] 44):=⟨_,rfl⟩
     have hBC:Below B.heap.size B C:=by rw [hC]; exact hbr.alloc hbr.size _
     rw [← hC]
     clear hC hbr hbM hbl c0 c1 c2
     go_loopw [37] (fun x wr => ∃ j:Nat,j ≤ os.length∧x = .int .i64 j∧Below C.heap.size C wr∧Hid ((os.take j).all (useOk L idom n k i) = true)) (fun x _ => os.length - (intOf x).toNat)
     case atStart => exact ⟨0,Nat.zero_le _,rfl,Below.refl _ _,rfl⟩
     case round =>
      obtain ⟨j,hj,rfl,hbr,HJ⟩:=hrel
      have hbB:Below B.heap.size B wr:=hBC.trans (hbr.mono hBC.size)
      have hbM:=(HBX.out _ hbB).1
      have hbl:=(HG.out _ hbM).2.2.2.1
      by_cases hjl:j < os.length
      ·obtain ⟨b8,off8,rfl,hb8,o0,o1,o2,o3,o4⟩:=opr_cells HOS.out j hjl
       have e0:=(hbl.cell (p:=⟨b8,_,none⟩) hb8).trans o0
       have e1:=(hbl.cell (p:=⟨b8,_,none⟩) hb8).trans o1
       have e2:=(hbl.cell (p:=⟨b8,_,none⟩) hb8).trans o2
       have e3:=(hbl.cell (p:=⟨b8,_,none⟩) hb8).trans o3
       have e4:=(hbl.cell (p:=⟨b8,_,none⟩) hb8).trans o4
       have huo:=HUO.out os[j] (List.getElem_mem hjl)
       have HTj:Hid (useOk L idom n k i os[j] = false → false = res):=fun h => HTi.out (by rw [HIK.out,allF_at _ _ _ hjl h])
       have HNj:Hid (useOk L idom n k i os[j] = true → (os.take (j + 1)).all (useOk L idom n k i) = true):=fun h => allF_snoc _ _ _ hjl HJ.out h
       clear o0 o1 o2 o3 o4 HJ
       generalize os[j] = o at *
       go_upto_region 11 with fail
       obtain ⟨Y,hY⟩:∃ Y,Y = wr.heap.size:=⟨_,rfl⟩
       obtain ⟨D,hD⟩:∃ D,D = wr.alloc (.cells #[.int .i64 o.kind,.int .i64 o.value,.bool o.late,.int .i64 o.limit,.int .i64 o.n] 46):=⟨_,rfl⟩
       have y0:D.cell? ⟨Y,0,none⟩ = some (.int .i64 o.kind):=by rw [hD,hY]; simp
       have y1:D.cell? ⟨Y,1,none⟩ = some (.int .i64 o.value):=by rw [hD,hY]; simp
       have hYD:Y < D.heap.size:=by rw [hD,hY]; simp
       have hCD:Below C.heap.size C D:=by rw [hD]; exact hbr.alloc hbr.size _
       rw [← hD,← hY]
       clear hD hY e0 e1 e2 e3 e4 hbr hbB hbM hbl
       have hBD:Below B.heap.size B D:=hBC.trans (hCD.mono hBC.size)
       have hMD:=(HBX.out _ hBD).1
       have gD:=HG.out _ hMD
       by_cases hu1:o.kind = 1
       ·have q:(o.kind == 1) = true:=by simp [hu1]
        have v0:=(huo hu1).1
        have v1:=(huo hu1).2
        obtain ⟨r,hr⟩:∃ r,aheadM idom n ((spotOf L o.value.toNat).1,(spotOf L o.value.toNat).2) ((k:Int),(i:Int)) = r:=⟨_,rfl⟩
        have hur:useOk L idom n k i o = r:=by
         unfold useOk
         rw [q,← hr]
         rfl
        rw [hur] at HTj HNj
        have HCA:∀ w',Below D.heap.size D w' → Calls Try.prog 53 #[.agg #[.slice ap np cp,.slice ao no co,.slice ad n cd],.agg #[.int .i64 (spotOf L o.value.toNat).1,.int .i64 (spotOf L o.value.toNat).2],.agg #[.int .i64 k,.int .i64 i]] w' fun e w'' => e = .returned (.bool r)∧Below w'.heap.size w' w'':=fun w' hh => by
         have hl:=(HG.out _ (hMD.trans (hh.mono hMD.size))).2.2.2.1
         exact ahead_is n rank idom ap ao ad np no cp co cd _ _ _ _ r hr w' (HID.out.1.below hl fun _ _ h => h) HID.out.2 (by omega) hkn hn2
        have s1:=gD.2.2.2.2 (o.value.toNat * 2) (by omega)
        have s2:=gD.2.2.2.2 (o.value.toNat * 2 + 1) (by omega)
        rw [spotC_even] at s1
        rw [spotC_odd] at s2
        have g0:=gD.1
        have g1:=gD.2.1
        have g2:=gD.2.2.1
        have HCA':Hid (∀ w',Below D.heap.size D w' → Calls Try.prog 53 #[.agg #[.slice ap np cp,.slice ao no co,.slice ad n cd],.agg #[.int .i64 (spotOf L o.value.toNat).1,.int .i64 (spotOf L o.value.toNat).2],.agg #[.int .i64 k,.int .i64 i]] w' fun e w'' => e = .returned (.bool r)∧Below w'.heap.size w' w''):=HCA
        have hgD:w.heap.size < D.heap.size:=block_lt g0
        have hsD:w.heap.size + 1 + 1 + 1 < D.heap.size:=block_lt s1
        generalize (spotOf L o.value.toNat).1 = sa at *
        generalize (spotOf L o.value.toNat).2 = sb at *
        clear HCA gD hu1 hr hur huo
        have HS:Hid (∀ w',Below D.heap.size D w' → (fun w' => w'.cell? ⟨Y,0,none⟩ = some (.int .i64 o.kind)∧w'.cell? ⟨Y,1,none⟩ = some (.int .i64 o.value)∧w'.cell? ⟨w.heap.size,0,none⟩ = some (.slice ap np cp)∧w'.cell? ⟨w.heap.size,1,none⟩ = some (.slice ao no co)∧w'.cell? ⟨w.heap.size,2,none⟩ = some (.slice ad n cd)∧w'.cell? ⟨w.heap.size + 1 + 1 + 1,o.value.toNat * 2,none⟩ = some (.int .i64 sa)∧w'.cell? ⟨w.heap.size + 1 + 1 + 1,o.value.toNat * 2 + 1,none⟩ = some (.int .i64 sb)) w'):=fun w' hh => ⟨(hh.cell (p:=⟨Y,0,none⟩) hYD).trans y0,(hh.cell (p:=⟨Y,1,none⟩) hYD).trans y1,(hh.cell (p:=⟨w.heap.size,0,none⟩) hgD).trans g0,(hh.cell (p:=⟨w.heap.size,1,none⟩) hgD).trans g1,(hh.cell (p:=⟨w.heap.size,2,none⟩) hgD).trans g2,(hh.cell (p:=⟨w.heap.size + 1 + 1 + 1,o.value.toNat * 2,none⟩) hsD).trans s1,(hh.cell (p:=⟨w.heap.size + 1 + 1 + 1,o.value.toNat * 2 + 1,none⟩) hsD).trans s2⟩
        refine wp_region_X (fun w' => w'.cell? ⟨Y,0,none⟩ = some (.int .i64 o.kind)∧w'.cell? ⟨Y,1,none⟩ = some (.int .i64 o.value)∧w'.cell? ⟨w.heap.size,0,none⟩ = some (.slice ap np cp)∧w'.cell? ⟨w.heap.size,1,none⟩ = some (.slice ao no co)∧w'.cell? ⟨w.heap.size,2,none⟩ = some (.slice ad n cd)∧w'.cell? ⟨w.heap.size + 1 + 1 + 1,o.value.toNat * 2,none⟩ = some (.int .i64 sa)∧w'.cell? ⟨w.heap.size + 1 + 1 + 1,o.value.toNat * 2 + 1,none⟩ = some (.int .i64 sb)) 99 (by kernel_rfl) ⟨y0,y1,g0,g1,g2,s1,s2⟩ (fun hHeld => ?_)
        refine wpXt 0 rfl (v:=?_) (by kernel_rfl) (fun _ _ _ h => h) (by rfl) ?_ hHeld ?_
        rotate_left
        ·intro w' hSw
         go_simp <;> with_reducible rfl
        try simp only [Act.put,List.setIfInBounds_toArray,List.set_cons_zero,List.set_cons_succ]
        refine wpXt 1 rfl (v:=?_) (by kernel_rfl) (fun _ _ _ h => h) (by rfl) ?_ hHeld ?_
        rotate_left
        ·intro w' hSw
         go_simp <;> with_reducible rfl
        try simp only [Act.put,List.setIfInBounds_toArray,List.set_cons_zero,List.set_cons_succ]
        refine wpXt 2 rfl (v:=?_) (by kernel_rfl) (fun _ _ _ h => h) (by rfl) ?_ hHeld ?_
        rotate_left
        ·intro w' hSw
         go_simp <;> with_reducible rfl
        try simp only [Act.put,List.setIfInBounds_toArray,List.set_cons_zero,List.set_cons_succ]
        refine wpXt 3 rfl (v:=?_) (by kernel_rfl) (fun _ _ _ h => h) (by rfl) ?_ hHeld ?_
        rotate_left
        ·intro w' hSw
         go_simp <;> with_reducible rfl
        try simp only [Act.put,List.setIfInBounds_toArray,List.set_cons_zero,List.set_cons_succ]
        refine wpXt 4 rfl (v:=?_) (by kernel_rfl) (fun _ _ _ h => h) (by rfl) ?_ hHeld ?_
        rotate_left
        ·intro w' hSw
         go_simp <;> with_reducible rfl
        try simp only [Act.put,List.setIfInBounds_toArray,List.set_cons_zero,List.set_cons_succ]
        refine wpXt 5 rfl (v:=?_) (by kernel_rfl) (fun _ _ _ h => h) (by rfl) ?_ hHeld ?_
        rotate_left
        ·intro w' hSw
         go_simp <;> with_reducible rfl
        try simp only [Act.put,List.setIfInBounds_toArray,List.set_cons_zero,List.set_cons_succ]
        refine wpXt 6 rfl (v:=?_) (by kernel_rfl) (fun _ _ _ h => h) (by rfl) ?_ hHeld ?_
        rotate_left
        ·intro w' hSw
         go_simp <;> with_reducible rfl
        try simp only [Act.put,List.setIfInBounds_toArray,List.set_cons_zero,List.set_cons_succ]
        refine wpXt 7 rfl (v:=?_) (by kernel_rfl) (fun _ _ _ h => h) (by rfl) ?_ hHeld ?_
        rotate_left
        ·intro w' hSw
         go_simp <;> with_reducible rfl
        try simp only [Act.put,List.setIfInBounds_toArray,List.set_cons_zero,List.set_cons_succ]
        refine wpXt 8 rfl (v:=?_) (by kernel_rfl) (fun _ _ _ h => h) (by rfl) ?_ hHeld ?_
        rotate_left
        ·intro w' hSw
         go_simp <;> with_reducible rfl
        try simp only [Act.put,List.setIfInBounds_toArray,List.set_cons_zero,List.set_cons_succ]
        refine wpXt 9 rfl (v:=?_) (by kernel_rfl) (fun _ _ _ h => h) (by rfl) ?_ hHeld ?_
        rotate_left
        ·intro w' hSw
         go_simp <;> with_reducible rfl
        try simp only [Act.put,List.setIfInBounds_toArray,List.set_cons_zero,List.set_cons_succ]
        refine wpXt 10 rfl (v:=?_) (by kernel_rfl) (fun _ _ _ h => h) (by rfl) ?_ hHeld ?_
        rotate_left
        ·intro w' hSw
         go_simp <;> with_reducible rfl
        try simp only [Act.put,List.setIfInBounds_toArray,List.set_cons_zero,List.set_cons_succ]
        refine wpXt 11 rfl (v:=?_) (by kernel_rfl) (fun _ _ _ h => h) (by rfl) ?_ hHeld ?_
        rotate_left
        ·intro w' hSw
         go_simp <;> with_reducible rfl
        try simp only [Act.put,List.setIfInBounds_toArray,List.set_cons_zero,List.set_cons_succ]
        refine wpXt 12 rfl (v:=?_) (by kernel_rfl) (fun _ _ _ h => h) (by rfl) ?_ hHeld ?_
        rotate_left
        ·intro w' hSw
         go_simp <;> with_reducible rfl
        try simp only [Act.put,List.setIfInBounds_toArray,List.set_cons_zero,List.set_cons_succ]
        refine wpXs 13 rfl (by kernel_rfl) (fun K hK => ?_)
        go_simp
        refine (HCA'.out _ (Below.refl _ _).drew).mono ?_
        rintro e w4 ⟨rfl,hb4⟩
        have hb4':Below D.heap.size D w4:=(Below.refl D.heap.size D).drew.trans hb4
        refine hK.out _ _ (HS.out _ hb4') (fun hHeld => ?_)
        clear hK K
        try simp only [Act.put,List.setIfInBounds_toArray,List.set_cons_zero,List.set_cons_succ]
        refine wpXt 14 rfl (v:=?_) (by kernel_rfl) (fun _ _ _ h => h) (by rfl) ?_ hHeld ?_
        rotate_left
        ·intro w' hSw
         go_simp <;> with_reducible rfl
        try simp only [Act.put,List.setIfInBounds_toArray,List.set_cons_zero,List.set_cons_succ]
        refine wpXs 15 rfl (by kernel_rfl) (fun K hK => ?_)
        go_simp
        refine hK.out _ _ (HS.out _ hb4') (fun hHeld => ?_)
        clear hK K
        try simp only [Act.put,List.setIfInBounds_toArray,List.set_cons_zero,List.set_cons_succ]
        refine wpAnyX_done (by kernel_rfl) ?_ _
        clear HS HCA' y0 y1 g0 g1 g2 s1 s2
        have hC4:Below C.heap.size C w4:=hCD.trans (hb4'.mono hCD.size)
        have hw4:Below w.heap.size w w4:=(HG.out _ (HBX.out _ (hBC.trans (hC4.mono hBC.size))).1).2.2.2.1
        cases r
        ·have H:Hid (false = res):=HTj.out rfl
         clear HTj HNj
         go_wp2
         go_ret
         exact ⟨ret_bool H.out,hw4⟩
        ·have H:Hid ((os.take (j + 1)).all (useOk L idom n k i) = true):=HNj.out rfl
         clear HTj HNj
         go_wp2
         go_roundw
         case rel => exact ⟨j + 1,by omega,by go_num,hC4,H⟩
         case measure => simp [intOf]; omega
       ·have q:(o.kind == 1) = false:=by simp [hu1]
        have H:Hid ((os.take (j + 1)).all (useOk L idom n k i) = true):=HNj.out (by unfold useOk; rw [q]; rfl)
        have HCD:Hid (Below C.heap.size C D):=hCD
        clear HTj HNj gD hu1 huo hMD hBD
        refine wp_region_X (fun w' => w'.cell? ⟨Y,0,none⟩ = some (.int .i64 o.kind)) 99 (by kernel_rfl) y0 (fun hHeld => ?_)
        refine wpXt 0 rfl (v:=?_) (by kernel_rfl) (fun _ _ _ h => h) (by rfl) ?_ hHeld ?_
        rotate_left
        ·intro w' hSw
         go_simp <;> with_reducible rfl
        try simp only [Act.put,List.setIfInBounds_toArray,List.set_cons_zero,List.set_cons_succ]
        refine wpXt 1 rfl (v:=?_) (by kernel_rfl) (fun _ _ _ h => h) (by rfl) ?_ hHeld ?_
        rotate_left
        ·intro w' hSw
         go_simp <;> with_reducible rfl
        try simp only [Act.put,List.setIfInBounds_toArray,List.set_cons_zero,List.set_cons_succ]
        refine wpXt 2 rfl (v:=?_) (by kernel_rfl) (fun _ _ _ h => h) (by rfl) ?_ hHeld ?_
        rotate_left
        ·intro w' hSw
         go_simp <;> with_reducible rfl
        try simp only [Act.put,List.setIfInBounds_toArray,List.set_cons_zero,List.set_cons_succ]
        refine wpXt 3 rfl (v:=?_) (by kernel_rfl) (fun _ _ _ h => h) (by rfl) ?_ hHeld ?_
        rotate_left
        ·intro w' hSw
         go_simp <;> with_reducible rfl
        try simp only [Act.put,List.setIfInBounds_toArray,List.set_cons_zero,List.set_cons_succ]
        refine wpXk 4 rfl (by kernel_rfl) (fun _ _ _ h => h) (by rfl) hHeld ?_
        try simp only [Act.put,List.setIfInBounds_toArray,List.set_cons_zero,List.set_cons_succ]
        refine wpXk 5 rfl (by kernel_rfl) (fun _ _ _ h => h) (by rfl) hHeld ?_
        try simp only [Act.put,List.setIfInBounds_toArray,List.set_cons_zero,List.set_cons_succ]
        refine wpXk 6 rfl (by kernel_rfl) (fun _ _ _ h => h) (by rfl) hHeld ?_
        try simp only [Act.put,List.setIfInBounds_toArray,List.set_cons_zero,List.set_cons_succ]
        refine wpXk 7 rfl (by kernel_rfl) (fun _ _ _ h => h) (by rfl) hHeld ?_
        try simp only [Act.put,List.setIfInBounds_toArray,List.set_cons_zero,List.set_cons_succ]
        refine wpXk 8 rfl (by kernel_rfl) (fun _ _ _ h => h) (by rfl) hHeld ?_
        try simp only [Act.put,List.setIfInBounds_toArray,List.set_cons_zero,List.set_cons_succ]
        refine wpXk 9 rfl (by kernel_rfl) (fun _ _ _ h => h) (by rfl) hHeld ?_
        try simp only [Act.put,List.setIfInBounds_toArray,List.set_cons_zero,List.set_cons_succ]
        refine wpXk 10 rfl (by kernel_rfl) (fun _ _ _ h => h) (by rfl) hHeld ?_
        try simp only [Act.put,List.setIfInBounds_toArray,List.set_cons_zero,List.set_cons_succ]
        refine wpXk 11 rfl (by kernel_rfl) (fun _ _ _ h => h) (by rfl) hHeld ?_
        try simp only [Act.put,List.setIfInBounds_toArray,List.set_cons_zero,List.set_cons_succ]
        refine wpXk 12 rfl (by kernel_rfl) (fun _ _ _ h => h) (by rfl) hHeld ?_
        try simp only [Act.put,List.setIfInBounds_toArray,List.set_cons_zero,List.set_cons_succ]
        refine wpXk 13 rfl (by kernel_rfl) (fun _ _ _ h => h) (by rfl) hHeld ?_
        try simp only [Act.put,List.setIfInBounds_toArray,List.set_cons_zero,List.set_cons_succ]
        refine wpXk 14 rfl (by kernel_rfl) (fun _ _ _ h => h) (by rfl) hHeld ?_
        try simp only [Act.put,List.setIfInBounds_toArray,List.set_cons_zero,List.set_cons_succ]
        refine wpXs 15 rfl (by kernel_rfl) (fun K hK => ?_)
        go_simp
        refine hK.out _ _ y0 (fun hHeld => ?_)
        clear hK K
        try simp only [Act.put,List.setIfInBounds_toArray,List.set_cons_zero,List.set_cons_succ]
        refine wpAnyX_done (by kernel_rfl) ?_ _
        clear y0 y1
        go_wp2
        go_roundw
        case rel => exact ⟨j + 1,by omega,by go_num,HCD.out.drew,H⟩
        case measure => simp [intOf]; omega
      ·have H:Hid ((List.range (i + 1)).all (insOk L idom n k is) = true):=HNi.out (by rw [HIK.out]; exact allF_end _ _ j (by omega) HJ.out)
       clear HJ HTi HNi
       go_wp2
       go_roundw
       case rel => exact ⟨i + 1,by omega,by go_num,hbB,H⟩
       case measure => simp [intOf]; omega
    ·have hie:i = is.length:=by omega
     have HII:Hid ((List.range is.length).all (insOk L idom n k is) = true):=by
      have h:=HI.out
      rw [hie] at h
      exact h
     have x2:=(HBX.out _ hbr).2.2
     have x1:=(HBX.out _ hbr).2.1
     clear HI hie
     go_wp2_with fail
     clear x2 x1
     have HED:Hid (es.all (edgOk L idom n k is.length) = false → false = res):=fun h => HTk.out (by rw [HBK.out,h]; simp)
     have HEN:Hid (es.all (edgOk L idom n k is.length) = true → (List.range (k + 1)).all (blkOk L idom n bs) = true):=fun h => HNk.out (by rw [HBK.out,h,HII.out]; rfl)
     have HB2:Hid (Below B.heap.size B wr):=hbr
     clear hbM hbl hbr HII
     generalize hwB:wr = B2 at *
     clear hwB
     go_loopw [62] (fun x wr => ∃ i:Nat,i ≤ es.length∧x = .int .i64 i∧Below B.heap.size B wr∧Hid ((es.take i).all (edgOk L idom n k is.length) = true)) (fun x _ => es.length - (intOf x).toNat)
     case atStart => exact ⟨0,Nat.zero_le _,rfl,HB2.out,rfl⟩
     case round =>
      obtain ⟨i,hi,rfl,hbr,HI⟩:=hrel
      have hbM:=(HBX.out _ hbr).1
      have hbl:=(HG.out _ hbM).2.2.2.1
      by_cases hil:i < es.length
      ·obtain ⟨b7,off7,cs,rfl,hcl7,⟨va,rfl,hva⟩,hc⟩:=HES.out.at i hil
       obtain ⟨aa,ca,rfl,la⟩:=hva.out
       unfold longest at la
       have c0:=(hbl.cell (p:=⟨b7,off7 + i * 2 + 0,none⟩) (block_lt (hc 0 (by simp)))).trans (hc 0 (by simp))
       have c1:=(hbl.cell (p:=⟨b7,off7 + i * 2 + 1,none⟩) (block_lt (hc 1 (by simp)))).trans (hc 1 (by simp))
       simp at c0 c1
       have hui:=HUE.out es[i] (List.getElem_mem hil)
       have HTi:Hid (edgOk L idom n k is.length es[i] = false → false = res):=fun h => HED.out (allF_at _ _ _ hil h)
       have HNi:Hid (edgOk L idom n k is.length es[i] = true → (es.take (i + 1)).all (edgOk L idom n k is.length) = true):=fun h => allF_snoc _ _ _ hil HI.out h
       have HIK:Hid (edgOk L idom n k is.length es[i] = es[i].args.all (argOk L idom n k is.length)):=rfl
       generalize edgOk L idom n k is.length es[i] = ik at *
       clear hc hcl7 HI
       generalize es[i].block = eb at *
       generalize es[i].args = vs at *
       have HAS:Hid (SlOf w 1 RInt (.slice aa vs.length ca) vs):=hva
       have HUO:Hid (∀ v ∈ vs,0 ≤ v∧v < (values.length:Int)):=hui
       clear hva hui
       go_wp2_with fail
       obtain ⟨C,hC⟩:∃ C,C = wr.alloc (.cells #[.int .i64 eb,.slice aa vs.length ca] 92):=⟨_,rfl⟩
       have hBC:Below B.heap.size B C:=by rw [hC]; exact hbr.alloc hbr.size _
       rw [← hC]
       clear hC hbr hbM hbl c0 c1
       go_loopw [69] (fun x wr => ∃ j:Nat,j ≤ vs.length∧x = .int .i64 j∧Below C.heap.size C wr∧Hid ((vs.take j).all (argOk L idom n k is.length) = true)) (fun x _ => vs.length - (intOf x).toNat)
       case atStart => exact ⟨0,Nat.zero_le _,rfl,Below.refl _ _,rfl⟩
       case round =>
        obtain ⟨j,hj,rfl,hbr,HJ⟩:=hrel
        have hBD:Below B.heap.size B wr:=hBC.trans (hbr.mono hBC.size)
        have hMD:=(HBX.out _ hBD).1
        have gD:=HG.out _ hMD
        by_cases hjl:j < vs.length
        ·obtain ⟨b8,off8,rfl,hb8,o0⟩:=ints_at HAS.out j (by omega) (by omega)
         have e:vs.getD (j:Int).toNat 0 = vs[j]:=by simp [List.getD,hjl]
         rw [e,Int.toNat_natCast] at o0
         have e0:=(gD.2.2.2.1.cell (p:=⟨b8,off8 + j,none⟩) hb8).trans o0
         have huo:=HUO.out vs[j] (List.getElem_mem hjl)
         have HTj:Hid (argOk L idom n k is.length vs[j] = false → false = res):=fun h => HTi.out (by rw [HIK.out,allF_at _ _ _ hjl h])
         have HNj:Hid (argOk L idom n k is.length vs[j] = true → (vs.take (j + 1)).all (argOk L idom n k is.length) = true):=fun h => allF_snoc _ _ _ hjl HJ.out h
         clear o0 e HJ
         generalize vs[j] = v at *
         have v0:=huo.1
         have v1:=huo.2
         go_upto_region 21 with fail
         obtain ⟨D,hD⟩:∃ D,D = wr:=⟨_,rfl⟩
         rw [← hD] at hbr hBD hMD gD e0 ⊢
         clear hD
         obtain ⟨r,hr⟩:∃ r,aheadM idom n ((spotOf L v.toNat).1,(spotOf L v.toNat).2) ((k:Int),(is.length:Int)) = r:=⟨_,rfl⟩
         have hur:argOk L idom n k is.length v = r:=hr
         rw [hur] at HTj HNj
         have HCA:∀ w',Below D.heap.size D w' → Calls Try.prog 53 #[.agg #[.slice ap np cp,.slice ao no co,.slice ad n cd],.agg #[.int .i64 (spotOf L v.toNat).1,.int .i64 (spotOf L v.toNat).2],.agg #[.int .i64 k,.int .i64 is.length]] w' fun e w'' => e = .returned (.bool r)∧Below w'.heap.size w' w'':=fun w' hh => by
          have hl:=(HG.out _ (hMD.trans (hh.mono hMD.size))).2.2.2.1
          exact ahead_is n rank idom ap ao ad np no cp co cd _ _ _ _ r hr w' (HID.out.1.below hl fun _ _ h => h) HID.out.2 (by omega) hkn hn2
         have s1:=gD.2.2.2.2 (v.toNat * 2) (by omega)
         have s2:=gD.2.2.2.2 (v.toNat * 2 + 1) (by omega)
         rw [spotC_even] at s1
         rw [spotC_odd] at s2
         have g0:=gD.1
         have g1:=gD.2.1
         have g2:=gD.2.2.1
         have x1:=(HBX.out _ hBD).2.1
         have HCA':Hid (∀ w',Below D.heap.size D w' → Calls Try.prog 53 #[.agg #[.slice ap np cp,.slice ao no co,.slice ad n cd],.agg #[.int .i64 (spotOf L v.toNat).1,.int .i64 (spotOf L v.toNat).2],.agg #[.int .i64 k,.int .i64 is.length]] w' fun e w'' => e = .returned (.bool r)∧Below w'.heap.size w' w''):=HCA
         have hgD:w.heap.size < D.heap.size:=block_lt g0
         have hsD:w.heap.size + 1 + 1 + 1 < D.heap.size:=block_lt s1
         have hXD:X < D.heap.size:=block_lt x1
         generalize (spotOf L v.toNat).1 = sa at *
         generalize (spotOf L v.toNat).2 = sb at *
         clear HCA gD hr hur huo e0
         have HS:Hid (∀ w',Below D.heap.size D w' → (fun w' => w'.cell? ⟨X,1,none⟩ = some (.slice ai is.length ci)∧w'.cell? ⟨w.heap.size,0,none⟩ = some (.slice ap np cp)∧w'.cell? ⟨w.heap.size,1,none⟩ = some (.slice ao no co)∧w'.cell? ⟨w.heap.size,2,none⟩ = some (.slice ad n cd)∧w'.cell? ⟨w.heap.size + 1 + 1 + 1,v.toNat * 2,none⟩ = some (.int .i64 sa)∧w'.cell? ⟨w.heap.size + 1 + 1 + 1,v.toNat * 2 + 1,none⟩ = some (.int .i64 sb)) w'):=fun w' hh => ⟨(hh.cell (p:=⟨X,1,none⟩) hXD).trans x1,(hh.cell (p:=⟨w.heap.size,0,none⟩) hgD).trans g0,(hh.cell (p:=⟨w.heap.size,1,none⟩) hgD).trans g1,(hh.cell (p:=⟨w.heap.size,2,none⟩) hgD).trans g2,(hh.cell (p:=⟨w.heap.size + 1 + 1 + 1,v.toNat * 2,none⟩) hsD).trans s1,(hh.cell (p:=⟨w.heap.size + 1 + 1 + 1,v.toNat * 2 + 1,none⟩) hsD).trans s2⟩
         refine wp_region_X (fun w' => w'.cell? ⟨X,1,none⟩ = some (.slice ai is.length ci)∧w'.cell? ⟨w.heap.size,0,none⟩ = some (.slice ap np cp)∧w'.cell? ⟨w.heap.size,1,none⟩ = some (.slice ao no co)∧w'.cell? ⟨w.heap.size,2,none⟩ = some (.slice ad n cd)∧w'.cell? ⟨w.heap.size + 1 + 1 + 1,v.toNat * 2,none⟩ = some (.int .i64 sa)∧w'.cell? ⟨w.heap.size + 1 + 1 + 1,v.toNat * 2 + 1,none⟩ = some (.int .i64 sb)) 99 (by kernel_rfl) ⟨x1,g0,g1,g2,s1,s2⟩ (fun hHeld => ?_)
         refine wpXt 0 rfl (v:=?_) (by kernel_rfl) (fun _ _ _ h => h) (by rfl) ?_ hHeld ?_
         rotate_left
         ·intro w' hSw
          go_simp <;> with_reducible rfl
         try simp only [Act.put,List.setIfInBounds_toArray,List.set_cons_zero,List.set_cons_succ]
         refine wpXt 1 rfl (v:=?_) (by kernel_rfl) (fun _ _ _ h => h) (by rfl) ?_ hHeld ?_
         rotate_left
         ·intro w' hSw
          go_simp <;> with_reducible rfl
         try simp only [Act.put,List.setIfInBounds_toArray,List.set_cons_zero,List.set_cons_succ]
         refine wpXt 2 rfl (v:=?_) (by kernel_rfl) (fun _ _ _ h => h) (by rfl) ?_ hHeld ?_
         rotate_left
         ·intro w' hSw
          go_simp <;> with_reducible rfl
         try simp only [Act.put,List.setIfInBounds_toArray,List.set_cons_zero,List.set_cons_succ]
         refine wpXt 3 rfl (v:=?_) (by kernel_rfl) (fun _ _ _ h => h) (by rfl) ?_ hHeld ?_
         rotate_left
         ·intro w' hSw
          go_simp <;> with_reducible rfl
         try simp only [Act.put,List.setIfInBounds_toArray,List.set_cons_zero,List.set_cons_succ]
         refine wpXt 4 rfl (v:=?_) (by kernel_rfl) (fun _ _ _ h => h) (by rfl) ?_ hHeld ?_
         rotate_left
         ·intro w' hSw
          go_simp <;> with_reducible rfl
         try simp only [Act.put,List.setIfInBounds_toArray,List.set_cons_zero,List.set_cons_succ]
         refine wpXt 5 rfl (v:=?_) (by kernel_rfl) (fun _ _ _ h => h) (by rfl) ?_ hHeld ?_
         rotate_left
         ·intro w' hSw
          go_simp <;> with_reducible rfl
         try simp only [Act.put,List.setIfInBounds_toArray,List.set_cons_zero,List.set_cons_succ]
         refine wpXt 6 rfl (v:=?_) (by kernel_rfl) (fun _ _ _ h => h) (by rfl) ?_ hHeld ?_
         rotate_left
         ·intro w' hSw
          go_simp <;> with_reducible rfl
         try simp only [Act.put,List.setIfInBounds_toArray,List.set_cons_zero,List.set_cons_succ]
         refine wpXt 7 rfl (v:=?_) (by kernel_rfl) (fun _ _ _ h => h) (by rfl) ?_ hHeld ?_
         rotate_left
         ·intro w' hSw
          go_simp <;> with_reducible rfl
         try simp only [Act.put,List.setIfInBounds_toArray,List.set_cons_zero,List.set_cons_succ]
         refine wpXt 8 rfl (v:=?_) (by kernel_rfl) (fun _ _ _ h => h) (by rfl) ?_ hHeld ?_
         rotate_left
         ·intro w' hSw
          go_simp <;> with_reducible rfl
         try simp only [Act.put,List.setIfInBounds_toArray,List.set_cons_zero,List.set_cons_succ]
         refine wpXt 9 rfl (v:=?_) (by kernel_rfl) (fun _ _ _ h => h) (by rfl) ?_ hHeld ?_
         rotate_left
         ·intro w' hSw
          go_simp <;> with_reducible rfl
         try simp only [Act.put,List.setIfInBounds_toArray,List.set_cons_zero,List.set_cons_succ]
         refine wpXs 10 rfl (by kernel_rfl) (fun K hK => ?_)
         go_simp
         refine (HCA'.out _ (Below.refl _ _).drew).mono ?_
         rintro e w4 ⟨rfl,hb4⟩
         have hb4':Below D.heap.size D w4:=(Below.refl D.heap.size D).drew.trans hb4
         refine hK.out _ _ (HS.out _ hb4') (fun hHeld => ?_)
         clear hK K
         try simp only [Act.put,List.setIfInBounds_toArray,List.set_cons_zero,List.set_cons_succ]
         refine wpXs 11 rfl (by kernel_rfl) (fun K hK => ?_)
         go_simp
         refine hK.out _ _ (HS.out _ hb4') (fun hHeld => ?_)
         clear hK K
         try simp only [Act.put,List.setIfInBounds_toArray,List.set_cons_zero,List.set_cons_succ]
         refine wpAnyX_done (by kernel_rfl) ?_ _
         clear HS HCA' g0 g1 g2 s1 s2 x1
         have hC4:Below C.heap.size C w4:=hbr.trans (hb4'.mono hbr.size)
         have hw4:Below w.heap.size w w4:=(HG.out _ (HBX.out _ (hBC.trans (hC4.mono hBC.size))).1).2.2.2.1
         cases r
         ·have H:Hid (false = res):=HTj.out rfl
          clear HTj HNj
          go_wp2
          go_ret
          exact ⟨ret_bool H.out,hw4⟩
         ·have H:Hid ((vs.take (j + 1)).all (argOk L idom n k is.length) = true):=HNj.out rfl
          clear HTj HNj
          go_wp2
          go_roundw
          case rel => exact ⟨j + 1,by omega,by go_num,hC4,H⟩
          case measure => simp [intOf]; omega
        ·have H:Hid ((es.take (i + 1)).all (edgOk L idom n k is.length) = true):=HNi.out (by rw [HIK.out]; exact allF_end _ _ j (by omega) HJ.out)
         clear HJ HTi HNi gD hMD
         go_wp2
         go_roundw
         case rel => exact ⟨i + 1,by omega,by go_num,hBD,H⟩
         case measure => simp [intOf]; omega
      ·have H:Hid ((List.range (k + 1)).all (blkOk L idom n bs) = true):=HEN.out (allF_end _ _ i (by omega) HI.out)
       have HM2:Hid (Below M.heap.size M wr):=hbM
       clear HI HTk HNk HED HEN
       go_wp2
       go_roundw
       case rel => exact ⟨k + 1,by omega,by go_num,HM2.out,H⟩
       case measure => simp [intOf]; omega
  ·have H:Hid (true = res):=by
    show _ = _
    rw [← HRES.out]
    have e:k = bs.length:=by omega
    have h:=HK.out
    rw [e] at h
    exact h.symm
   clear HK
   go_wp2
   go_ret
   exact ⟨ret_bool H.out,hbl⟩
end Go.Proofs.Ytglfpnnfcpnmoaa
