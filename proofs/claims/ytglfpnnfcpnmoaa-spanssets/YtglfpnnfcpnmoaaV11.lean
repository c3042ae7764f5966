/-
  The contract of 'Starts': the first point of each block, and one behind all.
-/
import Derived.Test.YtglfpnnfcpnmoaaV1
import Derived.Test.YtglfpnnfcpnmoaaF2
namespace Go.Proofs.Ytglfpnnfcpnmoaa
open Go.RowKit
set_option linter.unusedVariables false
theorem make_capS (n:Nat) (hn:(n + 1) * 8 ≤ 140737488355328) (w:World):(Instr.makeSlice 27 (.int .i64 0) (.int .i64 ((n:Int) + 1))).run Try.prog w = .ok (.slice (some ⟨w.heap.size,0,none⟩) 0 (n + 1)) (w.alloc (.cells (madeCells #[.int .i64 0] (n + 1)) 3)):=by
 obtain ⟨i3,hi3,hz3,hz31,hz32⟩:=info_parts infoFI
 have h:=run_make (P:=Try.prog) w 27 3 i3 (.int .i64 0) Try.underlying27 hi3 hz3 .i64 .i64 0 ((n:Int) + 1) (by omega) (by omega) (by rw [hz32]; omega) (by omega)
 rw [hz31] at h
 have e:(Value.int .i64 0).cells = #[.int .i64 0]:=rfl
 have e2:((n:Int) + 1).toNat = n + 1:=by omega
 rw [e,e2] at h
 simp only [Nat.mul_one] at h
 exact h
structure StS (w0:World) (N k:Nat) (vv vb vs:Value) (bs:List Blk) (w:World):Prop where
 bx:w.rowIs N 30 2 (fun q => if q = 0 then vv else vb)
 own:w.ownsRow (N + 1) 3 1 vs k ((startsW bs k).flatMap cI)
 low:Below N w0 w
theorem StS.below {w0:World} {N k:Nat} {vv vb vs:Value} {bs:List Blk} {w w':World} (h:StS w0 N k vv vb vs bs w) (hb:Below w.heap.size w w'):StS w0 N k vv vb vs bs w' :=
 ⟨h.bx.of_block (hb.block _ h.bx.lt),own_keep h.own fun g _ _ hg => hb.block g hg,h.low.trans (hb.mono (by have:=h.bx.lt; omega))⟩
theorem StS.push {w0:World} {N k g cap:Nat} {vv vb vs:Value} {bs:List Blk} {w wa w1:World} (h:StS w0 N k vv vb vs bs w) (hwa:Below w.heap.size w wa) (hgrow:wa.grownBy w1 vs.ownBlock) (hown:w1.ownsRow (N + 1) 3 1 (.slice (some ⟨g,0,none⟩) (k + 1) cap) (k + 1) ((startsW bs k).flatMap cI ++ [.int .i64 (ptW (startM bs k))])):StS w0 N (k + 1) vv vb (.slice (some ⟨g,0,none⟩) (k + 1) cap) bs w1:=by
 have hN:=h.bx.lt
 have hz:=hwa.size
 have ne:some N ≠ vs.ownBlock:=fun e => by have:=own_base h.own e.symm; omega
 refine ⟨h.bx.of_block ((hgrow.block N (by omega) ne).trans (hwa.block N hN)),?_,?_⟩
 ·rw [startsW_succ,List.flatMap_append]
  exact hown
 ·exact (h.low.trans (hwa.mono (by omega))).grown hgrow (by omega) fun q hq => by have:=own_base h.own hq; omega
set_option maxHeartbeats 4000000 in
theorem starts_any (bs:List Blk) (n nv:Nat) (av ab:Option Addr) (cv cb:Nat) (w:World) (hbl:bs.length = n) (hs:SlOf w 3 (RBlk w) (.slice ab n cb) bs) (hn:(n + 1) * 8 ≤ 140737488355328) :
  Calls Try.prog 8 #[.agg #[.slice av nv cv,.slice ab n cb]] w fun e w' => ∃ g cap,e = .returned (.slice (some ⟨g,0,none⟩) (n + 1) cap)∧w.heap.size ≤ g∧SlOf w' 1 RInt (.slice (some ⟨g,0,none⟩) (n + 1) cap) (startsW bs (n + 1))∧Below w.heap.size w w':=by
 obtain ⟨i3,hi3,hz3,hz31,hz32⟩:=info_parts infoFI
 have hmk:=make_capS n hn
 have wn:IntKind.i64.wrap ((n:Int) + 1) = (n:Int) + 1:=by rw [IntKind.wrap_i64]; omega
 obtain ⟨N,hN⟩:∃ N,w.heap.size = N:=⟨_,rfl⟩
 obtain ⟨W,hW⟩:∃ W,W = (w.alloc (.cells #[.slice av nv cv,.slice ab n cb] 30)).alloc (.cells (madeCells #[.int .i64 0] (n + 1)) 3):=⟨_,rfl⟩
 have hst:StS w N 0 (.slice av nv cv) (.slice ab n cb) (.slice (some ⟨N + 1,0,none⟩) 0 (n + 1)) bs W:=by
  have q0:=World.rowIs_alloc w #[.slice av nv cv,.slice ab n cb] 30 (fun q => if q = 0 then .slice av nv cv else .slice ab n cb) fun i hi => by
   simp at hi
   match i,hi with | 0,_ => rfl | 1,_ => rfl
  have q1:=World.rowIs_made (w.alloc (.cells #[.slice av nv cv,.slice ab n cb] 30)) (.int .i64 0) (n + 1) 3
  have e:(w.alloc (.cells #[.slice av nv cv,.slice ab n cb] 30)).heap.size = N + 1:=by simp [hN]
  rw [e] at q1
  rw [hN] at q0
  rw [hW]
  obtain ⟨c,hc,hcs,hcx⟩:=q1
  exact ⟨q0.alloc _,⟨rfl,Or.inr ⟨N + 1,n + 1,c,rfl,Nat.le_refl _,hc,Nat.zero_le _,by unfold maxLen; omega,by omega,rfl⟩⟩,((Below.refl _ _).alloc (by omega) _).alloc (by rw [e]; omega) _⟩
 have HW:Hid (W = (w.alloc (.cells #[.slice av nv cv,.slice ab n cb] 30)).alloc (.cells (madeCells #[.int .i64 0] (n + 1)) 3)):=hW
 have HN:Hid (w.heap.size = N):=hN
 have HS0:Hid (StS w N 0 (.slice av nv cv) (.slice ab n cb) (.slice (some ⟨N + 1,0,none⟩) 0 (n + 1)) bs W):=hst
 have HBS:Hid (SlOf w 3 (RBlk w) (.slice ab n cb) bs):=hs
 have HL:Hid (bs.length = n):=hbl
 have f1:W.cell? ⟨N,1,none⟩ = some (.slice ab n cb):=hst.bx.cell (i:=1) (by omega)
 clear hW hN hst hs hbl
 go_enter Try.func8,Try.ntmps8
 go_upto_region 2 with fail
 rw [← HW.out,HN.out]
 clear HW hmk wn
 go_wp2_with fail
 clear f1
 go_loopw [15,3,4] (fun i s p wr => ∃ (k:Nat) (as':Option Addr) (cs':Nat),k ≤ n∧i = .int .i64 k∧s = .slice as' k cs'∧p = .int .i64 (ptW (startM bs k))∧Hid (StS w N k (.slice av nv cv) (.slice ab n cb) (.slice as' k cs') bs wr)) (fun i _ _ _ => n - (intOf i).toNat)
 case atStart => exact ⟨0,_,_,Nat.zero_le _,rfl,rfl,by simp [ptW,startM,wrap64],HS0⟩
 case round =>
  clear HS0
  obtain ⟨k,as',cs',hk,rfl,rfl,rfl,HI⟩:=hrel
  by_cases hlt:k < n
  ·have hkb:k < bs.length:=by rw [HL.out]; exact hlt
   obtain ⟨b5,off5,cs,rfl,hcl5,⟨vp,vi,ve,rfl,hp,hi,he0⟩,hc⟩:=HBS.out.at k hkb
   obtain ⟨ae,ce,rfl,_⟩:=he0.out
   obtain ⟨ap,cp,rfl,_⟩:=hp.out
   obtain ⟨ai,ci,rfl,li⟩:=hi.out
   unfold longest at li
   have hb0:Below w.heap.size w wr:=by rw [HN.out]; exact HI.out.low
   have c0:=(hb0.cell (p:=⟨b5,off5 + k * 3 + 0,none⟩) (block_lt (hc 0 (by simp)))).trans (hc 0 (by simp))
   have c1:=(hb0.cell (p:=⟨b5,off5 + k * 3 + 1,none⟩) (block_lt (hc 1 (by simp)))).trans (hc 1 (by simp))
   have c2:=(hb0.cell (p:=⟨b5,off5 + k * 3 + 2,none⟩) (block_lt (hc 2 (by simp)))).trans (hc 2 (by simp))
   simp at c0 c1 c2
   have HSS:=startM_succ bs k hkb
   have HPT:Hid (wrap64 (ptW (ptW (startM bs k) + 1 + 2 * (bs[k].instrs.length:Int)) + 1) = ptW (startM bs (k + 1))):=by
    show _ = _
    rw [HSS]
    unfold ptW wrap64
    omega
   clear hc hcl5 hp hi he0 hb0 HSS
   generalize bs[k].params.length = np at *
   generalize bs[k].instrs.length = ni at *
   generalize bs[k].edges.length = ne at *
   go_upto_region 6 with fail
   obtain ⟨W5,hW5⟩:∃ W5,W5 = wr.alloc (.cells #[.slice ap np cp,.slice ai ni ci,.slice ae ne ce] 40):=⟨_,rfl⟩
   obtain ⟨V,hV⟩:∃ V,wr.heap.size = V:=⟨_,rfl⟩
   have rV:W5.rowIs V 40 3 (fun q => if q = 0 then .slice ap np cp else if q = 1 then .slice ai ni ci else .slice ae ne ce):=by
    rw [hW5,← hV]
    exact World.rowIs_alloc _ _ _ _ fun i hi => by
     simp at hi
     match i,hi with | 0,_ => rfl | 1,_ => rfl | 2,_ => rfl
   have hb5:Below wr.heap.size wr W5:=by rw [hW5]; exact (Below.refl _ _).alloc (Nat.le_refl _) _
   have HI5:Hid (StS w N k (.slice av nv cv) (.slice (some ⟨b5,off5,none⟩) n cb) (.slice as' k cs') bs W5):=HI.out.below hb5
   have nV:some V ≠ (Value.slice as' k cs').ownBlock:=fun e => by have:=own_base HI.out.own e.symm; omega
   rw [← hW5,hV]
   clear hW5 hV hb5 HI c0 c1 c2
   have lV:=rV.lt
   have lN:=HI5.out.bx.lt
   have own:=HI5.out.own
   have oA:=own.alloc (.cells #[.int .i64 (ptW (startM bs k))] 3)
   have hsz:N + 1 ≤ W5.heap.size:=by omega
   go_wp2_with (at_builtin; go_must (refine wpList_append_lies _ rfl _ _ 27 rfl (N + 1) 3 i3 (.int .i64 0) 1 8 Try.underlying27 hi3 hz3 hz31 hz32 rfl (by omega) (.slice as' k cs') k _ (by rfl) oA ⟨W5.heap.size,0,none⟩ 1 1 [.int .i64 (ptW (startM bs k))] (by rfl) (by rfl) ?c1 ?c2 (by omega) ?c3 ?c4 ?c5 (W5.heap.size + 1) ?c6 ?_))
   rotate_left
   any_goals (first | (exact newsF rfl) | rfl | (show Value.oneCell' _ = true; simp [Value.oneCell']) | (intro u hu; simp at hu; subst hu; rfl) | (unfold maxLen; omega) | omega | (simp; omega) | (simp; rfl) | (simp; done))
   intro g cap wb hown hgrow hat hgl
   have lV':V < (W5.alloc (.cells #[.int .i64 (ptW (startM bs k))] 3)).heap.size:=by simp; omega
   have rV2:=(rV.alloc (.cells #[.int .i64 (ptW (startM bs k))] 3)).of_block (hgrow.block V lV' nV)
   have d0:wb.cell? ⟨V,0,none⟩ = some (.slice ap np cp):=rV2.cell (i:=0) (by omega)
   have d1:wb.cell? ⟨V,1,none⟩ = some (.slice ai ni ci):=rV2.cell (i:=1) (by omega)
   have d2:wb.cell? ⟨V,2,none⟩ = some (.slice ae ne ce):=rV2.cell (i:=2) (by omega)
   have HP:Hid (StS w N (k + 1) (.slice av nv cv) (.slice (some ⟨b5,off5,none⟩) n cb) (.slice (some ⟨g,0,none⟩) (k + 1) cap) bs wb):=HI5.out.push ((Below.refl _ _).alloc (Nat.le_refl _) _) hgrow hown
   clear hown hgrow hat hgl oA own lV' rV2 rV lV nV HI5
   go_wp2_with fail
   refine (endOf_any _ _ _ _ _ _ _ (by omega)).mono ?_
   clear d0 d1 d2
   rintro e w6 ⟨rfl,hb6⟩
   have HN6:Hid (StS w N (k + 1) (.slice av nv cv) (.slice (some ⟨b5,off5,none⟩) n cb) (.slice (some ⟨g,0,none⟩) (k + 1) cap) bs w6):=HP.out.below hb6
   clear hb6 HP
   go_wp2
   go_roundw
   case rel => exact ⟨k + 1,_,_,by omega,by go_num,rfl,by rw [HPT.out],HN6⟩
   case measure => simp [intOf]; omega
  ·have hkn:k = n:=by omega
   subst hkn
   have lN:=HI.out.bx.lt
   have own:=HI.out.own
   have oA:=own.alloc (.cells #[.int .i64 (ptW (startM bs k))] 3)
   have hsz:N + 1 ≤ wr.heap.size:=by omega
   go_wp2_with (at_builtin; go_must (refine wpList_append_lies _ rfl _ _ 27 rfl (N + 1) 3 i3 (.int .i64 0) 1 8 Try.underlying27 hi3 hz3 hz31 hz32 rfl (by omega) (.slice as' k cs') k _ (by rfl) oA ⟨wr.heap.size,0,none⟩ 1 1 [.int .i64 (ptW (startM bs k))] (by rfl) (by rfl) ?e1 ?e2 (by omega) ?e3 ?e4 ?e5 (wr.heap.size + 1) ?e6 ?_))
   rotate_left
   any_goals (first | (exact newsF rfl) | rfl | (show Value.oneCell' _ = true; simp [Value.oneCell']) | (intro u hu; simp at hu; subst hu; rfl) | (unfold maxLen; omega) | omega | (simp; omega) | (simp; rfl) | (simp; done))
   intro g cap wb hown hgrow hat hgl
   have hP:=HI.out.push (g:=g) (cap:=cap) ((Below.refl _ _).alloc (Nat.le_refl _) _) hgrow hown
   have HE:Hid (w.heap.size ≤ g∧SlOf wb 1 RInt (.slice (some ⟨g,0,none⟩) (k + 1) cap) (startsW bs (k + 1))∧Below w.heap.size w wb):=by
    refine ⟨?_,own_ints _ hP.own (by unfold longest; omega),by rw [HN.out]; exact hP.low⟩
    have hob:=own_base (g:=g) hP.own rfl
    rw [HN.out]
    exact Nat.le_trans (Nat.le_succ _) hob.1
   clear hP hown hgrow hat hgl oA own HI
   go_wp2
   go_ret
   exact ⟨g,cap,rfl,HE.out⟩
end Go.Proofs.Ytglfpnnfcpnmoaa
