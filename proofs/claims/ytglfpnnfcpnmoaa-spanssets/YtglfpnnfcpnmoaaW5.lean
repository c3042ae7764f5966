/-
  The contract of 'Func': it answers what the plain mason builds.
-/
import Derived.Test.YtglfpnnfcpnmoaaW4
namespace Go.Proofs.Ytglfpnnfcpnmoaa
open Go.RowKit
set_option linter.unusedVariables false
theorem stepM_tell (s:Ms) (p:Pc) (nb ni nv:Nat) (k:Int) (rm ly:Bool) (h1:s.f.blocks.length = nb) (h2:curI s = ni) (h3:s.f.values.length = nv) (hk:pickedOf p.kind 6 = k) (hr:rm = decide (nb + 3 ≤ 16∧ni < 20∧nv < 110)) (hl:ly = decide (ni < 20∧nv < 120)) :
  stepM s p = if k = 0∧rm = true then forkM s p else if k = 1∧rm = true then ringM s p else if ly = true then layM s p else s:=by
 subst h1 h2 h3 hk hr hl
 unfold stepM
 simp only [decide_eq_true_eq]
set_option maxRecDepth 8000 in
set_option maxHeartbeats 16000000 in
theorem ma_func (m0 m1:Int) (l:List Pc) (vl:Value) (w:World) (h0:2 ≤ m0∧m0 ≤ 10) (h1:2 ≤ m1∧m1 ≤ 10) (hl:SlOf w 7 RPc vl l) (hp:∀ p ∈ l,PcOk p∧-9223372036854775808 ≤ p.kind∧p.kind ≤ 9223372036854775807) :
  Calls Try.prog 6 #[.agg #[.int .i64 m0,.int .i64 m1],vl] w fun e w' => ∃ vv vb,e = .returned (.agg #[vv,vb])∧SlOf w' 1 RInt vv (masonM m0 m1 l).values∧SlOf w' 3 (RBlk w') vb (masonM m0 m1 l).blocks∧Below w.heap.size w w':=by
 obtain ⟨al,cl,rfl,hll⟩:=hl.out
 unfold longest at hll
 have HLS:Hid (SlOf w 7 RPc (.slice al l.length cl) l):=hl
 have HP:Hid (∀ p ∈ l,PcOk p∧-9223372036854775808 ≤ p.kind∧p.kind ≤ 9223372036854775807):=hp
 have HM:Hid ((2 ≤ m0∧m0 ≤ 10)∧2 ≤ m1∧m1 ≤ 10):=⟨h0,h1⟩
 obtain ⟨N,hN⟩:∃ N,w.heap.size = N:=⟨_,rfl⟩
 have H0:Hid (FnS N w (N + 2) (N + 1) ⟨m0,m1,⟨[],[]⟩,0,[]⟩ (upK (upK (fun _ => 0) (N + 1) 5) (N + 2) 1) (((w.alloc (.cells #[.int .i64 m0,.int .i64 m1] 25)).alloc (.cells #[.slice none 0 0,.slice none 0 0] 30)).alloc (.cells #[.int .i64 m0,.int .i64 m1,.slice none 0 0,.slice none 0 0,.int .i64 0,.slice none 0 0,.int .i64 0] 59))):=FnS.start w m0 m1 (.slice none 0 0) N hN
 have HN:Hid (w.heap.size = N):=hN
 obtain ⟨W,hW⟩:∃ W,W = (((w.alloc (.cells #[.int .i64 m0,.int .i64 m1] 25)).alloc (.cells #[.slice none 0 0,.slice none 0 0] 30)).alloc (.cells #[.int .i64 m0,.int .i64 m1,.slice none 0 0,.slice none 0 0,.int .i64 0,.slice none 0 0,.int .i64 0] 59)):=⟨_,rfl⟩
 rw [← hW] at H0
 have HW:Hid (W = (((w.alloc (.cells #[.int .i64 m0,.int .i64 m1] 25)).alloc (.cells #[.slice none 0 0,.slice none 0 0] 30)).alloc (.cells #[.int .i64 m0,.int .i64 m1,.slice none 0 0,.slice none 0 0,.int .i64 0,.slice none 0 0,.int .i64 0] 59))):=hW
 obtain ⟨n,hn⟩:∃ n,l.length = n:=⟨_,rfl⟩
 have HLN:Hid (l.length = n):=hn
 rw [hn] at hll
 have HLS':Hid (SlOf w 7 RPc (.slice al n cl) l):=by rw [← hn]; exact hl
 rw [hn]
 have HB:=ma_block N _ W (N + 2) _ (.slice none 0 0) [] H0.out.ma (SlK.nil _ _ _ _) (by simp) (by simp) (by simp)
 clear hW hN hl hp h0 h1 hn HLS
 go_enter Try.func6,Try.ntmps6
 go_upto_region 2 with fail
 rw [HN.out,← HW.out]
 clear HW
 go_wp2_with fail
 refine HB.mono ?_
 clear HB
 rintro e w1 ⟨rfl,κ1,hM1,hO1⟩
 have H1:Hid (FnS N w (N + 2) (N + 1) (stM m0 m1 l 0) κ1 w1):=H0.out.call hM1 hO1
 clear H0 hM1 hO1
 go_wp2_with fail
 generalize hP:N + 2 = P at *
 generalize hR:N + 1 = R at *
 have HPR:Hid (N + 2 = P∧N + 1 = R):=⟨hP,hR⟩
 clear hP hR
 go_loopw [6] (fun i wr => ∃ (j:Nat) (κr:Nat → Nat),j ≤ n∧j ≤ 24∧i = .int .i64 j∧Hid (FnS N w P R (stM m0 m1 l j) κr wr)) (fun i _ => 24 - (intOf i).toNat)
 case atStart => exact ⟨0,κ1,by omega,by omega,rfl,H1.out⟩
 case round =>
  clear H1
  obtain ⟨j,κr,hjn,hj24,rfl,HI⟩:=hrel
  by_cases hlt:j < n∧j < 24
  ·obtain ⟨hlt,hlt24⟩:=hlt
   obtain ⟨bl,ol,cs,rfl,hcl,hRc,hcs⟩:=HLS'.out.at j (by rw [HLN.out]; exact hlt)
   have hst:=stM_succ m0 m1 l j (by rw [HLN.out]; exact hlt)
   have hpo:=HP.out _ (List.getElem_mem (by rw [HLN.out]; exact hlt):l[j]'(by rw [HLN.out]; exact hlt) ∈ l)
   have hinv:=stM_inv m0 m1 HM.out.1 HM.out.2 l j (by omega)
   generalize l[j]'(by rw [HLN.out]; exact hlt) = p at *
   have hst':Hid (stM m0 m1 l (j + 1) = stepM (stM m0 m1 l j) p):=hst
   generalize hsg:stM m0 m1 l j = st at *
   have HST:Hid (stM m0 m1 l (j + 1) = stepM st p):=hst'
   have HI0:Hid (Inv 626 st):=hinv
   have HPO:Hid (PcOk p∧-9223372036854775808 ≤ p.kind∧p.kind ≤ 9223372036854775807):=hpo
   obtain ⟨kd0,kd1⟩:=hpo.2
   unfold RPc at hRc
   subst hRc
   have cell:∀ q (hq:q < 7),wr.cell? ⟨bl,ol + j * 7 + q,none⟩ = some (pieceRow p q):=fun q hq => by
    have h1:=hcs q (by simpa using hq)
    rw [HI.out.bel.cell (p:=⟨bl,ol + j * 7 + q,none⟩) (by rw [← HN.out]; exact block_lt h1),h1]
    match q,hq with | 0,_ => rfl | 1,_ => rfl | 2,_ => rfl | 3,_ => rfl | 4,_ => rfl | 5,_ => rfl | 6,_ => rfl
   have x0:wr.cell? ⟨bl,ol + j * 7,none⟩ = some (.int .i64 p.kind):=cell 0 (by omega)
   have x1:wr.cell? ⟨bl,ol + j * 7 + 1,none⟩ = some (.int .i64 p.op):=cell 1 (by omega)
   have x2:wr.cell? ⟨bl,ol + j * 7 + 2,none⟩ = some (.int .i64 p.a):=cell 2 (by omega)
   have x3:wr.cell? ⟨bl,ol + j * 7 + 3,none⟩ = some (.int .i64 p.b):=cell 3 (by omega)
   have x4:wr.cell? ⟨bl,ol + j * 7 + 4,none⟩ = some (.int .i64 p.c):=cell 4 (by omega)
   have x5:wr.cell? ⟨bl,ol + j * 7 + 5,none⟩ = some (.int .i64 p.limits):=cell 5 (by omega)
   have x6:wr.cell? ⟨bl,ol + j * 7 + 6,none⟩ = some (.int .i64 p.flags):=cell 6 (by omega)
   clear hsg hst hst' hinv hpo cell hcs hcl
   go_upto_region 7 with fail
   obtain ⟨W2,hW2⟩:∃ W2,W2 = wr.alloc (.cells #[.int .i64 p.kind,.int .i64 p.op,.int .i64 p.a,.int .i64 p.b,.int .i64 p.c,.int .i64 p.limits,.int .i64 p.flags] 62):=⟨_,rfl⟩
   have hb2:Below wr.heap.size wr W2:=by rw [hW2]; exact (Below.refl _ _).alloc (Nat.le_refl _) _
   obtain ⟨X,hX⟩:∃ X,wr.heap.size = X:=⟨_,rfl⟩
   have rX:W2.rowIs X 62 7 (pieceRow p):=by
    rw [hW2,← hX]
    exact World.rowIs_alloc wr #[.int .i64 p.kind,.int .i64 p.op,.int .i64 p.a,.int .i64 p.b,.int .i64 p.c,.int .i64 p.limits,.int .i64 p.flags] 62 (pieceRow p) fun i hi => by
     simp at hi
     match i,hi with | 0,_ => rfl | 1,_ => rfl | 2,_ => rfl | 3,_ => rfl | 4,_ => rfl | 5,_ => rfl | 6,_ => rfl
   have H2:Hid (FnS N w P R st κr W2):=HI.out.below hb2
   have HRX:Hid (W2.rowIs X 62 7 (pieceRow p)):=rX
   rw [← hW2,hX]
   clear hW2 hb2 hX rX HI x0 x1 x2 x3 x4 x5 x6
   obtain ⟨vv,vb,vk,al,bx,hS⟩:=H2.out.ma
   have hcl:=HI0.out.good.ok.cur
   obtain ⟨gb,cb,rfl,hgN,hgl⟩:=hS.ob.form (by omega)
   obtain ⟨av,cv,rfl⟩:=own_out hS.ov
   obtain ⟨L,hL,hLo,hLs⟩:=(hS.blk _ hcl).ins
   obtain ⟨ai,ci,hvi⟩:=own_out hLo
   have hLl:L.length = curI st:=by
    have:(blkAt st st.cur).instrs.length = L.length:=by rw [blkAt_eq hcl,← hL]; simp
    exact this.symm
   have q2:=hS.cells.2.2.1
   have q3:=hS.cells.2.2.2.1
   have q4:=hS.cells.2.2.2.2.1
   have qi:=(hS.at _ hcl).2.1
   rw [hvi,hLl] at qi
   have hcI:curI st ≤ 21:=HI0.out.inss st.cur
   have hvl:=HI0.out.vals
   have hbl:=HI0.out.blks
   have hPl:=hS.row.lt
   clear hS hL hLo hLs hLl hvi hgN
   generalize hcu:st.cur = cu at *
   generalize hnb:st.f.blocks.length = nb at *
   generalize hni:curI st = ni at *
   generalize hnv:st.f.values.length = nv at *
   obtain ⟨kk,hkk⟩:∃ kk,pickedOf p.kind 6 = kk:=⟨_,rfl⟩
   have HKK:Hid (pickedOf p.kind 6 = kk):=hkk
   obtain ⟨kk0,kk1⟩:=pickedOf_bd p.kind 6 (by omega)
   rw [hkk] at kk0 kk1
   obtain ⟨rm,HRM⟩:∃ rm,Hid (rm = decide (nb + 3 ≤ 16∧ni < 20∧nv < 110)):=⟨_,rfl⟩
   obtain ⟨ly,HLY⟩:∃ ly,Hid (ly = decide (ni < 20∧nv < 120)):=⟨_,rfl⟩
   have HSP:Hid (stepM st p = if kk = 0∧rm = true then forkM st p else if kk = 1∧rm = true then ringM st p else if ly = true then layM st p else st):=stepM_tell st p nb ni nv kk rm ly hnb hni hnv hkk HRM.out HLY.out
   clear hcu hnb hni hnv hkk
   go_cut [8] (fun v wz => v = .bool rm∧Hid (Below W2.heap.size W2 wz))
   case first =>
    by_cases c1:nb + 3 ≤ 16
    ·have e1:decide ((nb:Int) + 3 ≤ 16) = true:=by simp; omega
     by_cases c2:ni < 20
     ·have e2:decide ((ni:Int) < 20) = true:=by simp; omega
      by_cases c3:nv < 110
      ·have e3:decide ((nv:Int) < 110) = true:=by simp; omega
       have er:rm = true:=by rw [HRM.out]; simp; omega
       subst er
       go_quiet (fail)
       go_wp2
       go_meet
       exact ⟨rfl,below_drewN (Below.refl _ _) _⟩
      ·have e3:decide ((nv:Int) < 110) = false:=by simp; omega
       have er:rm = false:=by rw [HRM.out]; simp; omega
       subst er
       go_quiet (fail)
       go_wp2
       go_meet
       exact ⟨rfl,below_drewN (Below.refl _ _) _⟩
     ·have e2:decide ((ni:Int) < 20) = false:=by simp; omega
      have er:rm = false:=by rw [HRM.out]; simp; omega
      subst er
      go_quiet (fail)
      go_wp2
      go_meet
      exact ⟨rfl,below_drewN (Below.refl _ _) _⟩
    ·have e1:decide ((nb:Int) + 3 ≤ 16) = false:=by simp; omega
     have er:rm = false:=by rw [HRM.out]; simp; omega
     subst er
     go_quiet (fail)
     go_wp2
     go_meet
     exact ⟨rfl,below_drewN (Below.refl _ _) _⟩
   case rest =>
    obtain ⟨rfl,hwc⟩:=hcut
    obtain ⟨W3,rfl⟩:∃ W3:World,W3 = wc:=⟨_,rfl⟩
    have H3:Hid (FnS N w P R st κr W3):=H2.out.below hwc.out
    have HRX3:Hid (W3.rowIs X 62 7 (pieceRow p)):=HRX.out.of_block (hwc.out.block X HRX.out.lt)
    obtain ⟨y0,y1,y2,y3,y4,y5,y6⟩:W3.cell? ⟨X,0,none⟩ = some (.int .i64 p.kind)∧W3.cell? ⟨X,1,none⟩ = some (.int .i64 p.op)∧W3.cell? ⟨X,2,none⟩ = some (.int .i64 p.a)∧W3.cell? ⟨X,3,none⟩ = some (.int .i64 p.b)∧W3.cell? ⟨X,4,none⟩ = some (.int .i64 p.c)∧W3.cell? ⟨X,5,none⟩ = some (.int .i64 p.limits)∧W3.cell? ⟨X,6,none⟩ = some (.int .i64 p.flags):=⟨HRX3.out.cell (i:=0) (by omega),HRX3.out.cell (i:=1) (by omega),HRX3.out.cell (i:=2) (by omega),HRX3.out.cell (i:=3) (by omega),HRX3.out.cell (i:=4) (by omega),HRX3.out.cell (i:=5) (by omega),HRX3.out.cell (i:=6) (by omega)⟩
    have r2:=(hwc.out.cell (p:=⟨P,2,none⟩) hPl).trans q2
    have r3:=(hwc.out.cell (p:=⟨P,3,none⟩) hPl).trans q3
    have r4:=(hwc.out.cell (p:=⟨P,4,none⟩) hPl).trans q4
    have ri:=(hwc.out.cell (p:=⟨gb,cu * 3 + 1,none⟩) hgl).trans qi
    clear hwc q2 q3 q4 qi H2 HRX hPl hgl
    go_upto_region 9 with (go_at_call 12; refine (picked_is _ _ _ _ HKK.out (by omega) (by omega) (by omega) (by omega)).mono ?_; rintro e W3 ⟨rfl,rfl⟩)
    cases rm
    ·have HNF:Hid (¬ (kk = 0∧false = true)):=fun h => by cases h.2
     have HNL:Hid (¬ (kk = 1∧false = true)):=fun h => by cases h.2
     by_cases k0:kk = 0
     ·have e0:(kk == 0) = true:=by simp [k0]
      have e1:(kk == 1) = false:=by simp [k0]
      clear k0
      go_upto_region 13 with fail
      go_cut [83] (fun v wz => v = .bool ly∧Hid (Below W3.heap.size W3 wz))
      case first =>
       by_cases hi20:ni < 20
       ·have e1:decide ((ni:Int) < 20) = true:=by simp; omega
        by_cases hv120:nv < 120
        ·have e2:decide ((nv:Int) < 120) = true:=by simp; omega
         have e3:ly = true:=by rw [HLY.out]; simp; omega
         subst e3
         go_quiet (fail)
         go_wp2
         go_meet
         exact ⟨rfl,below_drewN (Below.refl _ _) _⟩
        ·have e2:decide ((nv:Int) < 120) = false:=by simp; omega
         have e3:ly = false:=by rw [HLY.out]; simp; omega
         subst e3
         go_quiet (fail)
         go_wp2
         go_meet
         exact ⟨rfl,below_drewN (Below.refl _ _) _⟩
       ·have e1:decide ((ni:Int) < 20) = false:=by simp; omega
        have e3:ly = false:=by rw [HLY.out]; simp; omega
        subst e3
        go_quiet (fail)
        go_wp2
        go_meet
        exact ⟨rfl,below_drewN (Below.refl _ _) _⟩
      case rest =>
       obtain ⟨rfl,hwc⟩:=hcut
       have H4:Hid (FnS N w P R st κr wc):=H3.out.below hwc.out
       have rXc:=HRX3.out.of_block (hwc.out.block X HRX3.out.lt)
       obtain ⟨y0,y1,y2,y3,y4,y5,y6⟩:wc.cell? ⟨X,0,none⟩ = some (.int .i64 p.kind)∧wc.cell? ⟨X,1,none⟩ = some (.int .i64 p.op)∧wc.cell? ⟨X,2,none⟩ = some (.int .i64 p.a)∧wc.cell? ⟨X,3,none⟩ = some (.int .i64 p.b)∧wc.cell? ⟨X,4,none⟩ = some (.int .i64 p.c)∧wc.cell? ⟨X,5,none⟩ = some (.int .i64 p.limits)∧wc.cell? ⟨X,6,none⟩ = some (.int .i64 p.flags):=⟨rXc.cell (i:=0) (by omega),rXc.cell (i:=1) (by omega),rXc.cell (i:=2) (by omega),rXc.cell (i:=3) (by omega),rXc.cell (i:=4) (by omega),rXc.cell (i:=5) (by omega),rXc.cell (i:=6) (by omega)⟩
       have hsz:=HI0.out.good.sizes (by omega)
       have HL:=ma_lay N κr wc P st p H4.out.ma HI0.out.good.ok HPO.out.1 hsz.1 hsz.2.1 hsz.2.2.1 hsz.2.2.2.1
       cases ly
       ·have HQ:Hid (FnS N w P R (stM m0 m1 l (j + 1)) κr wc):=by
         show FnS _ _ _ _ _ _ _
         rw [HST.out]
         have e:stepM st p = st:=by rw [HSP.out,if_neg HNF.out,if_neg HNL.out,if_neg (by simp)]
         rw [e]
         exact H4.out
        clear HL hsz rXc hwc
        go_wp2_with fail
        go_roundw
        case rel => exact ⟨j + 1,κr,by omega,by omega,rfl,HQ.out⟩
        case measure => (simp [intOf]; try omega)
       ·clear hsz rXc hwc
        go_wp2_with fail
        refine HL.mono ?_
        clear HL y0 y1 y2 y3 y4 y5 y6
        rintro e w5 ⟨rfl,κ5,hM5,hO5⟩
        have HQ:Hid (FnS N w P R (stM m0 m1 l (j + 1)) κ5 w5):=by
         show FnS _ _ _ _ _ _ _
         rw [HST.out]
         have e:stepM st p = layM st p:=by rw [HSP.out,if_neg HNF.out,if_neg HNL.out,if_pos (by simp)]
         rw [e]
         exact H4.out.call hM5 hO5
        clear hM5 hO5
        go_wp2_with fail
        go_roundw
        case rel => exact ⟨j + 1,κ5,by omega,by omega,rfl,HQ.out⟩
        case measure => (simp [intOf]; try omega)
     ·have e0:(kk == 0) = false:=by simp [k0]
      clear k0
      by_cases k1:kk = 1
      ·have e1:(kk == 1) = true:=by simp [k1]
       clear k1
       go_upto_region 13 with fail
       go_cut [83] (fun v wz => v = .bool ly∧Hid (Below W3.heap.size W3 wz))
       case first =>
        by_cases hi20:ni < 20
        ·have e1:decide ((ni:Int) < 20) = true:=by simp; omega
         by_cases hv120:nv < 120
         ·have e2:decide ((nv:Int) < 120) = true:=by simp; omega
          have e3:ly = true:=by rw [HLY.out]; simp; omega
          subst e3
          go_quiet (fail)
          go_wp2
          go_meet
          exact ⟨rfl,below_drewN (Below.refl _ _) _⟩
         ·have e2:decide ((nv:Int) < 120) = false:=by simp; omega
          have e3:ly = false:=by rw [HLY.out]; simp; omega
          subst e3
          go_quiet (fail)
          go_wp2
          go_meet
          exact ⟨rfl,below_drewN (Below.refl _ _) _⟩
        ·have e1:decide ((ni:Int) < 20) = false:=by simp; omega
         have e3:ly = false:=by rw [HLY.out]; simp; omega
         subst e3
         go_quiet (fail)
         go_wp2
         go_meet
         exact ⟨rfl,below_drewN (Below.refl _ _) _⟩
       case rest =>
        obtain ⟨rfl,hwc⟩:=hcut
        have H4:Hid (FnS N w P R st κr wc):=H3.out.below hwc.out
        have rXc:=HRX3.out.of_block (hwc.out.block X HRX3.out.lt)
        obtain ⟨y0,y1,y2,y3,y4,y5,y6⟩:wc.cell? ⟨X,0,none⟩ = some (.int .i64 p.kind)∧wc.cell? ⟨X,1,none⟩ = some (.int .i64 p.op)∧wc.cell? ⟨X,2,none⟩ = some (.int .i64 p.a)∧wc.cell? ⟨X,3,none⟩ = some (.int .i64 p.b)∧wc.cell? ⟨X,4,none⟩ = some (.int .i64 p.c)∧wc.cell? ⟨X,5,none⟩ = some (.int .i64 p.limits)∧wc.cell? ⟨X,6,none⟩ = some (.int .i64 p.flags):=⟨rXc.cell (i:=0) (by omega),rXc.cell (i:=1) (by omega),rXc.cell (i:=2) (by omega),rXc.cell (i:=3) (by omega),rXc.cell (i:=4) (by omega),rXc.cell (i:=5) (by omega),rXc.cell (i:=6) (by omega)⟩
        have hsz:=HI0.out.good.sizes (by omega)
        have HL:=ma_lay N κr wc P st p H4.out.ma HI0.out.good.ok HPO.out.1 hsz.1 hsz.2.1 hsz.2.2.1 hsz.2.2.2.1
        cases ly
        ·have HQ:Hid (FnS N w P R (stM m0 m1 l (j + 1)) κr wc):=by
          show FnS _ _ _ _ _ _ _
          rw [HST.out]
          have e:stepM st p = st:=by rw [HSP.out,if_neg HNF.out,if_neg HNL.out,if_neg (by simp)]
          rw [e]
          exact H4.out
         clear HL hsz rXc hwc
         go_wp2_with fail
         go_roundw
         case rel => exact ⟨j + 1,κr,by omega,by omega,rfl,HQ.out⟩
         case measure => (simp [intOf]; try omega)
        ·clear hsz rXc hwc
         go_wp2_with fail
         refine HL.mono ?_
         clear HL y0 y1 y2 y3 y4 y5 y6
         rintro e w5 ⟨rfl,κ5,hM5,hO5⟩
         have HQ:Hid (FnS N w P R (stM m0 m1 l (j + 1)) κ5 w5):=by
          show FnS _ _ _ _ _ _ _
          rw [HST.out]
          have e:stepM st p = layM st p:=by rw [HSP.out,if_neg HNF.out,if_neg HNL.out,if_pos (by simp)]
          rw [e]
          exact H4.out.call hM5 hO5
         clear hM5 hO5
         go_wp2_with fail
         go_roundw
         case rel => exact ⟨j + 1,κ5,by omega,by omega,rfl,HQ.out⟩
         case measure => (simp [intOf]; try omega)
      ·have e1:(kk == 1) = false:=by simp [k1]
       clear k1
       go_upto_region 13 with fail
       go_cut [83] (fun v wz => v = .bool ly∧Hid (Below W3.heap.size W3 wz))
       case first =>
        by_cases hi20:ni < 20
        ·have e1:decide ((ni:Int) < 20) = true:=by simp; omega
         by_cases hv120:nv < 120
         ·have e2:decide ((nv:Int) < 120) = true:=by simp; omega
          have e3:ly = true:=by rw [HLY.out]; simp; omega
          subst e3
          go_quiet (fail)
          go_wp2
          go_meet
          exact ⟨rfl,below_drewN (Below.refl _ _) _⟩
         ·have e2:decide ((nv:Int) < 120) = false:=by simp; omega
          have e3:ly = false:=by rw [HLY.out]; simp; omega
          subst e3
          go_quiet (fail)
          go_wp2
          go_meet
          exact ⟨rfl,below_drewN (Below.refl _ _) _⟩
        ·have e1:decide ((ni:Int) < 20) = false:=by simp; omega
         have e3:ly = false:=by rw [HLY.out]; simp; omega
         subst e3
         go_quiet (fail)
         go_wp2
         go_meet
         exact ⟨rfl,below_drewN (Below.refl _ _) _⟩
       case rest =>
        obtain ⟨rfl,hwc⟩:=hcut
        have H4:Hid (FnS N w P R st κr wc):=H3.out.below hwc.out
        have rXc:=HRX3.out.of_block (hwc.out.block X HRX3.out.lt)
        obtain ⟨y0,y1,y2,y3,y4,y5,y6⟩:wc.cell? ⟨X,0,none⟩ = some (.int .i64 p.kind)∧wc.cell? ⟨X,1,none⟩ = some (.int .i64 p.op)∧wc.cell? ⟨X,2,none⟩ = some (.int .i64 p.a)∧wc.cell? ⟨X,3,none⟩ = some (.int .i64 p.b)∧wc.cell? ⟨X,4,none⟩ = some (.int .i64 p.c)∧wc.cell? ⟨X,5,none⟩ = some (.int .i64 p.limits)∧wc.cell? ⟨X,6,none⟩ = some (.int .i64 p.flags):=⟨rXc.cell (i:=0) (by omega),rXc.cell (i:=1) (by omega),rXc.cell (i:=2) (by omega),rXc.cell (i:=3) (by omega),rXc.cell (i:=4) (by omega),rXc.cell (i:=5) (by omega),rXc.cell (i:=6) (by omega)⟩
        have hsz:=HI0.out.good.sizes (by omega)
        have HL:=ma_lay N κr wc P st p H4.out.ma HI0.out.good.ok HPO.out.1 hsz.1 hsz.2.1 hsz.2.2.1 hsz.2.2.2.1
        cases ly
        ·have HQ:Hid (FnS N w P R (stM m0 m1 l (j + 1)) κr wc):=by
          show FnS _ _ _ _ _ _ _
          rw [HST.out]
          have e:stepM st p = st:=by rw [HSP.out,if_neg HNF.out,if_neg HNL.out,if_neg (by simp)]
          rw [e]
          exact H4.out
         clear HL hsz rXc hwc
         go_wp2_with fail
         go_roundw
         case rel => exact ⟨j + 1,κr,by omega,by omega,rfl,HQ.out⟩
         case measure => (simp [intOf]; try omega)
        ·clear hsz rXc hwc
         go_wp2_with fail
         refine HL.mono ?_
         clear HL y0 y1 y2 y3 y4 y5 y6
         rintro e w5 ⟨rfl,κ5,hM5,hO5⟩
         have HQ:Hid (FnS N w P R (stM m0 m1 l (j + 1)) κ5 w5):=by
          show FnS _ _ _ _ _ _ _
          rw [HST.out]
          have e:stepM st p = layM st p:=by rw [HSP.out,if_neg HNF.out,if_neg HNL.out,if_pos (by simp)]
          rw [e]
          exact H4.out.call hM5 hO5
         clear hM5 hO5
         go_wp2_with fail
         go_roundw
         case rel => exact ⟨j + 1,κ5,by omega,by omega,rfl,HQ.out⟩
         case measure => (simp [intOf]; try omega)
    ·by_cases k0:kk = 0
     ·have e0:(kk == 0) = true:=by simp [k0]
      have HE:Hid (stepM st p = forkM st p):=by
       show stepM st p = _
       rw [HSP.out,if_pos ⟨k0,rfl⟩]
      clear k0
      have HL:=ma_fork N κr W3 P st p 626 H3.out.ma HI0.out.good (by omega) HI0.out.bare HPO.out.1
      go_wp2_with fail
      refine HL.mono ?_
      clear HL y0 y1 y2 y3 y4 y5 y6
      rintro e w5 ⟨rfl,κ5,hM5,hO5⟩
      have HQ:Hid (FnS N w P R (stM m0 m1 l (j + 1)) κ5 w5):=by
       show FnS _ _ _ _ _ _ _
       rw [HST.out]
       rw [HE.out]
       exact H3.out.call hM5 hO5
      clear hM5 hO5
      go_wp2_with fail
      go_roundw
      case rel => exact ⟨j + 1,κ5,by omega,by omega,rfl,HQ.out⟩
      case measure => (simp [intOf]; try omega)
     ·have e0:(kk == 0) = false:=by simp [k0]
      by_cases k1:kk = 1
      ·have e1:(kk == 1) = true:=by simp [k1]
       have HE:Hid (stepM st p = ringM st p):=by
        show stepM st p = _
        rw [HSP.out,if_neg (fun h => k0 h.1),if_pos ⟨k1,rfl⟩]
       clear k0 k1
       have HL:=ma_loop N κr W3 P st p 626 H3.out.ma HI0.out.good (by omega) HI0.out.bare HPO.out.1
       go_wp2_with fail
       refine HL.mono ?_
       clear HL y0 y1 y2 y3 y4 y5 y6
       rintro e w5 ⟨rfl,κ5,hM5,hO5⟩
       have HQ:Hid (FnS N w P R (stM m0 m1 l (j + 1)) κ5 w5):=by
        show FnS _ _ _ _ _ _ _
        rw [HST.out]
        rw [HE.out]
        exact H3.out.call hM5 hO5
       clear hM5 hO5
       go_wp2_with fail
       go_roundw
       case rel => exact ⟨j + 1,κ5,by omega,by omega,rfl,HQ.out⟩
       case measure => (simp [intOf]; try omega)
      ·have e1:(kk == 1) = false:=by simp [k1]
       have HNF:Hid (¬ (kk = 0∧true = true)):=fun h => k0 h.1
       have HNL:Hid (¬ (kk = 1∧true = true)):=fun h => k1 h.1
       clear k0 k1
       go_upto_region 13 with fail
       go_cut [83] (fun v wz => v = .bool ly∧Hid (Below W3.heap.size W3 wz))
       case first =>
        by_cases hi20:ni < 20
        ·have e1:decide ((ni:Int) < 20) = true:=by simp; omega
         by_cases hv120:nv < 120
         ·have e2:decide ((nv:Int) < 120) = true:=by simp; omega
          have e3:ly = true:=by rw [HLY.out]; simp; omega
          subst e3
          go_quiet (fail)
          go_wp2
          go_meet
          exact ⟨rfl,below_drewN (Below.refl _ _) _⟩
         ·have e2:decide ((nv:Int) < 120) = false:=by simp; omega
          have e3:ly = false:=by rw [HLY.out]; simp; omega
          subst e3
          go_quiet (fail)
          go_wp2
          go_meet
          exact ⟨rfl,below_drewN (Below.refl _ _) _⟩
        ·have e1:decide ((ni:Int) < 20) = false:=by simp; omega
         have e3:ly = false:=by rw [HLY.out]; simp; omega
         subst e3
         go_quiet (fail)
         go_wp2
         go_meet
         exact ⟨rfl,below_drewN (Below.refl _ _) _⟩
       case rest =>
        obtain ⟨rfl,hwc⟩:=hcut
        have H4:Hid (FnS N w P R st κr wc):=H3.out.below hwc.out
        have rXc:=HRX3.out.of_block (hwc.out.block X HRX3.out.lt)
        obtain ⟨y0,y1,y2,y3,y4,y5,y6⟩:wc.cell? ⟨X,0,none⟩ = some (.int .i64 p.kind)∧wc.cell? ⟨X,1,none⟩ = some (.int .i64 p.op)∧wc.cell? ⟨X,2,none⟩ = some (.int .i64 p.a)∧wc.cell? ⟨X,3,none⟩ = some (.int .i64 p.b)∧wc.cell? ⟨X,4,none⟩ = some (.int .i64 p.c)∧wc.cell? ⟨X,5,none⟩ = some (.int .i64 p.limits)∧wc.cell? ⟨X,6,none⟩ = some (.int .i64 p.flags):=⟨rXc.cell (i:=0) (by omega),rXc.cell (i:=1) (by omega),rXc.cell (i:=2) (by omega),rXc.cell (i:=3) (by omega),rXc.cell (i:=4) (by omega),rXc.cell (i:=5) (by omega),rXc.cell (i:=6) (by omega)⟩
        have hsz:=HI0.out.good.sizes (by omega)
        have HL:=ma_lay N κr wc P st p H4.out.ma HI0.out.good.ok HPO.out.1 hsz.1 hsz.2.1 hsz.2.2.1 hsz.2.2.2.1
        cases ly
        ·have HQ:Hid (FnS N w P R (stM m0 m1 l (j + 1)) κr wc):=by
          show FnS _ _ _ _ _ _ _
          rw [HST.out]
          have e:stepM st p = st:=by rw [HSP.out,if_neg HNF.out,if_neg HNL.out,if_neg (by simp)]
          rw [e]
          exact H4.out
         clear HL hsz rXc hwc
         go_wp2_with fail
         go_roundw
         case rel => exact ⟨j + 1,κr,by omega,by omega,rfl,HQ.out⟩
         case measure => (simp [intOf]; try omega)
        ·clear hsz rXc hwc
         go_wp2_with fail
         refine HL.mono ?_
         clear HL y0 y1 y2 y3 y4 y5 y6
         rintro e w5 ⟨rfl,κ5,hM5,hO5⟩
         have HQ:Hid (FnS N w P R (stM m0 m1 l (j + 1)) κ5 w5):=by
          show FnS _ _ _ _ _ _ _
          rw [HST.out]
          have e:stepM st p = layM st p:=by rw [HSP.out,if_neg HNF.out,if_neg HNL.out,if_pos (by simp)]
          rw [e]
          exact H4.out.call hM5 hO5
         clear hM5 hO5
         go_wp2_with fail
         go_roundw
         case rel => exact ⟨j + 1,κ5,by omega,by omega,rfl,HQ.out⟩
         case measure => (simp [intOf]; try omega)
  ·by_cases hlt1:j < n
   ·have h24:j = 24:=by omega
    clear hlt
    have hst:endM m0 m1 l = layM (stM m0 m1 l j) ⟨0,0,1,0,0,0,3⟩:=stM_end m0 m1 l j (by have:=HLN.out; omega)
    have hinv:=stM_inv m0 m1 HM.out.1 HM.out.2 l j hj24
    have hsz:=hinv.good.sizes (by omega)
    have HL:=ma_lay N κr wr P (stM m0 m1 l j) ⟨0,0,1,0,0,0,3⟩ HI.out.ma hinv.good.ok ⟨by decide,by decide,by decide,by decide,by decide,by decide⟩ hsz.1 hsz.2.1 hsz.2.2.1 hsz.2.2.2.1
    rw [← hst] at HL
    clear hst hinv hsz
    go_wp2_with fail
    refine HL.mono ?_
    clear HL
    rintro e w5 ⟨rfl,κ5,hM5,hO5⟩
    have H5:Hid (FnS N w P R (endM m0 m1 l) κ5 w5):=HI.out.call hM5 hO5
    obtain ⟨vv,vb,vk,a,bx,hS⟩:=hM5
    obtain ⟨av2,cv2,hvv⟩:=own_out hS.ov
    obtain ⟨ab2,cb2,hvb⟩:=own_out hS.ob
    subst hvv hvb
    generalize hnv2:(endM m0 m1 l).f.values.length = nv2 at *
    generalize hnb2:(endM m0 m1 l).f.blocks.length = nb2 at *
    have q2:=hS.cells.2.2.1
    have q3:=hS.cells.2.2.2.1
    have z0:w5.cell? ⟨R,0,none⟩ = some (.slice none 0 0):=H5.out.row.cell (i:=0) (by omega)
    have z1:w5.cell? ⟨R,1,none⟩ = some (.slice none 0 0):=H5.out.row.cell (i:=1) (by omega)
    have f0:=H5.out.row.frozen 0
    have f1:=H5.out.row.frozen 1
    have HE:Hid (SlOf ((w5.setCell ⟨R,0,none⟩ (.slice av2 nv2 cv2)).setCell ⟨R,1,none⟩ (.slice ab2 nb2 cb2)) 1 RInt (.slice av2 nv2 cv2) (masonM m0 m1 l).values∧SlOf ((w5.setCell ⟨R,0,none⟩ (.slice av2 nv2 cv2)).setCell ⟨R,1,none⟩ (.slice ab2 nb2 cb2)) 3 (RBlk ((w5.setCell ⟨R,0,none⟩ (.slice av2 nv2 cv2)).setCell ⟨R,1,none⟩ (.slice ab2 nb2 cb2))) (.slice ab2 nb2 cb2) (masonM m0 m1 l).blocks∧Below w.heap.size w ((w5.setCell ⟨R,0,none⟩ (.slice av2 nv2 cv2)).setCell ⟨R,1,none⟩ (.slice ab2 nb2 cb2))):=by
     have hO:Only (fun r => r = 5) κ5 κ5 w5 ((w5.setCell ⟨R,0,none⟩ (.slice av2 nv2 cv2)).setCell ⟨R,1,none⟩ (.slice ab2 nb2 cb2)):=((Only.refl _ _ _).set (Or.inr H5.out.kR) 0 (.slice av2 nv2 cv2)).set (Or.inr H5.out.kR) 1 _
     have hS':=hS.only hO fun b hb => hS.fresh b (by simpa [World.setCell] using hb)
     subst hnv2 hnb2
     obtain ⟨g,_,gv,gb,gi⟩:=end_good m0 m1 HM.out.1 HM.out.2 l
     have hsz:=g.sizes (by omega)
     have hR:=hS'.reads (by unfold longest; omega) (by unfold longest; omega) fun b hb => by
      have h4:=g.sm.2.2.2 b hb
      unfold longest
      omega
     have hRN:N ≤ R:=by have:=HPR.out; omega
     rw [HN.out]
     exact ⟨hR.1,hR.2,(H5.out.fin hRN _ _).2⟩
    clear hS hO5
    go_wp2_with fail
    have rr9:((w5.setCell ⟨R,0,none⟩ (.slice av2 nv2 cv2)).setCell ⟨R,1,none⟩ (.slice ab2 nb2 cb2)).rowIs R 30 2 (fun q => if q = 0 then .slice av2 nv2 cv2 else .slice ab2 nb2 cb2):=((H5.out.row.set 0 _).set 1 _).congr fun q hq => by match q,hq with | 0,_ => rfl | 1,_ => rfl
    have g0:=rr9.cell (i:=0) (by omega)
    have g1:=rr9.cell (i:=1) (by omega)
    simp only [if_true,Nat.one_ne_zero,if_false] at g0 g1
    refine bodyPost_ret (v:=.agg #[.slice av2 nv2 cv2,.slice ab2 nb2 cb2]) ?_ rfl ⟨_,_,rfl,HE.out⟩
    simp [results,Try.results6,go_sem,g0,g1]
   ·clear hlt
    have hst:endM m0 m1 l = layM (stM m0 m1 l j) ⟨0,0,1,0,0,0,3⟩:=stM_end m0 m1 l j (by have:=HLN.out; omega)
    have hinv:=stM_inv m0 m1 HM.out.1 HM.out.2 l j hj24
    have hsz:=hinv.good.sizes (by omega)
    have HL:=ma_lay N κr wr P (stM m0 m1 l j) ⟨0,0,1,0,0,0,3⟩ HI.out.ma hinv.good.ok ⟨by decide,by decide,by decide,by decide,by decide,by decide⟩ hsz.1 hsz.2.1 hsz.2.2.1 hsz.2.2.2.1
    rw [← hst] at HL
    clear hst hinv hsz
    go_wp2_with fail
    refine HL.mono ?_
    clear HL
    rintro e w5 ⟨rfl,κ5,hM5,hO5⟩
    have H5:Hid (FnS N w P R (endM m0 m1 l) κ5 w5):=HI.out.call hM5 hO5
    obtain ⟨vv,vb,vk,a,bx,hS⟩:=hM5
    obtain ⟨av2,cv2,hvv⟩:=own_out hS.ov
    obtain ⟨ab2,cb2,hvb⟩:=own_out hS.ob
    subst hvv hvb
    generalize hnv2:(endM m0 m1 l).f.values.length = nv2 at *
    generalize hnb2:(endM m0 m1 l).f.blocks.length = nb2 at *
    have q2:=hS.cells.2.2.1
    have q3:=hS.cells.2.2.2.1
    have z0:w5.cell? ⟨R,0,none⟩ = some (.slice none 0 0):=H5.out.row.cell (i:=0) (by omega)
    have z1:w5.cell? ⟨R,1,none⟩ = some (.slice none 0 0):=H5.out.row.cell (i:=1) (by omega)
    have f0:=H5.out.row.frozen 0
    have f1:=H5.out.row.frozen 1
    have HE:Hid (SlOf ((w5.setCell ⟨R,0,none⟩ (.slice av2 nv2 cv2)).setCell ⟨R,1,none⟩ (.slice ab2 nb2 cb2)) 1 RInt (.slice av2 nv2 cv2) (masonM m0 m1 l).values∧SlOf ((w5.setCell ⟨R,0,none⟩ (.slice av2 nv2 cv2)).setCell ⟨R,1,none⟩ (.slice ab2 nb2 cb2)) 3 (RBlk ((w5.setCell ⟨R,0,none⟩ (.slice av2 nv2 cv2)).setCell ⟨R,1,none⟩ (.slice ab2 nb2 cb2))) (.slice ab2 nb2 cb2) (masonM m0 m1 l).blocks∧Below w.heap.size w ((w5.setCell ⟨R,0,none⟩ (.slice av2 nv2 cv2)).setCell ⟨R,1,none⟩ (.slice ab2 nb2 cb2))):=by
     have hO:Only (fun r => r = 5) κ5 κ5 w5 ((w5.setCell ⟨R,0,none⟩ (.slice av2 nv2 cv2)).setCell ⟨R,1,none⟩ (.slice ab2 nb2 cb2)):=((Only.refl _ _ _).set (Or.inr H5.out.kR) 0 (.slice av2 nv2 cv2)).set (Or.inr H5.out.kR) 1 _
     have hS':=hS.only hO fun b hb => hS.fresh b (by simpa [World.setCell] using hb)
     subst hnv2 hnb2
     obtain ⟨g,_,gv,gb,gi⟩:=end_good m0 m1 HM.out.1 HM.out.2 l
     have hsz:=g.sizes (by omega)
     have hR:=hS'.reads (by unfold longest; omega) (by unfold longest; omega) fun b hb => by
      have h4:=g.sm.2.2.2 b hb
      unfold longest
      omega
     have hRN:N ≤ R:=by have:=HPR.out; omega
     rw [HN.out]
     exact ⟨hR.1,hR.2,(H5.out.fin hRN _ _).2⟩
    clear hS hO5
    go_wp2_with fail
    have rr9:((w5.setCell ⟨R,0,none⟩ (.slice av2 nv2 cv2)).setCell ⟨R,1,none⟩ (.slice ab2 nb2 cb2)).rowIs R 30 2 (fun q => if q = 0 then .slice av2 nv2 cv2 else .slice ab2 nb2 cb2):=((H5.out.row.set 0 _).set 1 _).congr fun q hq => by match q,hq with | 0,_ => rfl | 1,_ => rfl
    have g0:=rr9.cell (i:=0) (by omega)
    have g1:=rr9.cell (i:=1) (by omega)
    simp only [if_true,Nat.one_ne_zero,if_false] at g0 g1
    refine bodyPost_ret (v:=.agg #[.slice av2 nv2 cv2,.slice ab2 nb2 cb2]) ?_ rfl ⟨_,_,rfl,HE.out⟩
    simp [results,Try.results6,go_sem,g0,g1]
end Go.Proofs.Ytglfpnnfcpnmoaa
