/-
  The contract of the mason's 'loop'.
-/
import Derived.Test.YtglfpnnfcpnmoaaW3f
namespace Go.Proofs.Ytglfpnnfcpnmoaa
open Go.RowKit
set_option linter.unusedVariables false
theorem ringM_at (s:Ms) (p:Pc) (c:Int) (p1 p2:Pc) (rv ru:Ms × Int) (rh:Ms × Nat) (s1 s2 s3:Ms) (rb ro:Ms × Nat) (s4a s4 t:Ms) (hc:pickedOf p.c 2 = c) (hrv:rv = newestM s c p) (hru:ru = newestM rv.1 0 p) (hrh:rh = blockM ru.1 [c,0]) (h1:s1 = edgeM rh.1 rh.1.cur rh.2 [rv.2,ru.2]) (h2:s2 = { s1 with cur:=rh.2,known:=s1.known ++ (blkAt s1 rh.2).params })
  (hp1:p1 = { p with flags:=if p.flags % 2 = 0 then p.flags + 1 else p.flags }) (h3:s3 = layM s2 p1) (hb:rb = blockM s3 []) (ho:ro = blockM rb.1 []) (h4a:s4a = edgeM ro.1 rh.2 rb.2 []) (h4:s4 = edgeM s4a rh.2 ro.2 []) (hp2:p2 = { p1 with a:=up p1.a,op:=up p1.op }) (ht:t = layM { s4 with cur:=rb.2 } p2) :
  ringM s p = { ({ edgeM (newestM (newestM t c p2).1 0 p2).1 rb.2 rh.2 [(newestM t c p2).2,(newestM (newestM t c p2).1 0 p2).2] with known:=s3.known }:Ms) with cur:=ro.2 }:=by
 subst hc hrv hru hrh h1 h2 hp1 h3 hb ho h4a h4 hp2 ht
 exact ringM_eq s p
set_option maxRecDepth 8000 in
set_option maxHeartbeats 16000000 in
theorem ma_loop (N:Nat) (κ:Nat → Nat) (w:World) (P:Nat) (s:Ms) (p:Pc) (B:Nat) (h:MaO N κ w P s) (hg:Good B s) (hB:B ≤ 900) (hE:(blkAt s s.cur).edges = []) (hp:PcOk p) :
  Calls Try.prog 15 #[.pointer (some ⟨P,0,none⟩),.agg #[.int .i64 p.kind,.int .i64 p.op,.int .i64 p.a,.int .i64 p.b,.int .i64 p.c,.int .i64 p.limits,.int .i64 p.flags]] w fun e w' => e = .returned (.tuple #[])∧∃ κ',MaO N κ' w' P (ringM s p)∧Only MR κ κ' w w':=by
 obtain ⟨i3,hi3,hz3,hz31,hz32⟩:=info_parts infoMI
 obtain ⟨cc0,cc1⟩:=hp.c
 obtain ⟨ff0,ff1⟩:=hp.flags
 have hc:=pick2 p.c
 obtain ⟨c,hcd⟩:∃ c,pickedOf p.c 2 = c:=⟨_,rfl⟩
 have HPC:Hid (pickedOf p.c 2 = c):=hcd
 rw [hcd] at hc
 clear hcd
 obtain ⟨p1,hp1⟩:∃ p1:Pc,p1 = { p with flags:=if p.flags % 2 = 0 then p.flags + 1 else p.flags }:=⟨_,rfl⟩
 obtain ⟨p2,hp2⟩:∃ p2:Pc,p2 = { p1 with a:=up p1.a,op:=up p1.op }:=⟨_,rfl⟩
 obtain ⟨rv,hrv⟩:∃ rv,rv = newestM s c p:=⟨_,rfl⟩
 obtain ⟨ru,hru⟩:∃ ru,ru = newestM rv.1 0 p:=⟨_,rfl⟩
 obtain ⟨rh,hrh⟩:∃ rh,rh = blockM ru.1 [c,0]:=⟨_,rfl⟩
 obtain ⟨s1,hs1⟩:∃ s1,s1 = edgeM rh.1 rh.1.cur rh.2 [rv.2,ru.2]:=⟨_,rfl⟩
 obtain ⟨s2,hs2⟩:∃ s2:Ms,s2 = { s1 with cur:=rh.2,known:=s1.known ++ (blkAt s1 rh.2).params }:=⟨_,rfl⟩
 obtain ⟨s3,hs3⟩:∃ s3,s3 = layM s2 p1:=⟨_,rfl⟩
 obtain ⟨rb,hrb⟩:∃ rb,rb = blockM s3 []:=⟨_,rfl⟩
 obtain ⟨ro,hro⟩:∃ ro,ro = blockM rb.1 []:=⟨_,rfl⟩
 obtain ⟨s4a,hs4a⟩:∃ s4a,s4a = edgeM ro.1 rh.2 rb.2 []:=⟨_,rfl⟩
 obtain ⟨s4,hs4⟩:∃ s4,s4 = edgeM s4a rh.2 ro.2 []:=⟨_,rfl⟩
 obtain ⟨t,ht⟩:∃ t,t = layM { s4 with cur:=rb.2 } p2:=⟨_,rfl⟩
 have HRG:Hid (ringM s p = { ({ edgeM (newestM (newestM t c p2).1 0 p2).1 rb.2 rh.2 [(newestM t c p2).2,(newestM (newestM t c p2).1 0 p2).2] with known:=s3.known }:Ms) with cur:=ro.2 }):=ringM_at s p c p1 p2 rv ru rh s1 s2 s3 rb ro s4a s4 t HPC.out hrv hru hrh hs1 hs2 hp1 hs3 hrb hro hs4a hs4 hp2 ht
 obtain ⟨P0,P1,hF⟩:=ring_steps p p1 hg hE c hc rv ru rh s1 s2 s3 rb ro s4a s4 hrv hru hrh hs1 hs2 hs3 hrb hro hs4a hs4
 have HF:Hid (RingS B s c p rv ru rh s1 s2 s3 rb ro s4a s4 P0 P1):=hF
 have HQ:Hid (rv = newestM s c p∧ru = newestM rv.1 0 p∧rh = blockM ru.1 [c,0]∧s1 = edgeM rh.1 rh.1.cur rh.2 [rv.2,ru.2]∧s2 = { s1 with cur:=rh.2,known:=s1.known ++ (blkAt s1 rh.2).params }∧s3 = layM s2 p1∧rb = blockM s3 []∧ro = blockM rb.1 []∧s4a = edgeM ro.1 rh.2 rb.2 []∧s4 = edgeM s4a rh.2 ro.2 []∧t = layM { s4 with cur:=rb.2 } p2):=⟨hrv,hru,hrh,hs1,hs2,hs3,hrb,hro,hs4a,hs4,ht⟩
 have HPS:Hid (p1 = { p with flags:=if p.flags % 2 = 0 then p.flags + 1 else p.flags }∧p2 = { p1 with a:=up p1.a,op:=up p1.op }):=⟨hp1,hp2⟩
 clear hrv hru hrh hs1 hs2 hs3 hrb hro hs4a hs4 ht hp1 hp2 hF
 have HC0:Hid (c = 0 ∨ c = 1):=hc
 have HPO:Hid (PcOk p):=hp
 obtain ⟨X,hX⟩:∃ X,w.heap.size = X:=⟨_,rfl⟩
 have hF0:=FoS.start h p hX
 obtain ⟨W,hW⟩:∃ W,W = w.alloc (.cells #[.int .i64 p.kind,.int .i64 p.op,.int .i64 p.a,.int .i64 p.b,.int .i64 p.c,.int .i64 p.limits,.int .i64 p.flags] 62):=⟨_,rfl⟩
 rw [← hW] at hF0
 have HW:Hid (W = w.alloc (.cells #[.int .i64 p.kind,.int .i64 p.op,.int .i64 p.a,.int .i64 p.b,.int .i64 p.c,.int .i64 p.limits,.int .i64 p.flags] 62)):=hW
 have HX:Hid (w.heap.size = X):=hX
 have hsz:=hg.sizes (by omega)
 have HN1:=ma_newest N (upK κ X 5) W P s c p hF0.ma hg.ok hp hc hsz.1 hsz.2.1 hsz.2.2.1 hsz.2.2.2.1
 rw [← HQ.out.1] at HN1
 have H0:Hid (FoS N κ w X P s p (upK κ X 5) W):=hF0
 obtain ⟨x0,x1,x2,x3,x4,x5,x6⟩:=hF0.cells
 have hcur:=hg.ok.cur
 clear hW hX hF0 hsz h hg hE hp hc
 go_enter Try.func15,Try.ntmps15
 go_upto_region 2 with (go_at_call 12; refine (picked_is _ _ _ _ HPC.out (by omega) (by omega) (by omega) (by omega)).mono ?_; rintro e w' ⟨rfl,rfl⟩)
 rw [← HW.out,HX.out]
 clear HW
 go_wp2_with fail
 refine HN1.mono ?_
 clear HN1 x0 x1 x2 x3 x4 x5 x6
 rintro e w1 ⟨rfl,κ1,hM1,hO1⟩
 have H1:Hid (FoS N κ w X P rv.1 p κ1 w1):=H0.out.call hM1 hO1
 clear H0 hM1 hO1
 have hsz1:=HF.out.gv.sizes (by omega)
 have HN2:=ma_newest N κ1 w1 P rv.1 0 p H1.out.ma HF.out.gv.ok HPO.out (Or.inl rfl) hsz1.1 hsz1.2.1 hsz1.2.2.1 hsz1.2.2.2.1
 rw [← HQ.out.2.1] at HN2
 obtain ⟨x0,x1,x2,x3,x4,x5,x6⟩:=H1.out.cells
 clear hsz1
 go_wp2_with fail
 refine HN2.mono ?_
 clear HN2 x0 x1 x2 x3 x4 x5 x6
 rintro e w2 ⟨rfl,κ2,hM2,hO2⟩
 have H2:Hid (FoS N κ w X P ru.1 p κ2 w2):=H1.out.call hM2 hO2
 clear H1 hM2 hO2
 -- the head
 obtain ⟨nb,hnb⟩:∃ nb,s.f.blocks.length = nb:=⟨_,rfl⟩
 have HNB:Hid (s.f.blocks.length = nb):=hnb
 have hcn:s.cur < nb:=by rw [← hnb]; exact hcur
 clear hnb
 have hsz2:=HF.out.gu.sizes (by omega)
 have hb3:Below w2.heap.size w2 (w2.alloc (.cells #[.int .i64 c,.int .i64 0] 3)):=(Below.refl _ _).alloc (Nat.le_refl _) _
 have HB1:=ma_block N κ2 (w2.alloc (.cells #[.int .i64 c,.int .i64 0] 3)) P ru.1 (.slice (some ⟨w2.heap.size,0,none⟩) 2 2) [c,0] (H2.out.ma.below hb3) (two_slk c 0 H2.out.ma.fresh) (by omega) (by omega) (by simp)
 rw [← HQ.out.2.2.1] at HB1
 have hlu:ru.1.f.blocks.length = nb:=by rw [← HNB.out,← HF.out.ih,HQ.out.2.2.1]; rfl
 rw [hlu] at HB1
 have H2':Hid (FoS N κ w X P ru.1 p κ2 (w2.alloc (.cells #[.int .i64 c,.int .i64 0] 3))):=H2.out.below hb3
 have hnbb:nb ≤ 1000:=by have:=hsz2.2.2.1; omega
 clear hsz2 hb3 H2
 go_wp2_with fail
 refine HB1.mono ?_
 clear HB1
 rintro e w3 ⟨rfl,κ3,hM3,hO3⟩
 have H3:Hid (FoS N κ w X P rh.1 p κ3 w3):=H2'.out.call hM3 hO3
 clear H2' hM3 hO3
 -- the edge to it
 have hlh:rh.1.f.blocks.length = nb + 1:=by rw [HQ.out.2.2.1,blockM_len,hlu]
 have hsz3:=HF.out.gh.sizes (by omega)
 have hb4:Below w3.heap.size w3 (w3.alloc (.cells #[.int .i64 rv.2,.int .i64 ru.2] 3)):=(Below.refl _ _).alloc (Nat.le_refl _) _
 have HE1:=ma_edge N κ3 (w3.alloc (.cells #[.int .i64 rv.2,.int .i64 ru.2] 3)) P rh.1 s.cur nb (.slice (some ⟨w3.heap.size,0,none⟩) 2 2) [rv.2,ru.2] (H3.out.ma.below hb4) (by omega) (two_slk rv.2 ru.2 H3.out.ma.fresh) (by omega) (hsz3.2.2.2.2 _ _) (by omega)
 have hq1:edgeM rh.1 s.cur nb [rv.2,ru.2] = s1:=by rw [HQ.out.2.2.2.1,HF.out.curh,HF.out.ih,HNB.out]
 rw [hq1] at HE1
 have q4:w3.cell? ⟨P,4,none⟩ = some (.int .i64 s.cur):=by
  obtain ⟨vv,vb,vk,al,bx,hS⟩:=H3.out.ma
  have:=hS.cells.2.2.2.2.1
  rw [HF.out.curh] at this
  exact this
 have H3':Hid (FoS N κ w X P rh.1 p κ3 (w3.alloc (.cells #[.int .i64 rv.2,.int .i64 ru.2] 3))):=H3.out.below hb4
 clear hsz3 hb4 hq1 H3
 go_wp2_with fail
 refine HE1.mono ?_
 clear HE1 q4
 rintro e w4 ⟨rfl,κ4,hM4,hO4⟩
 have H4:Hid (FoS N κ w X P s1 p κ4 w4):=H3'.out.call hM4 hO4
 clear H3' hM4 hO4
 -- the head is laid,its params are known
 obtain ⟨hcu,p4,pz4⟩:=H4.out.cur nb
 obtain ⟨W5,hW5⟩:∃ W5,W5 = w4.setCell ⟨P,4,none⟩ (.int .i64 nb):=⟨_,rfl⟩
 rw [← hW5] at hcu
 have HW5:Hid (W5 = w4.setCell ⟨P,4,none⟩ (.int .i64 nb)):=hW5
 have hl1:s1.f.blocks.length = nb + 1:=by rw [HQ.out.2.2.2.1,edgeM_len]; exact hlh
 have hlf:nb < s1.f.blocks.length:=by omega
 have hpar:s1.f.blocks[nb].params = [P0,P1]:=by rw [← blkAt_eq hlf,← HNB.out]; exact HF.out.par
 have hs2:s2 = { s1 with cur:=nb,known:=s1.known ++ [P0,P1] }:=by rw [HQ.out.2.2.2.2.1,HF.out.ih,HF.out.par,HNB.out]
 have HS2:Hid (s2 = { s1 with cur:=nb,known:=s1.known ++ [P0,P1] }):=hs2
 have hkn1:s1.known.length ≤ 6000:=by have:=(HF.out.g1.sizes (by omega)).1; omega
 have H5:Hid (FoS N κ w X P { s1 with cur:=nb } p κ4 W5):=hcu
 obtain ⟨vv,vb,vk,al,bx,hS⟩:=hcu.ma
 obtain ⟨gb,cb,rfl,hgN,hgl⟩:=hS.ob.form (by show 0 < s1.f.blocks.length; omega)
 have hBB:=hS.blk nb hlf
 have hbp:SlK κ4 W5 1 RInt (bx nb).1 [P0,P1]:=by have:=hBB.par; rw [← hpar]; exact this
 have q3:=hS.cells.2.2.2.1
 have q5:=hS.cells.2.2.2.2.2.1
 have qz:=hS.row.frozen 5
 have qp:=(hS.at nb hlf).1
 have hok:W5.ownsRow N 3 1 vk s1.known.length (s1.known.flatMap cI):=hS.ok
 have HS5:Hid (MaS N κ4 W5 P { s1 with cur:=nb } vv (.slice (some ⟨gb,0,none⟩) s1.f.blocks.length cb) vk al bx):=hS
 generalize hvp:(bx nb).1 = vp at *
 obtain ⟨vpa,vpc,rfl,_⟩:=hbp.1.out
 obtain ⟨b5,off5,cs0,rfl,_,hR0,hc0⟩:=hbp.1.at 0 (by simp)
 obtain ⟨b6,off6,cs1,hb6,_,hR1,hc1⟩:=hbp.1.at 1 (by simp)
 simp only [Option.some.injEq,Addr.mk.injEq] at hb6
 obtain ⟨rfl,rfl,_⟩:=hb6
 unfold RInt at hR0 hR1
 subst hR0
 subst hR1
 have n0:=hc0 0 (by simp)
 have n1:=hc1 0 (by simp)
 simp at n0 n1
 have HNEW:Hid (∀ i u,([.int .i64 P0,.int .i64 P1]:List Value)[i]? = some u → W5.drew.cell? ((⟨b5,off5,none⟩:Addr).add i) = some u):=fun i u hu => by
  have hadd:(⟨b5,off5,none⟩:Addr).add i = ⟨b5,off5 + i,none⟩:=by unfold Addr.add; split <;> simp_all
  rw [hadd]
  match i,hu with
  | 0,hu => simp at hu; rw [← hu]; exact n0
  | 1,hu => simp at hu; rw [← hu]; exact n1
 have hone:∀ u ∈ ([.int .i64 P0,.int .i64 P1]:List Value),u.oneCell' = true:=fun u hu => by simp at hu; rcases hu with rfl | rfl <;> rfl
 have hNs:=hS.szN
 have hPl:=hS.row.lt
 have nP:some P ≠ vk.ownBlock:=fun e => by have:=hS.kk P e.symm; rw [hS.kP] at this; omega
 have nG:some gb ≠ vk.ownBlock:=fun e => by have h1:=hS.kk gb e.symm; rw [hS.kb gb rfl] at h1; omega
 have oA:=hok.drew
 clear hW5 hcu hS hBB hok hvp hc0 hc1 hpar n0 n1 H4 hs2
 generalize hnk2:s1.known.length = nk2 at *
 have HNK2:Hid (s1.known.length = nk2):=hnk2
 simp only at q3
 obtain ⟨lf,hlen⟩:∃ lf,s1.f.blocks.length = lf:=⟨_,rfl⟩
 rw [hlen] at q3 hlf
 clear hnk2 hlen hl1
 go_upto_region 7 with fail
 rw [← HW5.out]
 clear HW5 p4 pz4
 refine wp_region_X (fun w' => w'.cell? ⟨P,5,none⟩ = some vk∧w'.cell? ⟨P,3,none⟩ = some (.slice (some ⟨gb,0,none⟩) lf cb)∧w'.cell? ⟨gb,nb * 3,none⟩ = some (.slice (some ⟨b5,off5,none⟩) 2 vpc)) 17 (by kernel_rfl) ⟨q5,q3,qp⟩ (fun hHeld => ?_)
 refine wpXt 0 rfl (v:=?_) (by kernel_rfl) (fun _ _ _ h => h) (by rfl) ?_ hHeld ?_
 rotate_left
 ·intro w' hSw
  go_simp <;> with_reducible rfl
 try simp only [Act.put,List.setIfInBounds_toArray,List.set_cons_zero,List.set_cons_succ]
 refine wpXt 1 rfl (v:=?_) (by kernel_rfl) (fun _ _ _ h => h) (by rfl) ?_ hHeld ?_
 rotate_left
 ·intro w' hSw
  go_simp <;> with_reducible rfl
 try simp only [Act.put,List.setIfInBounds_toArray,List.set_cons_zero,List.set_cons_succ]
 refine wpXt 2 rfl (v:=?_) (by kernel_rfl) (fun _ _ _ h => h) (by rfl) ?_ hHeld ?_
 rotate_left
 ·intro w' hSw
  go_simp <;> with_reducible rfl
 try simp only [Act.put,List.setIfInBounds_toArray,List.set_cons_zero,List.set_cons_succ]
 refine wpXt 3 rfl (v:=?_) (by kernel_rfl) (fun _ _ _ h => h) (by rfl) ?_ hHeld ?_
 rotate_left
 ·intro w' hSw
  go_simp <;> with_reducible rfl
 try simp only [Act.put,List.setIfInBounds_toArray,List.set_cons_zero,List.set_cons_succ]
 refine wpXt 4 rfl (v:=?_) (by kernel_rfl) (fun _ _ _ h => h) (by rfl) ?_ hHeld ?_
 rotate_left
 ·intro w' hSw
  go_simp <;> with_reducible rfl
 try simp only [Act.put,List.setIfInBounds_toArray,List.set_cons_zero,List.set_cons_succ]
 refine wpXt 5 rfl (v:=?_) (by kernel_rfl) (fun _ _ _ h => h) (by rfl) ?_ hHeld ?_
 rotate_left
 ·intro w' hSw
  go_simp <;> with_reducible rfl
 try simp only [Act.put,List.setIfInBounds_toArray,List.set_cons_zero,List.set_cons_succ]
 refine wpXt 6 rfl (v:=?_) (by kernel_rfl) (fun _ _ _ h => h) (by rfl) ?_ hHeld ?_
 rotate_left
 ·intro w' hSw
  go_simp <;> with_reducible rfl
 try simp only [Act.put,List.setIfInBounds_toArray,List.set_cons_zero,List.set_cons_succ]
 refine wpXt 7 rfl (v:=?_) (by kernel_rfl) (fun _ _ _ h => h) (by rfl) ?_ hHeld ?_
 rotate_left
 ·intro w' hSw
  go_simp <;> with_reducible rfl
 try simp only [Act.put,List.setIfInBounds_toArray,List.set_cons_zero,List.set_cons_succ]
 refine wpXt 8 rfl (v:=?_) (by kernel_rfl) (fun _ _ _ h => h) (by rfl) ?_ hHeld ?_
 rotate_left
 ·intro w' hSw
  go_simp <;> with_reducible rfl
 try simp only [Act.put,List.setIfInBounds_toArray,List.set_cons_zero,List.set_cons_succ]
 refine wpXt 9 rfl (v:=?_) (by kernel_rfl) (fun _ _ _ h => h) (by rfl) ?_ hHeld ?_
 rotate_left
 ·intro w' hSw
  go_simp <;> with_reducible rfl
 try simp only [Act.put,List.setIfInBounds_toArray,List.set_cons_zero,List.set_cons_succ]
 refine wpXt 10 rfl (v:=?_) (by kernel_rfl) (fun _ _ _ h => h) (by rfl) ?_ hHeld ?_
 rotate_left
 ·intro w' hSw
  go_simp <;> with_reducible rfl
 try simp only [Act.put,List.setIfInBounds_toArray,List.set_cons_zero,List.set_cons_succ]
 refine wpXt 11 rfl (v:=?_) (by kernel_rfl) (fun _ _ _ h => h) (by rfl) ?_ hHeld ?_
 rotate_left
 ·intro w' hSw
  go_simp <;> with_reducible rfl
 try simp only [Act.put,List.setIfInBounds_toArray,List.set_cons_zero,List.set_cons_succ]
 refine wpXt 12 rfl (v:=?_) (by kernel_rfl) (fun _ _ _ h => h) (by rfl) ?_ hHeld ?_
 rotate_left
 ·intro w' hSw
  go_simp <;> with_reducible rfl
 try simp only [Act.put,List.setIfInBounds_toArray,List.set_cons_zero,List.set_cons_succ]
 refine wpXt 13 rfl (v:=?_) (by kernel_rfl) (fun _ _ _ h => h) (by rfl) ?_ hHeld ?_
 rotate_left
 ·intro w' hSw
  go_simp <;> with_reducible rfl
 try simp only [Act.put,List.setIfInBounds_toArray,List.set_cons_zero,List.set_cons_succ]
 refine wpXs 14 rfl (by kernel_rfl) (fun K hK => ?_)
 refine step_append_lies _ (by rfl) _ _ _ (by rfl) N 3 i3 _ 1 8 Try.underlying27 hi3 hz3 hz31 hz32 rfl (by omega) vk nk2 _ (by rfl) oA ⟨b5,off5,none⟩ 2 vpc [.int .i64 P0,.int .i64 P1] (by rfl) (by rfl) HNEW.out hone (by omega) (by unfold maxLen; omega) (by omega) hNs (W5.heap.size) rfl ?_
 intro g cap wb hown hgrow hat hgl'
 have r5:=(hgrow.cell_far ⟨P,5,none⟩ hPl nP).trans q5
 have rz:=(hgrow.frozen_far ⟨P,5,none⟩ hPl nP).trans qz
 have r3:=(hgrow.cell_far ⟨P,3,none⟩ hPl nP).trans q3
 have rp:=(hgrow.cell_far ⟨gb,nb * 3,none⟩ hgl nG).trans qp
 refine hK.out _ _ ⟨r5,r3,rp⟩ (fun hHeld => ?_)
 clear hK K
 try simp only [Act.put,List.setIfInBounds_toArray,List.set_cons_zero,List.set_cons_succ]
 refine wpXs 15 rfl (by kernel_rfl) (fun K hK => ?_)
 go_simp
 refine hK.out _ _ ⟨r5,r3,rp⟩ (fun hHeld => ?_)
 clear hK K
 try simp only [Act.put,List.setIfInBounds_toArray,List.set_cons_zero,List.set_cons_succ]
 refine wpXs 16 rfl (by kernel_rfl) (fun K hK => ?_)
 go_simp
 refine hK.out _ _ ⟨r5,r3,rp⟩ (fun hHeld => ?_)
 clear hK K
 try simp only [Act.put,List.setIfInBounds_toArray,List.set_cons_zero,List.set_cons_succ]
 refine wpXl 17 rfl (by kernel_rfl) rfl (by kernel_rfl) (fun K hK => ?_)
 go_simp
 refine hK.out _ _ ?_
 clear hK K
 have hown':wb.ownsRow N 3 1 (.slice (some ⟨g,0,none⟩) (nk2 + 2) cap) (nk2 + 2) ((s1.known ++ [P0,P1]).flatMap cI):=by rw [List.flatMap_append]; exact hown
 obtain ⟨hM6,hO6⟩:=HS5.out.putK (kn:=s1.known ++ [P0,P1]) (m:=nk2 + 2) (((Below.refl _ _)).drew) hgrow (fun _ h => h) hown' (by rw [List.length_append,HNK2.out]; rfl) hat
 have hF6:FoS N κ w X P s2 p (upK κ4 g 3) (wb.setCell ⟨P,5,none⟩ (.slice (some ⟨g,0,none⟩) (nk2 + 2) cap)):=by
  rw [HS2.out]
  exact H5.out.call ⟨_,_,_,_,_,hM6⟩ (hO6.mono fun r hr => by unfold MR; omega)
 obtain ⟨w6,hw6⟩:∃ w6,w6 = wb.setCell ⟨P,5,none⟩ (.slice (some ⟨g,0,none⟩) (nk2 + 2) cap):=⟨_,rfl⟩
 rw [← hw6] at hF6
 rw [← hw6]
 generalize upK κ4 g 3 = κ6 at hF6
 -- flags
 have hF7:FoS N κ w X P s2 p1 κ6 (w6.setCell ⟨X,6,none⟩ (.int .i64 (bits .or .i64 p.flags 1))):=by
  rw [HPS.out.1]
  exact hF6.setP 6 _ _ fun q hq => by match q,hq with | 0,_ => rfl | 1,_ => rfl | 2,_ => rfl | 3,_ => rfl | 4,_ => rfl | 5,_ => rfl | 6,_ => (show Value.int .i64 (bits .or .i64 p.flags 1) = .int .i64 _; rw [or_one p.flags ff0 ff1])
 obtain ⟨w7,hw7⟩:∃ w7,w7 = w6.setCell ⟨X,6,none⟩ (.int .i64 (bits .or .i64 p.flags 1)):=⟨_,rfl⟩
 rw [← hw7] at hF7
 have HW7:Hid (w7 = w6.setCell ⟨X,6,none⟩ (.int .i64 (bits .or .i64 p.flags 1))):=hw7
 have x6:w6.cell? ⟨X,6,none⟩ = some (.int .i64 p.flags):=hF6.cells.2.2.2.2.2.2
 have xz6:=hF6.row.frozen 6
 have hpo1:PcOk p1:=by
  rw [HPS.out.1]
  exact ⟨HPO.out.op,HPO.out.a,HPO.out.b,HPO.out.c,HPO.out.limits,by show _ ≤ (if p.flags % 2 = 0 then p.flags + 1 else p.flags)∧_; simp only; split <;> omega⟩
 have HPO1:Hid (PcOk p1):=hpo1
 have hsz:=HF.out.g2.sizes (by omega)
 have HL:=ma_lay N κ6 w7 P s2 p1 hF7.ma HF.out.g2.ok hpo1 hsz.1 hsz.2.1 hsz.2.2.1 hsz.2.2.2.1
 rw [← HQ.out.2.2.2.2.2.1] at HL
 have H7:Hid (FoS N κ w X P s2 p1 κ6 w7):=hF7
 obtain ⟨y0,y1,y2,y3,y4,y5,y6⟩:=hF7.cells
 clear hown hown' hgrow hat hgl' hM6 hO6 r5 rz r3 rp q5 q3 qp qz oA HNEW hone nP nG hPl hF6 hF7 hw6 hw7 hsz hpo1 H5 HS5
 go_upto_region 9 with fail
 rw [← HW7.out]
 clear HW7 x6 xz6
 go_wp2_with fail
 refine HL.mono ?_
 clear HL y0 y1 y2 y3 y4 y5 y6
 rintro e w8 ⟨rfl,κ8,hM8,hO8⟩
 have H8:Hid (FoS N κ w X P s3 p1 κ8 w8):=H7.out.call hM8 hO8
 clear H7 hM8 hO8
 -- body and what is behind
 have hsz3:=HF.out.g3.sizes (by omega)
 obtain ⟨nk,hnk⟩:∃ nk,s3.known.length = nk:=⟨_,rfl⟩
 have HNK:Hid (s3.known.length = nk):=hnk
 have HNK0:Hid (0 < nk):=by
  have h1:=layM_ok s2 p1 HF.out.g2.ok
  obtain ⟨_,_,_,⟨l,hl,_,hkn⟩,_⟩:=h1
  rw [← HQ.out.2.2.2.2.2.1] at hkn
  show 0 < nk
  rw [← hnk,hkn]
  rcases hl with rfl | rfl <;> simp
 have hnkb:nk ≤ 5000:=by have:=hsz3.1; omega
 have q5:∃ ak ck,w8.cell? ⟨P,5,none⟩ = some (.slice ak nk ck):=by
  obtain ⟨vv,vb,vk,al,bx,hS⟩:=H8.out.ma
  obtain ⟨ak,ck,hvk,_⟩:=(own_ints _ hS.ok (by unfold longest; omega)).out
  have:=hS.cells.2.2.2.2.2.1
  rw [hvk,hnk] at this
  exact ⟨ak,ck,this⟩
 obtain ⟨ak,ck,q5⟩:=q5
 have HB2:=ma_block N κ8 w8 P s3 (.slice none 0 0) [] H8.out.ma (SlK.nil _ _ _ _) (by omega) (by omega) (by simp)
 rw [← HQ.out.2.2.2.2.2.2.1] at HB2
 have hl3:s3.f.blocks.length = nb + 1:=by
  have:rb.2 = s3.f.blocks.length:=by rw [HQ.out.2.2.2.2.2.2.1]; rfl
  rw [← this,HF.out.ib,HNB.out]
 rw [hl3,show ((nb + 1:Nat):Int) = (nb:Int) + 1 by omega] at HB2
 clear hsz3 hnk
 go_wp2_with fail
 refine HB2.mono ?_
 clear HB2 q5
 rintro e w9 ⟨rfl,κ9,hM9,hO9⟩
 have H9:Hid (FoS N κ w X P rb.1 p1 κ9 w9):=H8.out.call hM9 hO9
 clear H8 hM9 hO9
 have hsz9:=HF.out.gb.sizes (by omega)
 have HB3:=ma_block N κ9 w9 P rb.1 (.slice none 0 0) [] H9.out.ma (SlK.nil _ _ _ _) (by omega) (by omega) (by simp)
 rw [← HQ.out.2.2.2.2.2.2.2.1] at HB3
 have hlb:rb.1.f.blocks.length = nb + 2:=by
  have:ro.2 = rb.1.f.blocks.length:=by rw [HQ.out.2.2.2.2.2.2.2.1]; rfl
  rw [← this,HF.out.io,HNB.out]
 rw [hlb,show ((nb + 2:Nat):Int) = (nb:Int) + 2 by omega] at HB3
 clear hsz9
 go_wp2_with fail
 refine HB3.mono ?_
 clear HB3
 rintro e w10 ⟨rfl,κ10,hM10,hO10⟩
 have H10:Hid (FoS N κ w X P ro.1 p1 κ10 w10):=H9.out.call hM10 hO10
 clear H9 hM10 hO10
 have hlo:ro.1.f.blocks.length = nb + 3:=by rw [HQ.out.2.2.2.2.2.2.2.1,blockM_len,hlb]
 have hsz10:=HF.out.go.sizes (by omega)
 have HE2:=ma_edge N κ10 w10 P ro.1 nb (nb + 1) (.slice none 0 0) [] H10.out.ma (by omega) (SlK.nil _ _ _ _) (by omega) (hsz10.2.2.2.2 _ _) (by omega)
 have hq2:edgeM ro.1 nb (nb + 1) [] = s4a:=by rw [HQ.out.2.2.2.2.2.2.2.2.1,HF.out.ih,HF.out.ib,HNB.out]
 rw [hq2,show ((nb + 1:Nat):Int) = (nb:Int) + 1 by omega] at HE2
 clear hq2 hsz10
 go_wp2_with fail
 refine HE2.mono ?_
 clear HE2
 rintro e w11 ⟨rfl,κ11,hM11,hO11⟩
 have H11:Hid (FoS N κ w X P s4a p1 κ11 w11):=H10.out.call hM11 hO11
 clear H10 hM11 hO11
 have hl4a:s4a.f.blocks.length = nb + 3:=by rw [HQ.out.2.2.2.2.2.2.2.2.1,edgeM_len]; exact hlo
 have hsz11:=HF.out.g4a.sizes (by omega)
 have HE3:=ma_edge N κ11 w11 P s4a nb (nb + 2) (.slice none 0 0) [] H11.out.ma (by omega) (SlK.nil _ _ _ _) (by omega) (hsz11.2.2.2.2 _ _) (by omega)
 have hq3:edgeM s4a nb (nb + 2) [] = s4:=by rw [HQ.out.2.2.2.2.2.2.2.2.2.1,HF.out.ih,HF.out.io,HNB.out]
 rw [hq3,show ((nb + 2:Nat):Int) = (nb:Int) + 2 by omega] at HE3
 clear hq3 hsz11
 go_wp2_with fail
 refine HE3.mono ?_
 clear HE3
 rintro e w12 ⟨rfl,κ12,hM12,hO12⟩
 have H12:Hid (FoS N κ w X P s4 p1 κ12 w12):=H11.out.call hM12 hO12
 clear H11 hM12 hO12
 -- the body
 obtain ⟨hcu,p4,pz4⟩:=H12.out.cur (nb + 1)
 rw [show ((nb + 1:Nat):Int) = (nb:Int) + 1 by omega] at hcu
 have hF13:FoS N κ w X P { s4 with cur:=nb + 1 } { p1 with a:=up p1.a } κ12 ((w12.setCell ⟨P,4,none⟩ (.int .i64 ((nb:Int) + 1))).setCell ⟨X,2,none⟩ (.int .i64 (wrap64 (p1.a + 1)))):=hcu.setP 2 _ _ fun q hq => by match q,hq with | 0,_ => rfl | 1,_ => rfl | 2,_ => rfl | 3,_ => rfl | 4,_ => rfl | 5,_ => rfl | 6,_ => rfl
 have hF14:FoS N κ w X P { s4 with cur:=nb + 1 } p2 κ12 (((w12.setCell ⟨P,4,none⟩ (.int .i64 ((nb:Int) + 1))).setCell ⟨X,2,none⟩ (.int .i64 (wrap64 (p1.a + 1)))).setCell ⟨X,1,none⟩ (.int .i64 (wrap64 (p1.op + 1)))):=by
  rw [HPS.out.2]
  exact hF13.setP 1 _ _ fun q hq => by match q,hq with | 0,_ => rfl | 1,_ => rfl | 2,_ => rfl | 3,_ => rfl | 4,_ => rfl | 5,_ => rfl | 6,_ => rfl
 obtain ⟨w14,hw14⟩:∃ w14,w14 = ((w12.setCell ⟨P,4,none⟩ (.int .i64 ((nb:Int) + 1))).setCell ⟨X,2,none⟩ (.int .i64 (wrap64 (p1.a + 1)))).setCell ⟨X,1,none⟩ (.int .i64 (wrap64 (p1.op + 1))):=⟨_,rfl⟩
 rw [← hw14] at hF14
 have HW14:Hid (w14 = ((w12.setCell ⟨P,4,none⟩ (.int .i64 ((nb:Int) + 1))).setCell ⟨X,2,none⟩ (.int .i64 (wrap64 (p1.a + 1)))).setCell ⟨X,1,none⟩ (.int .i64 (wrap64 (p1.op + 1)))):=hw14
 have hPX:P ≠ X:=fun e => by have h1:=H12.out.ma.kP.1; rw [e,H12.out.k5] at h1; omega
 have hXP:X ≠ P:=fun e => hPX e.symm
 have xa:w12.cell? ⟨X,2,none⟩ = some (.int .i64 p1.a):=H12.out.cells.2.2.1
 have xo:w12.cell? ⟨X,1,none⟩ = some (.int .i64 p1.op):=H12.out.cells.2.1
 have xza:=H12.out.row.frozen 2
 have xzo:=H12.out.row.frozen 1
 have hpo2:PcOk p2:=by rw [HPS.out.2]; exact HPO1.out.a1.op1
 have g0:Good (B + 16) { s4 with cur:=nb + 1 }:=HF.out.g4.turn (nb + 1) s4.known (by rw [HF.out.len,HNB.out]; omega) HF.out.g4.ok.kn HF.out.g4.sm.1
 have hsz:=g0.sizes (by omega)
 have HL2:=ma_lay N κ12 w14 P { s4 with cur:=nb + 1 } p2 hF14.ma g0.ok hpo2 hsz.1 hsz.2.1 hsz.2.2.1 hsz.2.2.2.1
 have hqt:layM { s4 with cur:=nb + 1 } p2 = t:=by rw [HQ.out.2.2.2.2.2.2.2.2.2.2,HF.out.ib,HNB.out]
 rw [hqt] at HL2
 have HT1:Hid (Good (B + 16) { s4 with cur:=nb + 1 }∧Lays { s4 with cur:=nb + 1 } t 1∧PcOk p2):=⟨g0,by rw [← hqt]; exact lay_lays _ _ g0.ok,hpo2⟩
 have H14:Hid (FoS N κ w X P { s4 with cur:=nb + 1 } p2 κ12 w14):=hF14
 obtain ⟨y0,y1,y2,y3,y4,y5,y6⟩:=hF14.cells
 clear hcu hF13 hF14 hw14 hsz hqt g0 hpo2 H12
 go_upto_region 18 with fail
 rw [← HW14.out]
 clear HW14 p4 pz4 xa xo xza xzo
 go_wp2_with fail
 refine HL2.mono ?_
 clear HL2 y0 y1 y2 y3 y4 y5 y6
 rintro e w15 ⟨rfl,κ15,hM15,hO15⟩
 have H15:Hid (FoS N κ w X P t p2 κ15 w15):=H14.out.call hM15 hO15
 clear H14 hM15 hO15
 have g1:Good (B + 18) t:=(HT1.out.1.lays HT1.out.2.1).mono (by omega)
 obtain ⟨hpgv,hpgz,hplz,hpv,hpz,hpcv,hpcz,_,_⟩:=pair2 g1 c p2 HC0.out
 have hsz1:=g1.sizes (by omega)
 have HN3:=ma_newest N κ15 w15 P t c p2 H15.out.ma g1.ok HT1.out.2.2 HC0.out hsz1.1 hsz1.2.1 hsz1.2.2.1 hsz1.2.2.2.1
 have HKN:Hid (∃ k,(newestM (newestM t c p2).1 0 p2).1.known = s3.known ++ k):=by
  obtain ⟨k1,e1,_⟩:=HT1.out.2.1.kn
  obtain ⟨k2,e2,_⟩:=hplz.kn
  refine ⟨k1 ++ k2,?_⟩
  rw [e2,e1,← List.append_assoc]
  show s4.known ++ k1 ++ k2 = _
  rw [HF.out.kn.2]
 have hlz:(newestM (newestM t c p2).1 0 p2).1.f.blocks.length = nb + 3:=by rw [hplz.len,HT1.out.2.1.len]; show s4.f.blocks.length = _; rw [HF.out.len,HNB.out]
 obtain ⟨y0,y1,y2,y3,y4,y5,y6⟩:=H15.out.cells
 have HGG:Hid (Good (B + 20) (newestM t c p2).1∧Good (B + 22) (newestM (newestM t c p2).1 0 p2).1):=⟨hpgv.mono (by omega),hpgz.mono (by omega)⟩
 clear g1 hpgv hpgz hplz hpv hpz hpcv hpcz hsz1
 generalize newestM t c p2 = rx at *
 go_wp2_with fail
 refine HN3.mono ?_
 clear HN3 y0 y1 y2 y3 y4 y5 y6
 rintro e w16 ⟨rfl,κ16,hM16,hO16⟩
 have H16:Hid (FoS N κ w X P rx.1 p2 κ16 w16):=H15.out.call hM16 hO16
 clear H15 hM16 hO16
 have hszv:=HGG.out.1.sizes (by omega)
 have HN4:=ma_newest N κ16 w16 P rx.1 0 p2 H16.out.ma HGG.out.1.ok HT1.out.2.2 (Or.inl rfl) hszv.1 hszv.2.1 hszv.2.2.1 hszv.2.2.2.1
 obtain ⟨y0,y1,y2,y3,y4,y5,y6⟩:=H16.out.cells
 clear hszv
 generalize newestM rx.1 0 p2 = ry at *
 go_wp2_with fail
 refine HN4.mono ?_
 clear HN4 y0 y1 y2 y3 y4 y5 y6
 rintro e w17 ⟨rfl,κ17,hM17,hO17⟩
 have H17:Hid (FoS N κ w X P ry.1 p2 κ17 w17):=H16.out.call hM17 hO17
 clear H16 hM17 hO17
 have hb18:Below w17.heap.size w17 (w17.alloc (.cells #[.int .i64 rx.2,.int .i64 ry.2] 3)):=(Below.refl _ _).alloc (Nat.le_refl _) _
 have H18:Hid (FoS N κ w X P ry.1 p2 κ17 (w17.alloc (.cells #[.int .i64 rx.2,.int .i64 ry.2] 3))):=H17.out.below hb18
 have hszz:=HGG.out.2.sizes (by omega)
 have HE4:=ma_edge N κ17 (w17.alloc (.cells #[.int .i64 rx.2,.int .i64 ry.2] 3)) P ry.1 (nb + 1) nb (.slice (some ⟨w17.heap.size,0,none⟩) 2 2) [rx.2,ry.2] H18.out.ma (by omega) (two_slk rx.2 ry.2 H17.out.ma.fresh) (by omega) (hszz.2.2.2.2 _ _) (by omega)
 rw [show ((nb + 1:Nat):Int) = (nb:Int) + 1 by omega] at HE4
 clear hb18 hszz H17
 go_wp2_with fail
 refine HE4.mono ?_
 clear HE4
 rintro e w19 ⟨rfl,κ19,hM19,hO19⟩
 have H19:Hid (FoS N κ w X P (edgeM ry.1 (nb + 1) nb [rx.2,ry.2]) p2 κ19 w19):=H18.out.call hM19 hO19
 clear H18 hM19 hO19
 obtain ⟨kx,hkx⟩:=HKN.out
 obtain ⟨vv,vb,vk,al,bx,hS⟩:=H19.out.ma
 have hknE:(edgeM ry.1 (nb + 1) nb [rx.2,ry.2]).known = s3.known ++ kx:=hkx
 have hok:w19.ownsRow N 3 1 vk (s3.known ++ kx).length ((s3.known ++ kx).flatMap cI):=by
  have:=hS.ok
  rw [hknE] at this
  exact this
 have hnk0:0 < nk:=HNK0.out
 obtain ⟨gk,ck2,rfl,hgkN,hgkl⟩:=hok.form (by rw [List.length_append,HNK.out]; omega)
 have HS19:Hid (MaS N κ19 w19 P (edgeM ry.1 (nb + 1) nb [rx.2,ry.2]) vv vb (.slice (some ⟨gk,0,none⟩) (s3.known ++ kx).length ck2) al bx):=hS
 have q5:=hS.cells.2.2.2.2.2.1
 have qz:=hS.row.frozen 5
 have hcap:(s3.known ++ kx).length ≤ ck2:=by
  rcases hok.2 with ⟨h0,_⟩ | ⟨g',cap',cur',hv',_,_,h3,_⟩
  ·simp at h0
  ·simp only [Value.slice.injEq] at hv'
   rw [hv'.2.2]
   exact h3
 have hll:nk ≤ (s3.known ++ kx).length:=by rw [List.length_append,HNK.out]; omega
 have HNEW:Hid (∀ i u,(s3.known.flatMap cI)[i]? = some u → w19.cell? ((⟨gk,0,none⟩:Addr).add i) = some u):=fun i u hu => by
  have hadd:(⟨gk,0,none⟩:Addr).add i = ⟨gk,i,none⟩:=by unfold Addr.add; split <;> simp_all
  rw [hadd]
  refine (own_cell hok i u ?_).1
  rw [List.flatMap_append,List.getElem?_append_left]
  ·exact hu
  ·exact (List.getElem?_eq_some_iff.1 hu).1
 have hone:∀ u ∈ s3.known.flatMap cI,u.oneCell' = true:=fun u hu => by
  obtain ⟨x,_,hx⟩:=List.mem_flatMap.1 hu
  simp [cI] at hx
  rw [hx]
  rfl
 have hlen1:(s3.known.flatMap cI).length = nk * 1:=by rw [flat_length cI 1 (fun _ => rfl),HNK.out]
 have oN:=World.ownsRow_nil w19 N 3 1
 have hNs2:=hS.szN
 have hPl:=hS.row.lt
 have hgkP:some P ≠ (Value.slice none 0 0).ownBlock:=by simp [Value.ownBlock]
 generalize hnn:(s3.known ++ kx).length = nn at *
 clear hok hS hkx hnn
 go_wp2_with (at_builtin; go_must (refine wpList_append_lies _ rfl _ _ 27 rfl N 3 i3 (.int .i64 0) 1 8 Try.underlying27 hi3 hz3 hz31 hz32 rfl (by omega) (.slice none 0 0) 0 [] (by rfl) oN ⟨gk,0,none⟩ nk ck2 (s3.known.flatMap cI) (by rfl) hlen1 HNEW.out hone hnk0 ?c3 ?c4 hNs2 (w19.heap.size) rfl ?_))
 rotate_left
 any_goals (first | (unfold maxLen; omega) | omega)
 intro g cap wb hown hgrow hat hgl2
 have hown':wb.ownsRow N 3 1 (.slice (some ⟨g,0,none⟩) nk cap) nk (s3.known.flatMap cI):=by simpa using hown
 obtain ⟨hM20,hO20⟩:=HS19.out.putK (kn:=s3.known) (m:=nk) (row:=none) (Below.refl _ _) hgrow (fun k h => by cases h) hown' HNK.out (by rcases hat with h | h; (simp [Value.ownBlock] at h); exact Or.inr h)
 have hF20:FoS N κ w X P { edgeM ry.1 (nb + 1) nb [rx.2,ry.2] with known:=s3.known } p2 (upK κ19 g 3) (wb.setCell ⟨P,5,none⟩ (.slice (some ⟨g,0,none⟩) nk cap)):=H19.out.call ⟨_,_,_,_,_,hM20⟩ (hO20.mono fun r hr => by unfold MR; omega)
 obtain ⟨hcu,p4,pz4⟩:=hF20.cur (nb + 2)
 rw [show ((nb + 2:Nat):Int) = (nb:Int) + 2 by omega] at hcu
 have HQE:Hid (∃ κ',MaO N κ' ((wb.setCell ⟨P,5,none⟩ (.slice (some ⟨g,0,none⟩) nk cap)).setCell ⟨P,4,none⟩ (.int .i64 ((nb:Int) + 2))) P (ringM s p)∧Only MR κ κ' w ((wb.setCell ⟨P,5,none⟩ (.slice (some ⟨g,0,none⟩) nk cap)).setCell ⟨P,4,none⟩ (.int .i64 ((nb:Int) + 2)))):=by
  refine ⟨_,?_,hcu.only⟩
  have e:=HRG.out
  rw [HF.out.ib,HF.out.ih,HF.out.io,HNB.out] at e
  rw [e]
  exact hcu.ma
 have q5':=(hgrow.cell_far ⟨P,5,none⟩ hPl hgkP).trans q5
 have qz':=(hgrow.frozen_far ⟨P,5,none⟩ hPl hgkP).trans qz
 have q4':∃ z,wb.cell? ⟨P,4,none⟩ = some (.int .i64 z)∧wb.frozen? ⟨P,4,none⟩ = false:=by
  have h1:=(hgrow.cell_far ⟨P,4,none⟩ hPl hgkP).trans HS19.out.cells.2.2.2.2.1
  have h2:=(hgrow.frozen_far ⟨P,4,none⟩ hPl hgkP).trans (HS19.out.row.frozen 4)
  exact ⟨_,h1,h2⟩
 obtain ⟨z4,q4a,q4b⟩:=q4'
 clear hown hown' hgrow hat hgl2 hM20 hO20 hF20 hcu p4 pz4 q5 qz HS19 H19 HNEW hone
 go_wp2
 go_end0
 exact ⟨rfl,HQE.out⟩
end Go.Proofs.Ytglfpnnfcpnmoaa
