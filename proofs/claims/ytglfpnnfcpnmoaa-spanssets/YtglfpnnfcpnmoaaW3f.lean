/-
  The contract of the mason's 'fork'.
-/
import Derived.Test.YtglfpnnfcpnmoaaW3
namespace Go.Proofs.Ytglfpnnfcpnmoaa
open Go.RowKit
set_option linter.unusedVariables false
def stF (c:Int) (kn:List Int) (e:Nat) (s2:Ms) (p:Pc) (a b:Nat) (more:Bool):Nat → Ms × Pc
 | 0 => (s2,p)
 | 1 => wayM c kn e s2 p a true
 | _ => wayM c kn e (wayM c kn e s2 p a true).1 (wayM c kn e s2 p a true).2 b more
structure WayP (B:Nat) (s2 st:Ms) (p pc:Pc) (nb:Nat) (c P0 P1:Int) (kn:List Int) (i:Nat):Prop where
 good:Good (B + 10 + 7 * i) st
 len:st.f.blocks.length = nb + 3
 takes:Takes st (nb + 2) c P0 P1
 kval:∀ v ∈ kn,isValueB st.f.values.length v = true
 bare:∀ j,i ≤ j → j < 2 → (blkAt st (nb + j)).edges = []
 pok:PcOk pc
 pfl:pc.flags = p.flags
 kn:st.known = kn
theorem flat_take {α:Type} (f:α → List Value) (k:Nat) (hk:∀ x,(f x).length = k) (l:List α) (n:Nat):(l.flatMap f).take (n * k) = (l.take n).flatMap f:=by
 induction l generalizing n with
 | nil => simp
 | cons x r ih =>
  cases n with
  | zero => simp
  | succ n =>
   rw [List.flatMap_cons,List.take_succ_cons,List.flatMap_cons,Nat.succ_mul,Nat.add_comm,List.take_append,hk]
   rw [List.take_of_length_le (by rw [hk]; omega),Nat.add_sub_cancel_left,ih]
set_option maxRecDepth 8000 in
set_option maxHeartbeats 16000000 in
theorem ma_fork (N:Nat) (κ:Nat → Nat) (w:World) (P:Nat) (s:Ms) (p:Pc) (B:Nat) (h:MaO N κ w P s) (hg:Good B s) (hB:B ≤ 900) (hE:(blkAt s s.cur).edges = []) (hp:PcOk p) :
  Calls Try.prog 14 #[.pointer (some ⟨P,0,none⟩),.agg #[.int .i64 p.kind,.int .i64 p.op,.int .i64 p.a,.int .i64 p.b,.int .i64 p.c,.int .i64 p.limits,.int .i64 p.flags]] w fun e w' => e = .returned (.tuple #[])∧∃ κ',MaO N κ' w' P (forkM s p)∧Only MR κ κ' w w':=by
 obtain ⟨i3,hi3,hz3,hz31,hz32⟩:=info_parts infoMI
 obtain ⟨cc0,cc1⟩:=hp.c
 obtain ⟨ff0,ff1⟩:=hp.flags
 have hc:=pick2 p.c
 have HFK:Hid (forkM s p = _):=forkM_eq s p
 obtain ⟨c,hcd⟩:∃ c,pickedOf p.c 2 = c:=⟨_,rfl⟩
 have HPC:Hid (pickedOf p.c 2 = c):=hcd
 rw [hcd] at hc HFK
 clear hcd
 simp only at HFK
 obtain ⟨P0,P1,hF⟩:=fork_steps p hg hE c hc _ _ _ _ _ _ rfl rfl rfl rfl rfl rfl
 obtain ⟨s1,hs1⟩:∃ s1,layM s p = s1:=⟨_,rfl⟩
 rw [hs1] at hF HFK
 obtain ⟨ra,hra⟩:∃ ra,blockM s1 [] = ra:=⟨_,rfl⟩
 rw [hra] at hF HFK
 obtain ⟨rb,hrb⟩:∃ rb,blockM ra.1 [] = rb:=⟨_,rfl⟩
 rw [hrb] at hF HFK
 obtain ⟨re,hre⟩:∃ re,blockM rb.1 [c,0] = re:=⟨_,rfl⟩
 rw [hre] at hF HFK
 obtain ⟨s2a,hs2a⟩:∃ s2a,edgeM re.1 s1.cur ra.2 [] = s2a:=⟨_,rfl⟩
 rw [hs2a] at hF HFK
 obtain ⟨s2,hs2⟩:∃ s2,edgeM s2a s1.cur rb.2 [] = s2:=⟨_,rfl⟩
 rw [hs2] at hF HFK
 have HF:Hid (ForkS B s c s1 ra rb re s2a s2 P0 P1):=hF
 have HQ:Hid (layM s p = s1∧blockM s1 [] = ra∧blockM ra.1 [] = rb∧blockM rb.1 [c,0] = re∧edgeM re.1 s1.cur ra.2 [] = s2a∧edgeM s2a s1.cur rb.2 [] = s2):=⟨hs1,hra,hrb,hre,hs2a,hs2⟩
 clear hs1 hra hrb hre hs2a hs2 hF
 have HC0:Hid (c = 0 ∨ c = 1):=hc
 have HPO:Hid (PcOk p):=hp
 obtain ⟨X,hX⟩:∃ X,w.heap.size = X:=⟨_,rfl⟩
 have hF0:=FoS.start h p hX
 obtain ⟨W,hW⟩:∃ W,W = w.alloc (.cells #[.int .i64 p.kind,.int .i64 p.op,.int .i64 p.a,.int .i64 p.b,.int .i64 p.c,.int .i64 p.limits,.int .i64 p.flags] 62):=⟨_,rfl⟩
 rw [← hW] at hF0
 have HW:Hid (W = w.alloc (.cells #[.int .i64 p.kind,.int .i64 p.op,.int .i64 p.a,.int .i64 p.b,.int .i64 p.c,.int .i64 p.limits,.int .i64 p.flags] 62)):=hW
 have HX:Hid (w.heap.size = X):=hX
 have hsz:=hg.sizes (by omega)
 have HL:=ma_lay N (upK κ X 5) W P s p hF0.ma hg.ok hp hsz.1 hsz.2.1 hsz.2.2.1 hsz.2.2.2.1
 rw [HQ.out.1] at HL
 have H0:Hid (FoS N κ w X P s p (upK κ X 5) W):=hF0
 obtain ⟨x0,x1,x2,x3,x4,x5,x6⟩:=hF0.cells
 have hcur:=hg.ok.cur
 have HG0:Hid (Good B s):=hg
 clear hW hX hF0 hsz h hg hE hp hc
 go_enter Try.func14,Try.ntmps14
 go_upto_region 2 with (go_at_call 12; refine (picked_is _ _ _ _ HPC.out (by omega) (by omega) (by omega) (by omega)).mono ?_; rintro e w' ⟨rfl,rfl⟩)
 rw [← HW.out,HX.out]
 clear HW
 go_wp2_with fail
 refine HL.mono ?_
 clear HL x0 x1 x2 x3 x4 x5 x6
 rintro e w1 ⟨rfl,κ1,hM1,hO1⟩
 have H1:Hid (FoS N κ w X P s1 p κ1 w1):=H0.out.call hM1 hO1
 clear H0 hM1 hO1
 -- the first block
 have hsz1:=HF.out.g1.sizes (by omega)
 have HB1:=ma_block N κ1 w1 P s1 (.slice none 0 0) [] H1.out.ma (SlK.nil _ _ _ _) (by omega) (by omega) (by simp)
 rw [HQ.out.2.1] at HB1
 obtain ⟨vv,vb,vk,al,bx,hS⟩:=H1.out.ma
 have q4:=hS.cells.2.2.2.2.1
 have q5:=hS.cells.2.2.2.2.2.1
 obtain ⟨ak,ck,rfl,_⟩:=(own_ints _ hS.ok (by unfold longest; omega)).out
 rw [HF.out.cur] at q4
 obtain ⟨nk,hnk⟩:∃ nk,s1.known.length = nk:=⟨_,rfl⟩
 have HNK:Hid (s1.known.length = nk):=hnk
 have HNK0:Hid (0 < nk):=by
  have h1:=layM_ok s p HG0.out.ok
  obtain ⟨_,_,_,⟨l,hl,_,hkn⟩,_⟩:=h1
  rw [HQ.out.1] at hkn
  show 0 < nk
  rw [← hnk,hkn]
  rcases hl with rfl | rfl <;> simp
 rw [hnk] at q5
 obtain ⟨nb,hnb⟩:∃ nb,s.f.blocks.length = nb:=⟨_,rfl⟩
 have HNB:Hid (s.f.blocks.length = nb):=hnb
 have hl1:s1.f.blocks.length = nb:=by rw [← HF.out.ia.trans hnb,← HQ.out.2.1]; rfl
 rw [hl1] at HB1
 have hnkb:nk ≤ 5000:=by have:=hsz1.1; omega
 have hnbb:nb ≤ 1000:=by have:=hsz1.2.2.1; omega
 clear hS hnk hnb hl1 hsz1 vv vb al bx
 go_wp2_with fail
 refine HB1.mono ?_
 clear HB1 q4 q5
 rintro e w2 ⟨rfl,κ2,hM2,hO2⟩
 have H2:Hid (FoS N κ w X P ra.1 p κ2 w2):=H1.out.call hM2 hO2
 clear H1 hM2 hO2
 have hsz2:=HF.out.ga.sizes (by omega)
 have HB2:=ma_block N κ2 w2 P ra.1 (.slice none 0 0) [] H2.out.ma (SlK.nil _ _ _ _) (by omega) (by omega) (by simp)
 rw [HQ.out.2.2.1] at HB2
 have hl2:ra.1.f.blocks.length = nb + 1:=by rw [← HNB.out,← HF.out.ib,← HQ.out.2.2.1]; rfl
 rw [hl2] at HB2
 clear hsz2 hl2
 go_wp2_with fail
 refine HB2.mono ?_
 clear HB2
 rintro e w3 ⟨rfl,κ3,hM3,hO3⟩
 have H3:Hid (FoS N κ w X P rb.1 p κ3 w3):=H2.out.call hM3 hO3
 clear H2 hM3 hO3
 -- the block where they meet
 have hsz3:=HF.out.gb.sizes (by omega)
 have hb4:Below w3.heap.size w3 (w3.alloc (.cells #[.int .i64 c,.int .i64 0] 3)):=(Below.refl _ _).alloc (Nat.le_refl _) _
 have HB3:=ma_block N κ3 (w3.alloc (.cells #[.int .i64 c,.int .i64 0] 3)) P rb.1 (.slice (some ⟨w3.heap.size,0,none⟩) 2 2) [c,0] (H3.out.ma.below hb4) (two_slk c 0 H3.out.ma.fresh) (by omega) (by omega) (by simp)
 rw [HQ.out.2.2.2.1] at HB3
 have hl3:rb.1.f.blocks.length = nb + 2:=by rw [← HNB.out,← HF.out.ie,← HQ.out.2.2.2.1]; rfl
 rw [hl3] at HB3
 have H3':Hid (FoS N κ w X P rb.1 p κ3 (w3.alloc (.cells #[.int .i64 c,.int .i64 0] 3))):=H3.out.below hb4
 clear hsz3 hl3 hb4 H3
 go_wp2_with fail
 refine HB3.mono ?_
 clear HB3
 rintro e w4 ⟨rfl,κ4,hM4,hO4⟩
 have H4:Hid (FoS N κ w X P re.1 p κ4 w4):=H3'.out.call hM4 hO4
 clear H3' hM4 hO4
 -- the edges to both ways
 have hle:re.1.f.blocks.length = nb + 3:=by rw [← HNB.out,← HF.out.len,← HQ.out.2.2.2.2.2,← HQ.out.2.2.2.2.1,edgeM_len,edgeM_len]
 have hsz4:=HF.out.ge.sizes (by omega)
 have hcn:s.cur < nb:=by rw [← HNB.out]; exact hcur
 have HE1:=ma_edge N κ4 w4 P re.1 s.cur nb (.slice none 0 0) [] H4.out.ma (by omega) (SlK.nil _ _ _ _) (by omega) (hsz4.2.2.2.2 _ _) (by omega)
 have hq1:edgeM re.1 s.cur nb [] = s2a:=by rw [← HQ.out.2.2.2.2.1,HF.out.cur,HF.out.ia,HNB.out]
 rw [hq1] at HE1
 clear hq1 hsz4
 go_wp2_with fail
 refine HE1.mono ?_
 clear HE1
 rintro e w5 ⟨rfl,κ5,hM5,hO5⟩
 have H5:Hid (FoS N κ w X P s2a p κ5 w5):=H4.out.call hM5 hO5
 clear H4 hM5 hO5
 have hla:s2a.f.blocks.length = nb + 3:=by rw [← HQ.out.2.2.2.2.1,edgeM_len]; exact hle
 have hsz5:=HF.out.g2a.sizes (by omega)
 have HE2:=ma_edge N κ5 w5 P s2a s.cur (nb + 1) (.slice none 0 0) [] H5.out.ma (by omega) (SlK.nil _ _ _ _) (by omega) (hsz5.2.2.2.2 _ _) (by omega)
 have hq2:edgeM s2a s.cur (nb + 1) [] = s2:=by rw [← HQ.out.2.2.2.2.2,HF.out.cur,HF.out.ib,HNB.out]
 rw [hq2,show ((nb + 1:Nat):Int) = (nb:Int) + 1 by omega] at HE2
 clear hq2 hsz5
 go_wp2_with fail
 refine HE2.mono ?_
 clear HE2
 rintro e w6 ⟨rfl,κ6,hM6,hO6⟩
 have H6:Hid (FoS N κ w X P s2 p κ6 w6):=H5.out.call hM6 hO6
 clear H5 hM6 hO6
 have hl2:s2.f.blocks.length = nb + 3:=by rw [HF.out.len,HNB.out]
 obtain ⟨more,hmore⟩:∃ more,decide (pickedOf p.flags 2 = 1) = more:=⟨_,rfl⟩
 have HFK2:Hid (forkM s p = { (stF c s1.known (nb + 2) s2 p nb (nb + 1) more 2).1 with cur:=nb + 2,known:=s1.known ++ ((stF c s1.known (nb + 2) s2 p nb (nb + 1) more 2).1.f.blocks.getD (nb + 2) ⟨[],[],[]⟩).params }):=by
  have e1:=HFK.out
  rw [hmore,HF.out.ia,HF.out.ib,HF.out.ie,HNB.out] at e1
  exact e1
 have HMO:Hid (decide (pickedOf p.flags 2 = 1) = more):=hmore
 clear HFK hmore
 -- the ways
 have hZ:Below w6.heap.size w6 (w6.alloc (.cells #[.int .i64 nb,.int .i64 ((nb:Int) + 1)] 3)):=(Below.refl _ _).alloc (Nat.le_refl _) _
 have HZ:Hid (SlK κ6 (w6.alloc (.cells #[.int .i64 nb,.int .i64 ((nb:Int) + 1)] 3)) 1 RInt (.slice (some ⟨w6.heap.size,0,none⟩) 2 2) [(nb:Int),(nb:Int) + 1]):=two_slk _ _ H6.out.ma.fresh
 have H7:Hid (FoS N κ w X P s2 p κ6 (w6.alloc (.cells #[.int .i64 nb,.int .i64 ((nb:Int) + 1)] 3))):=H6.out.below hZ
 clear hZ H6
 have HP0:Hid (WayP B s2 s2 p p nb c P0 P1 s1.known 0):=⟨HF.out.g2,hl2,by rw [← HNB.out]; exact HF.out.takes,fun v hv => HF.out.kval v hv,fun i hi0 hi => by
  have hi':i = 0 ∨ i = 1:=by omega
  rcases hi' with rfl | rfl
  ·rw [← HNB.out,Nat.add_zero,HF.out.ea]
  ·rw [← HNB.out,HF.out.eb],HPO.out,rfl,HF.out.kn.2⟩
 go_wp2_with fail
 generalize w6.alloc (.cells #[.int .i64 nb,.int .i64 ((nb:Int) + 1)] 3) = w7 at *
 generalize w6.heap.size = Z at *
 go_loopw [49] (fun i wr => ∃ (j:Nat) (κr:Nat → Nat),j ≤ 2∧i = .int .i64 j∧Hid (FoS N κ w X P (stF c s1.known (nb + 2) s2 p nb (nb + 1) more j).1 (stF c s1.known (nb + 2) s2 p nb (nb + 1) more j).2 κr wr∧SlK κr wr 1 RInt (.slice (some ⟨Z,0,none⟩) 2 2) [(nb:Int),(nb:Int) + 1]∧WayP B s2 (stF c s1.known (nb + 2) s2 p nb (nb + 1) more j).1 p (stF c s1.known (nb + 2) s2 p nb (nb + 1) more j).2 nb c P0 P1 s1.known j)) (fun i _ => 2 - (intOf i).toNat)
 case atStart => exact ⟨0,_,by omega,rfl,H7.out,HZ.out,HP0.out⟩
 case round =>
  clear H7 HZ HP0
  obtain ⟨j,κr,hj,rfl,HI⟩:=hrel
  by_cases hlt:j < 2
  ·obtain ⟨mj,hmj⟩:∃ mj,(if j = 0 then true else more) = mj:=⟨_,rfl⟩
   have HN:Hid (stF c s1.known (nb + 2) s2 p nb (nb + 1) more (j + 1) = wayM c s1.known (nb + 2) (stF c s1.known (nb + 2) s2 p nb (nb + 1) more j).1 (stF c s1.known (nb + 2) s2 p nb (nb + 1) more j).2 (nb + j) mj):=by
    show _ = _
    rw [← hmj]
    have hj':j = 0 ∨ j = 1:=by omega
    rcases hj' with rfl | rfl <;> rfl
   generalize stF c s1.known (nb + 2) s2 p nb (nb + 1) more j = sp at *
   obtain ⟨st,pc⟩:=sp
   simp only at HI HN
   have hI:=HI.out.1
   have hz0:wr.cell? ⟨Z,j,none⟩ = some (.int .i64 ((nb:Int) + j)):=by
    obtain ⟨b5,off5,cs,hb5,hcl5,hR,hcc⟩:=HI.out.2.1.1.at j (by simpa using hlt)
    simp only [Option.some.injEq,Addr.mk.injEq] at hb5
    obtain ⟨rfl,rfl,_⟩:=hb5
    unfold RInt at hR
    subst hR
    have:=hcc 0 (by simp)
    simp only [Nat.mul_one,Nat.add_zero,Nat.zero_add,List.getElem_cons_zero] at this
    rw [this]
    have hj':j = 0 ∨ j = 1:=by omega
    rcases hj' with rfl | rfl <;> simp
   obtain ⟨hcu,p4,pz4⟩:=hI.cur (nb + j)
   have ecast:((nb + j:Nat):Int) = (nb:Int) + j:=by omega
   rw [ecast] at hcu
   go_upto_region 13 with fail
   obtain ⟨w9,hw9⟩:∃ w9,w9 = (wr.setCell ⟨P,4,none⟩ (.int .i64 ((nb:Int) + j))).setCell ⟨X,2,none⟩ (.int .i64 (wrap64 (pc.a + 1))):=⟨_,rfl⟩
   have hF9:FoS N κ w X P { st with cur:=nb + j } { pc with a:=up pc.a } κr w9:=by
    rw [hw9]
    exact hcu.setP 2 _ { pc with a:=up pc.a } fun q hq => by match q,hq with | 0,_ => rfl | 1,_ => rfl | 2,_ => rfl | 3,_ => rfl | 4,_ => rfl | 5,_ => rfl | 6,_ => rfl
   have hZ9:SlK κr w9 1 RInt (.slice (some ⟨Z,0,none⟩) 2 2) [(nb:Int),(nb:Int) + 1]:=by
    rw [hw9]
    have hO:Only (fun r => r = 1 ∨ r = 5) κr κr wr ((wr.setCell ⟨P,4,none⟩ (.int .i64 ((nb:Int) + j))).setCell ⟨X,2,none⟩ (.int .i64 (wrap64 (pc.a + 1)))):=((Only.refl _ _ _).set (Or.inr (Or.inl hI.ma.kP.1)) _ _).set (Or.inr (Or.inr hI.k5)) _ _
    exact HI.out.2.1.only hO (by omega)
   have HW9:Hid (w9 = (wr.setCell ⟨P,4,none⟩ (.int .i64 ((nb:Int) + j))).setCell ⟨X,2,none⟩ (.int .i64 (wrap64 (pc.a + 1)))):=hw9
   have xa:(wr.setCell ⟨P,4,none⟩ (.int .i64 ((nb:Int) + j))).cell? ⟨X,2,none⟩ = some (.int .i64 pc.a):=hcu.cells.2.2.1
   have xz:(wr.setCell ⟨P,4,none⟩ (.int .i64 ((nb:Int) + j))).frozen? ⟨X,2,none⟩ = false:=hcu.row.frozen 2
   have hPX:P ≠ X:=fun e => by have h1:=hI.ma.kP.1; rw [e,hI.k5] at h1; omega
   have xa':wr.cell? ⟨X,2,none⟩ = some (.int .i64 pc.a):=hI.cells.2.2.1
   have xz':wr.frozen? ⟨X,2,none⟩ = false:=hI.row.frozen 2
   have H9:Hid (FoS N κ w X P { st with cur:=nb + j } { pc with a:=up pc.a } κr w9∧SlK κr w9 1 RInt (.slice (some ⟨Z,0,none⟩) 2 2) [(nb:Int),(nb:Int) + 1]):=⟨hF9,hZ9⟩
   have HWP:Hid (WayP B s2 st p pc nb c P0 P1 s1.known j):=HI.out.2.2
   have x6:w9.cell? ⟨X,6,none⟩ = some (.int .i64 pc.flags):=hF9.cells.2.2.2.2.2.2
   obtain ⟨pf,hpf⟩:∃ pf,pickedOf pc.flags 2 = pf:=⟨_,rfl⟩
   have HPF:Hid (pickedOf pc.flags 2 = pf):=hpf
   obtain ⟨gf0,gf1⟩:=HWP.out.pok.flags
   have hbq:j ≠ 0 → (pf == 1) = mj:=fun hj0 => by
    rw [← hmj,if_neg hj0,← HMO.out,← HWP.out.pfl,hpf]
    rfl
   have hbq0:j = 0 → mj = true:=fun hj0 => by rw [← hmj,if_pos hj0]
   clear hcu hF9 hZ9 hw9 hpf hmj HI hI ecast xa xz
   go_upto_region 15 with fail
   rw [← HW9.out]
   clear HW9 p4 pz4 xa' xz' hz0
   go_cut [69] (fun v wz => v = .bool mj∧wz = w9)
   case first =>
    by_cases hj0:j = 0
    ·have e:=hbq0 hj0
     subst e
     subst hj0
     clear hbq hbq0
     go_wp2
     go_meet
     exact ⟨rfl,rfl⟩
    ·have e:=hbq hj0
     have ej:(((j:Nat):Int) == 0) = false:=by simp; omega
     clear hbq hbq0
     go_wp2_with (go_at_call 12; refine (picked_is _ _ _ _ HPF.out (by omega) (by omega) (by omega) (by omega)).mono ?_; rintro e w9 ⟨rfl,rfl⟩)
     go_meet
     exact ⟨rfl,rfl⟩
   case rest =>
    obtain ⟨rfl,hwc⟩:=hcut
    subst hwc
    clear hbq hbq0 x6 HPF
    obtain ⟨p2,hp2⟩:∃ p2:Pc,(if mj then { ({ pc with a:=up pc.a }:Pc) with op:=up ({ pc with a:=up pc.a }:Pc).op } else { pc with a:=up pc.a }) = p2:=⟨_,rfl⟩
    obtain ⟨t1,ht1⟩:∃ t1:Ms,(if mj then layM { st with cur:=nb + j } p2 else { st with cur:=nb + j }) = t1:=⟨_,rfl⟩
    have HWM:Hid (wayM c s1.known (nb + 2) st pc (nb + j) mj = ({ edgeM (newestM (newestM t1 c p2).1 0 p2).1 (nb + j) (nb + 2) [(newestM t1 c p2).2,(newestM (newestM t1 c p2).1 0 p2).2] with known:=s1.known },p2)):=by
     show _ = _
     rw [← ht1,← hp2]
     rfl
    have g0:Good (B + 10 + 7 * j) { st with cur:=nb + j }:=HWP.out.good.turn (nb + j) st.known (by have:=HWP.out.len; omega) HWP.out.good.ok.kn HWP.out.good.sm.1
    have hL1:Lays { st with cur:=nb + j } t1 1:=by
     rw [← ht1]
     cases mj
     ·have h0:=Lays.refl g0.ok
      exact ⟨h0.ok,h0.m,h0.cur,by obtain ⟨l,a,b⟩:=h0.vals; exact ⟨l,a,by omega⟩,by obtain ⟨l,a,b⟩:=h0.kn; exact ⟨l,a,by omega⟩,by obtain ⟨l,a,b⟩:=h0.blk; exact ⟨l,by omega,b⟩⟩
     ·exact lay_lays _ _ g0.ok
    have hpo:PcOk p2:=by
     rw [← hp2]
     cases mj
     ·exact HWP.out.pok.a1
     ·exact HWP.out.pok.a1.op1
    have HPF2:Hid (p2.flags = p.flags):=by
     show p2.flags = _
     rw [← hp2,← HWP.out.pfl]
     cases mj <;> rfl
    have HT1:Hid (Good (B + 10 + 7 * j) { st with cur:=nb + j }∧Lays { st with cur:=nb + j } t1 1∧PcOk p2):=⟨g0,hL1,hpo⟩
    clear g0 hL1
    go_upto_if 69 with fail
    go_cut [70] (fun _ wz => ∃ κz,FoS N κ w X P t1 p2 κz wz∧SlK κz wz 1 RInt (.slice (some ⟨Z,0,none⟩) 2 2) [(nb:Int),(nb:Int) + 1])
    case first =>
     cases mj
     ·have HQ9:Hid (∃ κz,FoS N κ w X P t1 p2 κz wc∧SlK κz wc 1 RInt (.slice (some ⟨Z,0,none⟩) 2 2) [(nb:Int),(nb:Int) + 1]):=⟨κr,by rw [← ht1,← hp2]; exact H9.out.1,H9.out.2⟩
      clear ht1 hp2 hpo
      go_wp2_with fail
      go_meet
      exact HQ9.out
     ·have ep:p2 = { ({ pc with a:=up pc.a }:Pc) with op:=up pc.op }:=hp2.symm
      have hF10:FoS N κ w X P { st with cur:=nb + j } p2 κr (wc.setCell ⟨X,1,none⟩ (.int .i64 (wrap64 (pc.op + 1)))):=by
       rw [ep]
       exact H9.out.1.setP 1 _ _ fun q hq => by match q,hq with | 0,_ => rfl | 1,_ => rfl | 2,_ => rfl | 3,_ => rfl | 4,_ => rfl | 5,_ => rfl | 6,_ => rfl
      obtain ⟨w10,hw10⟩:∃ w10,w10 = wc.setCell ⟨X,1,none⟩ (.int .i64 (wrap64 (pc.op + 1))):=⟨_,rfl⟩
      rw [← hw10] at hF10
      have hZ10:SlK κr w10 1 RInt (.slice (some ⟨Z,0,none⟩) 2 2) [(nb:Int),(nb:Int) + 1]:=by
       rw [hw10]
       exact H9.out.2.only ((Only.refl (fun r => r = 5) _ _).set (Or.inr H9.out.1.k5) _ _) (by omega)
      have x1:wc.cell? ⟨X,1,none⟩ = some (.int .i64 pc.op):=H9.out.1.cells.2.1
      have xz:=H9.out.1.row.frozen 1
      have hsz:=HT1.out.1.sizes (by omega)
      have HL:=ma_lay N κr w10 P { st with cur:=nb + j } p2 hF10.ma HT1.out.1.ok HT1.out.2.2 hsz.1 hsz.2.1 hsz.2.2.1 hsz.2.2.2.1
      have et:layM { st with cur:=nb + j } p2 = t1:=ht1
      rw [et] at HL
      obtain ⟨y0,y1,y2,y3,y4,y5,y6⟩:=hF10.cells
      have HW10:Hid (w10 = wc.setCell ⟨X,1,none⟩ (.int .i64 (wrap64 (pc.op + 1)))):=hw10
      have H10:Hid (FoS N κ w X P { st with cur:=nb + j } p2 κr w10∧SlK κr w10 1 RInt (.slice (some ⟨Z,0,none⟩) 2 2) [(nb:Int),(nb:Int) + 1]):=⟨hF10,hZ10⟩
      clear hF10 hZ10 hw10 hsz et ht1 hp2 ep hpo H9
      go_upto_region 17 with fail
      rw [← HW10.out]
      clear HW10 x1 xz
      go_wp2_with fail
      refine HL.mono ?_
      clear HL y0 y1 y2 y3 y4 y5 y6
      rintro e w11 ⟨rfl,κ11,hM11,hO11⟩
      have HQ9:Hid (∃ κz,FoS N κ w X P t1 p2 κz w11∧SlK κz w11 1 RInt (.slice (some ⟨Z,0,none⟩) 2 2) [(nb:Int),(nb:Int) + 1]):=⟨κ11,H10.out.1.call hM11 hO11,H10.out.2.only hO11 MR0⟩
      clear hM11 hO11
      go_wp2_with fail
      go_meet
      exact HQ9.out
    case rest =>
     clear ht1 hp2 hpo H9
     obtain ⟨κz,hFz,hSz⟩:=hcut
     have g1:Good (B + 12 + 7 * j) t1:=(HT1.out.1.lays HT1.out.2.1).mono (by omega)
     obtain ⟨hpgv,hpgz,hplz,hpv,hpz,hpcv,hpcz,_,_⟩:=pair2 g1 c p2 HC0.out
     have hsz1:=g1.sizes (by omega)
     have HN1:=ma_newest N κz wc P t1 c p2 hFz.ma g1.ok HT1.out.2.2 HC0.out hsz1.1 hsz1.2.1 hsz1.2.2.1 hsz1.2.2.2.1
     have hWS:=give_good (kn:=s1.known) p2 HT1.out.1 HT1.out.2.1 (by omega) (HWP.out.bare j (Nat.le_refl _) hlt) HWP.out.takes (by omega) HWP.out.kval (by have:=HWP.out.good.sm.1; rw [HWP.out.kn] at this; exact this) HC0.out
     have HWS:Hid (WayS st { edgeM (newestM (newestM t1 c p2).1 0 p2).1 (nb + j) (nb + 2) [(newestM t1 c p2).2,(newestM (newestM t1 c p2).1 0 p2).2] with known:=s1.known } (nb + j) (nb + 2) c P0 P1 s1.known (B + 10 + 7 * j)):=hWS
     have HKN:Hid (∃ k,(newestM (newestM t1 c p2).1 0 p2).1.known = s1.known ++ k):=by
      obtain ⟨k1,e1,_⟩:=HT1.out.2.1.kn
      obtain ⟨k2,e2,_⟩:=hplz.kn
      refine ⟨k1 ++ k2,?_⟩
      rw [e2,e1,← List.append_assoc]
      show st.known ++ k1 ++ k2 = _
      rw [HWP.out.kn]
     have hlz:(newestM (newestM t1 c p2).1 0 p2).1.f.blocks.length = nb + 3:=by rw [hplz.len,HT1.out.2.1.len]; exact HWP.out.len
     have hszv:=hpgv.sizes (by omega)
     obtain ⟨y0,y1,y2,y3,y4,y5,y6⟩:=hFz.cells
     have HZ1:Hid (FoS N κ w X P t1 p2 κz wc∧SlK κz wc 1 RInt (.slice (some ⟨Z,0,none⟩) 2 2) [(nb:Int),(nb:Int) + 1]):=⟨hFz,hSz⟩
     have HGG:Hid (Good (B + 14 + 7 * j) (newestM t1 c p2).1∧Good (B + 16 + 7 * j) (newestM (newestM t1 c p2).1 0 p2).1):=⟨hpgv.mono (by omega),hpgz.mono (by omega)⟩
     clear hFz hSz g1 hpgv hpgz hplz hpv hpz hpcv hpcz hsz1 hszv hWS
     generalize newestM t1 c p2 = rv at *
     go_wp2_with fail
     refine HN1.mono ?_
     clear HN1 y0 y1 y2 y3 y4 y5 y6
     rintro e w12 ⟨rfl,κ12,hM12,hO12⟩
     have H12:Hid (FoS N κ w X P rv.1 p2 κ12 w12∧SlK κ12 w12 1 RInt (.slice (some ⟨Z,0,none⟩) 2 2) [(nb:Int),(nb:Int) + 1]):=⟨HZ1.out.1.call hM12 hO12,HZ1.out.2.only hO12 MR0⟩
     clear HZ1 hM12 hO12
     have hszv:=HGG.out.1.sizes (by omega)
     have HN2:=ma_newest N κ12 w12 P rv.1 0 p2 H12.out.1.ma HGG.out.1.ok HT1.out.2.2 (Or.inl rfl) hszv.1 hszv.2.1 hszv.2.2.1 hszv.2.2.2.1
     obtain ⟨y0,y1,y2,y3,y4,y5,y6⟩:=H12.out.1.cells
     clear hszv
     generalize newestM rv.1 0 p2 = rz at *
     go_wp2_with fail
     refine HN2.mono ?_
     clear HN2 y0 y1 y2 y3 y4 y5 y6
     rintro e w13 ⟨rfl,κ13,hM13,hO13⟩
     have hF13:FoS N κ w X P rz.1 p2 κ13 w13:=H12.out.1.call hM13 hO13
     have hb13:Below w13.heap.size w13 (w13.alloc (.cells #[.int .i64 rv.2,.int .i64 rz.2] 3)):=(Below.refl _ _).alloc (Nat.le_refl _) _
     have H13:Hid (FoS N κ w X P rz.1 p2 κ13 (w13.alloc (.cells #[.int .i64 rv.2,.int .i64 rz.2] 3))∧SlK κ13 (w13.alloc (.cells #[.int .i64 rv.2,.int .i64 rz.2] 3)) 1 RInt (.slice (some ⟨Z,0,none⟩) 2 2) [(nb:Int),(nb:Int) + 1]):=⟨hF13.below hb13,(H12.out.2.only hO13 MR0).only (Only.of_below (S:=MR) hb13) MR0⟩
     have hszz:=HGG.out.2.sizes (by omega)
     have HE3:=ma_edge N κ13 (w13.alloc (.cells #[.int .i64 rv.2,.int .i64 rz.2] 3)) P rz.1 (nb + j) (nb + 2) (.slice (some ⟨w13.heap.size,0,none⟩) 2 2) [rv.2,rz.2] H13.out.1.ma (by omega) (two_slk rv.2 rz.2 hF13.ma.fresh) (by omega) (hszz.2.2.2.2 _ _) (by omega)
     rw [show ((nb + j:Nat):Int) = (nb:Int) + j by omega,show ((nb + 2:Nat):Int) = (nb:Int) + 2 by omega] at HE3
     clear H12 hM13 hO13 hF13 hb13 hszz
     go_wp2_with fail
     refine HE3.mono ?_
     clear HE3
     rintro e w14 ⟨rfl,κ14,hM14,hO14⟩
     have H14:Hid (FoS N κ w X P (edgeM rz.1 (nb + j) (nb + 2) [rv.2,rz.2]) p2 κ14 w14∧SlK κ14 w14 1 RInt (.slice (some ⟨Z,0,none⟩) 2 2) [(nb:Int),(nb:Int) + 1]):=⟨H13.out.1.call hM14 hO14,H13.out.2.only hO14 MR0⟩
     clear H13 hM14 hO14
     -- what is known is what was known
     obtain ⟨kx,hkx⟩:=HKN.out
     obtain ⟨vv,vb,vk,al,bx,hS⟩:=H14.out.1.ma
     have hknE:(edgeM rz.1 (nb + j) (nb + 2) [rv.2,rz.2]).known = s1.known ++ kx:=hkx
     have hok:w14.ownsRow N 3 1 vk (s1.known ++ kx).length ((s1.known ++ kx).flatMap cI):=by
      have:=hS.ok
      rw [hknE] at this
      exact this
     have hnk0:0 < nk:=HNK0.out
     obtain ⟨gk,ck,rfl,hgkN,hgkl⟩:=hok.form (by rw [List.length_append,HNK.out]; omega)
     have HS14:Hid (MaS N κ14 w14 P (edgeM rz.1 (nb + j) (nb + 2) [rv.2,rz.2]) vv vb (.slice (some ⟨gk,0,none⟩) (s1.known ++ kx).length ck) al bx):=hS
     have q5:=hS.cells.2.2.2.2.2.1
     have qz:=hS.row.frozen 5
     have hcap:(s1.known ++ kx).length ≤ ck:=by
      rcases hok.2 with ⟨h0,_⟩ | ⟨g',cap',cur',hv',_,_,h3,_⟩
      ·simp at h0
      ·simp only [Value.slice.injEq] at hv'
       rw [hv'.2.2]
       exact h3
     have hll:nk ≤ (s1.known ++ kx).length:=by rw [List.length_append,HNK.out]; omega
     have HNEW:Hid (∀ i u,(s1.known.flatMap cI)[i]? = some u → w14.cell? ((⟨gk,0,none⟩:Addr).add i) = some u):=fun i u hu => by
      have hadd:(⟨gk,0,none⟩:Addr).add i = ⟨gk,i,none⟩:=by unfold Addr.add; split <;> simp_all
      rw [hadd]
      refine (own_cell hok i u ?_).1
      rw [List.flatMap_append,List.getElem?_append_left]
      ·exact hu
      ·exact (List.getElem?_eq_some_iff.1 hu).1
     have hone:∀ u ∈ s1.known.flatMap cI,u.oneCell' = true:=fun u hu => by
      obtain ⟨x,_,hx⟩:=List.mem_flatMap.1 hu
      simp [cI] at hx
      rw [hx]
      rfl
     have hlen1:(s1.known.flatMap cI).length = nk * 1:=by rw [flat_length cI 1 (fun _ => rfl),HNK.out]
     have oN:=World.ownsRow_nil w14 N 3 1
     have hNs:=hS.szN
     have hPl:=hS.row.lt
     have hgkP:some P ≠ (Value.slice none 0 0).ownBlock:=by simp [Value.ownBlock]
     generalize hnn:(s1.known ++ kx).length = nn at *
     clear hok hS hkx hnn
     go_wp2_with (at_builtin; go_must (refine wpList_append_lies _ rfl _ _ 27 rfl N 3 i3 (.int .i64 0) 1 8 Try.underlying27 hi3 hz3 hz31 hz32 rfl (by omega) (.slice none 0 0) 0 [] (by rfl) oN ⟨gk,0,none⟩ nk ck (s1.known.flatMap cI) (by rfl) hlen1 HNEW.out hone hnk0 ?c3 ?c4 hNs (w14.heap.size) rfl ?_))
     rotate_left
     any_goals (first | (unfold maxLen; omega) | omega)
     intro g cap wb hown hgrow hat hgl
     have hown':wb.ownsRow N 3 1 (.slice (some ⟨g,0,none⟩) nk cap) nk (s1.known.flatMap cI):=by simpa using hown
     obtain ⟨hM15,hO15⟩:=HS14.out.putK (kn:=s1.known) (m:=nk) (row:=none) (Below.refl _ _) hgrow (fun k h => by cases h) hown' HNK.out (by rcases hat with h | h; (simp [Value.ownBlock] at h); exact Or.inr h)
     have hO15':=hO15.mono (T:=MR) fun r hr => by unfold MR; omega
     have HN15:Hid (stF c s1.known (nb + 2) s2 p nb (nb + 1) more (j + 1) = ({ edgeM rz.1 (nb + j) (nb + 2) [rv.2,rz.2] with known:=s1.known },p2)):=by show _ = _; rw [HN.out,HWM.out]
     have hW15:=HWS.out
     have H15:Hid (FoS N κ w X P (stF c s1.known (nb + 2) s2 p nb (nb + 1) more (j + 1)).1 (stF c s1.known (nb + 2) s2 p nb (nb + 1) more (j + 1)).2 (upK κ14 g 3) (wb.setCell ⟨P,5,none⟩ (.slice (some ⟨g,0,none⟩) nk cap))∧SlK (upK κ14 g 3) (wb.setCell ⟨P,5,none⟩ (.slice (some ⟨g,0,none⟩) nk cap)) 1 RInt (.slice (some ⟨Z,0,none⟩) 2 2) [(nb:Int),(nb:Int) + 1]∧WayP B s2 (stF c s1.known (nb + 2) s2 p nb (nb + 1) more (j + 1)).1 p (stF c s1.known (nb + 2) s2 p nb (nb + 1) more (j + 1)).2 nb c P0 P1 s1.known (j + 1)):=by
      rw [HN15.out]
      refine ⟨H14.out.1.call ⟨_,_,_,_,_,hM15⟩ hO15',H14.out.2.only hO15' MR0,⟨hW15.good.mono (by omega),by rw [hW15.len]; exact HWP.out.len,hW15.takes,fun v hv => by obtain ⟨l,e,_⟩:=hW15.vals; rw [e]; exact isValue_app (HWP.out.kval v hv),fun i hi0 hi => ?_,HT1.out.2.2,HPF2.out,rfl⟩⟩
      rw [hW15.other _ (by omega)]
      exact HWP.out.bare i (by omega) hi
     have q5':=(hgrow.cell_far ⟨P,5,none⟩ hPl hgkP).trans q5
     have qz':=(hgrow.frozen_far ⟨P,5,none⟩ hPl hgkP).trans qz
     clear hown hown' hgrow hat hgl hM15 hO15 hO15' hW15 q5 qz HS14 H14 HNEW hone
     go_wp2
     go_roundw
     case rel => exact ⟨j + 1,_,by omega,by go_num,H15⟩
     case measure => simp [intOf]; omega
  ·have hj2:j = 2:=by omega
   subst hj2
   have HK2:Hid (stF c s1.known (nb + 2) s2 p nb (nb + 1) more 2 = stF c s1.known (nb + 2) s2 p nb (nb + 1) more 2):=rfl
   generalize hsp:stF c s1.known (nb + 2) s2 p nb (nb + 1) more 2 = sp at *
   obtain ⟨sf,pc⟩:=sp
   simp only at HI HFK2
   have hkf:sf.known = s1.known:=HI.out.2.2.kn
   obtain ⟨hcu,p4,pz4⟩:=HI.out.1.cur (nb + 2)
   have ecast:((nb + 2:Nat):Int) = (nb:Int) + 2:=by omega
   rw [ecast] at hcu
   obtain ⟨W16,hW16⟩:∃ W16,W16 = wr.setCell ⟨P,4,none⟩ (.int .i64 ((nb:Int) + 2)):=⟨_,rfl⟩
   rw [← hW16] at hcu
   have HW16:Hid (W16 = wr.setCell ⟨P,4,none⟩ (.int .i64 ((nb:Int) + 2))):=hW16
   have hlf:nb + 2 < sf.f.blocks.length:=by have:=HI.out.2.2.len; omega
   have hpar:sf.f.blocks[nb + 2].params = [P0,P1]:=by rw [← blkAt_eq hlf]; exact HI.out.2.2.takes.par
   have HFIN:Hid (forkM s p = { sf with cur:=nb + 2,known:=s1.known ++ [P0,P1] }):=by
    show forkM s p = _
    rw [HFK2.out]
    have e1:sf.f.blocks.getD (nb + 2) ⟨[],[],[]⟩ = sf.f.blocks[nb + 2]:=by rw [List.getD_eq_getElem?_getD,List.getElem?_eq_getElem hlf]; rfl
    rw [e1,hpar]
   have hlfb:sf.f.blocks.length ≤ 1000:=(HI.out.2.2.good.sizes (by omega)).2.2.1
   have H16:Hid (FoS N κ w X P { sf with cur:=nb + 2 } pc κr W16):=hcu
   obtain ⟨vv,vb,vk,al,bx,hS⟩:=hcu.ma
   obtain ⟨gb,cb,rfl,hgN,hgl⟩:=hS.ob.form (by show 0 < sf.f.blocks.length; omega)
   have hB:=hS.blk (nb + 2) hlf
   have hbp:SlK κr W16 1 RInt (bx (nb + 2)).1 [P0,P1]:=by have:=hB.par; rw [← hpar]; exact this
   have q3:=hS.cells.2.2.2.1
   have q5:=hS.cells.2.2.2.2.2.1
   have qz:=hS.row.frozen 5
   have qp:=(hS.at (nb + 2) hlf).1
   have hok:W16.ownsRow N 3 1 vk s1.known.length (s1.known.flatMap cI):=by
    have:=hS.ok
    simp only at this
    rw [hkf] at this
    exact this
   have HS16:Hid (MaS N κr W16 P { sf with cur:=nb + 2 } vv (.slice (some ⟨gb,0,none⟩) sf.f.blocks.length cb) vk al bx):=hS
   generalize hvp:(bx (nb + 2)).1 = vp at *
   obtain ⟨vpa,vpc,rfl,_⟩:=hbp.1.out
   obtain ⟨b5,off5,cs0,rfl,_,hR0,hc0⟩:=hbp.1.at 0 (by simp)
   obtain ⟨b6,off6,cs1,hb6,_,hR1,hc1⟩:=hbp.1.at 1 (by simp)
   simp only [Option.some.injEq,Addr.mk.injEq] at hb6
   obtain ⟨rfl,rfl,_⟩:=hb6
   unfold RInt at hR0 hR1
   subst hR0
   subst hR1
   have n0:=hc0 0 (by simp)
   have n1:=hc1 0 (by simp)
   simp at n0 n1
   have HNEW:Hid (∀ i u,([.int .i64 P0,.int .i64 P1]:List Value)[i]? = some u → W16.drew.cell? ((⟨b5,off5,none⟩:Addr).add i) = some u):=fun i u hu => by
    have hadd:(⟨b5,off5,none⟩:Addr).add i = ⟨b5,off5 + i,none⟩:=by unfold Addr.add; split <;> simp_all
    rw [hadd]
    match i,hu with
    | 0,hu => simp at hu; rw [← hu]; exact n0
    | 1,hu => simp at hu; rw [← hu]; exact n1
   have hone:∀ u ∈ ([.int .i64 P0,.int .i64 P1]:List Value),u.oneCell' = true:=fun u hu => by simp at hu; rcases hu with rfl | rfl <;> rfl
   have hNs:=hS.szN
   have hPl:=hS.row.lt
   have nP:some P ≠ vk.ownBlock:=fun e => by have:=hS.kk P e.symm; rw [hS.kP] at this; omega
   have nG:some gb ≠ vk.ownBlock:=fun e => by have h1:=hS.kk gb e.symm; rw [hS.kb gb rfl] at h1; omega
   have hkn1:s1.known.length ≤ 6000:=by have:=HNK.out; omega
   have oA:=hok.drew
   clear hW16 hcu hS hB hok hsp hvp hc0 hc1 hpar HI HFK2 HK2 n0 n1
   generalize hnk2:s1.known.length = nk2 at *
   have HNK2:Hid (s1.known.length = nk2):=hnk2
   simp only at q3
   obtain ⟨lf,hlen⟩:∃ lf,sf.f.blocks.length = lf:=⟨_,rfl⟩
   rw [hlen] at q3 hlf hlfb
   clear hnk2 hlen
   have hix:(((nb:Int) + 2).toNat) = nb + 2:=by omega
   have hi0:(0:Int) ≤ (nb:Int) + 2:=by omega
   have hi1:(nb:Int) + 2 < (lf:Int):=by omega
   go_upto_region 24 with fail
   rw [← HW16.out]
   clear HW16 p4 pz4
   refine wp_region_X (fun w' => w'.cell? ⟨P,5,none⟩ = some vk∧w'.cell? ⟨P,3,none⟩ = some (.slice (some ⟨gb,0,none⟩) lf cb)∧w'.cell? ⟨gb,(nb + 2) * 3,none⟩ = some (.slice (some ⟨b5,off5,none⟩) 2 vpc)) 17 (by kernel_rfl) ⟨q5,q3,qp⟩ (fun hHeld => ?_)
   refine wpXt 0 rfl (v:=?_) (by kernel_rfl) (fun _ _ _ h => h) (by rfl) ?_ hHeld ?_
   rotate_left
   ·intro w' hSw
    go_simp <;> with_reducible rfl
   try simp only [Act.put,List.setIfInBounds_toArray,List.set_cons_zero,List.set_cons_succ]
   refine wpXt 1 rfl (v:=?_) (by kernel_rfl) (fun _ _ _ h => h) (by rfl) ?_ hHeld ?_
   rotate_left
   ·intro w' hSw
    go_simp <;> with_reducible rfl
   try simp only [Act.put,List.setIfInBounds_toArray,List.set_cons_zero,List.set_cons_succ]
   refine wpXt 2 rfl (v:=?_) (by kernel_rfl) (fun _ _ _ h => h) (by rfl) ?_ hHeld ?_
   rotate_left
   ·intro w' hSw
    go_simp <;> with_reducible rfl
   try simp only [Act.put,List.setIfInBounds_toArray,List.set_cons_zero,List.set_cons_succ]
   refine wpXt 3 rfl (v:=?_) (by kernel_rfl) (fun _ _ _ h => h) (by rfl) ?_ hHeld ?_
   rotate_left
   ·intro w' hSw
    go_simp <;> with_reducible rfl
   try simp only [Act.put,List.setIfInBounds_toArray,List.set_cons_zero,List.set_cons_succ]
   refine wpXt 4 rfl (v:=?_) (by kernel_rfl) (fun _ _ _ h => h) (by rfl) ?_ hHeld ?_
   rotate_left
   ·intro w' hSw
    go_simp <;> with_reducible rfl
   try simp only [Act.put,List.setIfInBounds_toArray,List.set_cons_zero,List.set_cons_succ]
   refine wpXt 5 rfl (v:=?_) (by kernel_rfl) (fun _ _ _ h => h) (by rfl) ?_ hHeld ?_
   rotate_left
   ·intro w' hSw
    go_simp <;> with_reducible rfl
   try simp only [Act.put,List.setIfInBounds_toArray,List.set_cons_zero,List.set_cons_succ]
   refine wpXt 6 rfl (v:=?_) (by kernel_rfl) (fun _ _ _ h => h) (by rfl) ?_ hHeld ?_
   rotate_left
   ·intro w' hSw
    go_simp <;> with_reducible rfl
   try simp only [Act.put,List.setIfInBounds_toArray,List.set_cons_zero,List.set_cons_succ]
   refine wpXt 7 rfl (v:=?_) (by kernel_rfl) (fun _ _ _ h => h) (by rfl) ?_ hHeld ?_
   rotate_left
   ·intro w' hSw
    go_simp <;> with_reducible rfl
   try simp only [Act.put,List.setIfInBounds_toArray,List.set_cons_zero,List.set_cons_succ]
   refine wpXt 8 rfl (v:=?_) (by kernel_rfl) (fun _ _ _ h => h) (by rfl) ?_ hHeld ?_
   rotate_left
   ·intro w' hSw
    go_simp <;> with_reducible rfl
   try simp only [Act.put,List.setIfInBounds_toArray,List.set_cons_zero,List.set_cons_succ]
   refine wpXt 9 rfl (v:=?_) (by kernel_rfl) (fun _ _ _ h => h) (by rfl) ?_ hHeld ?_
   rotate_left
   ·intro w' hSw
    go_simp <;> with_reducible rfl
   try simp only [Act.put,List.setIfInBounds_toArray,List.set_cons_zero,List.set_cons_succ]
   refine wpXt 10 rfl (v:=?_) (by kernel_rfl) (fun _ _ _ h => h) (by rfl) ?_ hHeld ?_
   rotate_left
   ·intro w' hSw
    go_simp <;> with_reducible rfl
   try simp only [Act.put,List.setIfInBounds_toArray,List.set_cons_zero,List.set_cons_succ]
   refine wpXt 11 rfl (v:=?_) (by kernel_rfl) (fun _ _ _ h => h) (by rfl) ?_ hHeld ?_
   rotate_left
   ·intro w' hSw
    go_simp <;> with_reducible rfl
   try simp only [Act.put,List.setIfInBounds_toArray,List.set_cons_zero,List.set_cons_succ]
   refine wpXt 12 rfl (v:=?_) (by kernel_rfl) (fun _ _ _ h => h) (by rfl) ?_ hHeld ?_
   rotate_left
   ·intro w' hSw
    go_simp <;> with_reducible rfl
   try simp only [Act.put,List.setIfInBounds_toArray,List.set_cons_zero,List.set_cons_succ]
   refine wpXt 13 rfl (v:=?_) (by kernel_rfl) (fun _ _ _ h => h) (by rfl) ?_ hHeld ?_
   rotate_left
   ·intro w' hSw
    go_simp <;> with_reducible rfl
   try simp only [Act.put,List.setIfInBounds_toArray,List.set_cons_zero,List.set_cons_succ]
   refine wpXs 14 rfl (by kernel_rfl) (fun K hK => ?_)
   refine step_append_lies _ (by rfl) _ _ _ (by rfl) N 3 i3 _ 1 8 Try.underlying27 hi3 hz3 hz31 hz32 rfl (by omega) vk nk2 _ (by rfl) oA ⟨b5,off5,none⟩ 2 vpc [.int .i64 P0,.int .i64 P1] (by rfl) (by rfl) HNEW.out hone (by omega) (by unfold maxLen; omega) (by omega) hNs (W16.heap.size) rfl ?_
   intro g cap wb hown hgrow hat hgl'
   have r5:=(hgrow.cell_far ⟨P,5,none⟩ hPl nP).trans q5
   have rz:=(hgrow.frozen_far ⟨P,5,none⟩ hPl nP).trans qz
   have r3:=(hgrow.cell_far ⟨P,3,none⟩ hPl nP).trans q3
   have rp:=(hgrow.cell_far ⟨gb,(nb + 2) * 3,none⟩ hgl nG).trans qp
   refine hK.out _ _ ⟨r5,r3,rp⟩ (fun hHeld => ?_)
   clear hK K
   try simp only [Act.put,List.setIfInBounds_toArray,List.set_cons_zero,List.set_cons_succ]
   refine wpXs 15 rfl (by kernel_rfl) (fun K hK => ?_)
   go_simp
   refine hK.out _ _ ⟨r5,r3,rp⟩ (fun hHeld => ?_)
   clear hK K
   try simp only [Act.put,List.setIfInBounds_toArray,List.set_cons_zero,List.set_cons_succ]
   refine wpXs 16 rfl (by kernel_rfl) (fun K hK => ?_)
   go_simp
   refine hK.out _ _ ⟨r5,r3,rp⟩ (fun hHeld => ?_)
   clear hK K
   try simp only [Act.put,List.setIfInBounds_toArray,List.set_cons_zero,List.set_cons_succ]
   refine wpXl 17 rfl (by kernel_rfl) rfl (by kernel_rfl) (fun K hK => ?_)
   go_simp
   refine hK.out _ _ ?_
   clear hK K
   have hown':wb.ownsRow N 3 1 (.slice (some ⟨g,0,none⟩) (nk2 + 2) cap) (nk2 + 2) ((s1.known ++ [P0,P1]).flatMap cI):=by rw [List.flatMap_append]; exact hown
   obtain ⟨hM17,hO17⟩:=HS16.out.putK (kn:=s1.known ++ [P0,P1]) (m:=nk2 + 2) (((Below.refl _ _)).drew) hgrow (fun _ h => h) hown' (by rw [List.length_append,HNK2.out]; rfl) hat
   have HQ17:Hid (∃ κ',MaO N κ' (wb.setCell ⟨P,5,none⟩ (.slice (some ⟨g,0,none⟩) (nk2 + 2) cap)) P (forkM s p)∧Only MR κ κ' w (wb.setCell ⟨P,5,none⟩ (.slice (some ⟨g,0,none⟩) (nk2 + 2) cap))):=by
    refine ⟨_,?_,H16.out.only.trans (hO17.mono fun r hr => by unfold MR; omega)⟩
    rw [HFIN.out]
    exact ⟨_,_,_,_,_,hM17⟩
   clear hown hown' hgrow hat hgl' hM17 hO17 r5 rz r3 rp q5 q3 qp qz
   go_wp2
   go_end0
   exact ⟨rfl,HQ17.out⟩
end Go.Proofs.Ytglfpnnfcpnmoaa
