/-
  The contract of 'needsOf': the tables tell what is needed.
-/
import Derived.Test.YtglfpnnfcpnmoaaV4
import Derived.Test.YtglfpnnfcpnmoaaV5
import Derived.Deep.DeepCutAuto
import Derived.Deep.CutBlock
namespace Go.Proofs.Ytglfpnnfcpnmoaa
open Go.RowKit
set_option linter.unusedVariables false
def noT:Tb:=fun _ _ => false
def tblW (w:World) (r:Nat):Tb:=fun b v => match w.cell? ⟨r + 1 + b,v,none⟩ with | some (.bool x) => x | _ => false
theorem cntT_congr {n nv:Nat} {T T':Tb} (h:∀ b v,b < n → v < nv → T b v = T' b v):cntT n nv T = cntT n nv T':=by
 unfold cntT
 congr 1
 refine List.map_congr_left fun b hb => ?_
 refine List.countP_congr fun v hv => ?_
 rw [h b v (List.mem_range.1 hb) (List.mem_range.1 hv)]
theorem tblW_cnt {w:World} {r n nv:Nat} {T:Tb} (h:Tab w r n nv T):cntT n nv (tblW w r) = cntT n nv T:=cntT_congr fun b v hb hv => by
 unfold tblW
 rw [(h.rows b hb).cell hv]
def Bgn (W:World) (n nv:Nat) (x:Value) (wz:World):Prop:=∃ X r1 r2 r3,x = .pointer (some ⟨X,0,none⟩)∧NdS wz r1 r2 r3 n nv noT noT noT∧wz.rowIs X 67 3 (fun q => if q = 0 then .slice (some ⟨r1,0,none⟩) n n else if q = 1 then .slice (some ⟨r2,0,none⟩) n n else .slice (some ⟨r3,0,none⟩) n n)∧¬ TS r1 r2 r3 n X∧Below W.heap.size W wz∧W.heap.size ≤ r1∧W.heap.size ≤ X
theorem bgn_set {W v:World} {n nv X r1 r2 r3:Nat} (h1:Tab v r1 n nv noT) (h2:Tab v r2 n nv noT) (h3:Tab v r3 n nv noT) (a12:r1 + n < r2) (a23:r2 + n < r3) (hX:¬ TS r1 r2 r3 n X) (hrow:v.rowIs X 67 3 (fun _ => .slice none 0 0)) (hb:Below W.heap.size W v) (hl:W.heap.size ≤ r1) (hlX:W.heap.size ≤ X) :
  Bgn W n nv (.pointer (some ⟨X,0,none⟩)) (((v.setCell ⟨X,0,none⟩ (.slice (some ⟨r1,0,none⟩) n n)).setCell ⟨X,1,none⟩ (.slice (some ⟨r2,0,none⟩) n n)).setCell ⟨X,2,none⟩ (.slice (some ⟨r3,0,none⟩) n n)):=by
 have hx:∀ r,(r = r1 ∨ r = r2 ∨ r = r3) → X < r ∨ r + n < X:=fun r hr => by unfold TS at hX; omega
 refine ⟨X,r1,r2,r3,rfl,⟨((h1.off (by simpa using hx r1 (by simp)) _).off (by simpa using hx r1 (by simp)) _).off (by simpa using hx r1 (by simp)) _,((h2.off (by simpa using hx r2 (by simp)) _).off (by simpa using hx r2 (by simp)) _).off (by simpa using hx r2 (by simp)) _,((h3.off (by simpa using hx r3 (by simp)) _).off (by simpa using hx r3 (by simp)) _).off (by simpa using hx r3 (by simp)) _,a12,a23⟩,?_,hX,((hb.setCell hlX _).setCell hlX _).setCell hlX _,hl,hlX⟩
 refine (((hrow.set 0 _).set 1 _).set 2 _).congr fun i hi => ?_
 match i,hi with | 0,_ => rfl | 1,_ => rfl | 2,_ => rfl
theorem bgn_new {W v:World} {n nv r1 r2 r3:Nat} (h1:Tab v r1 n nv noT) (h2:Tab v r2 n nv noT) (h3:Tab v r3 n nv noT) (a12:r1 + n < r2) (a23:r2 + n < r3) (hb:Below W.heap.size W v) (hl:W.heap.size ≤ r1) :
  Bgn W n nv (.pointer (some ⟨v.heap.size,0,none⟩)) (v.alloc (.cells #[.slice (some ⟨r1,0,none⟩) n n,.slice (some ⟨r2,0,none⟩) n n,.slice (some ⟨r3,0,none⟩) n n] 67)):=by
 have hba:Below v.heap.size v (v.alloc (.cells #[.slice (some ⟨r1,0,none⟩) n n,.slice (some ⟨r2,0,none⟩) n n,.slice (some ⟨r3,0,none⟩) n n] 67)):=(Below.refl _ _).alloc (Nat.le_refl _) _
 have l1:=h1.hi
 have l2:=h2.hi
 have l3:=h3.hi
 refine ⟨_,r1,r2,r3,rfl,⟨h1.keep fun k hk _ _ => hba.block k hk,h2.keep fun k hk _ _ => hba.block k hk,h3.keep fun k hk _ _ => hba.block k hk,a12,a23⟩,World.rowIs_alloc _ _ _ _ (fun i hi => ?_),by unfold TS; omega,hb.trans (hba.mono hb.size),hl,hb.size⟩
 simp at hi
 match i,hi with | 0,_ => rfl | 1,_ => rfl | 2,_ => rfl
set_option maxRecDepth 4000 in
set_option maxHeartbeats 8000000 in
theorem needsOf_any (bs:List Blk) (n nv:Nat) (av ab:Option Addr) (cv cb:Nat) (w:World) (hbl:bs.length = n) (hs:SlOf w 3 (RBlk w) (.slice ab n cb) bs) (hr:∀ b ∈ bs,∀ e ∈ b.edges,0 ≤ e.block∧e.block < (n:Int)) (hd:∀ b ∈ bs,BlkIn nv b) (hn:n ≤ 1000) (hnv:nv ≤ 1000) :
  Calls Try.prog 18 #[.agg #[.slice av nv cv,.slice ab n cb]] w fun e w' => ∃ r1 r2 r3 I O,e = .returned (.agg #[.slice (some ⟨r1,0,none⟩) n n,.slice (some ⟨r2,0,none⟩) n n,.slice (some ⟨r3,0,none⟩) n n])∧NdS w' r1 r2 r3 n nv I O (M0 bs bs.length)∧((∀ b v,v < nv → (I b v = true ↔ NeedIn bs b v))∧∀ b v,v < nv → (O b v = true ↔ NeedOut bs b v))∧Below w.heap.size w w'∧w.heap.size ≤ r1:=by
 obtain ⟨W,hW⟩:∃ W,W = (w.alloc (.cells #[.slice av nv cv,.slice ab n cb] 30)).alloc (.cells #[.slice none 0 0,.slice none 0 0,.slice none 0 0] 67):=⟨_,rfl⟩
 obtain ⟨N,hN⟩:∃ N,w.heap.size = N:=⟨_,rfl⟩
 have hbw:Below w.heap.size w W:=by rw [hW]; exact ((Below.refl _ _).alloc (Nat.le_refl _) _).alloc (by simp) _
 have zW:W.heap.size = N + 1 + 1:=by rw [hW,← hN]; simp
 have q0:W.rowIs N 30 2 (fun q => if q = 0 then .slice av nv cv else .slice ab n cb):=by
  have:=World.rowIs_alloc w #[.slice av nv cv,.slice ab n cb] 30 (fun q => if q = 0 then .slice av nv cv else .slice ab n cb) fun i hi => by
   simp at hi
   match i,hi with | 0,_ => rfl | 1,_ => rfl
  rw [hN] at this
  rw [hW]
  exact this.alloc _
 have q1:W.rowIs (N + 1) 67 3 (fun _ => .slice none 0 0):=by
  have:=World.rowIs_alloc (w.alloc (.cells #[.slice av nv cv,.slice ab n cb] 30)) #[.slice none 0 0,.slice none 0 0,.slice none 0 0] 67 (fun _ => .slice none 0 0) fun i hi => by
   simp at hi
   match i,hi with | 0,_ => rfl | 1,_ => rfl | 2,_ => rfl
  have e:(w.alloc (.cells #[.slice av nv cv,.slice ab n cb] 30)).heap.size = N + 1:=by simp [hN]
  rw [e] at this
  rw [hW]
  exact this
 have HW:Hid (W = (w.alloc (.cells #[.slice av nv cv,.slice ab n cb] 30)).alloc (.cells #[.slice none 0 0,.slice none 0 0,.slice none 0 0] 67)):=hW
 have HN:Hid (w.heap.size = N):=hN
 have HZ:Hid (W.heap.size = N + 1 + 1):=zW
 have HQ:Hid (∀ w',Below W.heap.size W w' → w'.rowIs N 30 2 (fun q => if q = 0 then .slice av nv cv else .slice ab n cb)∧w'.rowIs (N + 1) 67 3 (fun _ => .slice none 0 0)):=fun w' hh => ⟨q0.of_block (hh.block _ (by omega)),q1.of_block (hh.block _ (by omega))⟩
 have HS:Hid (∀ w',Below W.heap.size W w' → w'.cell? ⟨N,0,none⟩ = some (.slice av nv cv)∧w'.cell? ⟨N,1,none⟩ = some (.slice ab n cb)):=fun w' hh => ⟨(HQ.out w' hh).1.cell (i:=0) (by omega),(HQ.out w' hh).1.cell (i:=1) (by omega)⟩
 have HC:Hid (∀ w' N',w'.heap.size = N' → Calls Try.prog 28 #[.agg #[.slice av nv cv,.slice ab n cb]] w' fun e w'' => e = .returned (.slice (some ⟨N' + 1,0,none⟩) n n)∧Tab w'' (N' + 1) n nv noT∧Below w'.heap.size w' w''∧w''.heap.size = N' + 1 + 1 + n):=fun w' N' h' => none_any n nv N' av ab cv cb w' h' hn hnv
 have HBS:Hid (SlOf W 3 (RBlk W) (.slice ab n cb) bs):=hs.below hbw (RBlk.below hbw)
 have HR:Hid (∀ b ∈ bs,∀ e ∈ b.edges,0 ≤ e.block∧e.block < (n:Int)):=hr
 have HD:Hid (∀ b ∈ bs,BlkIn nv b):=hd
 have HL:Hid (bs.length = n):=hbl
 have HBW:Hid (Below w.heap.size w W):=hbw
 have hbd:Below W.heap.size W W.drew:=(Below.refl _ _).drew
 clear hW hN zW q0 q1 hs hr hd hbl hbw
 go_enter Try.func18,Try.ntmps18
 go_upto_region 1 with fail
 rw [← HW.out,HN.out]
 clear HW
 go_cut [3] (fun x wz => Bgn W n nv x wz)
 case first =>
  refine wp_region_X (fun w' => w'.cell? ⟨N,0,none⟩ = some (.slice av nv cv)∧w'.cell? ⟨N,1,none⟩ = some (.slice ab n cb)) 99 (by kernel_rfl) (HS.out _ hbd) (fun hHeld => ?_)
  refine wpXt 0 rfl (v:=?_) (by kernel_rfl) (fun _ _ _ h => h) (by rfl) ?_ hHeld ?_
  rotate_left
  ·intro w' hSw
   go_simp <;> with_reducible rfl
  try simp only [Act.put,List.setIfInBounds_toArray,List.set_cons_zero,List.set_cons_succ]
  refine wpXt 2 rfl (v:=?_) (by kernel_rfl) (fun _ _ _ h => h) (by rfl) ?_ hHeld ?_
  rotate_left
  ·intro w' hSw
   go_simp <;> with_reducible rfl
  try simp only [Act.put,List.setIfInBounds_toArray,List.set_cons_zero,List.set_cons_succ]
  refine wpXt 4 rfl (v:=?_) (by kernel_rfl) (fun _ _ _ h => h) (by rfl) ?_ hHeld ?_
  rotate_left
  ·intro w' hSw
   go_simp <;> with_reducible rfl
  try simp only [Act.put,List.setIfInBounds_toArray,List.set_cons_zero,List.set_cons_succ]
  refine wpAnyX_both (i:=1) (k:=7) rfl rfl (by kernel_rfl) (fun K hK => ?_) (fun K hK => ?_)
  ·go_simp
   obtain ⟨N0,hN0⟩:∃ N0,(W.drew).heap.size = N0:=⟨_,rfl⟩
   refine (HC.out _ N0 hN0).mono ?_
   rintro e v1 ⟨rfl,tb1,hb1,hz1⟩
   have hW1:Below W.heap.size W v1:=(hbd).trans (hb1.mono (hbd).size)
   have Hz1:Hid (v1.heap.size = N0 + 1 + 1 + n):=hz1
   have HN0:Hid ((W.drew).heap.size = N0):=hN0
   clear hz1 hN0
   refine hK.out _ _ (HS.out _ hW1) (fun hHeld => ?_)
   clear hK K
   try simp only [Act.put,List.setIfInBounds_toArray,List.set_cons_zero,List.set_cons_succ]
   refine wpAnyX_both (i:=3) (k:=7) rfl rfl (by kernel_rfl) (fun K hK => ?_) (fun K hK => ?_)
   ·go_simp
    obtain ⟨N1,hN1⟩:∃ N1,(v1).heap.size = N1:=⟨_,rfl⟩
    refine (HC.out _ N1 hN1).mono ?_
    rintro e v2 ⟨rfl,tb2,hb2,hz2⟩
    have hW2:Below W.heap.size W v2:=(hW1).trans (hb2.mono (hW1).size)
    have Hz2:Hid (v2.heap.size = N1 + 1 + 1 + n):=hz2
    have HN1:Hid ((v1).heap.size = N1):=hN1
    clear hz2 hN1
    refine hK.out _ _ (HS.out _ hW2) (fun hHeld => ?_)
    clear hK K
    try simp only [Act.put,List.setIfInBounds_toArray,List.set_cons_zero,List.set_cons_succ]
    refine wpAnyX_both (i:=5) (k:=7) rfl rfl (by kernel_rfl) (fun K hK => ?_) (fun K hK => ?_)
    ·go_simp
     obtain ⟨N2,hN2⟩:∃ N2,(v2).heap.size = N2:=⟨_,rfl⟩
     refine (HC.out _ N2 hN2).mono ?_
     rintro e v3 ⟨rfl,tb3,hb3,hz3⟩
     have hW3:Below W.heap.size W v3:=(hW2).trans (hb3.mono (hW2).size)
     have Hz3:Hid (v3.heap.size = N2 + 1 + 1 + n):=hz3
     have HN2:Hid ((v2).heap.size = N2):=hN2
     clear hz3 hN2
     refine hK.out _ _ (HS.out _ hW3) (fun hHeld => ?_)
     clear hK K
     try simp only [Act.put,List.setIfInBounds_toArray,List.set_cons_zero,List.set_cons_succ]
     refine wpXt 6 rfl (v:=?_) (by kernel_rfl) (fun _ _ _ h => h) (by rfl) ?_ hHeld ?_
     rotate_left
     ·intro w' hSw
      go_simp <;> with_reducible rfl
     try simp only [Act.put,List.setIfInBounds_toArray,List.set_cons_zero,List.set_cons_succ]
     have hN0:=HN0.out
     have hz1:=Hz1.out
     have hN1:=HN1.out
     have hz2:=Hz2.out
     have hN2:=HN2.out
     have hz3:=Hz3.out
     simp at hN0 hN1 hN2
     have hs1:Below v1.heap.size v1 v1:=Below.refl _ _
     have hc1:Below v1.heap.size v1 v2:=hs1.trans (hb2.mono hs1.size)
     have hs2:Below v2.heap.size v2 v2:=Below.refl _ _
     have hc2:Below v2.heap.size v2 v3:=hs2.trans (hb3.mono hs2.size)
     have hc13:Below v1.heap.size v1 v3:=hc1.trans (hc2.mono hc1.size)
     have t1:Tab v3 (N0 + 1) n nv noT:=tb1.keep fun k hk _ _ => hc13.block k hk
     have t2:Tab v3 (N1 + 1) n nv noT:=tb2.keep fun k hk _ _ => hc2.block k hk
     have l0:W.heap.size ≤ N0:=by omega
     have HBE:Hid (Bgn W n nv (.pointer (some ⟨v3.heap.size,0,none⟩)) (v3.alloc (.cells #[.slice (some ⟨N0 + 1,0,none⟩) n n,.slice (some ⟨N1 + 1,0,none⟩) n n,.slice (some ⟨N2 + 1,0,none⟩) n n] 67))):=bgn_new t1 t2 tb3 (by omega) (by omega) hW3 (by omega)
     clear hN0 hN1 hN2 hz1 hz2 hz3 l0
     refine wpXs 7 rfl (by kernel_rfl) (fun K hK => ?_)
     go_simp
     refine hK.out _ _ (HS.out _ (hW3.alloc hW3.size _)) (fun hHeld => ?_)
     clear hK K
     try simp only [Act.put,List.setIfInBounds_toArray,List.set_cons_zero,List.set_cons_succ]
     refine wpXs 8 rfl (by kernel_rfl) (fun K hK => ?_)
     go_simp
     refine hK.out _ _ (HS.out _ (hW3.alloc hW3.size _)) (fun hHeld => ?_)
     clear hK K
     try simp only [Act.put,List.setIfInBounds_toArray,List.set_cons_zero,List.set_cons_succ]
     refine wpAnyX_done (by kernel_rfl) ?_ _
     go_wp2
     go_meet
     exact HBE.out
    ·go_simp
     have hWa:Below W.heap.size W (v2.alloc (.cells #[.slice none 0 0,.slice none 0 0,.slice none 0 0] 67)):=hW2.alloc hW2.size _
     refine hK.out _ _ (HS.out _ hWa) (fun hHeld => ?_)
     clear hK K
     try simp only [Act.put,List.setIfInBounds_toArray,List.set_cons_zero,List.set_cons_succ]
     refine wpXs 5 rfl (by kernel_rfl) (fun K hK => ?_)
     go_simp
     obtain ⟨N2,hN2⟩:∃ N2,((v2.alloc (.cells #[.slice none 0 0,.slice none 0 0,.slice none 0 0] 67))).heap.size = N2:=⟨_,rfl⟩
     refine (HC.out _ N2 hN2).mono ?_
     rintro e v3 ⟨rfl,tb3,hb3,hz3⟩
     have hW3:Below W.heap.size W v3:=(hWa).trans (hb3.mono (hWa).size)
     have Hz3:Hid (v3.heap.size = N2 + 1 + 1 + n):=hz3
     have HN2:Hid (((v2.alloc (.cells #[.slice none 0 0,.slice none 0 0,.slice none 0 0] 67))).heap.size = N2):=hN2
     clear hz3 hN2
     refine hK.out _ _ (HS.out _ hW3) (fun hHeld => ?_)
     clear hK K
     try simp only [Act.put,List.setIfInBounds_toArray,List.set_cons_zero,List.set_cons_succ]
     refine wpXt 6 rfl (v:=?_) (by kernel_rfl) (fun _ _ _ h => h) (by rfl) ?_ hHeld ?_
     rotate_left
     ·intro w' hSw
      go_simp <;> with_reducible rfl
     try simp only [Act.put,List.setIfInBounds_toArray,List.set_cons_zero,List.set_cons_succ]
     have hN0:=HN0.out
     have hz1:=Hz1.out
     have hN1:=HN1.out
     have hz2:=Hz2.out
     have hN2:=HN2.out
     have hz3:=Hz3.out
     simp at hN0 hN1 hN2
     have hs1:Below v1.heap.size v1 v1:=Below.refl _ _
     have hc1:Below v1.heap.size v1 v2:=hs1.trans (hb2.mono hs1.size)
     have hs2:Below v2.heap.size v2 (v2.alloc (.cells #[.slice none 0 0,.slice none 0 0,.slice none 0 0] 67)):=(Below.refl _ _).alloc (Nat.le_refl _) _
     have hc2:Below v2.heap.size v2 v3:=hs2.trans (hb3.mono hs2.size)
     have hc13:Below v1.heap.size v1 v3:=hc1.trans (hc2.mono hc1.size)
     have t1:Tab v3 (N0 + 1) n nv noT:=tb1.keep fun k hk _ _ => hc13.block k hk
     have t2:Tab v3 (N1 + 1) n nv noT:=tb2.keep fun k hk _ _ => hc2.block k hk
     have l0:W.heap.size ≤ N0:=by omega
     have hrz:(v2.alloc (.cells #[.slice none 0 0,.slice none 0 0,.slice none 0 0] 67)).rowIs v2.heap.size 67 3 (fun _ => .slice none 0 0):=World.rowIs_alloc _ _ _ _ fun i hi => by
      simp at hi
      match i,hi with | 0,_ => rfl | 1,_ => rfl | 2,_ => rfl
     have hr3:=hrz.of_block (hb3.block _ hrz.lt)
     have c0:=hr3.cell (i:=0) (by omega)
     have z0:=hr3.frozen 0
     have c1:=hr3.cell (i:=1) (by omega)
     have z1:=hr3.frozen 1
     have c2:=hr3.cell (i:=2) (by omega)
     have z2:=hr3.frozen 2
     have lX:W.heap.size ≤ v2.heap.size:=hW2.size
     have HBE:Hid (Bgn W n nv (.pointer (some ⟨v2.heap.size,0,none⟩)) (((v3.setCell ⟨v2.heap.size,0,none⟩ (.slice (some ⟨N0 + 1,0,none⟩) n n)).setCell ⟨v2.heap.size,1,none⟩ (.slice (some ⟨N1 + 1,0,none⟩) n n)).setCell ⟨v2.heap.size,2,none⟩ (.slice (some ⟨N2 + 1,0,none⟩) n n))):=bgn_set t1 t2 tb3 (by omega) (by omega) (by unfold TS; omega) hr3 hW3 (by omega) lX
     have hX0:Below W.heap.size W (((v3.setCell ⟨v2.heap.size,0,none⟩ (.slice (some ⟨N0 + 1,0,none⟩) n n)).setCell ⟨v2.heap.size,1,none⟩ (.slice (some ⟨N1 + 1,0,none⟩) n n)).setCell ⟨v2.heap.size,2,none⟩ (.slice (some ⟨N2 + 1,0,none⟩) n n)):=((hW3.setCell lX _).setCell lX _).setCell lX _
     clear hN0 hN1 hN2 hz1 hz2 hz3 l0
     refine wpXs 8 rfl (by kernel_rfl) (fun K hK => ?_)
     go_simp
     refine hK.out _ _ (HS.out _ hX0) (fun hHeld => ?_)
     clear hK K
     try simp only [Act.put,List.setIfInBounds_toArray,List.set_cons_zero,List.set_cons_succ]
     refine wpAnyX_done (by kernel_rfl) ?_ _
     go_wp2
     go_meet
     exact HBE.out
   ·go_simp
    have hWa:Below W.heap.size W (v1.alloc (.cells #[.slice none 0 0,.slice none 0 0,.slice none 0 0] 67)):=hW1.alloc hW1.size _
    refine hK.out _ _ (HS.out _ hWa) (fun hHeld => ?_)
    clear hK K
    try simp only [Act.put,List.setIfInBounds_toArray,List.set_cons_zero,List.set_cons_succ]
    refine wpXs 3 rfl (by kernel_rfl) (fun K hK => ?_)
    go_simp
    obtain ⟨N1,hN1⟩:∃ N1,((v1.alloc (.cells #[.slice none 0 0,.slice none 0 0,.slice none 0 0] 67))).heap.size = N1:=⟨_,rfl⟩
    refine (HC.out _ N1 hN1).mono ?_
    rintro e v2 ⟨rfl,tb2,hb2,hz2⟩
    have hW2:Below W.heap.size W v2:=(hWa).trans (hb2.mono (hWa).size)
    have Hz2:Hid (v2.heap.size = N1 + 1 + 1 + n):=hz2
    have HN1:Hid (((v1.alloc (.cells #[.slice none 0 0,.slice none 0 0,.slice none 0 0] 67))).heap.size = N1):=hN1
    clear hz2 hN1
    refine hK.out _ _ (HS.out _ hW2) (fun hHeld => ?_)
    clear hK K
    try simp only [Act.put,List.setIfInBounds_toArray,List.set_cons_zero,List.set_cons_succ]
    refine wpXs 5 rfl (by kernel_rfl) (fun K hK => ?_)
    go_simp
    obtain ⟨N2,hN2⟩:∃ N2,(v2).heap.size = N2:=⟨_,rfl⟩
    refine (HC.out _ N2 hN2).mono ?_
    rintro e v3 ⟨rfl,tb3,hb3,hz3⟩
    have hW3:Below W.heap.size W v3:=(hW2).trans (hb3.mono (hW2).size)
    have Hz3:Hid (v3.heap.size = N2 + 1 + 1 + n):=hz3
    have HN2:Hid ((v2).heap.size = N2):=hN2
    clear hz3 hN2
    refine hK.out _ _ (HS.out _ hW3) (fun hHeld => ?_)
    clear hK K
    try simp only [Act.put,List.setIfInBounds_toArray,List.set_cons_zero,List.set_cons_succ]
    refine wpXt 6 rfl (v:=?_) (by kernel_rfl) (fun _ _ _ h => h) (by rfl) ?_ hHeld ?_
    rotate_left
    ·intro w' hSw
     go_simp <;> with_reducible rfl
    try simp only [Act.put,List.setIfInBounds_toArray,List.set_cons_zero,List.set_cons_succ]
    have hN0:=HN0.out
    have hz1:=Hz1.out
    have hN1:=HN1.out
    have hz2:=Hz2.out
    have hN2:=HN2.out
    have hz3:=Hz3.out
    simp at hN0 hN1 hN2
    have hs1:Below v1.heap.size v1 (v1.alloc (.cells #[.slice none 0 0,.slice none 0 0,.slice none 0 0] 67)):=(Below.refl _ _).alloc (Nat.le_refl _) _
    have hc1:Below v1.heap.size v1 v2:=hs1.trans (hb2.mono hs1.size)
    have hs2:Below v2.heap.size v2 v2:=Below.refl _ _
    have hc2:Below v2.heap.size v2 v3:=hs2.trans (hb3.mono hs2.size)
    have hc13:Below v1.heap.size v1 v3:=hc1.trans (hc2.mono hc1.size)
    have t1:Tab v3 (N0 + 1) n nv noT:=tb1.keep fun k hk _ _ => hc13.block k hk
    have t2:Tab v3 (N1 + 1) n nv noT:=tb2.keep fun k hk _ _ => hc2.block k hk
    have l0:W.heap.size ≤ N0:=by omega
    have hrz:(v1.alloc (.cells #[.slice none 0 0,.slice none 0 0,.slice none 0 0] 67)).rowIs v1.heap.size 67 3 (fun _ => .slice none 0 0):=World.rowIs_alloc _ _ _ _ fun i hi => by
     simp at hi
     match i,hi with | 0,_ => rfl | 1,_ => rfl | 2,_ => rfl
    have hr2:=hrz.of_block (hb2.block _ hrz.lt)
    have hr3:=hr2.of_block (hb3.block _ hr2.lt)
    have c0:=hr3.cell (i:=0) (by omega)
    have z0:=hr3.frozen 0
    have c1:=hr3.cell (i:=1) (by omega)
    have z1:=hr3.frozen 1
    have c2:=hr3.cell (i:=2) (by omega)
    have z2:=hr3.frozen 2
    have lX:W.heap.size ≤ v1.heap.size:=hW1.size
    have HBE:Hid (Bgn W n nv (.pointer (some ⟨v1.heap.size,0,none⟩)) (((v3.setCell ⟨v1.heap.size,0,none⟩ (.slice (some ⟨N0 + 1,0,none⟩) n n)).setCell ⟨v1.heap.size,1,none⟩ (.slice (some ⟨N1 + 1,0,none⟩) n n)).setCell ⟨v1.heap.size,2,none⟩ (.slice (some ⟨N2 + 1,0,none⟩) n n))):=bgn_set t1 t2 tb3 (by omega) (by omega) (by unfold TS; omega) hr3 hW3 (by omega) lX
    have hX0:Below W.heap.size W (((v3.setCell ⟨v1.heap.size,0,none⟩ (.slice (some ⟨N0 + 1,0,none⟩) n n)).setCell ⟨v1.heap.size,1,none⟩ (.slice (some ⟨N1 + 1,0,none⟩) n n)).setCell ⟨v1.heap.size,2,none⟩ (.slice (some ⟨N2 + 1,0,none⟩) n n)):=((hW3.setCell lX _).setCell lX _).setCell lX _
    clear hN0 hN1 hN2 hz1 hz2 hz3 l0
    refine wpXs 8 rfl (by kernel_rfl) (fun K hK => ?_)
    go_simp
    refine hK.out _ _ (HS.out _ hX0) (fun hHeld => ?_)
    clear hK K
    try simp only [Act.put,List.setIfInBounds_toArray,List.set_cons_zero,List.set_cons_succ]
    refine wpAnyX_done (by kernel_rfl) ?_ _
    go_wp2
    go_meet
    exact HBE.out
  ·go_simp
   have hWa:Below W.heap.size W (W.alloc (.cells #[.slice none 0 0,.slice none 0 0,.slice none 0 0] 67)).drew:=((Below.refl W.heap.size W).alloc (Nat.le_refl _) _).drew
   refine hK.out _ _ (HS.out _ hWa) (fun hHeld => ?_)
   clear hK K
   try simp only [Act.put,List.setIfInBounds_toArray,List.set_cons_zero,List.set_cons_succ]
   refine wpXs 1 rfl (by kernel_rfl) (fun K hK => ?_)
   go_simp
   obtain ⟨N0,hN0⟩:∃ N0,((W.alloc (.cells #[.slice none 0 0,.slice none 0 0,.slice none 0 0] 67)).drew).heap.size = N0:=⟨_,rfl⟩
   refine (HC.out _ N0 hN0).mono ?_
   rintro e v1 ⟨rfl,tb1,hb1,hz1⟩
   have hW1:Below W.heap.size W v1:=(hWa).trans (hb1.mono (hWa).size)
   have Hz1:Hid (v1.heap.size = N0 + 1 + 1 + n):=hz1
   have HN0:Hid (((W.alloc (.cells #[.slice none 0 0,.slice none 0 0,.slice none 0 0] 67)).drew).heap.size = N0):=hN0
   clear hz1 hN0
   refine hK.out _ _ (HS.out _ hW1) (fun hHeld => ?_)
   clear hK K
   try simp only [Act.put,List.setIfInBounds_toArray,List.set_cons_zero,List.set_cons_succ]
   refine wpXs 3 rfl (by kernel_rfl) (fun K hK => ?_)
   go_simp
   obtain ⟨N1,hN1⟩:∃ N1,(v1).heap.size = N1:=⟨_,rfl⟩
   refine (HC.out _ N1 hN1).mono ?_
   rintro e v2 ⟨rfl,tb2,hb2,hz2⟩
   have hW2:Below W.heap.size W v2:=(hW1).trans (hb2.mono (hW1).size)
   have Hz2:Hid (v2.heap.size = N1 + 1 + 1 + n):=hz2
   have HN1:Hid ((v1).heap.size = N1):=hN1
   clear hz2 hN1
   refine hK.out _ _ (HS.out _ hW2) (fun hHeld => ?_)
   clear hK K
   try simp only [Act.put,List.setIfInBounds_toArray,List.set_cons_zero,List.set_cons_succ]
   refine wpXs 5 rfl (by kernel_rfl) (fun K hK => ?_)
   go_simp
   obtain ⟨N2,hN2⟩:∃ N2,(v2).heap.size = N2:=⟨_,rfl⟩
   refine (HC.out _ N2 hN2).mono ?_
   rintro e v3 ⟨rfl,tb3,hb3,hz3⟩
   have hW3:Below W.heap.size W v3:=(hW2).trans (hb3.mono (hW2).size)
   have Hz3:Hid (v3.heap.size = N2 + 1 + 1 + n):=hz3
   have HN2:Hid ((v2).heap.size = N2):=hN2
   clear hz3 hN2
   refine hK.out _ _ (HS.out _ hW3) (fun hHeld => ?_)
   clear hK K
   try simp only [Act.put,List.setIfInBounds_toArray,List.set_cons_zero,List.set_cons_succ]
   refine wpXt 6 rfl (v:=?_) (by kernel_rfl) (fun _ _ _ h => h) (by rfl) ?_ hHeld ?_
   rotate_left
   ·intro w' hSw
    go_simp <;> with_reducible rfl
   try simp only [Act.put,List.setIfInBounds_toArray,List.set_cons_zero,List.set_cons_succ]
   have hN0:=HN0.out
   have hz1:=Hz1.out
   have hN1:=HN1.out
   have hz2:=Hz2.out
   have hN2:=HN2.out
   have hz3:=Hz3.out
   simp at hN0 hN1 hN2
   have hs1:Below v1.heap.size v1 v1:=Below.refl _ _
   have hc1:Below v1.heap.size v1 v2:=hs1.trans (hb2.mono hs1.size)
   have hs2:Below v2.heap.size v2 v2:=Below.refl _ _
   have hc2:Below v2.heap.size v2 v3:=hs2.trans (hb3.mono hs2.size)
   have hc13:Below v1.heap.size v1 v3:=hc1.trans (hc2.mono hc1.size)
   have t1:Tab v3 (N0 + 1) n nv noT:=tb1.keep fun k hk _ _ => hc13.block k hk
   have t2:Tab v3 (N1 + 1) n nv noT:=tb2.keep fun k hk _ _ => hc2.block k hk
   have l0:W.heap.size ≤ N0:=by omega
   have hrz:(W.alloc (.cells #[.slice none 0 0,.slice none 0 0,.slice none 0 0] 67)).drew.rowIs W.heap.size 67 3 (fun _ => .slice none 0 0):=World.rowIs_alloc _ _ _ _ fun i hi => by
    simp at hi
    match i,hi with | 0,_ => rfl | 1,_ => rfl | 2,_ => rfl
   have hr1:=hrz.of_block (hb1.block _ hrz.lt)
   have hr2:=hr1.of_block (hb2.block _ hr1.lt)
   have hr3:=hr2.of_block (hb3.block _ hr2.lt)
   have c0:=hr3.cell (i:=0) (by omega)
   have z0:=hr3.frozen 0
   have c1:=hr3.cell (i:=1) (by omega)
   have z1:=hr3.frozen 1
   have c2:=hr3.cell (i:=2) (by omega)
   have z2:=hr3.frozen 2
   have lX:W.heap.size ≤ W.heap.size:=Nat.le_refl _
   have HBE:Hid (Bgn W n nv (.pointer (some ⟨W.heap.size,0,none⟩)) (((v3.setCell ⟨W.heap.size,0,none⟩ (.slice (some ⟨N0 + 1,0,none⟩) n n)).setCell ⟨W.heap.size,1,none⟩ (.slice (some ⟨N1 + 1,0,none⟩) n n)).setCell ⟨W.heap.size,2,none⟩ (.slice (some ⟨N2 + 1,0,none⟩) n n))):=bgn_set t1 t2 tb3 (by omega) (by omega) (by unfold TS; omega) hr3 hW3 (by omega) lX
   have hX0:Below W.heap.size W (((v3.setCell ⟨W.heap.size,0,none⟩ (.slice (some ⟨N0 + 1,0,none⟩) n n)).setCell ⟨W.heap.size,1,none⟩ (.slice (some ⟨N1 + 1,0,none⟩) n n)).setCell ⟨W.heap.size,2,none⟩ (.slice (some ⟨N2 + 1,0,none⟩) n n)):=((hW3.setCell lX _).setCell lX _).setCell lX _
   clear hN0 hN1 hN2 hz1 hz2 hz3 l0
   refine wpXs 8 rfl (by kernel_rfl) (fun K hK => ?_)
   go_simp
   refine hK.out _ _ (HS.out _ hX0) (fun hHeld => ?_)
   clear hK K
   try simp only [Act.put,List.setIfInBounds_toArray,List.set_cons_zero,List.set_cons_succ]
   refine wpAnyX_done (by kernel_rfl) ?_ _
   go_wp2
   go_meet
   exact HBE.out
 case rest =>
  obtain ⟨X,r1,r2,r3,rfl,hnd,hrow,hXT,hWz,hl1,hlX⟩:=hcut
  clear HC hbd
  have HLOW:Hid (∀ w',Tch (TS r1 r2 r3 n) wc w' → Below W.heap.size W w'):=fun w' t => t.below hWz (fun k hk => by have:=hnd.a12; have:=hnd.a23; unfold TS at hk; omega) hWz.size
  have HL1:Hid (W.heap.size ≤ r1∧r1 + n < r2∧r2 + n < r3):=⟨hl1,hnd.a12,hnd.a23⟩
  have HXT:Hid (¬ TS r1 r2 r3 n X):=hXT
  have HS0:Hid (NdS wc r1 r2 r3 n nv (I0 bs 0) (O0 bs 0) (M0 bs 0)∧wc.rowIs X 67 3 (fun q => if q = 0 then .slice (some ⟨r1,0,none⟩) n n else if q = 1 then .slice (some ⟨r2,0,none⟩) n n else .slice (some ⟨r3,0,none⟩) n n)∧Tch (TS r1 r2 r3 n) wc wc):=⟨hnd.congr (fun b v _ _ => by simp [noT,I0]) (fun b v _ _ => by simp [noT,O0]) (fun b v _ _ => by simp [noT,M0]),hrow,Tch.refl _ _⟩
  have f1:=(HS.out _ hWz).2
  clear hnd hrow hXT hWz hl1 hlX
  go_wp2_with fail
  clear f1
  go_loopw [16] (fun i wr => ∃ k:Nat,k ≤ n∧i = .int .i64 k∧Hid (NdS wr r1 r2 r3 n nv (I0 bs k) (O0 bs k) (M0 bs k)∧wr.rowIs X 67 3 (fun q => if q = 0 then .slice (some ⟨r1,0,none⟩) n n else if q = 1 then .slice (some ⟨r2,0,none⟩) n n else .slice (some ⟨r3,0,none⟩) n n)∧Tch (TS r1 r2 r3 n) wc wr)) (fun i _ => n - (intOf i).toNat)
  case atStart => exact ⟨0,Nat.zero_le _,rfl,HS0⟩
  case round =>
   clear HS0
   obtain ⟨k,hk,rfl,HI⟩:=hrel
   by_cases hlt:k < n
   ·have hkb:k < bs.length:=by rw [HL.out]; exact hlt
    obtain ⟨b5,off5,cs,rfl,hcl5,⟨vp,vi,ve,rfl,hp,hi,he0⟩,hc⟩:=HBS.out.at k hkb
    obtain ⟨ae,ce,rfl,_⟩:=he0.out
    obtain ⟨ap,cp,rfl,_⟩:=hp.out
    obtain ⟨ai,ci,rfl,_⟩:=hi.out
    have hb0:=HLOW.out _ HI.out.2.2
    have c0:=(hb0.cell (p:=⟨b5,off5 + k * 3 + 0,none⟩) (block_lt (hc 0 (by simp)))).trans (hc 0 (by simp))
    have c1:=(hb0.cell (p:=⟨b5,off5 + k * 3 + 1,none⟩) (block_lt (hc 1 (by simp)))).trans (hc 1 (by simp))
    have c2:=(hb0.cell (p:=⟨b5,off5 + k * 3 + 2,none⟩) (block_lt (hc 2 (by simp)))).trans (hc 2 (by simp))
    simp at c0 c1 c2
    have hbx:Below wr.heap.size wr (wr.alloc (.cells #[.slice ap bs[k].params.length cp,.slice ai bs[k].instrs.length ci,.slice ae bs[k].edges.length ce] 40)):=(Below.refl _ _).alloc (Nat.le_refl _) _
    have HCK:=lmark_any n nv r1 r2 r3 (I0 bs k) (O0 bs k) (M0 bs k) k bs[k] ap ai ae _ _ _ cp ci ce W _ (HI.out.1.below hbx) (hb0.trans (hbx.mono hb0.size)) HL1.out.1 rfl rfl rfl hp hi he0 (HD.out _ (List.getElem_mem hkb)) hlt hn hnv
    rw [← blkA_at hkb,← M0_succ,← O0_succ,← I0_succ,blkA_at hkb] at HCK
    have d0:wr.cell? ⟨X,0,none⟩ = some (.slice (some ⟨r1,0,none⟩) n n):=HI.out.2.1.cell (i:=0) (by omega)
    have d1:wr.cell? ⟨X,1,none⟩ = some (.slice (some ⟨r2,0,none⟩) n n):=HI.out.2.1.cell (i:=1) (by omega)
    have d2:wr.cell? ⟨X,2,none⟩ = some (.slice (some ⟨r3,0,none⟩) n n):=HI.out.2.1.cell (i:=2) (by omega)
    have lX:=HI.out.2.1.lt
    have LX:=old_cell X
    have HT:Hid (Tch (TS r1 r2 r3 n) wr (wr.alloc (.cells #[.slice ap bs[k].params.length cp,.slice ai bs[k].instrs.length ci,.slice ae bs[k].edges.length ce] 40))):=Tch.of hbx
    clear hc hcl5 hp hi he0 hb0 hbx
    generalize bs[k].params.length = np at *
    generalize bs[k].instrs.length = ni at *
    generalize bs[k].edges.length = ne at *
    go_wp2_with fail
    refine HCK.mono ?_
    clear HCK c0 c1 c2 d0 d1 d2 lX LX
    rintro e w6 ⟨rfl,h6,t6⟩
    have HN2:Hid (NdS w6 r1 r2 r3 n nv (I0 bs (k + 1)) (O0 bs (k + 1)) (M0 bs (k + 1))∧w6.rowIs X 67 3 (fun q => if q = 0 then .slice (some ⟨r1,0,none⟩) n n else if q = 1 then .slice (some ⟨r2,0,none⟩) n n else .slice (some ⟨r3,0,none⟩) n n)∧Tch (TS r1 r2 r3 n) wc w6):=⟨h6,(HT.out.trans t6).row HI.out.2.1 HXT.out,HI.out.2.2.trans (HT.out.trans t6)⟩
    clear h6 t6 HT HI
    go_wp2
    go_roundw
    case rel => exact ⟨k + 1,by omega,by go_num,HN2⟩
    case measure => simp [intOf]; omega
   ·have he:k = n:=by omega
    have HJ:Hid (Mid bs (I0 bs bs.length) (O0 bs bs.length)∧NdS wr r1 r2 r3 n nv (I0 bs bs.length) (O0 bs bs.length) (M0 bs bs.length)∧wr.rowIs X 67 3 (fun q => if q = 0 then .slice (some ⟨r1,0,none⟩) n n else if q = 1 then .slice (some ⟨r2,0,none⟩) n n else .slice (some ⟨r3,0,none⟩) n n)∧Tch (TS r1 r2 r3 n) wc wr):=by
     have h:=HI.out
     rw [he,← HL.out] at h
     refine ⟨mid_start bs,?_⟩
     rw [← HL.out]
     exact h
    clear HI
    subst he
    go_wp2_with fail
    go_loopw [29] (fun _ wr => ∃ (I O:Tb),Hid (Mid bs I O∧NdS wr r1 r2 r3 k nv I O (M0 bs bs.length)∧wr.rowIs X 67 3 (fun q => if q = 0 then .slice (some ⟨r1,0,none⟩) k k else if q = 1 then .slice (some ⟨r2,0,none⟩) k k else .slice (some ⟨r3,0,none⟩) k k)∧Tch (TS r1 r2 r3 k) wc wr)) (fun _ wr => k * nv - cntT k nv (tblW wr r2))
    case atStart => exact ⟨_,_,HJ⟩
    case round =>
     clear HJ
     obtain ⟨I,O,HI⟩:=hrel
     have hb0:=HLOW.out _ HI.out.2.2.2
     have HCK:=handBack_any bs k nv r1 r2 r3 I O ab cb W wr HL.out HI.out.2.1 HI.out.1 hb0 HL1.out.1 HBS.out HR.out hn hnv
     have d0:wr.cell? ⟨X,0,none⟩ = some (.slice (some ⟨r1,0,none⟩) k k):=HI.out.2.2.1.cell (i:=0) (by omega)
     have d1:wr.cell? ⟨X,1,none⟩ = some (.slice (some ⟨r2,0,none⟩) k k):=HI.out.2.2.1.cell (i:=1) (by omega)
     have d2:wr.cell? ⟨X,2,none⟩ = some (.slice (some ⟨r3,0,none⟩) k k):=HI.out.2.2.1.cell (i:=2) (by omega)
     have f1:=(HS.out _ hb0).2
     clear hb0
     go_wp2_with fail
     refine HCK.mono ?_
     clear HCK d0 d1 d2 f1
     rintro e w6 ⟨news,I',O',rfl,h6,t6,hR⟩
     have HT6:Hid (Tch (TS r1 r2 r3 k) wc w6):=HI.out.2.2.2.trans t6
     have hr6:=t6.row HI.out.2.2.1 HXT.out
     have HR6:Hid (w6.rowIs X 67 3 (fun q => if q = 0 then .slice (some ⟨r1,0,none⟩) k k else if q = 1 then .slice (some ⟨r2,0,none⟩) k k else .slice (some ⟨r3,0,none⟩) k k)):=hr6
     cases news
     ·have hb6:=HLOW.out _ HT6.out
      have e0:w6.cell? ⟨X,0,none⟩ = some (.slice (some ⟨r1,0,none⟩) k k):=hr6.cell (i:=0) (by omega)
      have e1:w6.cell? ⟨X,1,none⟩ = some (.slice (some ⟨r2,0,none⟩) k k):=hr6.cell (i:=1) (by omega)
      have e2:w6.cell? ⟨X,2,none⟩ = some (.slice (some ⟨r3,0,none⟩) k k):=hr6.cell (i:=2) (by omega)
      have hq:=(HQ.out _ hb6).2
      have p0:=hq.cell (i:=0) (by omega)
      have p1:=hq.cell (i:=1) (by omega)
      have p2:=hq.cell (i:=2) (by omega)
      have z0:=hq.frozen 0
      have z1:=hq.frozen 1
      have z2:=hq.frozen 2
      have HE:Hid (NdS (((w6.setCell ⟨N + 1,0,none⟩ (.slice (some ⟨r1,0,none⟩) k k)).setCell ⟨N + 1,1,none⟩ (.slice (some ⟨r2,0,none⟩) k k)).setCell ⟨N + 1,2,none⟩ (.slice (some ⟨r3,0,none⟩) k k)) r1 r2 r3 k nv I' O' (M0 bs bs.length)∧((∀ b v,v < nv → (I' b v = true ↔ NeedIn bs b v))∧∀ b v,v < nv → (O' b v = true ↔ NeedOut bs b v))∧Below w.heap.size w (((w6.setCell ⟨N + 1,0,none⟩ (.slice (some ⟨r1,0,none⟩) k k)).setCell ⟨N + 1,1,none⟩ (.slice (some ⟨r2,0,none⟩) k k)).setCell ⟨N + 1,2,none⟩ (.slice (some ⟨r3,0,none⟩) k k))∧w.heap.size ≤ r1):=by
       have hz:=HZ.out
       have hN:=HN.out
       have hl:=HL1.out
       have hbw6:Below w.heap.size w w6:=HBW.out.trans (hb6.mono (by omega))
       obtain ⟨o1,o2,o3⟩:=hR.old rfl
       refine ⟨⟨((h6.ti.off (by simp; omega) _).off (by simp; omega) _).off (by simp; omega) _,((h6.tu.off (by simp; omega) _).off (by simp; omega) _).off (by simp; omega) _,((h6.tm.off (by simp; omega) _).off (by simp; omega) _).off (by simp; omega) _,h6.a12,h6.a23⟩,?_,((hbw6.setCell (by simp; omega) _).setCell (by simp; omega) _).setCell (by simp; omega) _,by omega⟩
       refine hR.mid.ends fun b t v hb ht hv hi => ?_
       rw [o2]
       rw [o1] at hi
       exact o3 b t v ⟨by rw [← HL.out]; exact hb,ht,hv⟩ hi
      obtain ⟨we,hwe⟩:∃ we,we = ((w6.setCell ⟨N + 1,0,none⟩ (.slice (some ⟨r1,0,none⟩) k k)).setCell ⟨N + 1,1,none⟩ (.slice (some ⟨r2,0,none⟩) k k)).setCell ⟨N + 1,2,none⟩ (.slice (some ⟨r3,0,none⟩) k k):=⟨_,rfl⟩
      have hre:=((hq.set 0 (.slice (some ⟨r1,0,none⟩) k k)).set 1 (.slice (some ⟨r2,0,none⟩) k k)).set 2 (.slice (some ⟨r3,0,none⟩) k k)
      rw [← hwe] at hre HE
      have g0:we.cell? ⟨N + 1,0,none⟩ = some (.slice (some ⟨r1,0,none⟩) k k):=hre.cell (i:=0) (by omega)
      have g1:we.cell? ⟨N + 1,1,none⟩ = some (.slice (some ⟨r2,0,none⟩) k k):=hre.cell (i:=1) (by omega)
      have g2:we.cell? ⟨N + 1,2,none⟩ = some (.slice (some ⟨r3,0,none⟩) k k):=hre.cell (i:=2) (by omega)
      have HWE:Hid (we = ((w6.setCell ⟨N + 1,0,none⟩ (.slice (some ⟨r1,0,none⟩) k k)).setCell ⟨N + 1,1,none⟩ (.slice (some ⟨r2,0,none⟩) k k)).setCell ⟨N + 1,2,none⟩ (.slice (some ⟨r3,0,none⟩) k k)):=hwe
      clear h6 t6 hR hr6 hb6 hq HI HT6 HR6 hwe hre
      go_wp2
      rw [← HWE.out]
      clear HWE e0 e1 e2 p0 p1 p2 z0 z1 z2
      refine bodyPost_ret (v:=.agg #[.slice (some ⟨r1,0,none⟩) k k,.slice (some ⟨r2,0,none⟩) k k,.slice (some ⟨r3,0,none⟩) k k]) (by simp [results,Try.results18,go_sem,g0,g1,g2]) rfl ⟨r1,r2,r3,I',O',rfl,HE.out⟩
     ·have HN2:Hid (Mid bs I' O'∧NdS w6 r1 r2 r3 k nv I' O' (M0 bs bs.length)∧w6.rowIs X 67 3 (fun q => if q = 0 then .slice (some ⟨r1,0,none⟩) k k else if q = 1 then .slice (some ⟨r2,0,none⟩) k k else .slice (some ⟨r3,0,none⟩) k k)∧Tch (TS r1 r2 r3 k) wc w6):=⟨hR.mid,h6,HR6.out,HT6.out⟩
      have HMS:Hid (k * nv - cntT k nv (tblW w6 r2) < k * nv - cntT k nv (tblW wr r2)):=by
       have h1:=tblW_cnt h6.tu
       have h2:=tblW_cnt HI.out.2.1.tu
       have h3:=hR.cnt
       have h4:=cntT_le k nv O'
       rw [HL.out,if_pos rfl] at h3
       show _ < _
       rw [h1,h2]
       omega
      clear h6 t6 hR hr6 HI HT6 HR6
      go_wp2
      go_roundw
      case rel => exact ⟨_,_,HN2⟩
      case measure => exact HMS.out
end Go.Proofs.Ytglfpnnfcpnmoaa
