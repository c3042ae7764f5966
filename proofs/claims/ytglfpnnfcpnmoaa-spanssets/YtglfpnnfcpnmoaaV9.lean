/-
  The contract of 'live.Sets', where flow finds no fault.
-/
import Derived.Test.YtglfpnnfcpnmoaaV6
import Derived.Test.YtglfpnnfcpnmoaaV7
import Derived.Test.YtglfpnnfcpnmoaaF9s
import Derived.Test.YtglfpnnfcpnmoaaF7
namespace Go.Proofs.Ytglfpnnfcpnmoaa
open Go.RowKit
set_option linter.unusedVariables false
theorem flowCheck_iy (f:Fn) (K nv nb:Nat) (m0 m1:Int) (av ab:Option Addr) (cv cb:Nat) (r:Int) (hr:flowE f m0 m1 K = r) (hnv:f.values.length = nv) (hnb:f.blocks.length = nb) (w:World) (hv:SlOf w 1 RInt (.slice av nv cv) f.values) (hb:SlOf w 3 (RBlk w) (.slice ab nb cb) f.blocks) (hin:shapeErr f m0 m1 = 0 → FlowIn f K) :
  Calls Try.prog 17 #[.agg #[.slice av nv cv,.slice ab nb cb],.agg #[.int .i64 m0,.int .i64 m1]] w fun e w' => e = .returned (.int .i64 r)∧Below w.heap.size w w':=by
 subst hnv hnb; exact flowCheck_any f K m0 m1 av ab cv cb r hr w hv hb hin
theorem flowE_shape {f:Fn} {m0 m1:Int} {K:Nat} (h:flowE f m0 m1 K = 0):shapeErr f m0 m1 = 0:=by
 unfold flowE at h
 split at h
 ·contradiction
 ·rename_i h1
  simpa using h1
theorem shape_blkIn {f:Fn} {m0 m1:Int} (h:shapeErr f m0 m1 = 0):∀ b ∈ f.blocks,BlkIn f.values.length b:=fun b hb => by
 have S:=shape_in h
 exact ⟨fun v hv => isValue_bd (marks_val _ _ _ S.mks v (mem_all hb (List.mem_append_left _ hv))),fun x hx o ho => isValue_bd (instrErr_val (S.ins b hb x hx) o ho),fun e he v hv => isValue_bd ((edgeErr_val (S.edg b hb e he)).2.2 v hv)⟩
theorem shape_edges {f:Fn} {m0 m1:Int} (h:shapeErr f m0 m1 = 0):∀ b ∈ f.blocks,∀ e ∈ b.edges,0 ≤ e.block∧e.block < (f.blocks.length:Int):=fun b hb e he => by
 have S:=shape_in h
 have:=edgeErr_val (S.edg b hb e he)
 omega
theorem numbers_is (n nv r:Nat) (T:Tb) (R:Nat) (w:World) (hR:w.heap.size = R) (h:Tab w r n nv T) (hn:n ≤ 1000) (hnv:nv ≤ 1000) :
  Calls Try.prog 22 #[.slice (some ⟨r,0,none⟩) n n] w fun e w' => e = .returned (.slice (some ⟨R,0,none⟩) n n)∧(∀ w'',(∀ b,R ≤ b → b < w'.heap.size → w''.heap[b]? = w'.heap[b]?) → SlOf w'' 1 (RRow w'') (.slice (some ⟨R,0,none⟩) n n) ((List.range n).map fun b => rowL nv (T b)))∧Below w.heap.size w w':=by
 subst hR; exact numbers_any n nv r T w h hn hnv
def Told3 (bs:List Blk) (nv:Nat) (I O:Tb):Prop:=(∀ b v,v < nv → (I b v = true ↔ NeedIn bs b v))∧∀ b v,v < nv → (O b v = true ↔ NeedOut bs b v)
set_option maxRecDepth 4000 in
set_option maxHeartbeats 8000000 in
theorem sets_kept (f:Fn) (nv nb:Nat) (m0 m1:Int) (av ab:Option Addr) (cv cb:Nat) (hr:flowE f m0 m1 (nb * nb + 1) = 0) (hnv:f.values.length = nv) (hnb:f.blocks.length = nb) (w:World) (hv:SlOf w 1 RInt (.slice av nv cv) f.values) (hb:SlOf w 3 (RBlk w) (.slice ab nb cb) f.blocks) :
  Calls Try.prog 10 #[.agg #[.slice av nv cv,.slice ab nb cb],.agg #[.int .i64 m0,.int .i64 m1]] w fun e w' => ∃ g1 g2 I O,e = .returned (.tuple #[.agg #[.slice (some ⟨g1,0,none⟩) nb nb,.slice (some ⟨g2,0,none⟩) nb nb],.int .i64 0])∧(∀ w'',(∀ b,w.heap.size ≤ b → b < w'.heap.size → w''.heap[b]? = w'.heap[b]?) → SlOf w'' 1 (RRow w'') (.slice (some ⟨g1,0,none⟩) nb nb) ((List.range nb).map fun b => rowL nv (I b))∧SlOf w'' 1 (RRow w'') (.slice (some ⟨g2,0,none⟩) nb nb) ((List.range nb).map fun b => rowL nv (O b)))∧Told3 f.blocks nv I O∧Below w.heap.size w w':=by
 have hsh:=flowE_shape hr
 have hn16:nb ≤ 1000:=by have:=(shape_in hsh).nb; omega
 have hnv160:nv ≤ 1000:=by have:=(shape_in hsh).nv; omega
 have HBI:Hid (∀ b ∈ f.blocks,BlkIn nv b):=by rw [← hnv]; exact shape_blkIn hsh
 have HED:Hid (∀ b ∈ f.blocks,∀ e ∈ b.edges,0 ≤ e.block∧e.block < (nb:Int)):=by rw [← hnb]; exact shape_edges hsh
 obtain ⟨W,hW⟩:∃ W,W = ((w.alloc (.cells #[.slice av nv cv,.slice ab nb cb] 30)).alloc (.cells #[.int .i64 m0,.int .i64 m1] 25)).alloc (.cells #[.slice none 0 0,.slice none 0 0] 52):=⟨_,rfl⟩
 obtain ⟨N,hN⟩:∃ N,w.heap.size = N:=⟨_,rfl⟩
 have hbw:Below w.heap.size w W:=by
  rw [hW]
  repeat (first | exact Below.refl _ _ | refine Below.alloc ?_ (by simp; try omega) _)
 have zW:W.heap.size = N + 1 + 1 + 1:=by rw [hW,← hN]; simp
 have q0:W.rowIs N 30 2 (fun q => if q = 0 then .slice av nv cv else .slice ab nb cb):=by
  have:=World.rowIs_alloc w #[.slice av nv cv,.slice ab nb cb] 30 (fun q => if q = 0 then .slice av nv cv else .slice ab nb cb) fun i hi => by
   simp at hi
   match i,hi with | 0,_ => rfl | 1,_ => rfl
  rw [hN] at this
  rw [hW]
  exact (this.alloc _).alloc _
 have q2:W.rowIs (N + 1 + 1) 52 2 (fun _ => .slice none 0 0):=by
  have:=World.rowIs_alloc ((w.alloc (.cells #[.slice av nv cv,.slice ab nb cb] 30)).alloc (.cells #[.int .i64 m0,.int .i64 m1] 25)) #[.slice none 0 0,.slice none 0 0] 52 (fun _ => .slice none 0 0) fun i hi => by
   simp at hi
   match i,hi with | 0,_ => rfl | 1,_ => rfl
  have e:((w.alloc (.cells #[.slice av nv cv,.slice ab nb cb] 30)).alloc (.cells #[.int .i64 m0,.int .i64 m1] 25)).heap.size = N + 1 + 1:=by simp [hN]
  rw [e] at this
  rw [hW]
  exact this
 have f0:W.cell? ⟨N,0,none⟩ = some (.slice av nv cv):=q0.cell (i:=0) (by omega)
 have f1:W.cell? ⟨N,1,none⟩ = some (.slice ab nb cb):=q0.cell (i:=1) (by omega)
 have g0:W.cell? ⟨N + 1,0,none⟩ = some (.int .i64 m0):=by rw [hW,← hN]; go_simp
 have g1:W.cell? ⟨N + 1,1,none⟩ = some (.int .i64 m1):=by rw [hW,← hN]; go_simp
 have HW:Hid (W = ((w.alloc (.cells #[.slice av nv cv,.slice ab nb cb] 30)).alloc (.cells #[.int .i64 m0,.int .i64 m1] 25)).alloc (.cells #[.slice none 0 0,.slice none 0 0] 52)):=hW
 have HN:Hid (w.heap.size = N):=hN
 have HBL:Hid (SlOf W 3 (RBlk W) (.slice ab nb cb) f.blocks):=hb.below hbw (RBlk.below hbw)
 have HC:=flowCheck_iy f (nb * nb + 1) nv nb m0 m1 av ab cv cb 0 hr hnv hnb W (hv.below hbw fun _ _ h => h) HBL.out (fun h => by have:=flowIn_all h; rw [hnb] at this; exact this)
 have HQ:Hid (∀ w',Below W.heap.size W w' → w'.rowIs N 30 2 (fun q => if q = 0 then .slice av nv cv else .slice ab nb cb)∧w'.rowIs (N + 1 + 1) 52 2 (fun _ => .slice none 0 0)):=fun w' hh => ⟨q0.of_block (hh.block _ (by omega)),q2.of_block (hh.block _ (by omega))⟩
 have HBW:Hid (Below w.heap.size w W):=hbw
 have HZ:Hid (W.heap.size = N + 1 + 1 + 1):=zW
 have HNB:Hid (f.blocks.length = nb):=hnb
 clear hW hN hbw zW q0 q2 hv hb hr hnv hnb hsh
 go_enter Try.func10,Try.ntmps10
 go_upto_region 1 with fail
 rw [← HW.out,HN.out]
 clear HW
 go_wp2_with fail
 refine HC.mono ?_
 clear HC f0 f1 g0 g1
 rintro e w1 ⟨rfl,hb1⟩
 have f0:w1.cell? ⟨N,0,none⟩ = some (.slice av nv cv):=(HQ.out _ hb1).1.cell (i:=0) (by omega)
 have f1:w1.cell? ⟨N,1,none⟩ = some (.slice ab nb cb):=(HQ.out _ hb1).1.cell (i:=1) (by omega)
 have HC:=needsOf_any f.blocks nb nv av ab cv cb w1 HNB.out (HBL.out.below hb1 (RBlk.below hb1)) HED.out HBI.out hn16 hnv160
 have HB1:Hid (Below W.heap.size W w1):=hb1
 clear hb1
 go_wp2_with fail
 refine HC.mono ?_
 clear HC f0 f1
 rintro e w2 ⟨r1,r2,r3,I,O,rfl,hnd,htold,hb2,hl⟩
 have HT3:Hid (Told3 f.blocks nv I O):=htold
 clear htold
 go_upto_region 5 with fail
 obtain ⟨W3,hW3⟩:∃ W3,W3 = w2.alloc (.cells #[.slice (some ⟨r1,0,none⟩) nb nb,.slice (some ⟨r2,0,none⟩) nb nb,.slice (some ⟨r3,0,none⟩) nb nb] 67):=⟨_,rfl⟩
 obtain ⟨X,hX⟩:∃ X,w2.heap.size = X:=⟨_,rfl⟩
 have x0:W3.cell? ⟨X,0,none⟩ = some (.slice (some ⟨r1,0,none⟩) nb nb):=by rw [hW3,← hX]; simp
 have x1:W3.cell? ⟨X,1,none⟩ = some (.slice (some ⟨r2,0,none⟩) nb nb):=by rw [hW3,← hX]; simp
 have lX:X < W3.heap.size:=by rw [hW3,← hX]; simp
 have rX:W3.rowIs X 67 3 (fun q => if q = 0 then .slice (some ⟨r1,0,none⟩) nb nb else if q = 1 then .slice (some ⟨r2,0,none⟩) nb nb else .slice (some ⟨r3,0,none⟩) nb nb):=by
  rw [hW3,← hX]
  exact World.rowIs_alloc _ _ _ _ fun i hi => by
   simp at hi
   match i,hi with | 0,_ => rfl | 1,_ => rfl | 2,_ => rfl
 have HRX:Hid (W3.rowIs X 67 3 (fun q => if q = 0 then .slice (some ⟨r1,0,none⟩) nb nb else if q = 1 then .slice (some ⟨r2,0,none⟩) nb nb else .slice (some ⟨r3,0,none⟩) nb nb)):=rX
 clear rX
 have hb3:Below w2.heap.size w2 W3:=by rw [hW3]; exact (Below.refl _ _).alloc (Nat.le_refl _) _
 have hnd3:=hnd.below hb3
 have HT1:Hid (∀ w',Below W3.heap.size W3 w' → Tab w' r1 nb nv I):=fun w' hh => hnd3.ti.keep fun k hk _ _ => hh.block k hk
 have HT2:Hid (∀ w',Below W3.heap.size W3 w' → Tab w' r2 nb nv O):=fun w' hh => hnd3.tu.keep fun k hk _ _ => hh.block k hk
 have HB3:Hid (Below W.heap.size W W3):=(HB1.out.trans (hb2.mono HB1.out.size)).trans (hb3.mono (by have:=HB1.out.size; have:=hb2.size; omega))
 rw [← hW3,hX]
 have HXN:Hid (W.heap.size ≤ X):=by
  show _ ≤ _
  have h1:=HB1.out.size
  have h2:=hb2.size
  rw [← hX]
  omega
 clear hW3 hnd hnd3 hb2 hb3 hl
 clear hX
 have hbd:Below W3.heap.size W3 W3.drew:=(Below.refl _ _).drew
 have HSF:Hid (∀ w',Below W3.heap.size W3 w' → w'.cell? ⟨X,0,none⟩ = some (.slice (some ⟨r1,0,none⟩) nb nb)∧w'.cell? ⟨X,1,none⟩ = some (.slice (some ⟨r2,0,none⟩) nb nb)):=fun w' hh => ⟨(hh.cell lX).trans x0,(hh.cell lX).trans x1⟩
 refine wp_region_X (fun w' => w'.cell? ⟨X,0,none⟩ = some (.slice (some ⟨r1,0,none⟩) nb nb)∧w'.cell? ⟨X,1,none⟩ = some (.slice (some ⟨r2,0,none⟩) nb nb)) 99 (by kernel_rfl) (HSF.out _ hbd) (fun hHeld => ?_)
 refine wpXt 0 rfl (v:=?_) (by kernel_rfl) (fun _ _ _ h => h) (by rfl) ?_ hHeld ?_
 rotate_left
 ·intro w' hSw
  go_simp <;> with_reducible rfl
 try simp only [Act.put,List.setIfInBounds_toArray,List.set_cons_zero,List.set_cons_succ]
 refine wpXt 1 rfl (v:=?_) (by kernel_rfl) (fun _ _ _ h => h) (by rfl) ?_ hHeld ?_
 rotate_left
 ·intro w' hSw
  go_simp <;> with_reducible rfl
 try simp only [Act.put,List.setIfInBounds_toArray,List.set_cons_zero,List.set_cons_succ]
 refine wpXt 3 rfl (v:=?_) (by kernel_rfl) (fun _ _ _ h => h) (by rfl) ?_ hHeld ?_
 rotate_left
 ·intro w' hSw
  go_simp <;> with_reducible rfl
 try simp only [Act.put,List.setIfInBounds_toArray,List.set_cons_zero,List.set_cons_succ]
 refine wpXt 4 rfl (v:=?_) (by kernel_rfl) (fun _ _ _ h => h) (by rfl) ?_ hHeld ?_
 rotate_left
 ·intro w' hSw
  go_simp <;> with_reducible rfl
 try simp only [Act.put,List.setIfInBounds_toArray,List.set_cons_zero,List.set_cons_succ]
 refine wpXs 2 rfl (by kernel_rfl) (fun K hK => ?_)
 go_simp
 obtain ⟨G1,hG1⟩:∃ G1,W3.drew.heap.size = G1:=⟨_,rfl⟩
 refine (numbers_is nb nv r1 I G1 _ hG1 (HT1.out _ hbd) hn16 hnv160).mono ?_
 rintro e v1 ⟨rfl,s1,hb1⟩
 have hc1:Below W3.heap.size W3 v1:=hbd.trans (hb1.mono hbd.size)
 have HG1:Hid (W3.heap.size = G1):=hG1
 clear hG1
 refine hK.out _ _ (HSF.out _ hc1) (fun hHeld => ?_)
 clear hK K
 try simp only [Act.put,List.setIfInBounds_toArray,List.set_cons_zero,List.set_cons_succ]
 refine wpXs 5 rfl (by kernel_rfl) (fun K hK => ?_)
 go_simp
 obtain ⟨G2,hG2⟩:∃ G2,v1.heap.size = G2:=⟨_,rfl⟩
 refine (numbers_is nb nv r2 O G2 _ hG2 (HT2.out _ hc1) hn16 hnv160).mono ?_
 rintro e v2 ⟨rfl,s2,hb2⟩
 have hc2:Below W3.heap.size W3 v2:=hc1.trans (hb2.mono hc1.size)
 have HG2:Hid (v1.heap.size = G2):=hG2
 clear hG2
 refine hK.out _ _ (HSF.out _ hc2) (fun hHeld => ?_)
 clear hK K
 try simp only [Act.put,List.setIfInBounds_toArray,List.set_cons_zero,List.set_cons_succ]
 refine wpXt 6 rfl (v:=?_) (by kernel_rfl) (fun _ _ _ h => h) (by rfl) ?_ hHeld ?_
 rotate_left
 ·intro w' hSw
  go_simp <;> with_reducible rfl
 try simp only [Act.put,List.setIfInBounds_toArray,List.set_cons_zero,List.set_cons_succ]
 have hcW:Below W.heap.size W v2:=HB3.out.trans (hc2.mono HB3.out.size)
 have hq:=(HQ.out _ hcW).2
 have p0:=hq.cell (i:=0) (by omega)
 have p1:=hq.cell (i:=1) (by omega)
 have z0:=hq.frozen 0
 have z1:=hq.frozen 1
 obtain ⟨v3,hv3⟩:∃ v3,v3 = (v2.setCell ⟨N + 1 + 1,0,none⟩ (.slice (some ⟨G1,0,none⟩) nb nb)).setCell ⟨N + 1 + 1,1,none⟩ (.slice (some ⟨G2,0,none⟩) nb nb):=⟨_,rfl⟩
 have hNX:X ≠ N + 1 + 1:=by have:=HXN.out; have:=HZ.out; omega
 have rX3:=((HRX.out.of_block (hc2.block _ lX)).setOther (a:=⟨N + 1 + 1,0,none⟩) hNX (.slice (some ⟨G1,0,none⟩) nb nb)).setOther (a:=⟨N + 1 + 1,1,none⟩) hNX (.slice (some ⟨G2,0,none⟩) nb nb)
 have hre:=(hq.set 0 (.slice (some ⟨G1,0,none⟩) nb nb)).set 1 (.slice (some ⟨G2,0,none⟩) nb nb)
 rw [← hv3] at rX3 hre
 have y0:v3.cell? ⟨X,0,none⟩ = some (.slice (some ⟨r1,0,none⟩) nb nb):=rX3.cell (i:=0) (by omega)
 have y1:v3.cell? ⟨X,1,none⟩ = some (.slice (some ⟨r2,0,none⟩) nb nb):=rX3.cell (i:=1) (by omega)
 have e0:v3.cell? ⟨N + 1 + 1,0,none⟩ = some (.slice (some ⟨G1,0,none⟩) nb nb):=hre.cell (i:=0) (by omega)
 have e1:v3.cell? ⟨N + 1 + 1,1,none⟩ = some (.slice (some ⟨G2,0,none⟩) nb nb):=hre.cell (i:=1) (by omega)
 have HE:Hid ((∀ w'',(∀ b,w.heap.size ≤ b → b < v3.heap.size → w''.heap[b]? = v3.heap[b]?) → SlOf w'' 1 (RRow w'') (.slice (some ⟨G1,0,none⟩) nb nb) ((List.range nb).map fun b => rowL nv (I b))∧SlOf w'' 1 (RRow w'') (.slice (some ⟨G2,0,none⟩) nb nb) ((List.range nb).map fun b => rowL nv (O b)))∧Told3 f.blocks nv I O∧Below w.heap.size w v3):=by
  have hz:=HZ.out
  have hN:=HN.out
  have g1:=HG1.out
  have g2:=HG2.out
  have hx:=HXN.out
  have hs:=hc1.size
  have hk3:∀ b,b ≠ N + 1 + 1 → v3.heap[b]? = v2.heap[b]?:=fun b hb => by rw [hv3,Below.heap_setCell _ _ _ _ hb,Below.heap_setCell _ _ _ _ hb]
  have hbw2:Below w.heap.size w v2:=HBW.out.trans (hcW.mono (by omega))
  have hz3:v3.heap.size = v2.heap.size:=by rw [hv3]; simp
  have hs2:=hb2.size
  have hbw2s:=hbw2.size
  refine ⟨fun w'' hk => ⟨s1 w'' fun b h1 h2 => ?_,s2 w'' fun b h1 h2 => ?_⟩,HT3.out,by rw [hv3]; exact (hbw2.setCell (by simp; omega) _).setCell (by simp; omega) _⟩
  ·exact (hk b (by omega) (by omega)).trans ((hk3 b (by omega)).trans (hb2.block b (by omega)))
  ·exact (hk b (by omega) (by omega)).trans (hk3 b (by omega))
 have HV3:Hid (v3 = (v2.setCell ⟨N + 1 + 1,0,none⟩ (.slice (some ⟨G1,0,none⟩) nb nb)).setCell ⟨N + 1 + 1,1,none⟩ (.slice (some ⟨G2,0,none⟩) nb nb)):=hv3
 clear hv3 rX3 hre hq hcW s1 s2 hb1 hb2 hc1 hc2 hNX
 refine wpXs 7 rfl (by kernel_rfl) (fun K hK => ?_)
 go_simp
 rw [← HV3.out]
 refine hK.out _ _ ⟨y0,y1⟩ (fun hHeld => ?_)
 clear hK K HV3 p0 p1 z0 z1
 try simp only [Act.put,List.setIfInBounds_toArray,List.set_cons_zero,List.set_cons_succ]
 refine wpXs 8 rfl (by kernel_rfl) (fun K hK => ?_)
 go_simp
 refine hK.out _ _ ⟨y0,y1⟩ (fun hHeld => ?_)
 clear hK K
 try simp only [Act.put,List.setIfInBounds_toArray,List.set_cons_zero,List.set_cons_succ]
 refine wpAnyX_done (by kernel_rfl) ?_ _
 go_wp2
 refine bodyPost_ret (v:=.tuple #[.agg #[.slice (some ⟨G1,0,none⟩) nb nb,.slice (some ⟨G2,0,none⟩) nb nb],.int .i64 0]) (by simp [results,Try.results10,go_sem,e0,e1]) rfl ⟨G1,G2,I,O,rfl,HE.out⟩
theorem sets_any (f:Fn) (nv nb:Nat) (m0 m1:Int) (av ab:Option Addr) (cv cb:Nat) (hr:flowE f m0 m1 (nb * nb + 1) = 0) (hnv:f.values.length = nv) (hnb:f.blocks.length = nb) (w:World) (hv:SlOf w 1 RInt (.slice av nv cv) f.values) (hb:SlOf w 3 (RBlk w) (.slice ab nb cb) f.blocks) :
  Calls Try.prog 10 #[.agg #[.slice av nv cv,.slice ab nb cb],.agg #[.int .i64 m0,.int .i64 m1]] w fun e w' => ∃ g1 g2 I O,e = .returned (.tuple #[.agg #[.slice (some ⟨g1,0,none⟩) nb nb,.slice (some ⟨g2,0,none⟩) nb nb],.int .i64 0])∧SlOf w' 1 (RRow w') (.slice (some ⟨g1,0,none⟩) nb nb) ((List.range nb).map fun b => rowL nv (I b))∧SlOf w' 1 (RRow w') (.slice (some ⟨g2,0,none⟩) nb nb) ((List.range nb).map fun b => rowL nv (O b))∧Told3 f.blocks nv I O∧Below w.heap.size w w':=by
 refine (sets_kept f nv nb m0 m1 av ab cv cb hr hnv hnb w hv hb).mono ?_
 rintro e w' ⟨g1,g2,I,O,h1,h2,h3,h4⟩
 obtain ⟨h5,h6⟩:=h2 w' fun _ _ _ => rfl
 exact ⟨g1,g2,I,O,h1,h5,h6,h3,h4⟩
end Go.Proofs.Ytglfpnnfcpnmoaa
