/-
  The contract of 'live.Spans', where flow finds no fault.
-/
import Derived.Test.YtglfpnnfcpnmoaaV13
import Derived.Test.YtglfpnnfcpnmoaaV14
import Derived.Test.YtglfpnnfcpnmoaaV6
import Derived.Test.YtglfpnnfcpnmoaaV11
import Derived.Test.YtglfpnnfcpnmoaaF9s
import Derived.Test.YtglfpnnfcpnmoaaF7
import Derived.Test.YtglfpnnfcpnmoaaD2
namespace Go.Proofs.Ytglfpnnfcpnmoaa
open Go.RowKit
set_option linter.unusedVariables false
theorem flowCheck_ix (f:Fn) (K nv nb:Nat) (m0 m1:Int) (av ab:Option Addr) (cv cb:Nat) (r:Int) (hr:flowE f m0 m1 K = r) (hnv:f.values.length = nv) (hnb:f.blocks.length = nb) (w:World) (hv:SlOf w 1 RInt (.slice av nv cv) f.values) (hb:SlOf w 3 (RBlk w) (.slice ab nb cb) f.blocks) (hin:shapeErr f m0 m1 = 0 → FlowIn f K) :
  Calls Try.prog 17 #[.agg #[.slice av nv cv,.slice ab nb cb],.agg #[.int .i64 m0,.int .i64 m1]] w fun e w' => e = .returned (.int .i64 r)∧Below w.heap.size w w':=by
 subst hnv hnb; exact flowCheck_any f K m0 m1 av ab cv cb r hr w hv hb hin
def stepL (l:List Sp) (x:Sp):List Sp:=if x.1 < x.2 then joinL l x else l
def spansM (bs:List Blk) (nv:Nat) (I O:Tb):Nat → Nat → List Sp
 | 0 => fun _ => []
 | k + 1 => fun i => stepL (spansM bs nv I O k i) (stayM (blkA bs k) I O k nv (startM bs k) i)
theorem joinL_len (l:List Sp) (x:Sp):(joinL l x).length ≤ l.length + 1:=by
 rcases List.eq_nil_or_concat l with rfl | ⟨m,y,rfl⟩
 ·simp [joinL]
 ·rw [List.concat_eq_append,joinL_snoc]
  split <;> simp
theorem spansM_len (bs:List Blk) (nv:Nat) (I O:Tb) (i:Nat):∀ k,(spansM bs nv I O k i).length ≤ k
 | 0 => by simp [spansM]
 | k + 1 => by
  have h:=spansM_len bs nv I O i k
  simp only [spansM,stepL]
  split
  ·have:=joinL_len (spansM bs nv I O k i) (stayM (blkA bs k) I O k nv (startM bs k) i)
   omega
  ·omega
structure PSp (w:World) (R nv:Nat) (vs:Nat → Value) (L:Nat → List Sp):Prop where
 row:w.rowIs R 48 nv vs
 own:∀ i,i < nv → w.ownsRow (R + 1) 71 2 (vs i) (L i).length ((L i).flatMap cS)
 apart:∀ i j g,i < nv → j < nv → i ≠ j → (vs i).ownBlock = some g → (vs j).ownBlock ≠ some g
theorem PSp.below {w w':World} {R nv:Nat} {vs:Nat → Value} {L:Nat → List Sp} (h:PSp w R nv vs L) (hb:Below w.heap.size w w'):PSp w' R nv vs L :=
 ⟨h.row.of_block (hb.block _ h.row.lt),fun i hi => own_keep (h.own i hi) fun g _ _ hg => hb.block g hg,h.apart⟩
theorem PSp.congr {w:World} {R nv:Nat} {vs:Nat → Value} {L L':Nat → List Sp} (h:PSp w R nv vs L) (he:∀ i,i < nv → L i = L' i):PSp w R nv vs L' :=
 ⟨h.row,fun i hi => by rw [← he i hi]; exact h.own i hi,h.apart⟩
theorem PSp.join {w wa w1:World} {R nv t:Nat} {vs:Nat → Value} {L:Nat → List Sp} {v':Value} {l':List Sp} (h:PSp w R nv vs L) (ht:t < nv) (hwa:Below w.heap.size w wa) (hgrow:wa.grownBy w1 (vs t).ownBlock)
  (hown:w1.ownsRow (R + 1) 71 2 v' l'.length (l'.flatMap cS)) (hat:v'.ownBlock = (vs t).ownBlock ∨ ∃ g,v'.ownBlock = some g∧wa.heap.size ≤ g) :
  PSp (w1.setCell ⟨R,t,none⟩ v') R nv (fun i => if i = t then v' else vs i) (fun i => if i = t then l' else L i):=by
 have hza:=hwa.size
 have kept:∀ b,b < w.heap.size → some b ≠ (vs t).ownBlock → w1.heap[b]? = w.heap[b]?:=fun b hb hne => (hgrow.block b (by omega) hne).trans (hwa.block b hb)
 have hRv:some R ≠ (vs t).ownBlock:=fun e => by have:=own_base (h.own t ht) e.symm; omega
 have hst:∀ (b:Nat),b ≠ R → (w1.setCell ⟨R,t,none⟩ v').heap[b]? = w1.heap[b]?:=fun b hb => Below.heap_setCell _ _ _ _ hb
 have newg:∀ j g,j < nv → j ≠ t → v'.ownBlock = some g → (vs j).ownBlock ≠ some g:=by
  intro j g hj hjt hg e
  rcases hat with h1 | ⟨q,h1,h2⟩
  ·exact h.apart t j g ht hj (fun e => hjt e.symm) (h1 ▸ hg) e
  ·have h3:=own_base (h.own j hj) e
   rw [h1] at hg
   simp only [Option.some.injEq] at hg
   omega
 refine ⟨(h.row.of_block (kept R h.row.lt hRv)).set t _,fun i hi => ?_,fun i j g' hi hj hij hg => ?_⟩
 ·show World.ownsRow _ _ _ _ (if i = t then _ else vs i) (if i = t then l' else L i).length ((if i = t then l' else L i).flatMap cS)
  by_cases e:i = t
  ·rw [if_pos e,if_pos e]
   exact own_keep hown fun b hb h1 h2 => hst b (by omega)
  ·rw [if_neg e,if_neg e]
   refine own_keep (h.own i hi) fun b hb h1 h2 => (hst b (by omega)).trans (kept b h2 fun e2 => ?_)
   exact h.apart i t b hi ht e hb e2.symm
 ·show (if j = t then _ else vs j).ownBlock ≠ some g'
  have hg':(if i = t then v' else vs i).ownBlock = some g':=hg
  by_cases e:i = t
  ·rw [if_pos e] at hg'
   rw [if_neg (by omega)]
   exact newg j g' hj (by omega) hg'
  ·rw [if_neg e] at hg'
   by_cases e2:j = t
   ·rw [if_pos e2]
    intro e3
    exact newg i g' hi e e3 hg'
   ·rw [if_neg e2]
    exact h.apart i j g' hi hj hij hg'
set_option maxRecDepth 4000 in
set_option maxHeartbeats 8000000 in
theorem spans_any (f:Fn) (nv nb:Nat) (m0 m1:Int) (av ab:Option Addr) (cv cb:Nat) (hr:flowE f m0 m1 (nb * nb + 1) = 0) (hnv:f.values.length = nv) (hnb:f.blocks.length = nb) (w:World) (hv:SlOf w 1 RInt (.slice av nv cv) f.values) (hb:SlOf w 3 (RBlk w) (.slice ab nb cb) f.blocks) :
  Calls Try.prog 7 #[.agg #[.slice av nv cv,.slice ab nb cb],.agg #[.int .i64 m0,.int .i64 m1]] w fun e w' => ∃ R vs I O,e = .returned (.tuple #[.slice (some ⟨R,0,none⟩) nv nv,.int .i64 0])∧PSp w' R nv vs (spansM f.blocks nv I O nb)∧((∀ b v,v < nv → (I b v = true ↔ NeedIn f.blocks b v))∧∀ b v,v < nv → (O b v = true ↔ NeedOut f.blocks b v))∧w.heap.size ≤ R∧Below w.heap.size w w':=by
 have hsh:shapeErr f m0 m1 = 0:=by
  unfold flowE at hr
  split at hr
  ·contradiction
  ·rename_i h1
   simpa using h1
 have SI:=shape_in hsh
 have hn16:nb ≤ 16:=by have:=SI.nb; omega
 have hnv160:nv ≤ 160:=by have:=SI.nv; omega
 have HBI:Hid (∀ b ∈ f.blocks,BlkIn nv b):=fun b hb => by
  rw [← hnv]
  exact ⟨fun v hv => isValue_bd (marks_val _ _ _ SI.mks v (mem_all hb (List.mem_append_left _ hv))),fun x hx o ho => isValue_bd (instrErr_val (SI.ins b hb x hx) o ho),fun e he v hv => isValue_bd ((edgeErr_val (SI.edg b hb e he)).2.2 v hv)⟩
 have HED:Hid (∀ b ∈ f.blocks,∀ e ∈ b.edges,0 ≤ e.block∧e.block < (nb:Int)):=fun b hb e he => by
  have:=edgeErr_val (SI.edg b hb e he)
  omega
 have HFT:Hid (∀ k (hk:k < f.blocks.length),f.blocks[k].instrs.length ≤ 1000):=fun k hk => by
  have h2:=SI.fits _ (List.getElem_mem hk)
  simp only [blkFits,Bool.and_eq_true,decide_eq_true_eq] at h2
  omega
 have HST:Hid (∀ k,k ≤ nb → 0 ≤ startM f.blocks k∧startM f.blocks k ≤ 1000 * k):=fun k hk => by
  induction k with
  | zero => simp [startM]
  | succ k ih =>
   have h1:=ih (by omega)
   rw [startM_succ _ _ (by omega)]
   have h2:=SI.fits _ (List.getElem_mem (show k < f.blocks.length by omega))
   simp only [blkFits,Bool.and_eq_true,decide_eq_true_eq] at h2
   omega
 obtain ⟨W,hW⟩:∃ W,W = (w.alloc (.cells #[.slice av nv cv,.slice ab nb cb] 30)).alloc (.cells #[.int .i64 m0,.int .i64 m1] 25):=⟨_,rfl⟩
 obtain ⟨N,hN⟩:∃ N,w.heap.size = N:=⟨_,rfl⟩
 have hbw:Below w.heap.size w W:=by
  rw [hW]
  repeat (first | exact Below.refl _ _ | refine Below.alloc ?_ (by simp; try omega) _)
 have zW:W.heap.size = N + 1 + 1:=by rw [hW,← hN]; simp
 have q0:W.rowIs N 30 2 (fun q => if q = 0 then .slice av nv cv else .slice ab nb cb):=by
  have:=World.rowIs_alloc w #[.slice av nv cv,.slice ab nb cb] 30 (fun q => if q = 0 then .slice av nv cv else .slice ab nb cb) fun i hi => by
   simp at hi
   match i,hi with | 0,_ => rfl | 1,_ => rfl
  rw [hN] at this
  rw [hW]
  exact this.alloc _
 have f0:W.cell? ⟨N,0,none⟩ = some (.slice av nv cv):=q0.cell (i:=0) (by omega)
 have f1:W.cell? ⟨N,1,none⟩ = some (.slice ab nb cb):=q0.cell (i:=1) (by omega)
 have g0:W.cell? ⟨N + 1,0,none⟩ = some (.int .i64 m0):=by rw [hW,← hN]; go_simp
 have g1:W.cell? ⟨N + 1,1,none⟩ = some (.int .i64 m1):=by rw [hW,← hN]; go_simp
 have HW:Hid (W = (w.alloc (.cells #[.slice av nv cv,.slice ab nb cb] 30)).alloc (.cells #[.int .i64 m0,.int .i64 m1] 25)):=hW
 have HN:Hid (w.heap.size = N):=hN
 have HBL:Hid (SlOf W 3 (RBlk W) (.slice ab nb cb) f.blocks):=hb.below hbw (RBlk.below hbw)
 have HC:=flowCheck_ix f (nb * nb + 1) nv nb m0 m1 av ab cv cb 0 hr hnv hnb W (hv.below hbw fun _ _ h => h) HBL.out (fun h => by have:=flowIn_all h; rw [hnb] at this; exact this)
 have HQ:Hid (∀ w',Below W.heap.size W w' → w'.rowIs N 30 2 (fun q => if q = 0 then .slice av nv cv else .slice ab nb cb)):=fun w' hh => q0.of_block (hh.block _ (by omega))
 have HBW:Hid (Below w.heap.size w W):=hbw
 have HZ:Hid (W.heap.size = N + 1 + 1):=zW
 have HNB:Hid (f.blocks.length = nb):=hnb
 clear hW hN hbw zW q0 hv hb hr hnv hnb hsh SI
 go_enter Try.func7,Try.ntmps7
 go_upto_region 1 with fail
 rw [← HW.out,HN.out]
 clear HW
 go_wp2_with fail
 refine HC.mono ?_
 clear HC f0 f1 g0 g1
 rintro e w1 ⟨rfl,hb1⟩
 have f0:w1.cell? ⟨N,0,none⟩ = some (.slice av nv cv):=(HQ.out _ hb1).cell (i:=0) (by omega)
 have f1:w1.cell? ⟨N,1,none⟩ = some (.slice ab nb cb):=(HQ.out _ hb1).cell (i:=1) (by omega)
 have HC:=needsOf_any f.blocks nb nv av ab cv cb w1 HNB.out (HBL.out.below hb1 (RBlk.below hb1)) HED.out HBI.out (by omega) (by omega)
 have HB1:Hid (Below W.heap.size W w1):=hb1
 clear hb1
 go_wp2_with fail
 refine HC.mono ?_
 clear HC f0 f1
 rintro e w2 ⟨r1,r2,r3,I,O,rfl,hnd,htold,hb2,hl⟩
 have HT3:Hid ((∀ b v,v < nv → (I b v = true ↔ NeedIn f.blocks b v))∧∀ b v,v < nv → (O b v = true ↔ NeedOut f.blocks b v)):=htold
 clear htold
 go_upto_region 5 with fail
 obtain ⟨W3,hW3⟩:∃ W3,W3 = w2.alloc (.cells #[.slice (some ⟨r1,0,none⟩) nb nb,.slice (some ⟨r2,0,none⟩) nb nb,.slice (some ⟨r3,0,none⟩) nb nb] 67):=⟨_,rfl⟩
 obtain ⟨X,hX⟩:∃ X,w2.heap.size = X:=⟨_,rfl⟩
 have rX:W3.rowIs X 67 3 (fun q => if q = 0 then .slice (some ⟨r1,0,none⟩) nb nb else if q = 1 then .slice (some ⟨r2,0,none⟩) nb nb else .slice (some ⟨r3,0,none⟩) nb nb):=by
  rw [hW3,← hX]
  exact World.rowIs_alloc _ _ _ _ fun i hi => by
   simp at hi
   match i,hi with | 0,_ => rfl | 1,_ => rfl | 2,_ => rfl
 have hb3:Below w2.heap.size w2 W3:=by rw [hW3]; exact (Below.refl _ _).alloc (Nat.le_refl _) _
 have HND3:Hid (NdS W3 r1 r2 r3 nb nv I O (M0 f.blocks f.blocks.length)):=hnd.below hb3
 have HB3:Hid (Below W.heap.size W W3):=(HB1.out.trans (hb2.mono HB1.out.size)).trans (hb3.mono (by have:=HB1.out.size; have:=hb2.size; omega))
 have HRX:Hid (W3.rowIs X 67 3 (fun q => if q = 0 then .slice (some ⟨r1,0,none⟩) nb nb else if q = 1 then .slice (some ⟨r2,0,none⟩) nb nb else .slice (some ⟨r3,0,none⟩) nb nb)):=rX
 rw [← hW3,hX]
 clear hW3 hnd hb2 hb3 hl rX hX HB1
 have f0:W3.cell? ⟨N,0,none⟩ = some (.slice av nv cv):=(HQ.out _ HB3.out).cell (i:=0) (by omega)
 have f1:W3.cell? ⟨N,1,none⟩ = some (.slice ab nb cb):=(HQ.out _ HB3.out).cell (i:=1) (by omega)
 have HC:=starts_any f.blocks nb nv av ab cv cb W3 HNB.out (HBL.out.below HB3.out (RBlk.below HB3.out)) (by omega)
 go_wp2_with fail
 refine HC.mono ?_
 clear HC f0 f1
 rintro e w4 ⟨gs,cps,rfl,hgsl,hss,hb4⟩
 obtain ⟨R,hR⟩:∃ R,w4.heap.size = R:=⟨_,rfl⟩
 have hB4:Below W.heap.size W w4:=HB3.out.trans (hb4.mono HB3.out.size)
 have HB4:Hid (Below W.heap.size W w4):=hB4
 have HND:Hid (∀ w',Below R w4 w' → NdS w' r1 r2 r3 nb nv I O (M0 f.blocks f.blocks.length)):=fun w' hh => (HND3.out.below hb4).below (by rw [hR]; exact hh)
 have HNX:Hid (∀ w',Below R w4 w' → w'.rowIs X 67 3 (fun q => if q = 0 then .slice (some ⟨r1,0,none⟩) nb nb else if q = 1 then .slice (some ⟨r2,0,none⟩) nb nb else .slice (some ⟨r3,0,none⟩) nb nb)):=fun w' hh => (HRX.out.of_block (hb4.block _ HRX.out.lt)).of_block (hh.block _ (by rw [← hR]; exact Nat.lt_of_lt_of_le HRX.out.lt hb4.size))
 have HNF:Hid (∀ w',Below R w4 w' → w'.rowIs N 30 2 (fun q => if q = 0 then .slice av nv cv else .slice ab nb cb)):=fun w' hh => (HQ.out _ hB4).of_block (hh.block _ (by rw [← hR]; exact (HQ.out _ hB4).lt))
 have HSS:Hid (∀ w' k,Below R w4 w' → k < nb → w'.cell? ⟨gs,k,none⟩ = some (.int .i64 (startM f.blocks k))):=fun w' k hh hk => by
  have h:=rowl_at hss k (by rw [startsW_length]; omega)
  have e:(startsW f.blocks (nb + 1)).getD k 0 = ptW (startM f.blocks k):=by
   have hk':k < nb + 1:=by omega
   simp [startsW,List.getD,hk']
  have hbd:=HST.out k (by omega)
  rw [e,ptW_id (by omega) (by omega)] at h
  exact (hh.cell (p:=⟨gs,k,none⟩) (by rw [← hR]; exact h.2)).trans h.1
 have HBL4:Hid (∀ w',Below R w4 w' → SlOf w' 3 (RBlk w') (.slice ab nb cb) f.blocks):=fun w' hh => by
  have h4:=HBL.out.below hB4 (RBlk.below hB4)
  have hh':Below w4.heap.size w4 w':=by rw [hR]; exact hh
  exact h4.below hh' (RBlk.below hh')
 have HWR:Hid (w.heap.size ≤ R∧Below w.heap.size w w4):=by
  have h1:=HBW.out.trans (hB4.mono HBW.out.size)
  exact ⟨by rw [← hR]; exact h1.size,h1⟩
 have f0:w4.cell? ⟨N,0,none⟩ = some (.slice av nv cv):=(HQ.out _ hB4).cell (i:=0) (by omega)
 have f1:w4.cell? ⟨N,1,none⟩ = some (.slice ab nb cb):=(HQ.out _ hB4).cell (i:=1) (by omega)
 have lNw:N < w4.heap.size:=(HQ.out _ hB4).lt
 have LN:=old_cell N
 clear hb4 hss HND3 HRX HB3 hgsl hB4
 have hmk:=run_make_row' (P:=Try.prog) 32 48 (.slice none 0 0) 24 Try.underlying32 (by kernel_rfl) rfl .i64 .i64 nv (by omega) (by omega)
 obtain ⟨W6,hW6⟩:∃ W6,W6 = w4.alloc (.cells (madeCells #[.slice none 0 0] nv) 48):=⟨_,rfl⟩
 have hst:PSp W6 R nv (fun _ => .slice none 0 0) (spansM f.blocks nv I O 0):=by
  rw [hW6,← hR]
  refine ⟨World.rowIs_made _ _ _ _,fun i hi => ?_,fun i j g _ _ _ h => by simp [Value.ownBlock] at h⟩
  exact ⟨rfl,Or.inl ⟨rfl,rfl⟩⟩
 have HS0:Hid (PSp W6 R nv (fun _ => .slice none 0 0) (spansM f.blocks nv I O 0)∧Below R w4 W6):=⟨hst,by rw [hW6]; exact (Below.refl _ _).alloc (by omega) _⟩
 have HW6:Hid (W6 = w4.alloc (.cells (madeCells #[.slice none 0 0] nv) 48)):=hW6
 have HR:Hid (w4.heap.size = R):=hR
 clear hW6 hst hR
 go_upto_region 7 with fail
 rw [← HW6.out,HR.out]
 clear HW6 hmk f0 lNw LN
 have f1':W6.cell? ⟨N,1,none⟩ = some (.slice ab nb cb):=(HNF.out _ HS0.out.2).cell (i:=1) (by omega)
 clear f1
 go_wp2_with fail
 clear f1'
 go_loopw [30] (fun i wr => ∃ (k:Nat) (vs:Nat → Value),k ≤ nb∧i = .int .i64 k∧Hid (PSp wr R nv vs (spansM f.blocks nv I O k)∧Below R w4 wr)) (fun i _ => nb - (intOf i).toNat)
 case atStart => exact ⟨0,_,Nat.zero_le _,rfl,HS0⟩
 case round =>
  clear HS0
  obtain ⟨k,vs,hk,rfl,HI⟩:=hrel
  by_cases hlt:k < nb
  ·have hkb:k < f.blocks.length:=by rw [HNB.out]; exact hlt
   have hlow:=HI.out.2
   have nx:=HNX.out _ hlow
   have nf:=HNF.out _ hlow
   have x0:wr.cell? ⟨X,0,none⟩ = some (.slice (some ⟨r1,0,none⟩) nb nb):=nx.cell (i:=0) (by omega)
   have x1:wr.cell? ⟨X,1,none⟩ = some (.slice (some ⟨r2,0,none⟩) nb nb):=nx.cell (i:=1) (by omega)
   have x2:wr.cell? ⟨X,2,none⟩ = some (.slice (some ⟨r3,0,none⟩) nb nb):=nx.cell (i:=2) (by omega)
   have y0:wr.cell? ⟨N,0,none⟩ = some (.slice av nv cv):=nf.cell (i:=0) (by omega)
   have y1:wr.cell? ⟨N,1,none⟩ = some (.slice ab nb cb):=nf.cell (i:=1) (by omega)
   have t0:=HSS.out _ k hlow hlt
   have lX:=nx.lt
   have lN:=nf.lt
   have lG:gs < wr.heap.size:=block_lt t0
   have hsb:=HST.out k (by omega)
   have HFS:Hid (stayM f.blocks[k] I O k nv (startM f.blocks k) = stayM (blkA f.blocks k) I O k nv (startM f.blocks k)):=by show _ = _; rw [blkA_at hkb]
   obtain ⟨fst,hfst⟩:∃ fst,startM f.blocks k = fst:=⟨_,rfl⟩
   have HFST:Hid (startM f.blocks k = fst):=hfst
   rw [hfst] at t0 hsb
   clear hfst nx nf
   have HCS:Hid (∀ w' X',w'.heap.size = X' → Below wr.heap.size wr w' → Calls Try.prog 19 #[.agg #[.slice (some ⟨r1,0,none⟩) nb nb,.slice (some ⟨r2,0,none⟩) nb nb,.slice (some ⟨r3,0,none⟩) nb nb],.agg #[.slice av nv cv,.slice ab nb cb],.int .i64 k,.int .i64 fst] w' fun e w'' => e = .returned (.slice (some ⟨X' + 1 + 1 + 1,0,none⟩) nv nv)∧w''.rowIs (X' + 1 + 1 + 1) 71 (nv * 2) (spanC (stayM f.blocks[k] I O k nv fst))∧Below w'.heap.size w' w''):=fun w' X' hX' hh => by
    have hRw:R ≤ wr.heap.size:=by rw [← HR.out]; exact hlow.size
    have hlow':Below R w4 w':=hlow.trans (hh.mono hRw)
    exact stays_any f.blocks nb nv r1 r2 r3 I O _ k HNB.out hkb fst av ab cv cb X' w' hX' (HND.out _ hlow') (HBL4.out _ hlow') (HBI.out _ (List.getElem_mem hkb)) (HFT.out k hkb) hsb.1 (by omega) (by omega) (by omega)
   have kb:(k:Int) < (nb:Int) + 1:=by omega
   go_upto_region 10 with fail
   have HSF:Hid (∀ w',Below wr.heap.size wr w' → (fun w' => w'.cell? ⟨X,0,none⟩ = some (.slice (some ⟨r1,0,none⟩) nb nb)∧w'.cell? ⟨X,1,none⟩ = some (.slice (some ⟨r2,0,none⟩) nb nb)∧w'.cell? ⟨X,2,none⟩ = some (.slice (some ⟨r3,0,none⟩) nb nb)∧w'.cell? ⟨N,0,none⟩ = some (.slice av nv cv)∧w'.cell? ⟨N,1,none⟩ = some (.slice ab nb cb)∧w'.cell? ⟨gs,k,none⟩ = some (.int .i64 fst)) w'):=fun w' hh => ⟨(hh.cell lX).trans x0,(hh.cell lX).trans x1,(hh.cell lX).trans x2,(hh.cell lN).trans y0,(hh.cell lN).trans y1,(hh.cell lG).trans t0⟩
   have hbd:Below wr.heap.size wr wr.drew:=(Below.refl _ _).drew
   refine wp_region_X (fun w' => w'.cell? ⟨X,0,none⟩ = some (.slice (some ⟨r1,0,none⟩) nb nb)∧w'.cell? ⟨X,1,none⟩ = some (.slice (some ⟨r2,0,none⟩) nb nb)∧w'.cell? ⟨X,2,none⟩ = some (.slice (some ⟨r3,0,none⟩) nb nb)∧w'.cell? ⟨N,0,none⟩ = some (.slice av nv cv)∧w'.cell? ⟨N,1,none⟩ = some (.slice ab nb cb)∧w'.cell? ⟨gs,k,none⟩ = some (.int .i64 fst)) 99 (by kernel_rfl) (HSF.out _ hbd) (fun hHeld => ?_)
   refine wpXt 0 rfl (v:=?_) (by kernel_rfl) (fun _ _ _ h => h) (by rfl) ?_ hHeld ?_
   rotate_left
   ·intro w' hSw
    go_simp <;> with_reducible rfl
   try simp only [Act.put,List.setIfInBounds_toArray,List.set_cons_zero,List.set_cons_succ]
   refine wpXt 1 rfl (v:=?_) (by kernel_rfl) (fun _ _ _ h => h) (by rfl) ?_ hHeld ?_
   rotate_left
   ·intro w' hSw
    go_simp <;> with_reducible rfl
   try simp only [Act.put,List.setIfInBounds_toArray,List.set_cons_zero,List.set_cons_succ]
   refine wpXt 2 rfl (v:=?_) (by kernel_rfl) (fun _ _ _ h => h) (by rfl) ?_ hHeld ?_
   rotate_left
   ·intro w' hSw
    go_simp <;> with_reducible rfl
   try simp only [Act.put,List.setIfInBounds_toArray,List.set_cons_zero,List.set_cons_succ]
   refine wpXt 3 rfl (v:=?_) (by kernel_rfl) (fun _ _ _ h => h) (by rfl) ?_ hHeld ?_
   rotate_left
   ·intro w' hSw
    go_simp <;> with_reducible rfl
   try simp only [Act.put,List.setIfInBounds_toArray,List.set_cons_zero,List.set_cons_succ]
   refine wpXt 4 rfl (v:=?_) (by kernel_rfl) (fun _ _ _ h => h) (by rfl) ?_ hHeld ?_
   rotate_left
   ·intro w' hSw
    go_simp <;> with_reducible rfl
   try simp only [Act.put,List.setIfInBounds_toArray,List.set_cons_zero,List.set_cons_succ]
   refine wpXt 5 rfl (v:=?_) (by kernel_rfl) (fun _ _ _ h => h) (by rfl) ?_ hHeld ?_
   rotate_left
   ·intro w' hSw
    go_simp <;> with_reducible rfl
   try simp only [Act.put,List.setIfInBounds_toArray,List.set_cons_zero,List.set_cons_succ]
   refine wpXt 6 rfl (v:=?_) (by kernel_rfl) (fun _ _ _ h => h) (by rfl) ?_ hHeld ?_
   rotate_left
   ·intro w' hSw
    go_simp <;> with_reducible rfl
   try simp only [Act.put,List.setIfInBounds_toArray,List.set_cons_zero,List.set_cons_succ]
   refine wpXt 9 rfl (v:=?_) (by kernel_rfl) (fun _ _ _ h => h) (by rfl) ?_ hHeld ?_
   rotate_left
   ·intro w' hSw
    go_simp <;> with_reducible rfl
   try simp only [Act.put,List.setIfInBounds_toArray,List.set_cons_zero,List.set_cons_succ]
   refine wpXs 7 rfl (by kernel_rfl) (fun K hK => ?_)
   go_simp
   obtain ⟨X5,hX5⟩:∃ X5,wr.drew.heap.size = X5:=⟨_,rfl⟩
   refine (HCS.out _ X5 hX5 hbd).mono ?_
   rintro e w5 ⟨rfl,hrow5,hb5⟩
   have hc5:Below wr.heap.size wr w5:=hbd.trans (hb5.mono hbd.size)
   have HX5:Hid (wr.heap.size = X5):=hX5
   clear hX5
   refine hK.out _ _ (HSF.out _ hc5) (fun hHeld => ?_)
   clear hK K
   try simp only [Act.put,List.setIfInBounds_toArray,List.set_cons_zero,List.set_cons_succ]
   refine wpXt 8 rfl (v:=?_) (by kernel_rfl) (fun _ _ _ h => h) (by rfl) ?_ hHeld ?_
   rotate_left
   ·intro w' hSw
    go_simp <;> with_reducible rfl
   try simp only [Act.put,List.setIfInBounds_toArray,List.set_cons_zero,List.set_cons_succ]
   refine wpAnyX_done (by kernel_rfl) ?_ _
   have HRS:Hid (w5.rowIs (X5 + 1 + 1 + 1) 71 (nv * 2) (spanC (stayM (blkA f.blocks k) I O k nv (startM f.blocks k)))):=by
    have:=hrow5
    rw [← HFST.out,HFS.out] at this
    exact this
   have HI5:Hid (PSp w5 R nv vs (fun i => if i < 0 then spansM f.blocks nv I O (k + 1) i else spansM f.blocks nv I O k i)∧Below R w4 w5):=by
    refine ⟨(HI.out.1.below hc5).congr fun i hi => by simp,hlow.trans (hc5.mono (by rw [← HR.out]; exact hlow.size))⟩
   have HAP:Hid (∀ i g,i < nv → (vs i).ownBlock = some g → g ≠ X5 + 1 + 1 + 1):=fun i g hi hg => by
    have h1:=own_base (HI.out.1.own i hi) hg
    have h2:=HX5.out
    omega
   have hRX:R < X5:=by
    have h1:=HI.out.1.row.lt
    have h2:=HX5.out
    omega
   clear hrow5 hb5 hc5 hlow x0 x1 x2 y0 y1 t0 lX lN lG HI HCS HSF hbd HX5
   go_wp2_with fail
   generalize hS0:X5 + 1 + 1 + 1 = S0 at *
   have hRS0:R < S0:=by omega
   clear hS0
   go_loopw [42] (fun i wr => ∃ (j:Nat) (us:Nat → Value),j ≤ nv∧i = .int .i64 j∧Hid (PSp wr R nv us (fun i => if i < j then spansM f.blocks nv I O (k + 1) i else spansM f.blocks nv I O k i)∧Below R w4 wr)∧Hid (wr.rowIs S0 71 (nv * 2) (spanC (stayM (blkA f.blocks k) I O k nv (startM f.blocks k))))∧Hid (∀ i g,i < nv → (us i).ownBlock = some g → g ≠ S0)) (fun i _ => nv - (intOf i).toNat)
   case atStart => exact ⟨0,vs,Nat.zero_le _,rfl,HI5,HRS,HAP⟩
   case round =>
    clear HI5 HRS HAP
    obtain ⟨j,us,hj,rfl,HJ,HRS,HAP⟩:=hrel
    by_cases hjl:j < nv
    ·have s0:wr.cell? ⟨S0,j * 2,none⟩ = some (.int .i64 (stayM (blkA f.blocks k) I O k nv (startM f.blocks k) j).1):=by rw [HRS.out.cell (by omega),span_c0]
     have s1:wr.cell? ⟨S0,j * 2 + 1,none⟩ = some (.int .i64 (stayM (blkA f.blocks k) I O k nv (startM f.blocks k) j).2):=by rw [HRS.out.cell (by omega),span_c1]
     have HSTEP:Hid (spansM f.blocks nv I O (k + 1) j = stepL (spansM f.blocks nv I O k j) (stayM (blkA f.blocks k) I O k nv (startM f.blocks k) j)):=rfl
     obtain ⟨xx,hxx⟩:∃ xx,stayM (blkA f.blocks k) I O k nv (startM f.blocks k) j = xx:=⟨_,rfl⟩
     rw [hxx] at s0 s1 HSTEP
     clear hxx
     obtain ⟨xa,xb⟩:=xx
     simp only at s0 s1
     have hb5:Below wr.heap.size wr (wr.alloc (.cells #[.int .i64 xa,.int .i64 xb] 71)):=(Below.refl _ _).alloc (Nat.le_refl _) _
     obtain ⟨W5,hW5⟩:∃ W5,W5 = wr.alloc (.cells #[.int .i64 xa,.int .i64 xb] 71):=⟨_,rfl⟩
     obtain ⟨Q,hQ⟩:∃ Q,wr.heap.size = Q:=⟨_,rfl⟩
     have q0:W5.cell? ⟨Q,0,none⟩ = some (.int .i64 xa):=by rw [hW5,← hQ]; simp
     have q1:W5.cell? ⟨Q,1,none⟩ = some (.int .i64 xb):=by rw [hW5,← hQ]; simp
     have lQ:Q < W5.heap.size:=by rw [hW5,← hQ]; simp
     rw [← hW5] at hb5
     have HW5:Hid (W5 = wr.alloc (.cells #[.int .i64 xa,.int .i64 xb] 71)):=hW5
     have HQ5:Hid (wr.heap.size = Q):=hQ
     have HJ5:Hid (PSp W5 R nv us (fun i => if i < j then spansM f.blocks nv I O (k + 1) i else spansM f.blocks nv I O k i)∧Below R w4 W5):=⟨HJ.out.1.below hb5,HJ.out.2.trans (hb5.mono (by rw [← HR.out]; exact HJ.out.2.size))⟩
     have HRS5:Hid (W5.rowIs S0 71 (nv * 2) (spanC (stayM (blkA f.blocks k) I O k nv (startM f.blocks k)))):=HRS.out.of_block (hb5.block _ HRS.out.lt)
     have HOQ:Hid (∀ i g,i < nv → (us i).ownBlock = some g → g < Q):=fun i g hi hg => by rw [← hQ]; exact (own_base (HJ.out.1.own i hi) hg).2
     have hRQ:R < Q:=by rw [← hQ]; exact HJ.out.1.row.lt
     have hS0Q:S0 < Q:=by rw [← hQ]; exact HRS.out.lt
     clear hW5 hQ hb5 HJ HRS
     go_upto_region 13 with fail
     rw [← HW5.out,HQ5.out]
     clear HW5 HQ5 s0 s1
     by_cases hlt2:xa < xb
     ·have HS2:Hid (spansM f.blocks nv I O (k + 1) j = joinL (spansM f.blocks nv I O k j) (xa,xb)):=by show _ = _; rw [HSTEP.out]; unfold stepL; rw [if_pos hlt2]
      have qd:decide (xa < xb) = true:=by simpa using hlt2
      have r0:=HJ5.out.1.row.cell hjl
      have rz:=HJ5.out.1.row.frozen j
      have own:=HJ5.out.1.own j hjl
      simp only [Nat.lt_irrefl,if_false] at own
      obtain ⟨v,hv⟩:∃ v,us j = v:=⟨_,rfl⟩
      rw [hv] at r0 own
      have HV:Hid (us j = v):=hv
      have nR:some R ≠ v.ownBlock:=fun e => by have:=own_base own e.symm; omega
      have nQ:some Q ≠ v.ownBlock:=fun e => by have:=HOQ.out j Q hjl (by rw [hv]; exact e.symm); omega
      have nS:some S0 ≠ v.ownBlock:=fun e => HAP.out j S0 hjl (by rw [hv]; exact e.symm) rfl
      have lR:=HJ5.out.1.row.lt
      have hlen:=spansM_len f.blocks nv I O j k
      have HCJ:Hid (∀ w',Below W5.heap.size W5 w' → Calls Try.prog 20 #[v,.agg #[.int .i64 xa,.int .i64 xb]] w' fun e w'' => ∃ v',e = .returned v'∧w''.ownsRow (R + 1) 71 2 v' (joinL (spansM f.blocks nv I O k j) (xa,xb)).length ((joinL (spansM f.blocks nv I O k j) (xa,xb)).flatMap cS)∧w'.grownBy w'' v.ownBlock∧(v'.ownBlock = v.ownBlock ∨ ∃ g,v'.ownBlock = some g∧w'.heap.size ≤ g)):=fun w' hh => joined_any _ v (R + 1) xa xb w' (own_keep own fun g _ _ hg => hh.block g hg) (by omega) (by have:=hh.size; omega)
      clear hv
      go_upto_region 14 with fail
      have HSF:Hid (∀ w',Below W5.heap.size W5 w' → (fun w' => w'.cell? ⟨R,j,none⟩ = some v∧w'.cell? ⟨Q,0,none⟩ = some (.int .i64 xa)∧w'.cell? ⟨Q,1,none⟩ = some (.int .i64 xb)) w'):=fun w' hh => ⟨(hh.cell lR).trans r0,(hh.cell lQ).trans q0,(hh.cell lQ).trans q1⟩
      have hbd:Below W5.heap.size W5 W5.drew:=(Below.refl _ _).drew
      refine wp_region_X (fun w' => w'.cell? ⟨R,j,none⟩ = some v∧w'.cell? ⟨Q,0,none⟩ = some (.int .i64 xa)∧w'.cell? ⟨Q,1,none⟩ = some (.int .i64 xb)) 9 (by kernel_rfl) (HSF.out _ hbd) (fun hHeld => ?_)
      refine wpXt 0 rfl (v:=?_) (by kernel_rfl) (fun _ _ _ h => h) (by rfl) ?_ hHeld ?_
      rotate_left
      ·intro w' hSw
       go_simp <;> with_reducible rfl
      try simp only [Act.put,List.setIfInBounds_toArray,List.set_cons_zero,List.set_cons_succ]
      refine wpXt 1 rfl (v:=?_) (by kernel_rfl) (fun _ _ _ h => h) (by rfl) ?_ hHeld ?_
      rotate_left
      ·intro w' hSw
       go_simp <;> with_reducible rfl
      try simp only [Act.put,List.setIfInBounds_toArray,List.set_cons_zero,List.set_cons_succ]
      refine wpXt 2 rfl (v:=?_) (by kernel_rfl) (fun _ _ _ h => h) (by rfl) ?_ hHeld ?_
      rotate_left
      ·intro w' hSw
       go_simp <;> with_reducible rfl
      try simp only [Act.put,List.setIfInBounds_toArray,List.set_cons_zero,List.set_cons_succ]
      refine wpXt 3 rfl (v:=?_) (by kernel_rfl) (fun _ _ _ h => h) (by rfl) ?_ hHeld ?_
      rotate_left
      ·intro w' hSw
       go_simp <;> with_reducible rfl
      try simp only [Act.put,List.setIfInBounds_toArray,List.set_cons_zero,List.set_cons_succ]
      refine wpXt 4 rfl (v:=?_) (by kernel_rfl) (fun _ _ _ h => h) (by rfl) ?_ hHeld ?_
      rotate_left
      ·intro w' hSw
       go_simp <;> with_reducible rfl
      try simp only [Act.put,List.setIfInBounds_toArray,List.set_cons_zero,List.set_cons_succ]
      refine wpXt 5 rfl (v:=?_) (by kernel_rfl) (fun _ _ _ h => h) (by rfl) ?_ hHeld ?_
      rotate_left
      ·intro w' hSw
       go_simp <;> with_reducible rfl
      try simp only [Act.put,List.setIfInBounds_toArray,List.set_cons_zero,List.set_cons_succ]
      refine wpXt 6 rfl (v:=?_) (by kernel_rfl) (fun _ _ _ h => h) (by rfl) ?_ hHeld ?_
      rotate_left
      ·intro w' hSw
       go_simp <;> with_reducible rfl
      try simp only [Act.put,List.setIfInBounds_toArray,List.set_cons_zero,List.set_cons_succ]
      refine wpXs 7 rfl (by kernel_rfl) (fun K hK => ?_)
      go_simp
      refine (HCJ.out _ hbd).mono ?_
      rintro e w7 ⟨v',rfl,hown7,hgr,hat⟩
      have c7:=(hgr.cell_far ⟨R,j,none⟩ lR nR).trans r0
      have z7:=(hgr.frozen_far ⟨R,j,none⟩ lR nR).trans rz
      have k0:=(hgr.cell_far ⟨Q,0,none⟩ lQ nQ).trans q0
      have k1:=(hgr.cell_far ⟨Q,1,none⟩ lQ nQ).trans q1
      obtain ⟨va,vn,vc,rfl⟩:∃ va vn vc,v' = .slice va vn vc:=by
       rcases hown7.2 with ⟨h1,_⟩ | ⟨g,cap,cur,h1,_⟩
       ·exact ⟨_,_,_,h1⟩
       ·exact ⟨_,_,_,h1⟩
      refine hK.out _ _ ⟨c7,k0,k1⟩ (fun hHeld => ?_)
      clear hK K
      try simp only [Act.put,List.setIfInBounds_toArray,List.set_cons_zero,List.set_cons_succ]
      refine wpXt 8 rfl (v:=?_) (by kernel_rfl) (fun _ _ _ h => h) (by rfl) ?_ hHeld ?_
      rotate_left
      ·intro w' hSw
       go_simp <;> with_reducible rfl
      try simp only [Act.put,List.setIfInBounds_toArray,List.set_cons_zero,List.set_cons_succ]
      have HN:Hid (PSp (w7.setCell ⟨R,j,none⟩ (.slice va vn vc)) R nv (fun i => if i = j then (Value.slice va vn vc) else us i) (fun i => if i < j + 1 then spansM f.blocks nv I O (k + 1) i else spansM f.blocks nv I O k i)∧Below R w4 (w7.setCell ⟨R,j,none⟩ (.slice va vn vc))):=by
       have hP:=HJ5.out.1.join (l':=joinL (spansM f.blocks nv I O k j) (xa,xb)) hjl hbd (by rw [HV.out]; exact hgr) hown7 (by rw [HV.out]; exact hat)
       refine ⟨hP.congr fun i hi => ?_,?_⟩
       ·show (if i = j then _ else _) = _
        by_cases e:i = j
        ·subst e
         rw [if_pos rfl,if_pos (by omega),HS2.out]
        ·rw [if_neg e]
         by_cases e2:i < j
         ·rw [if_pos e2,if_pos (by omega)]
         ·rw [if_neg e2,if_neg (by omega)]
       ·have h1:=HJ5.out.2
        have h3:Below R w4 w7:=h1.drew.grown hgr (by rw [← HR.out]; exact h1.size) fun q hq => by have:=own_base own hq; omega
        exact h3.setCell (p:=⟨R,j,none⟩) (Nat.le_refl _) _
      have HRS7:Hid ((w7.setCell ⟨R,j,none⟩ (.slice va vn vc)).rowIs S0 71 (nv * 2) (spanC (stayM (blkA f.blocks k) I O k nv (startM f.blocks k)))):=(HRS5.out.drew.of_block (hgr.block S0 HRS5.out.lt nS)).setOther (by simp; omega) _
      have HAP7:Hid (∀ i g,i < nv → ((fun i => if i = j then (Value.slice va vn vc) else us i) i).ownBlock = some g → g ≠ S0):=fun i g hi hg => by
       have hg':(if i = j then (Value.slice va vn vc) else us i).ownBlock = some g:=hg
       by_cases e:i = j
       ·rw [if_pos e] at hg'
        rcases hat with h1 | ⟨q,h1,h2⟩
        ·rw [h1] at hg'
         exact fun e2 => nS (by rw [← e2]; exact hg'.symm)
        ·rw [h1] at hg'
         simp only [Option.some.injEq] at hg'
         have h3:S0 < W5.heap.size:=HRS5.out.lt
         have h4:W5.drew.heap.size = W5.heap.size:=rfl
         omega
       ·rw [if_neg e] at hg'
        exact HAP.out i g hi hg'
      clear hown7 hgr hat own HJ5 HRS5 HAP HCJ HSF hbd r0 rz q0 q1 HV HOQ
      refine wpXl 9 rfl (by kernel_rfl) rfl (by kernel_rfl) (fun K hK => ?_)
      go_simp
      refine hK.out _ _ ?_
      clear hK K
      go_wp2
      go_roundw
      case rel => exact ⟨j + 1,_,by omega,by go_num,HN,HRS7,HAP7⟩
      case measure => simp [intOf]; omega
     ·have HN:Hid (PSp W5 R nv us (fun i => if i < j + 1 then spansM f.blocks nv I O (k + 1) i else spansM f.blocks nv I O k i)∧Below R w4 W5):=by
       refine ⟨HJ5.out.1.congr fun i hi => ?_,HJ5.out.2⟩
       by_cases e:i = j
       ·subst e
        rw [if_neg (by omega),if_pos (by omega),HSTEP.out]
        unfold stepL
        rw [if_neg hlt2]
       ·by_cases e2:i < j
        ·rw [if_pos e2,if_pos (by omega)]
        ·rw [if_neg e2,if_neg (by omega)]
      have qd:decide (xa < xb) = false:=by simpa using hlt2
      clear HJ5 HSTEP
      go_wp2
      go_roundw
      case rel => exact ⟨j + 1,us,by omega,by go_num,HN,HRS5,HAP⟩
      case measure => simp [intOf]; omega
    ·have HN:Hid (PSp wr R nv us (spansM f.blocks nv I O (k + 1))∧Below R w4 wr):=⟨HJ.out.1.congr fun i hi => by rw [if_pos (by omega)],HJ.out.2⟩
     clear HJ HRS HAP
     go_wp2
     go_roundw
     case rel => exact ⟨k + 1,us,by omega,by go_num,HN⟩
     case measure => simp [intOf]; omega
  ·have HE:Hid (PSp wr R nv vs (spansM f.blocks nv I O nb)∧Below w.heap.size w wr):=by
    have h:=HI.out
    rw [show k = nb by omega] at h
    refine ⟨h.1,HWR.out.2.trans (h.2.mono HWR.out.1)⟩
   clear HI
   go_wp2
   go_ret2
   exact ⟨R,vs,I,O,rfl,HE.out.1,HT3.out,HWR.out.1,HE.out.2⟩
end Go.Proofs.Ytglfpnnfcpnmoaa
