/-
  The contract of 'group.Groups', where flow finds no fault.
-/
import Derived.Test.YtdlnofjmonpmgaaG7
import Derived.Test.YtdlnofjmonpmgaaV16
namespace Go.Proofs.Ytdlnofjmonpmgaa
open Go.RowKit
set_option linter.unusedVariables false
theorem aprt_pos:∀ {l:List Sp},Aprt l → Pos l∧Side l
 | [],_ => ⟨fun x hx => (by cases hx),trivial⟩
 | [x],h => ⟨fun y hy => (by rw [List.mem_singleton.1 hy]; exact h),trivial⟩
 | x :: y :: r,h => by
  have ih:=aprt_pos h.2.2
  refine ⟨fun z hz => ?_,?_,ih.2⟩
  ·rcases List.mem_cons.1 hz with rfl | hz
   ·exact h.1
   ·exact ih.1 z hz
  ·have:=h.2.1
   omega
structure GrIn (nv:Nat) (bs:List Blk):Prop where
 par:∀ b ∈ bs,∀ v ∈ b.params,0 ≤ v∧v < (nv:Int)
 opr:∀ b ∈ bs,∀ x ∈ b.instrs,∀ o ∈ x.operands,0 ≤ o.value∧o.value < (nv:Int)
 reu:∀ b ∈ bs,∀ x ∈ b.instrs,∀ o ∈ x.operands,o.limit = 5 → 0 ≤ o.n∧o.n < (x.operands.length:Int)
 edg:∀ b ∈ bs,∀ e ∈ b.edges,0 ≤ e.block∧e.block < (bs.length:Int)∧(∀ v ∈ e.args,0 ≤ v∧v < (nv:Int))∧e.args.length = (blkA bs e.block.toNat).params.length
theorem instrErr_reG {values:List Int} {m0 m1:Int} {x:Ins} (h:instrErr values m0 m1 x = 0):∀ o ∈ x.operands,reE values x o = 0:=fun o ho => by
 unfold instrErr at h
 split at h
 ·cases h
 ·split at h
  ·contradiction
  ·split at h
   ·contradiction
   ·rename_i h1
    exact firstE_zero _ _ (by simpa using h1) o ho
theorem edgeErr_len {values:List Int} {bs:List Blk} {e:Edg} (h:edgeErr values bs e = 0):e.args.length = (blkA bs e.block.toNat).params.length:=by
 unfold edgeErr at h
 split at h
 ·cases h
 ·split at h
  ·cases h
  ·rename_i b hb
   unfold blkA
   rw [List.getD_eq_getElem?_getD,hb,Option.getD_some]
   split at h
   ·assumption
   ·cases h
theorem grIn_of {f:Fn} {m0 m1:Int} (h:shapeErr f m0 m1 = 0):GrIn f.values.length f.blocks:=by
 have S:=shape_in h
 refine ⟨fun b hb v hv => isValue_bd (marks_val _ _ _ S.mks v (mem_all hb (List.mem_append_left _ hv))),fun b hb x hx o ho => isValue_bd (instrErr_val (S.ins b hb x hx) o ho),fun b hb x hx o ho hl => ?_,fun b hb e he => ?_⟩
 ·have h1:=instrErr_reG (S.ins b hb x hx) o ho
  unfold reE at h1
  rw [if_pos hl] at h1
  unfold reuseErr at h1
  split at h1
  ·cases h1
  ·rename_i h2
   omega
 ·have h1:=edgeErr_val (S.edg b hb e he)
  exact ⟨by omega,h1.2.1,fun v hv => isValue_bd (h1.2.2 v hv),edgeErr_len (S.edg b hb e he)⟩
noncomputable def insG (nv:Nat) (S:Nat → List Sp) (is:List Ins) (q:Nat → Nat):Nat → Nat:=is.foldl (fun q x => reuseG nv S x.operands q) q
noncomputable def edgG (nv:Nat) (S:Nat → List Sp) (bs:List Blk) (es:List Edg) (q:Nat → Nat):Nat → Nat:=es.foldl (fun q e => argsG nv S (blkA bs e.block.toNat).params e.args q) q
noncomputable def blockG (nv:Nat) (S:Nat → List Sp) (bs:List Blk) (q:Nat → Nat) (b:Blk):Nat → Nat:=edgG nv S bs b.edges (insG nv S b.instrs q)
noncomputable def upG (nv:Nat) (S:Nat → List Sp) (bs:List Blk) (k:Nat):Nat → Nat:=(bs.take k).foldl (blockG nv S bs) id
noncomputable def groupsM (nv:Nat) (S:Nat → List Sp) (bs:List Blk):Nat → Nat:=bs.foldl (blockG nv S bs) id
theorem fold_take {α β:Type} (g:β → α → β) (l:List α) (q:β) (j:Nat) (h:j < l.length):(l.take (j + 1)).foldl g q = g ((l.take j).foldl g q) l[j]:=by
 rw [List.take_succ_eq_append_getElem h,List.foldl_append]
 rfl
theorem blk_atG {w:World} {ab:Option Addr} {nb cb:Nat} {bs:List Blk} (h:SlOf w 3 (RBlk w) (.slice ab nb cb) bs) (t:Nat) (ht:t < bs.length):∃ b off ap cp ai ci ae ce,ab = some ⟨b,off,none⟩∧b < w.heap.size∧w.cell? ⟨b,off + t * 3,none⟩ = some (.slice ap bs[t].params.length cp)∧w.cell? ⟨b,off + t * 3 + 1,none⟩ = some (.slice ai bs[t].instrs.length ci)∧w.cell? ⟨b,off + t * 3 + 2,none⟩ = some (.slice ae bs[t].edges.length ce)∧SlOf w 1 RInt (.slice ap bs[t].params.length cp) bs[t].params∧SlOf w 3 (RIns w) (.slice ai bs[t].instrs.length ci) bs[t].instrs∧SlOf w 2 (REdg w) (.slice ae bs[t].edges.length ce) bs[t].edges:=by
 obtain ⟨b,off,cs,h1,h2,⟨vp,vi,ve,rfl,hp,hi,he⟩,h4⟩:=h.at t ht
 obtain ⟨ap,cp,rfl,_⟩:=hp.out
 obtain ⟨ai,ci,rfl,_⟩:=hi.out
 obtain ⟨ae,ce,rfl,_⟩:=he.out
 exact ⟨b,off,ap,cp,ai,ci,ae,ce,h1,block_lt (h4 0 (by simp)),h4 0 (by simp),h4 1 (by simp),h4 2 (by simp),hp,hi,he⟩
theorem ins_atG {w:World} {ai:Option Addr} {ni ci:Nat} {xs:List Ins} (h:SlOf w 3 (RIns w) (.slice ai ni ci) xs) (k:Nat) (hk:k < xs.length):∃ b off ao co asp nsp csp,ai = some ⟨b,off,none⟩∧b < w.heap.size∧w.cell? ⟨b,off + k * 3,none⟩ = some (.int .i64 xs[k].op)∧w.cell? ⟨b,off + k * 3 + 1,none⟩ = some (.slice ao xs[k].operands.length co)∧w.cell? ⟨b,off + k * 3 + 2,none⟩ = some (.slice asp nsp csp)∧SlOf w 5 ROpr (.slice ao xs[k].operands.length co) xs[k].operands:=by
 obtain ⟨b,off,cs,h1,h2,⟨vo,vs,rfl,ho,hs⟩,h4⟩:=h.at k hk
 obtain ⟨ao,co,rfl,_⟩:=ho.out
 obtain ⟨asp,csp,rfl,_⟩:=hs.out
 exact ⟨b,off,ao,co,asp,_,csp,h1,block_lt (h4 0 (by simp)),h4 0 (by simp),h4 1 (by simp),h4 2 (by simp),ho⟩
theorem edg_atG {w:World} {ae:Option Addr} {ne ce:Nat} {xs:List Edg} (h:SlOf w 2 (REdg w) (.slice ae ne ce) xs) (k:Nat) (hk:k < xs.length):∃ b off aa ca,ae = some ⟨b,off,none⟩∧b < w.heap.size∧w.cell? ⟨b,off + k * 2,none⟩ = some (.int .i64 xs[k].block)∧w.cell? ⟨b,off + k * 2 + 1,none⟩ = some (.slice aa xs[k].args.length ca)∧SlOf w 1 RInt (.slice aa xs[k].args.length ca) xs[k].args:=by
 obtain ⟨b,off,cs,h1,h2,⟨va,rfl,ha⟩,h4⟩:=h.at k hk
 obtain ⟨aa,ca,rfl,_⟩:=ha.out
 exact ⟨b,off,aa,ca,h1,block_lt (h4 0 (by simp)),h4 0 (by simp),h4 1 (by simp),ha⟩
theorem top_atG (w:World) (a:Array Value) (t:TypeId) (i:Nat):(w.alloc (.cells a t)).cell? ⟨w.heap.size,i,none⟩ = a[i]?:=by
 have h:(w.alloc (.cells a t)).heap[w.heap.size]? = some (.cells a t):=by
  show (w.heap.push _)[_]? = _
  simp
 simp only [World.cell?,h]
 simp
theorem two_atG (w:World) (a b:Array Value) (ta tb:TypeId) :
  (∀ i,((w.alloc (.cells a ta)).alloc (.cells b tb)).cell? ⟨w.heap.size,i,none⟩ = a[i]?) ∧
  (∀ i,((w.alloc (.cells a ta)).alloc (.cells b tb)).cell? ⟨w.heap.size + 1,i,none⟩ = b[i]?):=by
 have z1:(w.alloc (.cells a ta)).heap.size = w.heap.size + 1:=by simp
 refine ⟨fun i => ?_,fun i => ?_⟩
 ·rw [World.cell?_alloc_lt _ _ _ (by simp)]; exact top_atG w a ta i
 ·rw [← z1]; exact top_atG _ b tb i
set_option maxRecDepth 4000 in
set_option maxHeartbeats 16000000 in
theorem groups_any (f:Fn) (nv nb:Nat) (m0 m1:Int) (av ab:Option Addr) (cv cb:Nat) (hr:flowE f m0 m1 (nb * nb + 1) = 0) (hnv:f.values.length = nv) (hnb:f.blocks.length = nb) (w:World) (hv:SlOf w 1 RInt (.slice av nv cv) f.values) (hb:SlOf w 3 (RBlk w) (.slice ab nb cb) f.blocks) :
  Calls Try.prog 9 #[.agg #[.slice av nv cv,.slice ab nb cb],.agg #[.int .i64 m0,.int .i64 m1]] w fun e w' => ∃ L I O,e = .returned (.tuple #[.slice (some ⟨L,0,none⟩) nv nv,.int .i64 0])∧w'.rowIs L 3 nv (fun i => .int .i64 (groupsM nv (spansM f.blocks nv I O nb) f.blocks i:Nat))∧((∀ b v,v < nv → (I b v = true ↔ NeedIn f.blocks b v))∧∀ b v,v < nv → (O b v = true ↔ NeedOut f.blocks b v))∧(∃ T,GInv nv (spansM f.blocks nv I O nb) (groupsM nv (spansM f.blocks nv I O nb) f.blocks) T)∧w.heap.size ≤ L∧Below w.heap.size w w':=by
 have hE:flowE f m0 m1 (f.blocks.length * f.blocks.length + 1) = 0:=by rw [hnb]; exact hr
 have hsh:=(flowE_all hE).1
 have SI:=shape_in hsh
 have GI:=grIn_of hsh
 rw [hnv] at GI
 have hn16:nb ≤ 16:=by have:=SI.nb; omega
 have hnv160:nv ≤ 160:=by have:=SI.nv; omega
 have HFB:Hid (∀ b ∈ f.blocks,blkFits b = true):=SI.fits
 obtain ⟨W,hW⟩:∃ W,W = (w.alloc (.cells #[.slice av nv cv,.slice ab nb cb] 30)).alloc (.cells #[.int .i64 m0,.int .i64 m1] 25):=⟨_,rfl⟩
 obtain ⟨F,hF⟩:∃ F,w.heap.size = F:=⟨_,rfl⟩
 have hbw:Below w.heap.size w W:=by rw [hW]; exact ((Below.refl _ _).alloc (Nat.le_refl _) _).alloc (by simp) _
 obtain ⟨t0,t1⟩:=two_atG w #[.slice av nv cv,.slice ab nb cb] #[.int .i64 m0,.int .i64 m1] 30 25
 rw [← hW,hF] at t0 t1
 have f0:W.cell? ⟨F,0,none⟩ = some (.slice av nv cv):=t0 0
 have f1:W.cell? ⟨F,1,none⟩ = some (.slice ab nb cb):=t0 1
 have g0:W.cell? ⟨F + 1,0,none⟩ = some (.int .i64 m0):=t1 0
 have g1:W.cell? ⟨F + 1,1,none⟩ = some (.int .i64 m1):=t1 1
 have zW:W.heap.size = F + 1 + 1:=by rw [hW,← hF]; simp
 have hvW:=hv.below hbw fun _ _ h => h
 have hbW:=hb.below hbw (RBlk.below hbw)
 have HD:=spans_any f nv nb m0 m1 av ab cv cb hr hnv hnb W hvW hbW
 have HW:Hid (W = (w.alloc (.cells #[.slice av nv cv,.slice ab nb cb] 30)).alloc (.cells #[.int .i64 m0,.int .i64 m1] 25)):=hW
 have HBW:Hid (Below F w W∧W.heap.size = F + 1 + 1∧SlOf W 3 (RBlk W) (.slice ab nb cb) f.blocks∧W.cell? ⟨F,1,none⟩ = some (.slice ab nb cb)∧f.blocks.length = nb∧GrIn nv f.blocks∧w.heap.size = F):=⟨by rw [← hF]; exact hbw,zW,hbW,f1,hnb,GI,hF⟩
 have HG:Hid (∀ {I O:Tb},((∀ b v,v < nv → (I b v = true ↔ NeedIn f.blocks b v))∧∀ b v,v < nv → (O b v = true ↔ NeedOut f.blocks b v)) → ∀ v,v < nv → spansM f.blocks nv I O nb v ≠ []∧Aprt (spansM f.blocks nv I O nb v)):=fun {I O} htold v hv' => by
  have ht':=htold
  rw [← hnv] at ht' hv'
  have hg:=spans_good hE ht' v hv'
  rw [hnv,hnb] at hg
  exact hg
 clear hW hbw t0 t1 zW hvW hbW hr hE hsh SI GI hnv hnb hv hb hF
 go_enter Try.func9,Try.ntmps9
 go_upto_region 1 with fail
 rw [← HW.out,HBW.out.2.2.2.2.2.2]
 clear HW
 go_wp2_with fail
 refine HD.mono ?_
 clear HD
 rintro e w3 ⟨R,vs,I,O,rfl,hps,htold,hRl,hb3⟩
 obtain ⟨S,hS⟩:∃ S,spansM f.blocks nv I O nb = S:=⟨_,rfl⟩
 rw [hS] at hps
 have HS:Hid ((∀ v,v < nv → Pos (S v))∧(∀ v,v < nv → S v ≠ [])∧(∀ v,v < nv → (S v).length ≤ 16)∧(∀ v,v < nv → (S v).Pairwise Clear)):=by
  have h:=HG.out htold
  rw [hS] at h
  refine ⟨fun v hv => (aprt_pos (h v hv).2).1,fun v hv => (h v hv).1,fun v hv => ?_,fun v hv => side_clear (aprt_pos (h v hv).2).1 (aprt_pos (h v hv).2).2⟩
  rw [← hS]
  have:=spansM_len f.blocks nv I O v nb
  omega
 have HTO:Hid (spansM f.blocks nv I O nb = S∧((∀ b v,v < nv → (I b v = true ↔ NeedIn f.blocks b v))∧∀ b v,v < nv → (O b v = true ↔ NeedOut f.blocks b v))):=⟨hS,htold⟩
 have lR:R < w3.heap.size:=hps.row.lt
 have HPA:=partsOf_any R nv hnv160 w3 lR
 have H3:Hid (PSp w3 R nv vs S∧W.heap.size ≤ R∧Below W.heap.size W w3):=⟨hps,hRl,hb3⟩
 have f1':=(hb3.cell (p:=⟨F,1,none⟩) (show F < W.heap.size by have:=HBW.out.2.1; omega)).trans f1
 have lF3:F < w3.heap.size:=by have:=HBW.out.2.1; have:=hb3.size; omega
 clear hps htold hRl hb3 hS HG f0 f1 g0 g1 lR
 go_upto_region 4 with fail
 go_wp2_with fail
 refine HPA.mono ?_
 clear HPA
 rintro e w4 ⟨L,rfl,hrL,hLl,hb4⟩
 obtain ⟨P,hP⟩:∃ P,w4.heap.size = P:=⟨_,rfl⟩
 obtain ⟨w5,hw5⟩:∃ w5,w5 = w4.alloc (.cells #[.slice (some ⟨L,0,none⟩) nv nv,.slice (some ⟨R,0,none⟩) nv nv] 68):=⟨_,rfl⟩
 have hb5:Below w4.heap.size w4 w5:=by rw [hw5]; exact (Below.refl _ _).alloc (Nat.le_refl _) _
 have hb35:Below w3.heap.size w3 w5:=hb4.trans (hb5.mono hb4.size)
 have p0:w5.cell? ⟨P,0,none⟩ = some (.slice (some ⟨L,0,none⟩) nv nv):=by rw [hw5,← hP]; simp
 have p1:w5.cell? ⟨P,1,none⟩ = some (.slice (some ⟨R,0,none⟩) nv nv):=by rw [hw5,← hP]; simp
 have lP:P < w5.heap.size:=by rw [hw5,← hP]; simp
 have k5:GW w5 L R nv vs S id:=by
  refine ⟨(hrL.of_block (hb5.block _ hrL.lt)).congr fun i _ => rfl,H3.out.1.below hb35,fun e => by have:=H3.out.1.row.lt; omega,fun i g hi hg => ?_⟩
  have:=own_base (H3.out.1.own i hi) hg
  omega
 have hlL:L < w4.heap.size:=hrL.lt
 have H5:Hid (GW w5 L R nv vs S id∧Below W.heap.size W w5∧W.heap.size ≤ L∧W.heap.size ≤ R∧L < P∧R < P∧P < w5.heap.size∧w5.cell? ⟨P,0,none⟩ = some (.slice (some ⟨L,0,none⟩) nv nv)∧w5.cell? ⟨P,1,none⟩ = some (.slice (some ⟨R,0,none⟩) nv nv)):=by
  have hz:=H3.out.2.2.size
  have hz4:=hb4.size
  have hlR:=H3.out.1.row.lt
  refine ⟨k5,H3.out.2.2.trans (hb35.mono hz),by omega,H3.out.2.1,by omega,by omega,lP,p0,p1⟩
 have HW5:Hid (w5 = w4.alloc (.cells #[.slice (some ⟨L,0,none⟩) nv nv,.slice (some ⟨R,0,none⟩) nv nv] 68)∧w4.heap.size = P):=⟨hw5,hP⟩
 have f1'':=(hb35.cell (p:=⟨F,1,none⟩) lF3).trans f1'
 have HFX:Hid (∀ wr,Tch (LR L R) w5 wr → Below W.heap.size W wr∧wr.cell? ⟨P,0,none⟩ = some (.slice (some ⟨L,0,none⟩) nv nv)∧wr.cell? ⟨P,1,none⟩ = some (.slice (some ⟨R,0,none⟩) nv nv)∧wr.cell? ⟨F,1,none⟩ = some (.slice ab nb cb)):=fun wr ht => by
  have h5:=H5.out
  have hPo:wr.heap[P]? = w5.heap[P]?:=ht.block P h5.2.2.2.2.2.2.1 (fun h => by rcases h with h | h <;> omega)
  have hb:Below W.heap.size W wr:=ht.below h5.2.1 (fun k h => by rcases h with h | h <;> omega) h5.2.1.size
  exact ⟨hb,(World.cell?_of_block (a:=⟨P,0,none⟩) hPo).trans h5.2.2.2.2.2.2.2.1,(World.cell?_of_block (a:=⟨P,1,none⟩) hPo).trans h5.2.2.2.2.2.2.2.2,(hb.cell (p:=⟨F,1,none⟩) (show F < W.heap.size by have:=HBW.out.2.1; omega)).trans HBW.out.2.2.2.1⟩
 have hGI:GInv nv S id S:=ginv_start HS.out.2.2.2
 clear hrL hLl hb4 hP hw5 hb5 hb35 p0 p1 lP k5 f1' lF3 hlL
 go_upto_region 5 with fail
 --CUT1
 rw [← HW5.out.1,HW5.out.2]
 clear HW5
 go_wp2_with fail
 clear f1''
 go_loopw [29] (fun i wr => ∃ (k:Nat) (vs:Nat → Value) (T:Nat → List Sp),k ≤ nb∧i = .int .i64 k∧Hid (GW wr L R nv vs T (upG nv S f.blocks k)∧Tch (LR L R) w5 wr∧GInv nv S (upG nv S f.blocks k) T)) (fun i _ => nb - (intOf i).toNat)
 case atStart => exact ⟨0,vs,S,Nat.zero_le _,rfl,H5.out.1,Tch.refl _ _,hGI⟩
 case round =>
  clear hGI
  obtain ⟨k,vs,T,hk,rfl,HJ⟩:=hrel
  by_cases hkn:k < nb
  ·--CUT2
   have hkl:k < f.blocks.length:=by have:=HBW.out.2.2.2.2.1; omega
   obtain ⟨bb,ob,ap,cp,ai,ci,ae,ce,rfl,lbb,c0,c1,c2,sp,si,se⟩:=blk_atG HBW.out.2.2.1 k hkl
   obtain ⟨x,hx⟩:∃ x,f.blocks[k] = x:=⟨_,rfl⟩
   have hxm:x ∈ f.blocks:=by rw [← hx]; exact List.getElem_mem hkl
   have hup:upG nv S f.blocks (k + 1) = blockG nv S f.blocks (upG nv S f.blocks k) x:=by unfold upG; rw [fold_take _ _ _ _ hkl,hx]
   rw [hx] at c0 c1 c2 sp si se
   obtain ⟨np,hnp⟩:∃ n,x.params.length = n:=⟨_,rfl⟩
   obtain ⟨ni,hni⟩:∃ n,x.instrs.length = n:=⟨_,rfl⟩
   obtain ⟨ne,hne⟩:∃ n,x.edges.length = n:=⟨_,rfl⟩
   rw [hnp] at c0 sp
   rw [hni] at c1 si
   rw [hne] at c2 se
   have hfit:=HFB.out x hxm
   have hni40:ni ≤ 40∧ne ≤ 3:=by
    unfold blkFits at hfit
    simp only [Bool.and_eq_true,decide_eq_true_eq] at hfit
    omega
   obtain ⟨hb,q0,q1,q2⟩:=HFX.out wr HJ.out.2.1
   have y0:=(hb.cell (p:=⟨bb,ob + k * 3,none⟩) lbb).trans c0
   have y1:=(hb.cell (p:=⟨bb,ob + k * 3 + 1,none⟩) lbb).trans c1
   have y2:=(hb.cell (p:=⟨bb,ob + k * 3 + 2,none⟩) lbb).trans c2
   obtain ⟨W6,hW6⟩:∃ W6,W6 = wr.alloc (.cells #[.slice ap np cp,.slice ai ni ci,.slice ae ne ce] 44):=⟨_,rfl⟩
   obtain ⟨B6,hB6⟩:∃ B,wr.heap.size = B:=⟨_,rfl⟩
   have hb6:Below wr.heap.size wr W6:=by rw [hW6]; exact (Below.refl _ _).alloc (Nat.le_refl _) _
   have t1:W6.cell? ⟨B6,1,none⟩ = some (.slice ai ni ci):=by rw [hW6,← hB6]; simp
   have t2:W6.cell? ⟨B6,2,none⟩ = some (.slice ae ne ce):=by rw [hW6,← hB6]; simp
   obtain ⟨qa,hqa⟩:∃ qa,upG nv S f.blocks k = qa:=⟨_,rfl⟩
   rw [hqa] at hup HJ
   have lPr:P < wr.heap.size:=Nat.lt_of_lt_of_le H5.out.2.2.2.2.2.2.1 HJ.out.2.1.size
   have H6:Hid (GW W6 L R nv vs T qa∧Tch (LR L R) w5 W6∧GInv nv S qa T∧W6.heap.size = B6 + 1∧P < B6∧W6.cell? ⟨B6,2,none⟩ = some (.slice ae ne ce)):=⟨HJ.out.1.below hb6,HJ.out.2.1.trans (Tch.of hb6),HJ.out.2.2,by rw [hW6,← hB6]; simp,by omega,t2⟩
   have HW6:Hid (W6 = wr.alloc (.cells #[.slice ap np cp,.slice ai ni ci,.slice ae ne ce] 44)∧wr.heap.size = B6):=⟨hW6,hB6⟩
   have HX6:Hid (upG nv S f.blocks (k + 1) = edgG nv S f.blocks x.edges (insG nv S x.instrs qa)∧x ∈ f.blocks∧SlOf W 3 (RIns W) (.slice ai ni ci) x.instrs∧SlOf W 2 (REdg W) (.slice ae ne ce) x.edges∧x.instrs.length = ni∧x.edges.length = ne):=⟨hup,hxm,si,se,hni,hne⟩
   have d1:(k:Int) < (nb:Int):=by omega
   have d2:k < nb + 1:=by omega
   clear hkl lbb c0 c1 c2 sp si se hx hxm hup hnp hni hne hfit hb hW6 hB6 hb6 t2 hqa HJ lPr q0 q1 q2
   go_upto_region 8 with fail
   --CUT3
   rw [← HW6.out.1,HW6.out.2]
   clear HW6 y0 y1 y2
   go_wp2_with fail
   clear t1
   go_loopw [36] (fun i wr => ∃ (j:Nat) (vs:Nat → Value) (T:Nat → List Sp),j ≤ ni∧i = .int .i64 j∧Hid (GW wr L R nv vs T (insG nv S (x.instrs.take j) qa)∧Tch (LR L R) W6 wr∧GInv nv S (insG nv S (x.instrs.take j) qa) T)) (fun i _ => ni - (intOf i).toNat)
   case atStart => exact ⟨0,vs,T,Nat.zero_le _,rfl,H6.out.1,Tch.refl _ _,H6.out.2.2.1⟩
   case round =>
    obtain ⟨j,vs,T,hj,rfl,HJ⟩:=hrel
    by_cases hjn:j < ni
    ·have hjl:j < x.instrs.length:=by have:=HX6.out.2.2.2.2.1; omega
     obtain ⟨bi,oi,ao,co,asp,nsp,csp,rfl,lbi,i0,i1,i2,so⟩:=ins_atG HX6.out.2.2.1 j hjl
     obtain ⟨y,hy⟩:∃ y,x.instrs[j] = y:=⟨_,rfl⟩
     have hym:y ∈ x.instrs:=by rw [← hy]; exact List.getElem_mem hjl
     have hin:insG nv S (x.instrs.take (j + 1)) qa = reuseG nv S y.operands (insG nv S (x.instrs.take j) qa):=by unfold insG; rw [fold_take _ _ _ _ hjl,hy]
     rw [hy] at i0 i1 so
     obtain ⟨no,hno⟩:∃ n,y.operands.length = n:=⟨_,rfl⟩
     rw [hno] at i1 so
     obtain ⟨qb,hqb⟩:∃ qb,insG nv S (x.instrs.take j) qa = qb:=⟨_,rfl⟩
     rw [hqb] at hin HJ
     have ht5:=H6.out.2.1.trans HJ.out.2.1
     obtain ⟨hb,q0,q1,q2⟩:=HFX.out wr ht5
     have y0:=(hb.cell (p:=⟨bi,oi + j * 3,none⟩) lbi).trans i0
     have y1:=(hb.cell (p:=⟨bi,oi + j * 3 + 1,none⟩) lbi).trans i1
     have y2:=(hb.cell (p:=⟨bi,oi + j * 3 + 2,none⟩) lbi).trans i2
     obtain ⟨W7,hW7⟩:∃ W7,W7 = wr.alloc (.cells #[.int .i64 y.op,.slice ao no co,.slice asp nsp csp] 55):=⟨_,rfl⟩
     obtain ⟨B7,hB7⟩:∃ B,wr.heap.size = B:=⟨_,rfl⟩
     have hb7:Below wr.heap.size wr W7:=by rw [hW7]; exact (Below.refl _ _).alloc (Nat.le_refl _) _
     have t1:W7.cell? ⟨B7,1,none⟩ = some (.slice ao no co):=by rw [hW7,← hB7]; simp
     have lPr:P < wr.heap.size:=Nat.lt_of_lt_of_le H5.out.2.2.2.2.2.2.1 ht5.size
     have s0:=(hb7.cell (p:=⟨P,0,none⟩) lPr).trans q0
     have s1:=(hb7.cell (p:=⟨P,1,none⟩) lPr).trans q1
     have HC:=joinReuses_any (S:=S) (HJ.out.1.below hb7) HJ.out.2.2 HS.out.1 HS.out.2.1 HS.out.2.2.1 hnv160 (hb.trans (hb7.mono hb.size)) H5.out.2.2.1 H5.out.2.2.2.1 y.operands ao no co so hno (HBW.out.2.2.2.2.2.1.reu x HX6.out.2.1 y hym) (HBW.out.2.2.2.2.2.1.opr x HX6.out.2.1 y hym)
     have HW7:Hid (W7 = wr.alloc (.cells #[.int .i64 y.op,.slice ao no co,.slice asp nsp csp] 55)∧wr.heap.size = B7):=⟨hW7,hB7⟩
     have HN7:Hid (insG nv S (x.instrs.take (j + 1)) qa = reuseG nv S y.operands qb∧Tch (LR L R) W6 W7):=⟨hin,HJ.out.2.1.trans (Tch.of hb7)⟩
     have d3:(j:Int) < (ni:Int):=by omega
     have d4:j < ni + 1:=by omega
     clear hjl lbi i0 i1 i2 so hy hym hin hno hqb HJ ht5 hb q0 q1 q2 hW7 hB7 hb7 lPr
     go_upto_region 11 with fail
     --CUT4
     rw [← HW7.out.1,HW7.out.2]
     clear HW7 y0 y1 y2
     go_wp2_with (go_at_call 23; refine HC.mono ?_; clear HC; rintro e w8 ⟨rfl,vs',T',k8,i8,t8⟩)
     go_roundw
     case rel => exact ⟨j + 1,vs',T',by omega,by go_num,by rw [HN7.out.1]; exact ⟨k8,HN7.out.2.trans t8,i8⟩⟩
     case measure => simp [intOf]; omega
    ·have e:insG nv S (x.instrs.take j) qa = insG nv S x.instrs qa:=by rw [List.take_of_length_le (by have:=HX6.out.2.2.2.2.1; omega)]
     rw [e] at HJ
     have hBo:wr.heap[B6]? = W6.heap[B6]?:=HJ.out.2.1.block B6 (by have:=H6.out.2.2.2.1; omega) (fun h => by have:=H6.out.2.2.2.2.1; have h5:=H5.out; rcases h with h | h <;> omega)
     have t2:wr.cell? ⟨B6,2,none⟩ = some (.slice ae ne ce):=(World.cell?_of_block (a:=⟨B6,2,none⟩) hBo).trans H6.out.2.2.2.2.2
     obtain ⟨qc,hqc⟩:∃ qc,insG nv S x.instrs qa = qc:=⟨_,rfl⟩
     rw [hqc] at HJ HX6
     obtain ⟨Wc,hWc⟩:∃ Wc,Wc = wr:=⟨_,rfl⟩
     have H7:Hid (GW wr L R nv vs T qc∧Tch (LR L R) w5 wr∧GInv nv S qc T):=⟨HJ.out.1,H6.out.2.1.trans HJ.out.2.1,HJ.out.2.2⟩
     clear HJ e hBo hqc H6 hWc
     go_wp2_with fail
     clear t2
     go_loopw [48] (fun i wq => ∃ (j:Nat) (vs:Nat → Value) (T:Nat → List Sp),j ≤ ne∧i = .int .i64 j∧Hid (GW wq L R nv vs T (edgG nv S f.blocks (x.edges.take j) qc)∧Tch (LR L R) w5 wq∧GInv nv S (edgG nv S f.blocks (x.edges.take j) qc) T)) (fun i _ => ne - (intOf i).toNat)
     case atStart => exact ⟨0,vs,T,Nat.zero_le _,rfl,H7.out⟩
     case round =>
      clear H7
      obtain ⟨j,vs,T,hj,rfl,HJ⟩:=hrel
      by_cases hjn:j < ne
      ·have hjl:j < x.edges.length:=by have:=HX6.out.2.2.2.2.2; omega
       obtain ⟨be,oe,aa,ca,rfl,lbe,e0,e1,sa⟩:=edg_atG HX6.out.2.2.2.1 j hjl
       obtain ⟨y,hy⟩:∃ y,x.edges[j] = y:=⟨_,rfl⟩
       have hym:y ∈ x.edges:=by rw [← hy]; exact List.getElem_mem hjl
       have hin:edgG nv S f.blocks (x.edges.take (j + 1)) qc = argsG nv S (blkA f.blocks y.block.toNat).params y.args (edgG nv S f.blocks (x.edges.take j) qc):=by unfold edgG; rw [fold_take _ _ _ _ hjl,hy]
       rw [hy] at e0 e1 sa
       have hed:=HBW.out.2.2.2.2.2.1.edg x HX6.out.2.1 y hym
       obtain ⟨t,ht⟩:∃ t:Nat,y.block = t:=⟨y.block.toNat,by omega⟩
       have htl:t < f.blocks.length:=by omega
       rw [ht,Int.toNat_natCast] at hin hed
       rw [ht] at e0
       have eB:blkA f.blocks t = f.blocks[t]:=by unfold blkA; rw [List.getD_eq_getElem?_getD,List.getElem?_eq_getElem htl,Option.getD_some]
       obtain ⟨bb',ob',ap',cp',ai',ci',ae',ce',hbb,_,m0',m1',m2',sp',si',se'⟩:=blk_atG HBW.out.2.2.1 t htl
       simp only [Option.some.injEq,Addr.mk.injEq] at hbb
       obtain ⟨rfl,rfl,_⟩:=hbb
       rw [eB] at hin hed
       obtain ⟨ps,hps⟩:∃ ps,f.blocks[t].params = ps:=⟨_,rfl⟩
       rw [hps] at m0' sp' hin hed
       have hpv:∀ v ∈ ps,0 ≤ v∧v < (nv:Int):=by rw [← hps]; exact HBW.out.2.2.2.2.2.1.par _ (List.getElem_mem htl)
       obtain ⟨na,hna⟩:∃ n,y.args.length = n:=⟨_,rfl⟩
       have hnp:ps.length = na:=by omega
       rw [hna] at e1 sa
       rw [hnp] at m0' sp'
       obtain ⟨qb,hqb⟩:∃ qb,edgG nv S f.blocks (x.edges.take j) qc = qb:=⟨_,rfl⟩
       rw [hqb] at hin HJ
       obtain ⟨hb,q0,q1,q2⟩:=HFX.out wr HJ.out.2.1
       have y0:=(hb.cell (p:=⟨be,oe + j * 2,none⟩) lbe).trans e0
       have y1:=(hb.cell (p:=⟨be,oe + j * 2 + 1,none⟩) lbe).trans e1
       have lbb:=block_lt m0'
       have y2:=(hb.cell (p:=⟨bb,ob + t * 3,none⟩) lbb).trans m0'
       obtain ⟨W8,hW8⟩:∃ W8,W8 = wr.alloc (.cells #[.int .i64 (t:Int),.slice aa na ca] 46):=⟨_,rfl⟩
       obtain ⟨B8,hB8⟩:∃ B,wr.heap.size = B:=⟨_,rfl⟩
       have hb8:Below wr.heap.size wr W8.drew:=by rw [hW8]; exact ((Below.refl _ _).alloc (Nat.le_refl _) _).drew
       have u0:W8.drew.cell? ⟨B8,0,none⟩ = some (.int .i64 (t:Int)):=by show W8.cell? _ = _; rw [hW8,← hB8]; simp
       have u1:W8.drew.cell? ⟨B8,1,none⟩ = some (.slice aa na ca):=by show W8.cell? _ = _; rw [hW8,← hB8]; simp
       have lPr:P < wr.heap.size:=Nat.lt_of_lt_of_le H5.out.2.2.2.2.2.2.1 HJ.out.2.1.size
       have hlW:W.heap.size ≤ wr.heap.size:=hb.size
       have lF:F < W.heap.size:=by have:=HBW.out.2.1; omega
       have HSF:Hid ((fun w' => w'.cell? ⟨P,0,none⟩ = some (.slice (some ⟨L,0,none⟩) nv nv)∧w'.cell? ⟨P,1,none⟩ = some (.slice (some ⟨R,0,none⟩) nv nv)∧w'.cell? ⟨F,1,none⟩ = some (.slice (some ⟨bb,ob,none⟩) nb cb)∧w'.cell? ⟨B8,0,none⟩ = some (.int .i64 (t:Int))∧w'.cell? ⟨B8,1,none⟩ = some (.slice aa na ca)∧w'.cell? ⟨bb,ob + t * 3,none⟩ = some (.slice ap' na cp')) W8.drew):=⟨(hb8.cell (p:=⟨P,0,none⟩) lPr).trans q0,(hb8.cell (p:=⟨P,1,none⟩) lPr).trans q1,(hb8.cell (p:=⟨F,1,none⟩) (Nat.lt_of_lt_of_le lF hlW)).trans q2,u0,u1,(hb8.cell (p:=⟨bb,ob + t * 3,none⟩) (Nat.lt_of_lt_of_le lbb hlW)).trans y2⟩
       have HC:=joinArgs_any (S:=S) (HJ.out.1.below hb8) HJ.out.2.2 HS.out.1 HS.out.2.1 HS.out.2.2.1 hnv160 (hb.trans (hb8.mono hb.size)) H5.out.2.2.1 H5.out.2.2.2.1 ps y.args ap' aa na cp' ca sp' sa hnp hna hpv hed.2.2.1
       have HW8:Hid (W8 = wr.alloc (.cells #[.int .i64 (t:Int),.slice aa na ca] 46)∧wr.heap.size = B8):=⟨hW8,hB8⟩
       have HN8:Hid (edgG nv S f.blocks (x.edges.take (j + 1)) qc = argsG nv S ps y.args qb∧Tch (LR L R) w5 W8.drew):=⟨hin,HJ.out.2.1.trans (Tch.of hb8)⟩
       have HIN:Hid (P < W8.drew.heap.size∧F < W8.drew.heap.size∧B8 < W8.drew.heap.size∧bb < W8.drew.heap.size∧P ≠ L∧P ≠ R∧F ≠ L∧F ≠ R∧B8 ≠ L∧B8 ≠ R∧bb ≠ L∧bb ≠ R):=by
        have h5:=H5.out
        have hsz:W8.drew.heap.size = B8 + 1:=by show W8.heap.size = _; rw [hW8,← hB8]; simp
        refine ⟨?_,?_,?_,?_,?_,?_,?_,?_,?_,?_,?_,?_⟩ <;> omega
       have d3:(j:Int) < (ne:Int):=by omega
       have d4:j < ne + 1:=by omega
       have htn:t < nb:=by have:=HBW.out.2.2.2.2.1; omega
       have d5:(t:Int) < (nb:Int):=by omega
       have d6:t < nb + 1:=by omega
       clear m1' m2' si' se' sp' m0' e0 e1 sa hy hym hin hed ht eB hps hpv hna hnp hqb HJ hb q0 q1 q2 y2 hW8 hB8 hb8 u0 u1 lPr hlW lF lbe lbb hjl
       go_upto_region 16 with fail
       --CUT5
       rw [← HW8.out.1,HW8.out.2]
       clear HW8 y0 y1
       refine wp_region_X (fun w' => w'.cell? ⟨P,0,none⟩ = some (.slice (some ⟨L,0,none⟩) nv nv)∧w'.cell? ⟨P,1,none⟩ = some (.slice (some ⟨R,0,none⟩) nv nv)∧w'.cell? ⟨F,1,none⟩ = some (.slice (some ⟨bb,ob,none⟩) nb cb)∧w'.cell? ⟨B8,0,none⟩ = some (.int .i64 (t:Int))∧w'.cell? ⟨B8,1,none⟩ = some (.slice aa na ca)∧w'.cell? ⟨bb,ob + t * 3,none⟩ = some (.slice ap' na cp')) 99 (by kernel_rfl) HSF.out (fun hHeld => ?_)
       refine wpXt (v:=?_) 0 rfl (by kernel_rfl) (fun _ _ _ h => h) (by rfl) ?_ hHeld ?_
       rotate_left
       ·intro w' hSw
        go_simp <;> with_reducible rfl
       try simp only [Act.put,sqa,sqb,sqc]
       refine wpXt (v:=?_) 1 rfl (by kernel_rfl) (fun _ _ _ h => h) (by rfl) ?_ hHeld ?_
       rotate_left
       ·intro w' hSw
        go_simp <;> with_reducible rfl
       try simp only [Act.put,sqa,sqb,sqc]
       refine wpXt (v:=?_) 2 rfl (by kernel_rfl) (fun _ _ _ h => h) (by rfl) ?_ hHeld ?_
       rotate_left
       ·intro w' hSw
        go_simp <;> with_reducible rfl
       try simp only [Act.put,sqa,sqb,sqc]
       refine wpXt (v:=?_) 3 rfl (by kernel_rfl) (fun _ _ _ h => h) (by rfl) ?_ hHeld ?_
       rotate_left
       ·intro w' hSw
        go_simp <;> with_reducible rfl
       try simp only [Act.put,sqa,sqb,sqc]
       refine wpXt (v:=?_) 4 rfl (by kernel_rfl) (fun _ _ _ h => h) (by rfl) ?_ hHeld ?_
       rotate_left
       ·intro w' hSw
        go_simp <;> with_reducible rfl
       try simp only [Act.put,sqa,sqb,sqc]
       refine wpXt (v:=?_) 5 rfl (by kernel_rfl) (fun _ _ _ h => h) (by rfl) ?_ hHeld ?_
       rotate_left
       ·intro w' hSw
        go_simp <;> with_reducible rfl
       try simp only [Act.put,sqa,sqb,sqc]
       refine wpXt (v:=?_) 6 rfl (by kernel_rfl) (fun _ _ _ h => h) (by rfl) ?_ hHeld ?_
       rotate_left
       ·intro w' hSw
        go_simp <;> with_reducible rfl
       try simp only [Act.put,sqa,sqb,sqc]
       refine wpXt (v:=?_) 7 rfl (by kernel_rfl) (fun _ _ _ h => h) (by rfl) ?_ hHeld ?_
       rotate_left
       ·intro w' hSw
        go_simp <;> with_reducible rfl
       try simp only [Act.put,sqa,sqb,sqc]
       refine wpXt (v:=?_) 8 rfl (by kernel_rfl) (fun _ _ _ h => h) (by rfl) ?_ hHeld ?_
       rotate_left
       ·intro w' hSw
        go_simp <;> with_reducible rfl
       try simp only [Act.put,sqa,sqb,sqc]
       refine wpXt (v:=?_) 9 rfl (by kernel_rfl) (fun _ _ _ h => h) (by rfl) ?_ hHeld ?_
       rotate_left
       ·intro w' hSw
        go_simp <;> with_reducible rfl
       try simp only [Act.put,sqa,sqb,sqc]
       refine wpXs 10 rfl (by kernel_rfl) (fun K hK => ?_)
       go_simp
       refine HC.mono ?_
       clear HC
       rintro e w9 ⟨rfl,vs',T',k9,i9,t9⟩
       have HN:Hid (GW w9 L R nv vs' T' (edgG nv S f.blocks (x.edges.take (j + 1)) qc)∧Tch (LR L R) w5 w9∧GInv nv S (edgG nv S f.blocks (x.edges.take (j + 1)) qc) T'):=by
        rw [HN8.out.1]
        exact ⟨k9,HN8.out.2.trans t9,i9⟩
       have HS9:Hid ((fun w' => w'.cell? ⟨P,0,none⟩ = some (.slice (some ⟨L,0,none⟩) nv nv)∧w'.cell? ⟨P,1,none⟩ = some (.slice (some ⟨R,0,none⟩) nv nv)∧w'.cell? ⟨F,1,none⟩ = some (.slice (some ⟨bb,ob,none⟩) nb cb)∧w'.cell? ⟨B8,0,none⟩ = some (.int .i64 (t:Int))∧w'.cell? ⟨B8,1,none⟩ = some (.slice aa na ca)∧w'.cell? ⟨bb,ob + t * 3,none⟩ = some (.slice ap' na cp')) w9):=by
        have hs:=HSF.out
        have h:=HIN.out
        have hPo:w9.heap[P]? = W8.drew.heap[P]?:=t9.block P h.1 (fun hh => by rcases hh with hh | hh <;> omega)
        have hFo:w9.heap[F]? = W8.drew.heap[F]?:=t9.block F h.2.1 (fun hh => by rcases hh with hh | hh <;> omega)
        have hBo:w9.heap[B8]? = W8.drew.heap[B8]?:=t9.block B8 h.2.2.1 (fun hh => by rcases hh with hh | hh <;> omega)
        have hbo:w9.heap[bb]? = W8.drew.heap[bb]?:=t9.block bb h.2.2.2.1 (fun hh => by rcases hh with hh | hh <;> omega)
        exact ⟨(World.cell?_of_block (a:=⟨P,0,none⟩) hPo).trans hs.1,(World.cell?_of_block (a:=⟨P,1,none⟩) hPo).trans hs.2.1,(World.cell?_of_block (a:=⟨F,1,none⟩) hFo).trans hs.2.2.1,(World.cell?_of_block (a:=⟨B8,0,none⟩) hBo).trans hs.2.2.2.1,(World.cell?_of_block (a:=⟨B8,1,none⟩) hBo).trans hs.2.2.2.2.1,(World.cell?_of_block (a:=⟨bb,ob + t * 3,none⟩) hbo).trans hs.2.2.2.2.2⟩
       clear k9 i9 t9
       refine hK.out _ _ HS9.out (fun hHeld => ?_)
       clear hK K
       try simp only [Act.put,sqa,sqb,sqc]
       refine wpAnyX_done (by kernel_rfl) ?_ _
       go_wp2
       go_roundw
       case rel => exact ⟨j + 1,vs',T',by omega,by go_num,HN.out⟩
       case measure => simp [intOf]; omega
      ·have HN:Hid (GW wr L R nv vs T (upG nv S f.blocks (k + 1))∧Tch (LR L R) w5 wr∧GInv nv S (upG nv S f.blocks (k + 1)) T):=by
        have e:edgG nv S f.blocks (x.edges.take j) qc = upG nv S f.blocks (k + 1):=by rw [HX6.out.1,List.take_of_length_le (by have:=HX6.out.2.2.2.2.2; omega)]
        have h:=HJ.out
        rw [e] at h
        exact h
       clear HJ
       go_wp2
       go_roundw
       case rel => exact ⟨k + 1,vs,T,by omega,by go_num,HN⟩
       case measure => simp [intOf]; omega
  ·have HE:Hid (GW wr L R nv vs T (groupsM nv S f.blocks)∧GInv nv S (groupsM nv S f.blocks) T∧Below w.heap.size w wr∧w.heap.size ≤ L):=by
    have h:=HJ.out
    have e:upG nv S f.blocks k = groupsM nv S f.blocks:=by
     unfold upG groupsM
     rw [List.take_of_length_le (by have:=HBW.out.2.2.2.2.1; omega)]
    rw [e] at h
    have hF:=HBW.out.2.2.2.2.2.2
    have hb:=(HFX.out wr h.2.1).1
    have hz:=HBW.out.2.1
    refine ⟨h.1,h.2.2,?_,by have:=H5.out.2.2.1; omega⟩
    rw [hF]
    exact HBW.out.1.trans (hb.mono (by omega))
   have z0:=(HFX.out wr HJ.out.2.1).2.1
   clear HJ
   go_wp2
   go_ret2
   rw [← HTO.out.1] at HE
   exact ⟨L,I,O,rfl,HE.out.1.lea,HTO.out.2,⟨T,HE.out.2.1⟩,HE.out.2.2.2,HE.out.2.2.1⟩
end Go.Proofs.Ytdlnofjmonpmgaa
