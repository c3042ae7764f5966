/-
  What groups keep from step to step: classes; what was handed on is one group, or meets. The contract of the statements' own 'meet'.
-/
import Derived.Test.YtdlnofjmonpmgaaG10
namespace Go.Proofs.Ytdlnofjmonpmgaa
open Go.RowKit
set_option linter.unusedVariables false
theorem foldl_ind {α β:Type} (P:β → Prop) (g:β → α → β):∀ (l:List α) (q:β),(∀ q,P q → ∀ a ∈ l,P (g q a)) → P q → P (l.foldl g q)
 | [],q,_,h => h
 | a :: r,q,hs,h => foldl_ind P g r (g q a) (fun q hq b hb => hs q hq b (List.mem_cons_of_mem _ hb)) (hs q h a (by simp))
theorem foldl_reach {α β:Type} (P:β → Prop) (g:β → α → β):∀ (l:List α) (q:β) (a:α),a ∈ l → (∀ q,P (g q a)) → (∀ q,P q → ∀ b ∈ l,P (g q b)) → P (l.foldl g q)
 | [],_,_,h,_,_ => by cases h
 | c :: r,q,a,ha,h1,h2 => by
  rcases List.mem_cons.1 ha with rfl | ha
  ·exact foldl_ind P g r _ (fun q hq b hb => h2 q hq b (List.mem_cons_of_mem _ hb)) (h1 q)
  ·exact foldl_reach P g r _ a ha h1 fun q hq b hb => h2 q hq b (List.mem_cons_of_mem _ hb)
structure Keeps (nv:Nat) (S:Nat → List Sp) (bs:List Blk) (P:(Nat → Nat) → Prop):Prop where
 re:∀ q,P q → ∀ b ∈ bs,∀ x ∈ b.instrs,∀ o ∈ x.operands,o.limit = 5 → P (joinG nv S q o.value.toNat (x.operands.getD o.n.toNat ⟨0,0,false,0,0⟩).value.toNat)
 ed:∀ q,P q → ∀ b ∈ bs,∀ e ∈ b.edges,∀ y ∈ (blkA bs e.block.toNat).params.zip e.args,P (joinG nv S q y.1.toNat y.2.toNat)
theorem Keeps.ins {nv:Nat} {S:Nat → List Sp} {bs:List Blk} {P:(Nat → Nat) → Prop} (h:Keeps nv S bs P) {b:Blk} (hb:b ∈ bs) (q:Nat → Nat) (hq:P q):P (insG nv S b.instrs q) :=
 foldl_ind P _ _ _ (fun q hq x hx => foldl_ind P _ _ _ (fun q hq o ho => by
  unfold reStep
  split
  ·exact h.re q hq b hb x hx o ho (by assumption)
  ·exact hq) hq) hq
theorem Keeps.edge {nv:Nat} {S:Nat → List Sp} {bs:List Blk} {P:(Nat → Nat) → Prop} (h:Keeps nv S bs P) {b:Blk} (hb:b ∈ bs) {e:Edg} (he:e ∈ b.edges) (q:Nat → Nat) (hq:P q):P (argsG nv S (blkA bs e.block.toNat).params e.args q) :=
 foldl_ind P _ _ _ (fun q hq y hy => h.ed q hq b hb e he y hy) hq
theorem Keeps.block {nv:Nat} {S:Nat → List Sp} {bs:List Blk} {P:(Nat → Nat) → Prop} (h:Keeps nv S bs P) {b:Blk} (hb:b ∈ bs) (q:Nat → Nat) (hq:P q):P (blockG nv S bs q b) :=
 foldl_ind P _ _ _ (fun q hq e he => h.edge hb he q hq) (h.ins hb q hq)
theorem Keeps.all {nv:Nat} {S:Nat → List Sp} {bs:List Blk} {P:(Nat → Nat) → Prop} (h:Keeps nv S bs P) (h0:P id):P (groupsM nv S bs) :=
 foldl_ind P _ _ _ (fun q hq b hb => h.block hb q hq) h0
theorem Keeps.reach {nv:Nat} {S:Nat → List Sp} {bs:List Blk} {P:(Nat → Nat) → Prop} (h:Keeps nv S bs P) {b:Blk} (hb:b ∈ bs) {e:Edg} (he:e ∈ b.edges) {y:Int × Int} (hy:y ∈ (blkA bs e.block.toNat).params.zip e.args) (h1:∀ q,P (joinG nv S q y.1.toNat y.2.toNat)):P (groupsM nv S bs) :=
 foldl_reach P _ _ _ b hb (fun q => foldl_reach P _ _ _ e he (fun q => foldl_reach P _ _ _ y hy h1 fun q hq z hz => h.ed q hq b hb e he z hz) fun q hq d hd => h.edge hb hd q hq) fun q hq c hc => h.block hc q hq
theorem keeps_done (nv:Nat) (S:Nat → List Sp) (bs:List Blk) (v u:Nat):Keeps nv S bs fun q => q v = q u ∨ grMeet nv S q (q v) (q u):=by
 have h:∀ q,(q v = q u ∨ grMeet nv S q (q v) (q u)) → ∀ a b,joinG nv S q a b v = joinG nv S q a b u ∨ grMeet nv S (joinG nv S q a b) (joinG nv S q a b v) (joinG nv S q a b u):=fun q hq a b => by
  rcases hq with hq | hq
  ·exact Or.inl (joinG_keep _ _ _ _ _ _ _ hq)
  ·exact Or.inr (joinG_meets _ _ _ _ _ _ _ hq)
 exact ⟨fun q hq _ _ _ _ _ _ _ => h q hq _ _,fun q hq _ _ _ _ _ _ => h q hq _ _⟩
theorem groups_done (nv:Nat) (S:Nat → List Sp) (bs:List Blk) {b:Blk} (hb:b ∈ bs) {e:Edg} (he:e ∈ b.edges) {y:Int × Int} (hy:y ∈ (blkA bs e.block.toNat).params.zip e.args):groupsM nv S bs y.1.toNat = groupsM nv S bs y.2.toNat ∨ grMeet nv S (groupsM nv S bs) (groupsM nv S bs y.1.toNat) (groupsM nv S bs y.2.toNat) :=
 (keeps_done nv S bs y.1.toNat y.2.toNat).reach hb he hy fun q => joinG_done nv S q _ _
structure ClsG (nv:Nat) (cls:Nat → Int) (q:Nat → Nat):Prop where
 le:∀ v,v < nv → q v ≤ v
 one:∀ v,v < nv → cls (q v) = cls v
theorem ClsG.join {nv:Nat} {S:Nat → List Sp} {cls:Nat → Int} {q:Nat → Nat} (h:ClsG nv cls q) {v u:Nat} (hv:v < nv) (hu:u < nv) (hc:cls v = cls u):ClsG nv cls (joinG nv S q v u):=by
 unfold joinG
 split
 ·exact h
 ·have h1:=h.one v hv
  have h2:=h.one u hu
  have hm:cls (min (q v) (q u)) = cls (max (q v) (q u)):=by
   rcases Nat.le_total (q v) (q u) with h3 | h3
   ·rw [Nat.min_eq_left h3,Nat.max_eq_right h3,h1,h2,hc]
   ·rw [Nat.min_eq_right h3,Nat.max_eq_left h3,h1,h2,hc]
  refine ⟨fun i hi => ?_,fun i hi => ?_⟩
  ·unfold uniG
   have:=h.le i hi
   split <;> omega
  ·unfold uniG
   split
   ·rename_i e
    rw [hm,← e,h.one i hi]
   ·exact h.one i hi
theorem argsErr_cls {values:List Int}:∀ {gs ps:List Int},argsErr values gs ps = 0 → ∀ y ∈ ps.zip gs,classAt values y.1 = classAt values y.2
 | [],ps,_,y,hy => by simp at hy
 | a :: r,[],_,y,hy => by simp at hy
 | a :: r,p :: q,h,y,hy => by
  unfold argsErr at h
  split at h
  ·cases h
  ·split at h
   ·cases h
   ·rename_i h1
    simp only [List.zip_cons_cons,List.mem_cons] at hy
    rcases hy with rfl | hy
    ·exact (Classical.byContradiction fun hn => h1 (Or.inr fun e => hn e.symm))
    ·exact argsErr_cls h y hy
theorem keeps_cls {f:Fn} {m0 m1:Int} (hs:shapeErr f m0 m1 = 0) (S:Nat → List Sp):Keeps f.values.length S f.blocks (ClsG f.values.length fun v => f.values.getD v 0):=by
 have SI:=shape_in hs
 have GI:=grIn_of hs
 refine ⟨fun q hq b hb x hx o ho hl => ?_,fun q hq b hb e he y hy => ?_⟩
 ·have h1:=instrErr_reG (SI.ins b hb x hx) o ho
  have hv:=GI.opr b hb x hx o ho
  unfold reE at h1
  rw [if_pos hl] at h1
  have hn:=GI.reu b hb x hx o ho hl
  have hnl:o.n.toNat < x.operands.length:=by omega
  have e:x.operands.getD o.n.toNat ⟨0,0,false,0,0⟩ = x.operands[o.n.toNat]:=by rw [List.getD_eq_getElem?_getD,List.getElem?_eq_getElem hnl,Option.getD_some]
  rw [e]
  have hu:=GI.opr b hb x hx _ (List.getElem_mem hnl)
  unfold reuseErr at h1
  rw [if_neg (by omega),List.getElem?_eq_getElem hnl] at h1
  simp only at h1
  split at h1
  ·split at h1
   ·rename_i h3
    exact hq.join (by omega) (by omega) (by unfold classAt at h3; exact h3.symm)
   ·cases h1
  ·cases h1
 ·have h1:=SI.edg b hb e he
  have hE:=GI.edg b hb e he
  have htl:e.block.toNat < f.blocks.length:=by omega
  have eB:blkA f.blocks e.block.toNat = f.blocks[e.block.toNat]:=by unfold blkA; rw [List.getD_eq_getElem?_getD,List.getElem?_eq_getElem htl,Option.getD_some]
  rw [eB] at hy
  unfold edgeErr at h1
  rw [if_neg (by have:=edgeErr_val h1; omega),List.getElem?_eq_getElem htl] at h1
  simp only at h1
  split at h1
  ·have h4:=argsErr_cls h1 y hy
   have h5:=List.of_mem_zip (show (y.1,y.2) ∈ _ from hy)
   have h6:=GI.par _ (List.getElem_mem htl) y.1 h5.1
   have h7:=hE.2.2.1 y.2 h5.2
   exact hq.join (by omega) (by omega) (by unfold classAt at h4; exact h4)
  ·cases h1
theorem groups_cls {f:Fn} {m0 m1:Int} (hs:shapeErr f m0 m1 = 0) (S:Nat → List Sp):ClsG f.values.length (fun v => f.values.getD v 0) (groupsM f.values.length S f.blocks) :=
 (keeps_cls hs S).all ⟨fun _ _ => Nat.le_refl _,fun _ _ => rfl⟩
theorem spansM_told {bs:List Blk} {nv:Nat} {I O I' O':Tb} (h:(∀ b v,v < nv → (I b v = true ↔ NeedIn bs b v))∧∀ b v,v < nv → (O b v = true ↔ NeedOut bs b v)) (h':(∀ b v,v < nv → (I' b v = true ↔ NeedIn bs b v))∧∀ b v,v < nv → (O' b v = true ↔ NeedOut bs b v)):∀ k,spansM bs nv I O k = spansM bs nv I' O' k
 | 0 => rfl
 | k + 1 => by
  have ih:=spansM_told h h' k
  have e1:∀ b fst,stIn I b fst nv = stIn I' b fst nv:=fun b fst => by
   funext v
   unfold stIn
   by_cases hv:v < nv
   ·have:(I b v = true) ↔ (I' b v = true):=(h.1 b v hv).trans (h'.1 b v hv).symm
    simp only [hv,true_and,this]
   ·simp [hv]
  have e2:∀ b fin s,stOut O b fin s nv = stOut O' b fin s nv:=fun b fin s => by
   funext v
   unfold stOut
   by_cases hv:v < nv
   ·have:(O b v = true) ↔ (O' b v = true):=(h.2 b v hv).trans (h'.2 b v hv).symm
    simp only [hv,true_and,this]
   ·simp [hv]
  funext i
  simp only [spansM,ih]
  unfold stayM stMid
  rw [e1,e2]
theorem spn_cells {w:World} {a:Option Addr} {n c:Nat} {l:List Sp} (h:SlOf w 2 RSn (.slice a n c) l) (i:Nat) (hi:i < l.length):∃ b off,a = some ⟨b,off,none⟩∧b < w.heap.size∧w.cell? ⟨b,off + i * 2,none⟩ = some (.int .i64 l[i].1)∧w.cell? ⟨b,off + i * 2 + 1,none⟩ = some (.int .i64 l[i].2):=by
 obtain ⟨b,off,cs,h1,h2,h3,h4⟩:=h.at i hi
 unfold RSn at h3
 subst h3
 exact ⟨b,off,h1,block_lt (h4 0 (by simp [cS])),h4 0 (by simp [cS]),h4 1 (by simp [cS])⟩
theorem meetL_take (a b:List Sp) (i:Nat) (hi:i < a.length):meetL (a.take (i + 1)) b = (meetL (a.take i) b || b.any fun t => decide (a[i].1 < t.2) && decide (t.1 < a[i].2)):=by
 unfold meetL
 rw [List.take_succ_eq_append_getElem hi,List.any_append]
 simp
theorem any_take {α:Type} (p:α → Bool) (b:List α) (j:Nat) (hj:j < b.length):(b.take (j + 1)).any p = ((b.take j).any p || p b[j]):=by
 rw [List.take_succ_eq_append_getElem hj,List.any_append]
 simp
set_option maxHeartbeats 4000000 in
theorem meetS_any (a1 a2:Option Addr) (n1 n2 c1 c2:Nat) (l1 l2:List Sp) (w:World) (h1:SlOf w 2 RSn (.slice a1 n1 c1) l1) (h2:SlOf w 2 RSn (.slice a2 n2 c2) l2) (e1:l1.length = n1) (e2:l2.length = n2) (b1:n1 ≤ 100000) (b2:n2 ≤ 100000) :
  Calls Try.prog 11 #[.slice a1 n1 c1,.slice a2 n2 c2] w fun e w' => e = .returned (.bool (meetL l1 l2))∧Below w.heap.size w w':=by
 have HD:Hid (SlOf w 2 RSn (.slice a1 n1 c1) l1∧SlOf w 2 RSn (.slice a2 n2 c2) l2∧l1.length = n1∧l2.length = n2):=⟨h1,h2,e1,e2⟩
 clear h1 h2 e1 e2
 go_enter Try.func11,Try.ntmps11
 go_wp2_with fail
 go_loopw [4,11] (fun r i wr => ∃ k:Nat,r = .bool false∧k ≤ n1∧i = .int .i64 k∧Hid (Below w.heap.size w wr∧meetL (l1.take k) l2 = false)) (fun _ i _ => n1 - (intOf i).toNat)
 case atStart => exact ⟨0,rfl,Nat.zero_le _,rfl,Below.refl _ _,rfl⟩
 case round =>
  obtain ⟨k,rfl,hk,rfl,HJ⟩:=hrel
  by_cases hkn:k < n1
  ·have hkl:k < l1.length:=by rw [HD.out.2.2.1]; exact hkn
   obtain ⟨bb,ob,rfl,lb,x0,x1⟩:=spn_cells HD.out.1 k hkl
   have y0:=(HJ.out.1.cell (p:=⟨bb,ob + k * 2,none⟩) lb).trans x0
   have y1:=(HJ.out.1.cell (p:=⟨bb,ob + k * 2 + 1,none⟩) lb).trans x1
   have hmt:=meetL_take l1 l2 k hkl
   obtain ⟨s,hs⟩:∃ s,l1[k] = s:=⟨_,rfl⟩
   rw [hs] at y0 y1 hmt
   obtain ⟨W6,hW6⟩:∃ W6,W6 = wr.alloc (.cells #[.int .i64 s.1,.int .i64 s.2] 80):=⟨_,rfl⟩
   obtain ⟨B6,hB6⟩:∃ B,wr.heap.size = B:=⟨_,rfl⟩
   have hb6:Below wr.heap.size wr W6:=by rw [hW6]; exact (Below.refl _ _).alloc (Nat.le_refl _) _
   have t0:W6.cell? ⟨B6,0,none⟩ = some (.int .i64 s.1):=by rw [hW6,← hB6]; simp
   have t1:W6.cell? ⟨B6,1,none⟩ = some (.int .i64 s.2):=by rw [hW6,← hB6]; simp
   have H6:Hid (Below w.heap.size w W6∧meetL (l1.take k) l2 = false∧W6.cell? ⟨B6,0,none⟩ = some (.int .i64 s.1)∧W6.cell? ⟨B6,1,none⟩ = some (.int .i64 s.2)∧B6 < W6.heap.size∧W6.heap.size = B6 + 1∧meetL (l1.take (k + 1)) l2 = (meetL (l1.take k) l2 || l2.any fun t => decide (s.1 < t.2) && decide (t.1 < s.2))∧meetL l1 l2 = meetL (l1.take k ++ l1.drop k) l2):=⟨HJ.out.1.trans (hb6.mono HJ.out.1.size),HJ.out.2,t0,t1,by rw [hW6,← hB6]; simp,by rw [hW6,← hB6]; simp,hmt,by rw [List.take_append_drop]⟩
   have HS:Hid (s ∈ l1):=by show s ∈ l1; rw [← hs]; exact List.getElem_mem hkl
   have HW6:Hid (W6 = wr.alloc (.cells #[.int .i64 s.1,.int .i64 s.2] 80)∧wr.heap.size = B6):=⟨hW6,hB6⟩
   have d1:(k:Int) < (n1:Int):=by omega
   have d2:k < n1 + 1:=by omega
   clear hkl lb x0 x1 hmt hs hW6 hB6 hb6 t0 t1 HJ
   go_upto_region 4 with fail
   rw [← HW6.out.1,HW6.out.2]
   clear HW6 y0 y1
   go_wp2_with fail
   go_loopw [4,17] (fun r i wr => ∃ j:Nat,r = .bool false∧j ≤ n2∧i = .int .i64 j∧Hid (Below W6.heap.size W6 wr∧((l2.take j).any fun t => decide (s.1 < t.2) && decide (t.1 < s.2)) = false)) (fun _ i _ => n2 - (intOf i).toNat)
   case atStart => exact ⟨0,rfl,Nat.zero_le _,rfl,Below.refl _ _,rfl⟩
   case round =>
    obtain ⟨j,rfl,hj,rfl,HJ⟩:=hrel
    by_cases hjn:j < n2
    ·have hjl:j < l2.length:=by rw [HD.out.2.2.2]; exact hjn
     obtain ⟨bc,oc,rfl,lc,x0,x1⟩:=spn_cells HD.out.2.1 j hjl
     have hbw:=H6.out.1.trans (HJ.out.1.mono H6.out.1.size)
     have y0:=(hbw.cell (p:=⟨bc,oc + j * 2,none⟩) lc).trans x0
     have y1:=(hbw.cell (p:=⟨bc,oc + j * 2 + 1,none⟩) lc).trans x1
     have hat:=any_take (fun t:Sp => decide (s.1 < t.2) && decide (t.1 < s.2)) l2 j hjl
     obtain ⟨t,ht⟩:∃ t,l2[j] = t:=⟨_,rfl⟩
     have htm:t ∈ l2:=by rw [← ht]; exact List.getElem_mem hjl
     rw [ht] at y0 y1 hat
     obtain ⟨W8,hW8⟩:∃ W8,W8 = wr.alloc (.cells #[.int .i64 t.1,.int .i64 t.2] 80):=⟨_,rfl⟩
     obtain ⟨B8,hB8⟩:∃ B,wr.heap.size = B:=⟨_,rfl⟩
     have hb8:Below wr.heap.size wr W8:=by rw [hW8]; exact (Below.refl _ _).alloc (Nat.le_refl _) _
     have l6:B6 < wr.heap.size:=Nat.lt_of_lt_of_le H6.out.2.2.2.2.1 HJ.out.1.size
     have hb68:Below W6.heap.size W6 W8:=HJ.out.1.trans (hb8.mono HJ.out.1.size)
     have u0:W8.cell? ⟨B8,0,none⟩ = some (.int .i64 t.1):=by rw [hW8,← hB8]; simp
     have u1:W8.cell? ⟨B8,1,none⟩ = some (.int .i64 t.2):=by rw [hW8,← hB8]; simp
     have v0:=(hb68.cell (p:=⟨B6,0,none⟩) H6.out.2.2.2.2.1).trans H6.out.2.2.1
     have v1:=(hb68.cell (p:=⟨B6,1,none⟩) H6.out.2.2.2.2.1).trans H6.out.2.2.2.1
     have H8:Hid (Below W6.heap.size W6 W8∧t ∈ l2∧((l2.take (j + 1)).any fun t => decide (s.1 < t.2) && decide (t.1 < s.2)) = (((l2.take j).any fun t => decide (s.1 < t.2) && decide (t.1 < s.2)) || (decide (s.1 < t.2) && decide (t.1 < s.2)))∧((l2.take j).any fun t => decide (s.1 < t.2) && decide (t.1 < s.2)) = false):=⟨hb68,htm,hat,HJ.out.2⟩
     have HW8:Hid (W8 = wr.alloc (.cells #[.int .i64 t.1,.int .i64 t.2] 80)∧wr.heap.size = B8):=⟨hW8,hB8⟩
     have d3:(j:Int) < (n2:Int):=by omega
     have d4:j < n2 + 1:=by omega
     obtain ⟨s1,hs1⟩:∃ x,s.1 = x:=⟨_,rfl⟩
     obtain ⟨s2,hs2⟩:∃ x,s.2 = x:=⟨_,rfl⟩
     obtain ⟨t1,ht1⟩:∃ x,t.1 = x:=⟨_,rfl⟩
     obtain ⟨t2,ht2⟩:∃ x,t.2 = x:=⟨_,rfl⟩
     have HST:Hid (s.1 = s1∧s.2 = s2∧t.1 = t1∧t.2 = t2):=⟨hs1,hs2,ht1,ht2⟩
     rw [ht1] at y0 u0 HW8
     rw [ht2] at y1 u1 HW8
     rw [hs1] at v0
     rw [hs2] at v1
     clear hjl lc x0 x1 hbw hat ht htm hW8 hB8 hb8 l6 hb68 HJ hs1 hs2 ht1 ht2
     go_upto_region 7 with fail
     rw [← HW8.out.1,HW8.out.2]
     clear HW8 y0 y1
     by_cases q1:s1 < t2
     ·by_cases q2:t1 < s2
      ·have HE:Hid (meetL l1 l2 = true∧Below w.heap.size w W8):=by
        have h:=HST.out
        exact ⟨(meetL_iff _ _).2 ⟨s,HS.out,t,H8.out.2.1,by omega,by omega⟩,H6.out.1.trans (H8.out.1.mono H6.out.1.size)⟩
       clear H8 HST
       go_wp2
       go_ret
       exact ⟨by rw [HE.out.1]; rfl,HE.out.2⟩
      ·have HN:Hid (Below W6.heap.size W6 W8∧((l2.take (j + 1)).any fun t => decide (s.1 < t.2) && decide (t.1 < s.2)) = false):=by
        have h:=HST.out
        refine ⟨H8.out.1,?_⟩
        rw [H8.out.2.2.1,H8.out.2.2.2]
        simp only [Bool.false_or,Bool.and_eq_false_iff,decide_eq_false_iff_not]
        right; omega
       clear H8 HST
       go_wp2
       go_roundw
       case rel => exact ⟨j + 1,rfl,by omega,by go_num,HN⟩
       case measure => simp [intOf]; omega
     ·have HN:Hid (Below W6.heap.size W6 W8∧((l2.take (j + 1)).any fun t => decide (s.1 < t.2) && decide (t.1 < s.2)) = false):=by
       have h:=HST.out
       refine ⟨H8.out.1,?_⟩
       rw [H8.out.2.2.1,H8.out.2.2.2]
       simp only [Bool.false_or,Bool.and_eq_false_iff,decide_eq_false_iff_not]
       left; omega
      clear H8 HST
      go_wp2
      go_roundw
      case rel => exact ⟨j + 1,rfl,by omega,by go_num,HN⟩
      case measure => simp [intOf]; omega
    ·have HN:Hid (Below w.heap.size w wr∧meetL (l1.take (k + 1)) l2 = false):=by
      have h:=HJ.out
      rw [List.take_of_length_le (by have:=HD.out.2.2.2; omega)] at h
      exact ⟨H6.out.1.trans (h.1.mono H6.out.1.size),by rw [H6.out.2.2.2.2.2.2.1,H6.out.2.1,h.2]; rfl⟩
     clear HJ
     go_wp2
     go_roundw
     case rel => exact ⟨k + 1,rfl,by omega,by go_num,HN⟩
     case measure => simp [intOf]; omega
  ·have HE:Hid (meetL l1 l2 = false∧Below w.heap.size w wr):=by
    have h:=HJ.out
    rw [List.take_of_length_le (by have:=HD.out.2.2.1; omega)] at h
    exact ⟨h.2,h.1⟩
   clear HJ
   go_wp2
   go_ret
   exact ⟨by rw [HE.out.1]; rfl,HE.out.2⟩
end Go.Proofs.Ytdlnofjmonpmgaa
