/-
  What the mason's steps keep: lays, the newest value. No Go in here.
-/
import Derived.Test.YtglfpnnfcpnmoaaB1
import Derived.Test.YtglfpnnfcpnmoaaA4
namespace Go.Proofs.Ytglfpnnfcpnmoaa
open Go.RowKit
set_option linter.unusedVariables false
def addXs (xs:List Ins) (b:Blk):Blk:={ b with instrs:=b.instrs ++ xs }
theorem setBlk_twice (bs:List Blk) (i:Nat) (xs ys:List Ins) (h:i < bs.length):setBlk (setBlk bs i (addXs xs)) i (addXs ys) = setBlk bs i (addXs (xs ++ ys)):=by
 unfold setBlk
 have e:(bs.set i (addXs xs (bs.getD i ⟨[],[],[]⟩))).getD i ⟨[],[],[]⟩ = addXs xs (bs.getD i ⟨[],[],[]⟩):=by
  rw [List.getD_eq_getElem?_getD,List.getElem?_set_self h]
  rfl
 rw [e,List.set_set]
 simp [addXs]
structure Lays (s s':Ms) (n:Nat):Prop where
 ok:MsOk s'
 m:s'.m0 = s.m0∧s'.m1 = s.m1
 cur:s'.cur = s.cur
 vals:∃ l:List Int,s'.f.values = s.f.values ++ l∧l.length ≤ 2 * n
 kn:∃ k:List Int,s'.known = s.known ++ k∧k.length ≤ 2 * n
 blk:∃ xs:List Ins,xs.length ≤ n∧s'.f.blocks = setBlk s.f.blocks s.cur (addXs xs)
theorem Lays.refl {s:Ms} (h:MsOk s):Lays s s 0:=by
 refine ⟨h,⟨rfl,rfl⟩,rfl,⟨[],by simp,by simp⟩,⟨[],by simp,by simp⟩,⟨[],by simp,?_⟩⟩
 have hcu:=h.cur
 rw [setBlk_eq _ _ _ h.cur]
 have e:addXs [] s.f.blocks[s.cur] = s.f.blocks[s.cur]:=by simp [addXs]
 rw [e,List.set_getElem_self]
theorem Lays.trans {s s' s'':Ms} {n m:Nat} (h0:MsOk s) (h:Lays s s' n) (k:Lays s' s'' m):Lays s s'' (n + m):=by
 obtain ⟨l,l1,l2⟩:=h.vals
 obtain ⟨l',l1',l2'⟩:=k.vals
 obtain ⟨q,q1,q2⟩:=h.kn
 obtain ⟨q',q1',q2'⟩:=k.kn
 obtain ⟨xs,x1,x2⟩:=h.blk
 obtain ⟨ys,y1,y2⟩:=k.blk
 refine ⟨k.ok,⟨k.m.1.trans h.m.1,k.m.2.trans h.m.2⟩,k.cur.trans h.cur,⟨l ++ l',by rw [l1',l1,List.append_assoc],by simp; omega⟩,⟨q ++ q',by rw [q1',q1,List.append_assoc],by simp; omega⟩,⟨xs ++ ys,by simp; omega,?_⟩⟩
 rw [y2,x2,h.cur,setBlk_twice _ _ _ _ h0.cur]
theorem lay_lays (s:Ms) (p:Pc) (h:MsOk s):Lays s (layM s p) 1:=by
 obtain ⟨h1,h2,h3,⟨l,hl,h4,h5⟩,x,h6⟩:=layM_ok s p h
 have hl2:l.length ≤ 2:=by rcases hl with rfl | rfl <;> simp
 exact ⟨h1,⟨rfl,rfl⟩,h2,⟨l,h4,by omega⟩,⟨_,h5,by simp; omega⟩,⟨[x],by simp,h6⟩⟩
theorem seekM_some {s:Ms} {c:Int}:∀ (n:Nat) (v:Int),n ≤ s.known.length → seekM s c n = some v → v ∈ s.known∧classAt s.f.values v = c
 | 0,v,_,h => by simp [seekM] at h
 | n + 1,v,hn,h => by
  simp only [seekM] at h
  split at h
  ·rename_i hc
   simp only [Option.some.injEq] at h
   rw [← h]
   refine ⟨?_,hc⟩
   rw [List.getD_eq_getElem?_getD,List.getElem?_eq_getElem (by omega)]
   exact List.getElem_mem _
  ·exact seekM_some n v (by omega) h
theorem newest_lays (s:Ms) (c:Int) (p:Pc) (h:MsOk s) (hc:c = 0 ∨ c = 1):Lays s (newestM s c p).1 1∧(newestM s c p).2 ∈ (newestM s c p).1.known∧classAt (newestM s c p).1.f.values (newestM s c p).2 = c:=by
 unfold newestM
 have hb:=pickedOf_bd p.b 3 (by omega)
 split
 ·rename_i v hv
  have:=seekM_some _ v (by omega) hv
  have h0:=Lays.refl h
  exact ⟨⟨h0.ok,h0.m,h0.cur,by obtain ⟨l,a,b⟩:=h0.vals; exact ⟨l,a,by omega⟩,by obtain ⟨l,a,b⟩:=h0.kn; exact ⟨l,a,by omega⟩,by obtain ⟨l,a,b⟩:=h0.blk; exact ⟨l,by omega,b⟩⟩,this.1,this.2⟩
 ·have hl:=lay_lays s { p with c:=3 * c } h
  obtain ⟨h1,h2,h3,⟨l,hbit,h4,h5⟩,x,h6⟩:=layM_ok s { p with c:=3 * c } h
  refine ⟨hl,?_,?_⟩
  ·simp only
   rw [h5]
   rcases hbit with rfl | rfl
   ·simp [List.range_succ]
   ·simp [List.range_succ]
  ·simp only at hbit ⊢
   rw [h4,h5]
   rcases hbit with rfl | rfl
   ·rcases hc with rfl | rfl <;> simp [List.range_succ,classAt,List.getD]
   ·rcases hc with rfl | rfl <;> simp [List.range_succ,classAt,List.getD]
theorem MsOk.mem {s:Ms} (h:MsOk s) {v:Int} (hv:v ∈ s.known):isValueB s.f.values.length v = true:=h.kn v hv
theorem MsOk.turn {s:Ms} (h:MsOk s) (k:Nat) (kn:List Int) (hk:k < s.f.blocks.length) (hkn:∀ v ∈ kn,isValueB s.f.values.length v = true):MsOk { s with cur:=k,known:=kn } :=
 ⟨h.m0,h.m1,h.cls,hkn,hk,h.ins,h.made,h.edg,h.par,h.two,h.ent⟩
def blkAt (s:Ms) (j:Nat):Blk:=s.f.blocks.getD j ⟨[],[],[]⟩
theorem setBlk_at (bs:List Blk) (i:Nat) (g:Blk → Blk) (h:i < bs.length) (j:Nat):(setBlk bs i g).getD j ⟨[],[],[]⟩ = if j = i then g (bs.getD j ⟨[],[],[]⟩) else bs.getD j ⟨[],[],[]⟩:=by
 unfold setBlk
 by_cases e:j = i
 ·subst e
  rw [if_pos rfl,List.getD_eq_getElem?_getD,List.getElem?_set_self h]
  rfl
 ·rw [if_neg e,List.getD_eq_getElem?_getD,List.getElem?_set_ne (fun h => e h.symm),← List.getD_eq_getElem?_getD]
theorem blkAt_mem {s:Ms} {j:Nat} (h:j < s.f.blocks.length):blkAt s j ∈ s.f.blocks:=by
 unfold blkAt
 rw [List.getD_eq_getElem?_getD,List.getElem?_eq_getElem h]
 exact List.getElem_mem _
theorem blkAt_eq {s:Ms} {j:Nat} (h:j < s.f.blocks.length):blkAt s j = s.f.blocks[j]:=by
 unfold blkAt
 rw [List.getD_eq_getElem?_getD,List.getElem?_eq_getElem h]
 rfl
theorem Lays.len {s s':Ms} {n:Nat} (h:Lays s s' n):s'.f.blocks.length = s.f.blocks.length:=by
 obtain ⟨xs,_,e⟩:=h.blk
 rw [e,setBlk_len]
theorem Lays.at {s s':Ms} {n:Nat} (h:Lays s s' n) (hc:s.cur < s.f.blocks.length):∃ xs:List Ins,xs.length ≤ n∧∀ j,blkAt s' j = if j = s.cur then addXs xs (blkAt s j) else blkAt s j:=by
 obtain ⟨xs,hx,e⟩:=h.blk
 refine ⟨xs,hx,fun j => ?_⟩
 unfold blkAt
 rw [e,setBlk_at _ _ _ hc]
theorem Lays.edges {s s':Ms} {n:Nat} (h:Lays s s' n) (hc:s.cur < s.f.blocks.length) (j:Nat):(blkAt s' j).edges = (blkAt s j).edges∧(blkAt s' j).params = (blkAt s j).params:=by
 obtain ⟨xs,_,e⟩:=h.at hc
 rw [e j]
 split <;> exact ⟨rfl,rfl⟩
theorem edgeM_at (s:Ms) (src dst:Nat) (args:List Int) (h:src < s.f.blocks.length) (j:Nat):blkAt (edgeM s src dst args) j = if j = src then addE ⟨dst,args⟩ (blkAt s j) else blkAt s j:=by
 unfold blkAt edgeM
 exact setBlk_at _ _ _ h j
theorem edgeM_len (s:Ms) (src dst:Nat) (args:List Int):(edgeM s src dst args).f.blocks.length = s.f.blocks.length:=by
 unfold edgeM
 exact setBlk_len _ _ _
theorem blockM_at (s:Ms) (cl:List Int) (j:Nat) (h:j < s.f.blocks.length):blkAt (blockM s cl).1 j = blkAt s j:=by
 unfold blkAt blockM
 simp only
 rw [List.getD_eq_getElem?_getD,List.getElem?_append_left h,← List.getD_eq_getElem?_getD]
theorem blockM_new (s:Ms) (cl:List Int):blkAt (blockM s cl).1 s.f.blocks.length = ⟨(List.range cl.length).map fun j => ((s.f.values.length + j:Nat):Int),[],[]⟩:=by
 unfold blkAt blockM
 simp only
 rw [List.getD_eq_getElem?_getD,List.getElem?_append_right (Nat.le_refl _),Nat.sub_self]
 rfl
theorem blockM_len (s:Ms) (cl:List Int):(blockM s cl).1.f.blocks.length = s.f.blocks.length + 1:=by simp [blockM]
theorem edgeErr_at {s:Ms} {d:Nat} {args:List Int} (h0:0 < d) (h1:d < s.f.blocks.length) (hl:args.length = (blkAt s d).params.length) (ha:argsErr s.f.values args (blkAt s d).params = 0):edgeErr s.f.values s.f.blocks ⟨d,args⟩ = 0:=by
 unfold edgeErr
 have e:s.f.blocks[((d:Nat):Int).toNat]? = some (blkAt s d):=by
  rw [Int.toNat_natCast,blkAt_eq h1]
  exact List.getElem?_eq_getElem h1
 rw [if_neg (by simp; omega)]
 simp only [e]
 rw [if_pos hl]
 exact ha
def Sm (B:Nat) (s:Ms):Prop:=s.known.length ≤ B∧s.f.values.length ≤ B∧s.f.blocks.length ≤ B∧∀ b ∈ s.f.blocks,b.instrs.length ≤ B∧b.edges.length ≤ B
structure Good (B:Nat) (s:Ms):Prop where
 ok:MsOk s
 sm:Sm B s
theorem Good.mono {B B':Nat} {s:Ms} (h:Good B s) (hB:B ≤ B'):Good B' s:=⟨h.ok,by have:=h.sm.1; omega,by have:=h.sm.2.1; omega,by have:=h.sm.2.2.1; omega,fun b hb => by have:=h.sm.2.2.2 b hb; omega⟩
theorem Good.lays {B n:Nat} {s s':Ms} (h:Good B s) (k:Lays s s' n):Good (B + 2 * n) s':=by
 refine ⟨k.ok,?_,?_,?_,fun b hb => ?_⟩
 ·obtain ⟨q,e,hq⟩:=k.kn
  rw [e,List.length_append]
  have:=h.sm.1
  omega
 ·obtain ⟨q,e,hq⟩:=k.vals
  rw [e,List.length_append]
  have:=h.sm.2.1
  omega
 ·rw [k.len]
  have:=h.sm.2.2.1
  omega
 ·obtain ⟨xs,hx,e⟩:=k.blk
  rw [e] at hb
  rcases setBlk_mem h.ok.cur hb with hb | rfl
  ·have:=h.sm.2.2.2 b hb
   omega
  ·have:=h.sm.2.2.2 _ (List.getElem_mem h.ok.cur)
   simp only [addXs,List.length_append]
   omega
theorem Good.lay {B:Nat} {s:Ms} (h:Good B s) (p:Pc):Good (B + 2) (layM s p):=h.lays (lay_lays s p h.ok)
theorem Good.newest {B:Nat} {s:Ms} (h:Good B s) (c:Int) (p:Pc) (hc:c = 0 ∨ c = 1):Good (B + 2) (newestM s c p).1:=h.lays (newest_lays s c p h.ok hc).1
theorem Good.block {B:Nat} {s:Ms} (h:Good B s) (cl:List Int) (hc:∀ c ∈ cl,c = 0 ∨ c = 1) (hn:cl.length ≤ 2):Good (B + 2) (blockM s cl).1:=by
 obtain ⟨h1,h2,h3,h4,h5,h6⟩:=blockM_ok s cl h.ok hc hn
 refine ⟨h1,?_,?_,?_,fun b hb => ?_⟩
 ·rw [h4]; have:=h.sm.1; omega
 ·rw [h5,List.length_append]; have:=h.sm.2.1; omega
 ·rw [blockM_len]; have:=h.sm.2.2.1; omega
 ·rw [h6] at hb
  rcases List.mem_append.1 hb with hb | hb
  ·have:=h.sm.2.2.2 b hb; omega
  ·rw [List.mem_singleton.1 hb]
   simp
theorem Good.edge {B:Nat} {s:Ms} (h:Good B s) (src dst:Nat) (args:List Int) (hs:src < s.f.blocks.length) (h0:0 < dst) (hd:dst < s.f.blocks.length) (hl:args.length = (blkAt s dst).params.length) (ha:argsErr s.f.values args (blkAt s dst).params = 0) (h1:(blkAt s src).edges.length ≤ 1) (h2:(blkAt s src).edges.length = 1 → 0 < (blkAt s src).instrs.length):Good (B + 1) (edgeM s src dst args):=by
 have e:=blkAt_eq hs
 refine ⟨edgeM_ok s src dst args h.ok hs (edgeErr_at h0 hd hl ha) (by rw [← e]; exact h1) (by rw [← e]; exact h2),?_,?_,?_,fun b hb => ?_⟩
 ·have:=h.sm.1; show s.known.length ≤ _; omega
 ·have:=h.sm.2.1; show s.f.values.length ≤ _; omega
 ·rw [edgeM_len]; have:=h.sm.2.2.1; omega
 ·rcases setBlk_mem hs hb with hb | rfl
  ·have:=h.sm.2.2.2 b hb; omega
  ·have:=h.sm.2.2.2 _ (List.getElem_mem hs)
   simp only [addE,List.length_append,List.length_singleton]
   omega
theorem Good.turn {B:Nat} {s:Ms} (h:Good B s) (k:Nat) (kn:List Int) (hk:k < s.f.blocks.length) (hkn:∀ v ∈ kn,isValueB s.f.values.length v = true) (hl:kn.length ≤ B):Good B { s with cur:=k,known:=kn }:=⟨h.ok.turn k kn hk hkn,hl,h.sm.2.1,h.sm.2.2.1,h.sm.2.2.2⟩
structure Takes (s:Ms) (e:Nat) (c:Int) (P0 P1:Int):Prop where
 pos:0 < e
 lt:e < s.f.blocks.length
 par:(blkAt s e).params = [P0,P1]
 v0:isValueB s.f.values.length P0 = true
 v1:isValueB s.f.values.length P1 = true
 c0:classAt s.f.values P0 = c
 c1:classAt s.f.values P1 = 0
theorem Takes.grow {s s':Ms} {e:Nat} {c P0 P1:Int} (h:Takes s e c P0 P1) (hl:s.f.blocks.length ≤ s'.f.blocks.length) (hp:(blkAt s' e).params = (blkAt s e).params) (hv:∃ l,s'.f.values = s.f.values ++ l):Takes s' e c P0 P1:=by
 obtain ⟨l,hv⟩:=hv
 exact ⟨h.pos,Nat.lt_of_lt_of_le h.lt hl,hp.trans h.par,by rw [hv]; exact isValue_app h.v0,by rw [hv]; exact isValue_app h.v1,by rw [hv,classAt_app l h.v0]; exact h.c0,by rw [hv,classAt_app l h.v1]; exact h.c1⟩
theorem Takes.args {s:Ms} {e:Nat} {c P0 P1 v z:Int} (h:Takes s e c P0 P1) (hv:isValueB s.f.values.length v = true) (hz:isValueB s.f.values.length z = true) (cv:classAt s.f.values v = c) (cz:classAt s.f.values z = 0):[v,z].length = (blkAt s e).params.length∧argsErr s.f.values [v,z] (blkAt s e).params = 0:=by
 rw [h.par]
 refine ⟨rfl,?_⟩
 simp [argsErr,hv,hz,h.v0,h.v1,cv,cz,h.c0,h.c1]
theorem takes_new (s:Ms) (c:Int) (hpos:0 < s.f.blocks.length):Takes (blockM s [c,0]).1 s.f.blocks.length c ((s.f.values.length + 0:Nat):Int) ((s.f.values.length + 1:Nat):Int):=by
 refine ⟨hpos,by rw [blockM_len]; omega,?_,?_,?_,?_,?_⟩
 ·rw [blockM_new]; rfl
 ·simp [blockM,isValueB]; omega
 ·simp [blockM,isValueB]; omega
 ·simp [blockM,classAt,List.getD]
 ·simp [blockM,classAt,List.getD]
theorem lay_at (s:Ms) (p:Pc) (h:MsOk s):∃ x:Ins,∀ j,blkAt (layM s p) j = if j = s.cur then addI x (blkAt s j) else blkAt s j:=by
 obtain ⟨_,_,_,_,x,e⟩:=layM_ok s p h
 refine ⟨x,fun j => ?_⟩
 unfold blkAt
 rw [e,setBlk_at _ _ _ h.cur]
theorem pick2 (n:Int):pickedOf n 2 = 0 ∨ pickedOf n 2 = 1:=by
 have:=pickedOf_bd n 2 (by omega)
 omega
def wayM (c:Int) (kn:List Int) (e:Nat) (s:Ms) (p:Pc) (k:Nat) (more:Bool):Ms × Pc :=
 let p1:Pc:={ p with a:=up p.a }
 let t0:Ms:={ s with cur:=k }
 let p2:Pc:=if more then { p1 with op:=up p1.op } else p1
 let t1:=if more then layM t0 p2 else t0
 let rv:=newestM t1 c p2
 let rz:=newestM rv.1 0 p2
 ({ edgeM rz.1 k e [rv.2,rz.2] with known:=kn },p2)
theorem forkM_eq (s:Ms) (p:Pc):forkM s p =
  (let c:=pickedOf p.c 2
   let s1:=layM s p
   let ra:=blockM s1 []
   let rb:=blockM ra.1 []
   let re:=blockM rb.1 [c,0]
   let s2:=edgeM (edgeM re.1 s1.cur ra.2 []) s1.cur rb.2 []
   let w1:=wayM c s1.known re.2 s2 p ra.2 true
   let w2:=wayM c s1.known re.2 w1.1 w1.2 rb.2 (decide (pickedOf p.flags 2 = 1))
   { w2.1 with cur:=re.2,known:=s1.known ++ (w2.1.f.blocks.getD re.2 ⟨[],[],[]⟩).params }):=rfl
structure Pair2 (t:Ms) (c:Int) (p:Pc) (B:Nat):Prop where
 gv:Good (B + 2) (newestM t c p).1
 gz:Good (B + 4) (newestM (newestM t c p).1 0 p).1
 lz:Lays t (newestM (newestM t c p).1 0 p).1 2
 v:isValueB (newestM (newestM t c p).1 0 p).1.f.values.length (newestM t c p).2 = true
 z:isValueB (newestM (newestM t c p).1 0 p).1.f.values.length (newestM (newestM t c p).1 0 p).2 = true
 cv:classAt (newestM (newestM t c p).1 0 p).1.f.values (newestM t c p).2 = c
 cz:classAt (newestM (newestM t c p).1 0 p).1.f.values (newestM (newestM t c p).1 0 p).2 = 0
 mv:(newestM t c p).2 ∈ (newestM (newestM t c p).1 0 p).1.known
 mz:(newestM (newestM t c p).1 0 p).2 ∈ (newestM (newestM t c p).1 0 p).1.known
theorem pair2 {B:Nat} {t:Ms} (h:Good B t) (c:Int) (p:Pc) (hc:c = 0 ∨ c = 1):Pair2 t c p B:=by
 have gv:=h.newest c p hc
 obtain ⟨l1,m1,c1⟩:=newest_lays t c p h.ok hc
 obtain ⟨l2,m2,c2⟩:=newest_lays (newestM t c p).1 0 p gv.ok (Or.inl rfl)
 have gz:=gv.newest 0 p (Or.inl rfl)
 obtain ⟨l,el,_⟩:=l2.vals
 obtain ⟨k,ek,_⟩:=l2.kn
 have hv1:=gv.ok.kn _ m1
 exact ⟨gv,gz,l1.trans h.ok l2,by rw [el]; exact isValue_app hv1,gz.ok.kn _ m2,by rw [el,classAt_app l hv1]; exact c1,c2,by rw [ek]; exact List.mem_append_left _ m1,m2⟩
structure WayS (s r:Ms) (k e:Nat) (c P0 P1:Int) (kn:List Int) (B:Nat):Prop where
 good:Good (B + 7) r
 cur:r.cur = k
 kn:r.known = kn
 len:r.f.blocks.length = s.f.blocks.length
 takes:Takes r e c P0 P1
 other:∀ j,j ≠ k → blkAt r j = blkAt s j
 own:∃ (v z:Int) (xs:List Ins),xs.length ≤ 3∧blkAt r k = ⟨(blkAt s k).params,(blkAt s k).instrs ++ xs,(blkAt s k).edges ++ [⟨e,[v,z]⟩]⟩
 vals:∃ l,r.f.values = s.f.values ++ l∧l.length ≤ 6
theorem give_good {B n:Nat} {s t:Ms} {k e:Nat} {c P0 P1:Int} {kn:List Int} (p:Pc) (h0:Good B { s with cur:=k }) (hl:Lays { s with cur:=k } t n) (hn:n ≤ 1) (hE:(blkAt s k).edges = []) (hT:Takes s e c P0 P1) (hke:k ≠ e) (hkn:∀ v ∈ kn,isValueB s.f.values.length v = true) (hkl:kn.length ≤ B) (hc:c = 0 ∨ c = 1) :
  WayS s { edgeM (newestM (newestM t c p).1 0 p).1 k e [(newestM t c p).2,(newestM (newestM t c p).1 0 p).2] with known:=kn } k e c P0 P1 kn B:=by
 have hk:k < s.f.blocks.length:=h0.ok.cur
 have g1:Good (B + 2) t:=(h0.lays hl).mono (by omega)
 have hp:=pair2 g1 c p hc
 have hL:=hl.trans h0.ok hp.lz
 obtain ⟨hpgv,hpgz,hplz,hpv,hpz,hpcv,hpcz,_,_⟩:=hp
 generalize newestM (newestM t c p).1 0 p = rz at *
 generalize newestM t c p = rv at *
 have hlen:rz.1.f.blocks.length = s.f.blocks.length:=hL.len
 obtain ⟨xs,hxs,hat⟩:=hL.at hk
 have hat':∀ j,blkAt rz.1 j = if j = k then addXs xs (blkAt s j) else blkAt s j:=hat
 obtain ⟨l,el,hl2⟩:=hL.vals
 have el':rz.1.f.values = s.f.values ++ l:=el
 have hT2:Takes rz.1 e c P0 P1:=hT.grow (by omega) (by rw [hat' e]; split <;> rfl) ⟨l,el'⟩
 have hargs:=hT2.args hpv hpz hpcv hpcz
 have hbk:(blkAt rz.1 k).edges = []:=by rw [hat' k,if_pos rfl]; exact hE
 have gE:=hpgz.edge k e [rv.2,rz.2] (by omega) hT2.pos hT2.lt hargs.1 hargs.2 (by rw [hbk]; simp) (by rw [hbk]; simp)
 have hkE:k < (edgeM rz.1 k e [rv.2,rz.2]).f.blocks.length:=by rw [edgeM_len]; omega
 have hcurE:(edgeM rz.1 k e [rv.2,rz.2]).cur = k:=hL.cur
 have hatE:∀ j,blkAt (edgeM rz.1 k e [rv.2,rz.2]) j = if j = k then addE ⟨e,[rv.2,rz.2]⟩ (blkAt rz.1 j) else blkAt rz.1 j:=edgeM_at _ _ _ _ (by omega)
 have gT:=gE.turn k kn hkE (fun v hv => by show isValueB rz.1.f.values.length v = true; rw [el']; exact isValue_app (hkn v hv)) (by omega)
 refine ⟨?_,hcurE,rfl,by show (edgeM rz.1 k e [rv.2,rz.2]).f.blocks.length = _; rw [edgeM_len]; exact hlen,?_,fun j hj => ?_,⟨rv.2,rz.2,xs,by omega,?_⟩,⟨l,el',by omega⟩⟩
 ·have e1:∀ (E:Ms) (k:Nat),E.cur = k → ({ E with known:=kn }:Ms) = { E with cur:=k,known:=kn }:=fun E k h => by subst h; rfl
  rw [e1 _ k hcurE]
  exact gT.mono (by omega)
 ·exact hT2.grow (by show _ ≤ (edgeM rz.1 k e [rv.2,rz.2]).f.blocks.length; rw [edgeM_len]; exact Nat.le_refl _) (by show (blkAt (edgeM rz.1 k e [rv.2,rz.2]) e).params = _; rw [hatE e,if_neg (fun h => hke h.symm)]) ⟨[],by show rz.1.f.values = _; simp⟩
 ·show blkAt (edgeM rz.1 k e [rv.2,rz.2]) j = _
  rw [hatE j,if_neg hj,hat' j,if_neg hj]
 ·show blkAt (edgeM rz.1 k e [rv.2,rz.2]) k = _
  rw [hatE k,if_pos rfl,hat' k,if_pos rfl]
  rfl
theorem way_good {B:Nat} {s:Ms} {k e:Nat} {c P0 P1:Int} {kn:List Int} (p:Pc) (more:Bool) (h:Good B s) (hk:k < s.f.blocks.length) (hE:(blkAt s k).edges = []) (hT:Takes s e c P0 P1) (hke:k ≠ e) (hkn:∀ v ∈ kn,isValueB s.f.values.length v = true) (hkl:kn.length ≤ B) (hc:c = 0 ∨ c = 1) :
  WayS s (wayM c kn e s p k more).1 k e c P0 P1 kn B:=by
 have h0:Good B { s with cur:=k }:=by
  have:=h.turn k s.known hk h.ok.kn h.sm.1
  exact this
 unfold wayM
 cases more
 ·exact give_good _ h0 (Lays.refl h0.ok) (by omega) hE hT hke hkn hkl hc
 ·exact give_good _ h0 (lay_lays _ _ h0.ok) (by omega) hE hT hke hkn hkl hc
structure ForkS (B:Nat) (s:Ms) (c:Int) (s1:Ms) (ra rb re:Ms × Nat) (s2a s2:Ms) (P0 P1:Int):Prop where
 g1:Good (B + 2) s1
 ga:Good (B + 4) ra.1
 gb:Good (B + 6) rb.1
 ge:Good (B + 8) re.1
 ia:ra.2 = s.f.blocks.length
 ib:rb.2 = s.f.blocks.length + 1
 ie:re.2 = s.f.blocks.length + 2
 cur:s1.cur = s.cur
 kn:re.1.known = s1.known∧s2.known = s1.known
 g2a:Good (B + 9) s2a
 g2:Good (B + 10) s2
 len:s2.f.blocks.length = s.f.blocks.length + 3
 ea:(blkAt s2 s.f.blocks.length) = ⟨[],[],[]⟩
 eb:(blkAt s2 (s.f.blocks.length + 1)) = ⟨[],[],[]⟩
 ee:(blkAt s2 (s.f.blocks.length + 2)) = ⟨[P0,P1],[],[]⟩
 takes:Takes s2 (s.f.blocks.length + 2) c P0 P1
 kval:∀ v ∈ s1.known,isValueB s2.f.values.length v = true
 other:∀ j,j < s.f.blocks.length → j ≠ s.cur → blkAt s2 j = blkAt s j
 vals:∃ l,s2.f.values = s.f.values ++ l∧l.length ≤ 4
 own:∃ x,blkAt s2 s.cur = ⟨(blkAt s s.cur).params,(blkAt s s.cur).instrs ++ [x],[⟨(s.f.blocks.length:Nat),[]⟩,⟨(s.f.blocks.length + 1:Nat),[]⟩]⟩
theorem fork_steps {B:Nat} {s:Ms} (p:Pc) (h:Good B s) (hE:(blkAt s s.cur).edges = []) (c:Int) (hc:c = 0 ∨ c = 1) (s1:Ms) (ra rb re:Ms × Nat) (s2a s2:Ms) (h1:s1 = layM s p) (ha:ra = blockM s1 []) (hb:rb = blockM ra.1 []) (he:re = blockM rb.1 [c,0]) (h2a:s2a = edgeM re.1 s1.cur ra.2 []) (h2:s2 = edgeM s2a s1.cur rb.2 []) :
  ∃ P0 P1,ForkS B s c s1 ra rb re s2a s2 P0 P1:=by
 have hcl:=h.ok.cur
 have L1:=lay_lays s p h.ok
 obtain ⟨x,hat⟩:=lay_at s p h.ok
 rw [← h1] at L1 hat
 have g1:Good (B + 2) s1:=by rw [h1]; exact h.lay p
 have len1:=L1.len
 have cur1:=L1.cur
 have ga:Good (B + 4) ra.1:=by rw [ha]; exact g1.block [] (by simp) (by simp)
 have gb:Good (B + 6) rb.1:=by rw [hb]; exact ga.block [] (by simp) (by simp)
 have ge:Good (B + 8) re.1:=by rw [he]; exact gb.block [c,0] (fun d hd => by simp at hd; rcases hd with rfl | rfl <;> first | exact hc | simp) (by simp)
 have lena:ra.1.f.blocks.length = s.f.blocks.length + 1:=by rw [ha,blockM_len,len1]
 have lenb:rb.1.f.blocks.length = s.f.blocks.length + 2:=by rw [hb,blockM_len,lena]
 have lene:re.1.f.blocks.length = s.f.blocks.length + 3:=by rw [he,blockM_len,lenb]
 have ia:ra.2 = s.f.blocks.length:=by rw [ha]; exact len1
 have ib:rb.2 = s.f.blocks.length + 1:=by rw [hb]; exact lena
 have ie:re.2 = s.f.blocks.length + 2:=by rw [he]; exact lenb
 have atA:blkAt re.1 s.f.blocks.length = ⟨[],[],[]⟩:=by
  rw [he,blockM_at _ _ _ (by omega),hb,blockM_at _ _ _ (by omega),ha,← len1,blockM_new]
  try rfl
 have atB:blkAt re.1 (s.f.blocks.length + 1) = ⟨[],[],[]⟩:=by
  rw [he,blockM_at _ _ _ (by omega),hb,← lena,blockM_new]
  try rfl
 have atO:∀ j,j < s.f.blocks.length → blkAt re.1 j = blkAt s1 j:=fun j hj => by
  rw [he,blockM_at _ _ _ (by omega),hb,blockM_at _ _ _ (by omega),ha,blockM_at _ _ _ (by omega)]
 have hTk:=takes_new rb.1 c (by omega)
 rw [← he,lenb] at hTk
 have curE:(blkAt re.1 s.cur) = addI x (blkAt s s.cur):=by rw [atO _ hcl,hat,if_pos rfl]
 have g2a:Good (B + 9) s2a:=by
  rw [h2a,ia,cur1]
  exact ge.edge s.cur s.f.blocks.length [] (by omega) (by omega) (by omega) (by rw [atA]; try rfl) (by rw [atA]; try rfl) (by rw [curE]; simp [addI,hE]) (by rw [curE]; simp [addI,hE])
 have at2a:∀ j,blkAt s2a j = if j = s.cur then addE ⟨(s.f.blocks.length:Nat),[]⟩ (blkAt re.1 j) else blkAt re.1 j:=by
  rw [h2a,ia,cur1]
  exact edgeM_at _ _ _ _ (by omega)
 have len2a:s2a.f.blocks.length = s.f.blocks.length + 3:=by rw [h2a,edgeM_len,lene]
 have g2:Good (B + 10) s2:=by
  rw [h2,ib,cur1]
  refine g2a.edge s.cur (s.f.blocks.length + 1) [] (by omega) (by omega) (by omega) ?_ ?_ ?_ ?_
  ·rw [at2a,if_neg (by omega),atB]; try rfl
  ·rw [at2a,if_neg (by omega),atB]; try rfl
  ·rw [at2a,if_pos rfl,curE]; simp [addI,addE,hE]
  ·rw [at2a,if_pos rfl,curE]; simp [addI,addE,hE]
 have at2:∀ j,blkAt s2 j = if j = s.cur then addE ⟨(s.f.blocks.length + 1:Nat),[]⟩ (blkAt s2a j) else blkAt s2a j:=by
  rw [h2,ib,cur1]
  exact edgeM_at _ _ _ _ (by omega)
 have len2:s2.f.blocks.length = s.f.blocks.length + 3:=by rw [h2,edgeM_len,len2a]
 have hT2:Takes s2 (s.f.blocks.length + 2) c ((rb.1.f.values.length + 0:Nat):Int) ((rb.1.f.values.length + 1:Nat):Int):=hTk.grow (by omega) (by rw [at2,if_neg (by omega),at2a,if_neg (by omega)]) ⟨[],by rw [h2,h2a]; simp [edgeM]⟩
 refine ⟨_,_,⟨g1,ga,gb,ge,ia,ib,ie,cur1,⟨by rw [he,hb,ha]; rfl,by rw [h2,h2a,he,hb,ha]; rfl⟩,g2a,g2,len2,by rw [at2,if_neg (by omega),at2a,if_neg (by omega),atA],by rw [at2,if_neg (by omega),at2a,if_neg (by omega),atB],?_,hT2,fun v hv => ?_,fun j hj hne => by rw [at2,if_neg hne,at2a,if_neg hne,atO j hj,hat,if_neg hne],?_,⟨x,?_⟩⟩⟩
 ·rw [at2,if_neg (by omega),at2a,if_neg (by omega),he,← lenb,blockM_new]
  try rfl
 ·have hk:=g1.ok.kn v hv
  have e2:s2.f.values = s1.f.values ++ [c,0]:=by rw [h2,h2a,he,hb,ha]; simp [edgeM,blockM]
  rw [e2]
  exact isValue_app hk
 ·obtain ⟨l,el,hl⟩:=L1.vals
  have e2:s2.f.values = s1.f.values ++ [c,0]:=by rw [h2,h2a,he,hb,ha]; simp [edgeM,blockM]
  exact ⟨l ++ [c,0],by rw [e2,el,List.append_assoc],by simp; omega⟩
 ·rw [at2,if_pos rfl,at2a,if_pos rfl,curE]
  simp [addI,addE,hE]
theorem fork_good {B:Nat} {s:Ms} (p:Pc) (h:Good B s) (hE:(blkAt s s.cur).edges = []):Good (B + 26) (forkM s p)∧(blkAt (forkM s p) (forkM s p).cur).edges = []∧(forkM s p).f.blocks.length = s.f.blocks.length + 3:=by
 rw [forkM_eq]
 simp only
 have hc:=pick2 p.c
 generalize pickedOf p.c 2 = c at *
 obtain ⟨P0,P1,F⟩:=fork_steps p h hE c hc _ _ _ _ _ _ rfl rfl rfl rfl rfl rfl
 generalize edgeM (edgeM (blockM (blockM (blockM (layM s p) []).1 []).1 [c,0]).1 (layM s p).cur (blockM (layM s p) []).2 []) (layM s p).cur (blockM (blockM (layM s p) []).1 []).2 [] = s2 at *
 have ia:=F.ia
 have ib:=F.ib
 have ie:=F.ie
 have W1:=way_good (k:=s.f.blocks.length) (e:=s.f.blocks.length + 2) (kn:=(layM s p).known) p true F.g2 (by have:=F.len; omega) (by rw [F.ea]) F.takes (by omega) F.kval (by have:=F.g1.sm.1; omega) hc
 rw [ia,ib,ie]
 generalize hw1:wayM c (layM s p).known (s.f.blocks.length + 2) s2 p s.f.blocks.length true = w1 at *
 have W2:=way_good (k:=s.f.blocks.length + 1) (e:=s.f.blocks.length + 2) (kn:=(layM s p).known) w1.2 (decide (pickedOf p.flags 2 = 1)) W1.good (by have:=W1.len; have:=F.len; omega) (by rw [W1.other _ (by omega),F.eb]) W1.takes (by omega) (fun v hv => by obtain ⟨l,e,_⟩:=W1.vals; rw [e]; exact isValue_app (F.kval v hv)) (by have:=F.g1.sm.1; omega) hc
 generalize wayM c (layM s p).known (s.f.blocks.length + 2) w1.1 w1.2 (s.f.blocks.length + 1) (decide (pickedOf p.flags 2 = 1)) = w2 at *
 have hlen:w2.1.f.blocks.length = s.f.blocks.length + 3:=by rw [W2.len,W1.len,F.len]
 have hb2:blkAt w2.1 (s.f.blocks.length + 2) = ⟨[P0,P1],[],[]⟩:=by rw [W2.other _ (by omega),W1.other _ (by omega),F.ee]
 have hb2':w2.1.f.blocks.getD (s.f.blocks.length + 2) ⟨[],[],[]⟩ = ⟨[P0,P1],[],[]⟩:=hb2
 rw [hb2']
 refine ⟨?_,?_,hlen⟩
 ·have:=(W2.good.mono (B':=B + 26) (by omega)).turn (s.f.blocks.length + 2) ((layM s p).known ++ [P0,P1]) (by omega) (fun v hv => ?_) (by have:=F.g1.sm.1; simp; omega)
  ·exact this
  ·rcases List.mem_append.1 hv with hv | hv
   ·obtain ⟨l,e,_⟩:=W1.vals
    obtain ⟨l',e',_⟩:=W2.vals
    rw [e',e]
    exact isValue_app (isValue_app (F.kval v hv))
   ·have T:=W2.takes
    simp at hv
    rcases hv with rfl | rfl
    ·exact T.v0
    ·exact T.v1
 ·show (blkAt w2.1 (s.f.blocks.length + 2)).edges = []
  rw [hb2]
theorem fork_num {B:Nat} {s:Ms} (p:Pc) (h:Good B s) (hE:(blkAt s s.cur).edges = []):(∃ l,(forkM s p).f.values = s.f.values ++ l∧l.length ≤ 16)∧∀ M,3 ≤ M → (∀ j,(blkAt s j).instrs.length ≤ M) → (blkAt s s.cur).instrs.length + 1 ≤ M → ∀ j,(blkAt (forkM s p) j).instrs.length ≤ M:=by
 rw [forkM_eq]
 simp only
 have hc:=pick2 p.c
 generalize pickedOf p.c 2 = c at *
 obtain ⟨P0,P1,F⟩:=fork_steps p h hE c hc _ _ _ _ _ _ rfl rfl rfl rfl rfl rfl
 generalize edgeM (edgeM (blockM (blockM (blockM (layM s p) []).1 []).1 [c,0]).1 (layM s p).cur (blockM (layM s p) []).2 []) (layM s p).cur (blockM (blockM (layM s p) []).1 []).2 [] = s2 at *
 have ia:=F.ia
 have ib:=F.ib
 have ie:=F.ie
 have W1:=way_good (k:=s.f.blocks.length) (e:=s.f.blocks.length + 2) (kn:=(layM s p).known) p true F.g2 (by have:=F.len; omega) (by rw [F.ea]) F.takes (by omega) F.kval (by have:=F.g1.sm.1; omega) hc
 rw [ia,ib,ie]
 generalize hw1:wayM c (layM s p).known (s.f.blocks.length + 2) s2 p s.f.blocks.length true = w1 at *
 have W2:=way_good (k:=s.f.blocks.length + 1) (e:=s.f.blocks.length + 2) (kn:=(layM s p).known) w1.2 (decide (pickedOf p.flags 2 = 1)) W1.good (by have:=W1.len; have:=F.len; omega) (by rw [W1.other _ (by omega),F.eb]) W1.takes (by omega) (fun v hv => by obtain ⟨l,e,_⟩:=W1.vals; rw [e]; exact isValue_app (F.kval v hv)) (by have:=F.g1.sm.1; omega) hc
 generalize wayM c (layM s p).known (s.f.blocks.length + 2) w1.1 w1.2 (s.f.blocks.length + 1) (decide (pickedOf p.flags 2 = 1)) = w2 at *
 obtain ⟨l0,e0,n0⟩:=F.vals
 obtain ⟨l1,e1,n1⟩:=W1.vals
 obtain ⟨l2,e2,n2⟩:=W2.vals
 refine ⟨⟨l0 ++ (l1 ++ l2),by show w2.1.f.values = _; rw [e2,e1,e0]; simp,by simp; omega⟩,fun M hM hall hcur j => ?_⟩
 show (blkAt w2.1 j).instrs.length ≤ M
 by_cases hjb:j = s.f.blocks.length + 1
 ·obtain ⟨v,z,xs,hx,e⟩:=W2.own
  rw [hjb,e,W1.other _ (by omega),F.eb]
  simpa using (by omega:xs.length ≤ M)
 ·rw [W2.other j hjb]
  by_cases hja:j = s.f.blocks.length
  ·obtain ⟨v,z,xs,hx,e⟩:=W1.own
   rw [hja,e,F.ea]
   simpa using (by omega:xs.length ≤ M)
  ·rw [W1.other j hja]
   by_cases hjc:j = s.cur
   ·obtain ⟨x,e⟩:=F.own
    rw [hjc,e]
    simpa using hcur
   ·by_cases hj:j < s.f.blocks.length
    ·rw [F.other j hj hjc]
     exact hall j
    ·by_cases hj2:j = s.f.blocks.length + 2
     ·rw [hj2,F.ee]
      simp
     ·have:s2.f.blocks.length ≤ j:=by have:=F.len; omega
      unfold blkAt
      rw [List.getD_eq_getElem?_getD,List.getElem?_eq_none this]
      simp
structure RingS (B:Nat) (s:Ms) (c:Int) (p:Pc) (rv ru:Ms × Int) (rh:Ms × Nat) (s1 s2 s3:Ms) (rb ro:Ms × Nat) (s4a s4:Ms) (P0 P1:Int):Prop where
 gv:Good (B + 2) rv.1
 gu:Good (B + 4) ru.1
 gh:Good (B + 6) rh.1
 ih:rh.2 = s.f.blocks.length
 curh:rh.1.cur = s.cur
 g1:Good (B + 7) s1
 par:(blkAt s1 s.f.blocks.length).params = [P0,P1]
 g2:Good (B + 8) s2
 g3:Good (B + 10) s3
 gb:Good (B + 12) rb.1
 go:Good (B + 14) ro.1
 ib:rb.2 = s.f.blocks.length + 1
 io:ro.2 = s.f.blocks.length + 2
 g4a:Good (B + 15) s4a
 g4:Good (B + 16) s4
 kn:ro.1.known = s3.known∧s4.known = s3.known
 len:s4.f.blocks.length = s.f.blocks.length + 3
 eb:blkAt s4 (s.f.blocks.length + 1) = ⟨[],[],[]⟩
 eo:blkAt s4 (s.f.blocks.length + 2) = ⟨[],[],[]⟩
 takes:Takes s4 s.f.blocks.length c P0 P1
 kval:∀ v ∈ s3.known,isValueB s4.f.values.length v = true
 other:∀ j,j < s.f.blocks.length → j ≠ s.cur → blkAt s4 j = blkAt s j
 own:∃ (xs:List Ins) (v u:Int),xs.length ≤ 2∧blkAt s4 s.cur = ⟨(blkAt s s.cur).params,(blkAt s s.cur).instrs ++ xs,[⟨(s.f.blocks.length:Nat),[v,u]⟩]⟩
 vals:∃ l,s4.f.values = s.f.values ++ l∧l.length ≤ 8
 head:∃ x:Ins,blkAt s4 s.f.blocks.length = ⟨[P0,P1],[x],[⟨(s.f.blocks.length + 1:Nat),[]⟩,⟨(s.f.blocks.length + 2:Nat),[]⟩]⟩
set_option maxHeartbeats 4000000 in
theorem ring_steps {B:Nat} {s:Ms} (p p1:Pc) (h:Good B s) (hE:(blkAt s s.cur).edges = []) (c:Int) (hc:c = 0 ∨ c = 1) (rv ru:Ms × Int) (rh:Ms × Nat) (s1 s2 s3:Ms) (rb ro:Ms × Nat) (s4a s4:Ms) (hrv:rv = newestM s c p) (hru:ru = newestM rv.1 0 p) (hrh:rh = blockM ru.1 [c,0]) (h1:s1 = edgeM rh.1 rh.1.cur rh.2 [rv.2,ru.2]) (h2:s2 = { s1 with cur:=rh.2,known:=s1.known ++ (blkAt s1 rh.2).params }) (h3:s3 = layM s2 p1) (hb:rb = blockM s3 []) (ho:ro = blockM rb.1 []) (h4a:s4a = edgeM ro.1 rh.2 rb.2 []) (h4:s4 = edgeM s4a rh.2 ro.2 []) :
  ∃ P0 P1,RingS B s c p rv ru rh s1 s2 s3 rb ro s4a s4 P0 P1:=by
 have hcl:=h.ok.cur
 obtain ⟨gv,gu,lz,vv,vz,cv,cz,_,_⟩:=pair2 h c p hc
 rw [← hrv] at gv gu lz vv vz cv cz
 rw [← hru] at gu lz vv vz cv cz
 have lenu:ru.1.f.blocks.length = s.f.blocks.length:=lz.len
 have curu:ru.1.cur = s.cur:=lz.cur
 obtain ⟨xs,hxs,hat⟩:=lz.at hcl
 have gh:Good (B + 6) rh.1:=by rw [hrh]; exact gu.block [c,0] (fun d hd => by simp at hd; rcases hd with rfl | rfl <;> first | exact hc | simp) (by simp)
 have ih:rh.2 = s.f.blocks.length:=by rw [hrh]; exact lenu
 have lenh:rh.1.f.blocks.length = s.f.blocks.length + 1:=by rw [hrh,blockM_len,lenu]
 have curh:rh.1.cur = s.cur:=by rw [hrh]; exact curu
 have hTk:=takes_new ru.1 c (by omega)
 rw [← hrh,lenu] at hTk
 have valh:rh.1.f.values = ru.1.f.values ++ [c,0]:=by rw [hrh]; rfl
 have atO:∀ j,j < s.f.blocks.length → blkAt rh.1 j = blkAt ru.1 j:=fun j hj => by rw [hrh,blockM_at _ _ _ (by omega)]
 have curE:blkAt rh.1 s.cur = addXs xs (blkAt s s.cur):=by rw [atO _ hcl,hat,if_pos rfl]
 have hargs:=hTk.args (v:=rv.2) (z:=ru.2) (by rw [valh]; exact isValue_app vv) (by rw [valh]; exact isValue_app vz) (by rw [valh,classAt_app _ vv]; exact cv) (by rw [valh,classAt_app _ vz]; exact cz)
 have g1:Good (B + 7) s1:=by
  rw [h1,ih,curh]
  exact gh.edge s.cur s.f.blocks.length [rv.2,ru.2] (by omega) (by omega) (by omega) hargs.1 hargs.2 (by rw [curE]; simp [addXs,hE]) (by rw [curE]; simp [addXs,hE])
 have at1:∀ j,blkAt s1 j = if j = s.cur then addE ⟨(s.f.blocks.length:Nat),[rv.2,ru.2]⟩ (blkAt rh.1 j) else blkAt rh.1 j:=by
  rw [h1,ih,curh]
  exact edgeM_at _ _ _ _ (by omega)
 have len1:s1.f.blocks.length = s.f.blocks.length + 1:=by rw [h1,edgeM_len,lenh]
 have hT1:Takes s1 s.f.blocks.length c ((ru.1.f.values.length + 0:Nat):Int) ((ru.1.f.values.length + 1:Nat):Int):=hTk.grow (by omega) (by rw [at1,if_neg (by omega)]) ⟨[],by rw [h1]; simp [edgeM]⟩
 generalize hP0:((ru.1.f.values.length + 0:Nat):Int) = P0 at *
 generalize hP1:((ru.1.f.values.length + 1:Nat):Int) = P1 at *
 have nb1:blkAt s1 s.f.blocks.length = ⟨[P0,P1],[],[]⟩:=by
  rw [at1,if_neg (by omega),hrh,← lenu,blockM_new,← hP0,← hP1]
  rfl
 have e2:s2 = { s1 with cur:=s.f.blocks.length,known:=s1.known ++ [P0,P1] }:=by rw [h2,ih,hT1.par]
 have kn1:s1.known.length ≤ B + 4:=by
  have:s1.known = ru.1.known:=by rw [h1,hrh]; rfl
  rw [this]
  exact gu.sm.1
 have g2:Good (B + 8) s2:=by
  rw [e2]
  refine (g1.mono (by omega)).turn _ _ (by omega) (fun v hv => ?_) (by simp; omega)
  rcases List.mem_append.1 hv with hv | hv
  ·exact g1.ok.kn v hv
  ·simp at hv
   rcases hv with rfl | rfl
   ·exact hT1.v0
   ·exact hT1.v1
 have cur2:s2.cur = s.f.blocks.length:=by rw [e2]
 have f2:s2.f = s1.f:=by rw [e2]
 have at2':∀ j,blkAt s2 j = blkAt s1 j:=fun j => by unfold blkAt; rw [f2]
 have L3:=lay_lays s2 p1 g2.ok
 obtain ⟨x,hat3⟩:=lay_at s2 p1 g2.ok
 rw [← h3] at L3 hat3
 have g3:Good (B + 10) s3:=by rw [h3]; exact g2.lay p1
 have len3:s3.f.blocks.length = s.f.blocks.length + 1:=by rw [L3.len,f2,len1]
 have gb:Good (B + 12) rb.1:=by rw [hb]; exact g3.block [] (by simp) (by simp)
 have go:Good (B + 14) ro.1:=by rw [ho]; exact gb.block [] (by simp) (by simp)
 have lenb:rb.1.f.blocks.length = s.f.blocks.length + 2:=by rw [hb,blockM_len,len3]
 have leno:ro.1.f.blocks.length = s.f.blocks.length + 3:=by rw [ho,blockM_len,lenb]
 have ib:rb.2 = s.f.blocks.length + 1:=by rw [hb]; exact len3
 have io:ro.2 = s.f.blocks.length + 2:=by rw [ho]; exact lenb
 have atB:blkAt ro.1 (s.f.blocks.length + 1) = ⟨[],[],[]⟩:=by
  rw [ho,blockM_at _ _ _ (by omega),hb,← len3,blockM_new]
  try rfl
 have atP:blkAt ro.1 (s.f.blocks.length + 2) = ⟨[],[],[]⟩:=by
  rw [ho,← lenb,blockM_new]
  try rfl
 have atK:∀ j,j < s.f.blocks.length + 1 → blkAt ro.1 j = blkAt s3 j:=fun j hj => by rw [ho,blockM_at _ _ _ (by omega),hb,blockM_at _ _ _ (by omega)]
 have hdE:blkAt ro.1 s.f.blocks.length = ⟨[P0,P1],[x],[]⟩:=by
  rw [atK _ (by omega),hat3,cur2,if_pos rfl,at2',nb1]
  rfl
 have g4a:Good (B + 15) s4a:=by
  rw [h4a,ih,ib]
  exact go.edge s.f.blocks.length (s.f.blocks.length + 1) [] (by omega) (by omega) (by omega) (by rw [atB]; try rfl) (by rw [atB]; try rfl) (by rw [hdE]; simp) (by rw [hdE]; simp)
 have at4a:∀ j,blkAt s4a j = if j = s.f.blocks.length then addE ⟨(s.f.blocks.length + 1:Nat),[]⟩ (blkAt ro.1 j) else blkAt ro.1 j:=by
  rw [h4a,ih,ib]
  exact edgeM_at _ _ _ _ (by omega)
 have len4a:s4a.f.blocks.length = s.f.blocks.length + 3:=by rw [h4a,edgeM_len,leno]
 have g4:Good (B + 16) s4:=by
  rw [h4,ih,io]
  refine g4a.edge s.f.blocks.length (s.f.blocks.length + 2) [] (by omega) (by omega) (by omega) ?_ ?_ ?_ ?_
  ·rw [at4a,if_neg (by omega),atP]; try rfl
  ·rw [at4a,if_neg (by omega),atP]; try rfl
  ·rw [at4a,if_pos rfl,hdE]; simp [addE]
  ·rw [at4a,if_pos rfl,hdE]; simp [addE]
 have at4:∀ j,blkAt s4 j = if j = s.f.blocks.length then addE ⟨(s.f.blocks.length + 2:Nat),[]⟩ (blkAt s4a j) else blkAt s4a j:=by
  rw [h4,ih,io]
  exact edgeM_at _ _ _ _ (by omega)
 have len4:s4.f.blocks.length = s.f.blocks.length + 3:=by rw [h4,edgeM_len,len4a]
 obtain ⟨l3,el3,_⟩:=L3.vals
 have val4:s4.f.values = s3.f.values:=by rw [h4,h4a,ho,hb]; simp [edgeM,blockM]
 have hT4:Takes s4 s.f.blocks.length c P0 P1:=hT1.grow (by omega) (by rw [at4,if_pos rfl,at4a,if_pos rfl,hdE,nb1]; rfl) ⟨l3,by rw [val4,el3,f2]⟩
 refine ⟨P0,P1,⟨gv,gu,gh,ih,curh,g1,hT1.par,g2,g3,gb,go,ib,io,g4a,g4,⟨by rw [ho,hb]; rfl,by rw [h4,h4a,ho,hb]; rfl⟩,len4,by rw [at4,if_neg (by omega),at4a,if_neg (by omega),atB],by rw [at4,if_neg (by omega),at4a,if_neg (by omega),atP],hT4,fun v hv => by rw [val4]; exact g3.ok.kn v hv,fun j hj hne => ?_,⟨xs,rv.2,ru.2,by omega,?_⟩,?_,⟨x,?_⟩⟩⟩
 ·rw [at4,if_neg (by omega),at4a,if_neg (by omega),atK _ (by omega),hat3,cur2,if_neg (by omega),at2',at1,if_neg hne,atO _ hj,hat,if_neg hne]
 ·rw [at4,if_neg (by omega),at4a,if_neg (by omega),atK _ (by omega),hat3,cur2,if_neg (by omega),at2',at1,if_pos rfl,curE]
  simp [addXs,addE,hE]
 ·obtain ⟨lu,elu,hlu⟩:=lz.vals
  have hl3:l3.length ≤ 2:=by
   obtain ⟨l3',el3',h3'⟩:=L3.vals
   rw [el3] at el3'
   have:=List.append_cancel_left el3'
   rw [this]
   exact h3'
  exact ⟨lu ++ ([c,0] ++ l3),by rw [val4,el3,f2,h1]; show rh.1.f.values ++ l3 = _; rw [valh,elu]; simp,by simp; omega⟩
 ·rw [at4,if_pos rfl,at4a,if_pos rfl,hdE]
  simp [addE]
theorem ringM_eq (s:Ms) (p:Pc):ringM s p =
  (let c:=pickedOf p.c 2
   let rv:=newestM s c p
   let ru:=newestM rv.1 0 p
   let rh:=blockM ru.1 [c,0]
   let s1:=edgeM rh.1 rh.1.cur rh.2 [rv.2,ru.2]
   let s2:Ms:={ s1 with cur:=rh.2,known:=s1.known ++ (blkAt s1 rh.2).params }
   let p1:Pc:={ p with flags:=if p.flags % 2 = 0 then p.flags + 1 else p.flags }
   let s3:=layM s2 p1
   let rb:=blockM s3 []
   let ro:=blockM rb.1 []
   let s4:=edgeM (edgeM ro.1 rh.2 rb.2 []) rh.2 ro.2 []
   let p2:Pc:={ p1 with a:=up p1.a,op:=up p1.op }
   let t:=layM { s4 with cur:=rb.2 } p2
   { ({ edgeM (newestM (newestM t c p2).1 0 p2).1 rb.2 rh.2 [(newestM t c p2).2,(newestM (newestM t c p2).1 0 p2).2] with known:=s3.known }:Ms) with cur:=ro.2 }):=rfl
set_option maxHeartbeats 1000000 in
theorem ring_good {B:Nat} {s:Ms} (p:Pc) (h:Good B s) (hE:(blkAt s s.cur).edges = []):Good (B + 26) (ringM s p)∧(blkAt (ringM s p) (ringM s p).cur).edges = []∧(ringM s p).f.blocks.length = s.f.blocks.length + 3:=by
 rw [ringM_eq]
 extract_lets c rv ru rh s1 s2 p1 s3 rb ro s4 p2 t
 have hc:c = 0 ∨ c = 1:=pick2 p.c
 obtain ⟨P0,P1,F⟩:=ring_steps p p1 h hE c hc rv ru rh s1 s2 s3 rb ro _ s4 rfl rfl rfl rfl rfl rfl rfl rfl rfl rfl
 have ih:=F.ih
 have ib:=F.ib
 have io:=F.io
 have hlen:=F.len
 have hk3:=F.g3.sm.1
 have h0:Good (B + 16) { s4 with cur:=rb.2 }:=F.g4.turn rb.2 s4.known (by omega) F.g4.ok.kn F.g4.sm.1
 have hL:Lays { s4 with cur:=rb.2 } t 1:=lay_lays _ _ h0.ok
 have hT:Takes s4 rh.2 c P0 P1:=by rw [ih]; exact F.takes
 have W:=give_good p2 h0 hL (by omega) (by rw [ib,F.eb]) hT (by omega) F.kval (by omega) hc
 have key:∀ R:Ms,WayS s4 R rb.2 rh.2 c P0 P1 s3.known (B + 16) → Good (B + 26) { R with cur:=ro.2 }∧(blkAt { R with cur:=ro.2 } ro.2).edges = []∧({ R with cur:=ro.2 }:Ms).f.blocks.length = s.f.blocks.length + 3:=fun R W => by
  have hRl:R.f.blocks.length = s.f.blocks.length + 3:=by rw [W.len,hlen]
  refine ⟨?_,?_,hRl⟩
  ·have:=(W.good.mono (B':=B + 26) (by omega)).turn ro.2 R.known (by omega) W.good.ok.kn (by have:=W.good.sm.1; omega)
   exact this
  ·show (blkAt R ro.2).edges = []
   rw [W.other _ (by omega),io,F.eo]
 exact key _ W
set_option maxHeartbeats 1000000 in
theorem ring_num {B:Nat} {s:Ms} (p:Pc) (h:Good B s) (hE:(blkAt s s.cur).edges = []):(∃ l,(ringM s p).f.values = s.f.values ++ l∧l.length ≤ 14)∧∀ M,3 ≤ M → (∀ j,(blkAt s j).instrs.length ≤ M) → (blkAt s s.cur).instrs.length + 2 ≤ M → ∀ j,(blkAt (ringM s p) j).instrs.length ≤ M:=by
 rw [ringM_eq]
 extract_lets c rv ru rh s1 s2 p1 s3 rb ro s4 p2 t
 have hc:c = 0 ∨ c = 1:=pick2 p.c
 obtain ⟨P0,P1,F⟩:=ring_steps p p1 h hE c hc rv ru rh s1 s2 s3 rb ro _ s4 rfl rfl rfl rfl rfl rfl rfl rfl rfl rfl
 have ih:=F.ih
 have ib:=F.ib
 have io:=F.io
 have hlen:=F.len
 have hk3:=F.g3.sm.1
 have h0:Good (B + 16) { s4 with cur:=rb.2 }:=F.g4.turn rb.2 s4.known (by omega) F.g4.ok.kn F.g4.sm.1
 have hL:Lays { s4 with cur:=rb.2 } t 1:=lay_lays _ _ h0.ok
 have hT:Takes s4 rh.2 c P0 P1:=by rw [ih]; exact F.takes
 have W:=give_good p2 h0 hL (by omega) (by rw [ib,F.eb]) hT (by omega) F.kval (by omega) hc
 obtain ⟨l0,e0,n0⟩:=F.vals
 have key:∀ R:Ms,WayS s4 R rb.2 rh.2 c P0 P1 s3.known (B + 16) → (∃ l,({ R with cur:=ro.2 }:Ms).f.values = s.f.values ++ l∧l.length ≤ 14)∧∀ M,3 ≤ M → (∀ j,(blkAt s j).instrs.length ≤ M) → (blkAt s s.cur).instrs.length + 2 ≤ M → ∀ j,(blkAt { R with cur:=ro.2 } j).instrs.length ≤ M:=fun R W => by
  obtain ⟨l1,e1,n1⟩:=W.vals
  refine ⟨⟨l0 ++ l1,by show R.f.values = _; rw [e1,e0]; simp,by simp; omega⟩,fun M hM hall hcur j => ?_⟩
  show (blkAt R j).instrs.length ≤ M
  by_cases hjb:j = rb.2
  ·obtain ⟨v,z,xs,hx,e⟩:=W.own
   rw [hjb,e,ib,F.eb]
   simpa using (by omega:xs.length ≤ M)
  ·rw [W.other j hjb]
   by_cases hjc:j = s.cur
   ·obtain ⟨xs,v,u,hx,e⟩:=F.own
    rw [hjc,e]
    simpa using (by omega:(blkAt s s.cur).instrs.length + xs.length ≤ M)
   ·by_cases hj:j < s.f.blocks.length
    ·rw [F.other j hj hjc]
     exact hall j
    ·by_cases hjh:j = s.f.blocks.length
     ·obtain ⟨x,e⟩:=F.head
      rw [hjh,e]
      simp
      omega
     ·by_cases hj2:j = s.f.blocks.length + 2
      ·rw [hj2,F.eo]
       simp
      ·have:s4.f.blocks.length ≤ j:=by omega
       unfold blkAt
       rw [List.getD_eq_getElem?_getD,List.getElem?_eq_none this]
       simp
 exact key _ W
structure Inv (B:Nat) (s:Ms):Prop where
 good:Good B s
 bare:(blkAt s s.cur).edges = []
 vals:s.f.values.length ≤ 125
 blks:s.f.blocks.length ≤ 16
 inss:∀ j,(blkAt s j).instrs.length ≤ 21
theorem Inv.start (m0 m1:Int) (h0:2 ≤ m0∧m0 ≤ 10) (h1:2 ≤ m1∧m1 ≤ 10):Inv 2 (blockM ⟨m0,m1,⟨[],[]⟩,0,[]⟩ []).1:=by
 have hb:∀ j,blkAt (blockM ⟨m0,m1,⟨[],[]⟩,0,[]⟩ []).1 j = ⟨[],[],[]⟩:=fun j => by
  unfold blkAt blockM
  match j with
  | 0 => rfl
  | j + 1 => rfl
 refine ⟨⟨⟨h0,h1,by simp [blockM],by simp [blockM],by simp [blockM],by simp [blockM],by simp [blockM,allM,makersOf,insM],by simp [blockM],by simp [blockM],by simp [blockM],fun b hb => ?_⟩,by simp [Sm,blockM]⟩,by rw [hb],by simp [blockM],by simp [blockM],fun j => by rw [hb]; simp⟩
 simp [blockM] at hb
 rw [← hb]
theorem lay_inv {B M V:Nat} {s:Ms} (p:Pc) (h:Good B s) (hE:(blkAt s s.cur).edges = []) (hv:s.f.values.length ≤ V) (hi:∀ j,(blkAt s j).instrs.length ≤ M) (hc:(blkAt s s.cur).instrs.length + 1 ≤ M):Good (B + 2) (layM s p)∧(blkAt (layM s p) (layM s p).cur).edges = []∧(layM s p).f.values.length ≤ V + 2∧(layM s p).f.blocks.length = s.f.blocks.length∧∀ j,(blkAt (layM s p) j).instrs.length ≤ M:=by
 have L:=lay_lays s p h.ok
 obtain ⟨x,hat⟩:=lay_at s p h.ok
 refine ⟨h.lay p,by rw [L.cur,(L.edges h.ok.cur s.cur).1]; exact hE,?_,L.len,fun j => ?_⟩
 ·obtain ⟨l,e,hl⟩:=L.vals
  rw [e,List.length_append]
  omega
 ·rw [hat j]
  split
  ·rename_i e
   subst e
   simpa [addI] using hc
  ·exact hi j
theorem Inv.step {B:Nat} {s:Ms} (h:Inv B s) (p:Pc):Inv (B + 26) (stepM s p):=by
 have hcI:curI s = (blkAt s s.cur).instrs.length:=rfl
 unfold stepM
 simp only
 split
 ·rename_i hr
  obtain ⟨_,r1,r2,r3⟩:=hr
  have g:=fork_good p h.good h.bare
  obtain ⟨⟨l,e,hl⟩,hn⟩:=fork_num p h.good h.bare
  exact ⟨g.1,g.2.1,by rw [e,List.length_append]; omega,by rw [g.2.2]; exact r1,hn 21 (by omega) h.inss (by omega)⟩
 ·split
  ·rename_i hr
   obtain ⟨_,r1,r2,r3⟩:=hr
   have g:=ring_good p h.good h.bare
   obtain ⟨⟨l,e,hl⟩,hn⟩:=ring_num p h.good h.bare
   exact ⟨g.1,g.2.1,by rw [e,List.length_append]; omega,by rw [g.2.2]; exact r1,hn 21 (by omega) h.inss (by omega)⟩
  ·split
   ·rename_i hr
    have g:=lay_inv (V:=119) p h.good h.bare (by omega) h.inss (by omega)
    exact ⟨g.1.mono (by omega),g.2.1,by omega,by rw [g.2.2.2.1]; exact h.blks,g.2.2.2.2⟩
   ·exact ⟨h.good.mono (by omega),h.bare,h.vals,h.blks,h.inss⟩
theorem Inv.fold:∀ (l:List Pc) {B:Nat} {s:Ms},Inv B s → Inv (B + 26 * l.length) (l.foldl stepM s)
 | [],_,_,h => h
 | p :: r,B,s,h => by
  have:=Inv.fold r (h.step p)
  rw [List.foldl_cons,List.length_cons]
  rw [show B + 26 * (r.length + 1) = B + 26 + 26 * r.length by omega]
  exact this
theorem marks_ok (n:Nat):∀ (l:List Int) (md:Nat → Bool),l.Nodup → (∀ v ∈ l,isValueB n v = true∧md v.toNat = false) → marks n md l = 0
 | [],_,_,_ => rfl
 | v :: r,md,hn,h => by
  have hv:=h v List.mem_cons_self
  have hm:markE n md v = 0:=by unfold markE; rw [if_neg (by simp [hv.1]),if_neg (by simp [hv.2])]
  simp only [marks]
  rw [if_pos hm]
  have hn':=List.nodup_cons.1 hn
  refine marks_ok n r _ hn'.2 fun u hu => ⟨(h u (List.mem_cons_of_mem _ hu)).1,?_⟩
  unfold markS
  rw [if_neg ?_]
  ·exact (h u (List.mem_cons_of_mem _ hu)).2
  ·intro e
   have h1:=(h u (List.mem_cons_of_mem _ hu)).1
   have h2:=hv.1
   simp only [isValueB,decide_eq_true_eq] at h1 h2
   have:u = v:=by omega
   exact hn'.1 (by rw [← this]; exact hu)
theorem insM_len:∀ (l:List Ins),(∀ x ∈ l,1 ≤ (oprM x.operands).length) → l.length ≤ (insM l).length
 | [],_ => Nat.zero_le _
 | x :: r,h => by
  have:=insM_len r fun y hy => h y (List.mem_cons_of_mem _ hy)
  have:=h x List.mem_cons_self
  rw [insM_cons,List.length_append,List.length_cons]
  omega
theorem sizesGo_ok:∀ (bs:List Blk) (a:Nat),a + (allM bs).length ≤ 160 → (∀ b ∈ bs,blkFits b = true) → (∀ b ∈ bs,∀ x ∈ b.instrs,1 ≤ (oprM x.operands).length) → sizesGo a bs = true
 | [],_,_,_,_ => rfl
 | b :: r,a,ha,hf,h1 => by
  have hb:b.instrs.length ≤ (makersOf b).length:=by
   have:=insM_len b.instrs (h1 b List.mem_cons_self)
   unfold makersOf
   rw [List.length_append]
   omega
  rw [allM_cons,List.length_append] at ha
  simp only [sizesGo]
  rw [if_neg (by omega),if_pos (hf b List.mem_cons_self)]
  exact sizesGo_ok r _ (by omega) (fun c hc => hf c (List.mem_cons_of_mem _ hc)) (fun c hc => h1 c (List.mem_cons_of_mem _ hc))
theorem shape_ok {B:Nat} {s:Ms} (h:Good B s) (hv:s.f.values.length ≤ 160) (hb:s.f.blocks.length ≤ 16) (hi:∀ j,(blkAt s j).instrs.length ≤ 40):shapeErr s.f s.m0 s.m1 = 0:=by
 have ok:=h.ok
 have hpos:0 < s.f.blocks.length:=by have:=ok.cur; omega
 have hall:(allM s.f.blocks).length = s.f.values.length:=by rw [ok.made.length_eq]; simp
 have hin:∀ b ∈ s.f.blocks,b.instrs.length ≤ 40:=fun b hm => by
  obtain ⟨j,hj,rfl⟩:=List.getElem_of_mem hm
  have:=hi j
  rw [blkAt_eq hj] at this
  exact this
 have hm:machErr s.m0 s.m1 = 0:=by unfold machErr; rw [if_pos ⟨ok.m0.1,ok.m0.2,ok.m1.1,ok.m1.2⟩]
 have hsz:sizesB s.f = true:=by
  unfold sizesB
  rw [if_neg (by omega)]
  refine sizesGo_ok _ 0 (by omega) (fun b hm => ?_) (fun b hm x hx => (ok.ins b hm x hx).2.2.2)
  unfold blkFits
  simp only [Bool.and_eq_true,decide_eq_true_eq,List.all_eq_true]
  refine ⟨⟨by have:=ok.par b hm; omega,hin b hm,by have:=(ok.two b hm).1; omega⟩,fun x hx => ?_⟩
  have:=ok.ins b hm x hx
  unfold insFits
  simp only [decide_eq_true_eq]
  omega
 have hcl:s.f.values.all isClassB = true:=by
  rw [List.all_eq_true]
  intro c hc
  unfold isClassB
  have:=ok.cls c hc
  simp only [decide_eq_true_eq]
  omega
 have hfp:firstParams s.f = 0:=by
  rw [firstParams_eq _ hpos,ok.ent _ (List.getElem?_eq_getElem hpos)]
  rfl
 have hbl:firstE (blockErr s.f.values s.f.blocks s.m0 s.m1) s.f.blocks = 0:=by
  refine firstE_all _ _ fun b hm => ?_
  unfold blockErr
  have h1:firstE (instrErr s.f.values s.m0 s.m1) b.instrs = 0:=firstE_all _ _ fun x hx => (ok.ins b hm x hx).1
  rw [h1,if_neg (by simp),if_neg (by have:=(ok.two b hm).2; omega)]
  exact firstE_all _ _ fun e he => ok.edg b hm e he
 have hnod:(allM s.f.blocks).Nodup:=by
  rw [ok.made.nodup_iff]
  exact List.Pairwise.map _ (fun a b h e => h (by omega)) List.nodup_range
 have hmk:marks s.f.values.length (fun _ => false) (allM s.f.blocks) = 0:=marks_ok _ _ _ hnod fun v hm => by
  rw [ok.made.mem_iff] at hm
  obtain ⟨j,hj,rfl⟩:=List.mem_map.1 hm
  have:=List.mem_range.1 hj
  refine ⟨?_,rfl⟩
  simp only [isValueB,decide_eq_true_eq]
  omega
 unfold shapeErr
 rw [if_neg (by simp [hm]),if_neg (by simp [hsz]),if_neg (by simp [hcl]),if_neg (by omega),if_neg (by simp [hbl])]
 unfold madeErr
 rw [if_pos hmk,if_neg (by omega)]
def endM (m0 m1:Int) (l:List Pc):Ms:=layM ((l.take 24).foldl stepM (blockM ⟨m0,m1,⟨[],[]⟩,0,[]⟩ []).1) ⟨0,0,1,0,0,0,3⟩
theorem masonM_eq (m0 m1:Int) (l:List Pc):masonM m0 m1 l = (endM m0 m1 l).f:=rfl
theorem end_good (m0 m1:Int) (h0:2 ≤ m0∧m0 ≤ 10) (h1:2 ≤ m1∧m1 ≤ 10) (l:List Pc):Good 628 (endM m0 m1 l)∧(blkAt (endM m0 m1 l) (endM m0 m1 l).cur).edges = []∧(endM m0 m1 l).f.values.length ≤ 127∧(endM m0 m1 l).f.blocks.length ≤ 16∧∀ j,(blkAt (endM m0 m1 l) j).instrs.length ≤ 22:=by
 have hI:=Inv.fold (l.take 24) (Inv.start m0 m1 h0 h1)
 have hl:(l.take 24).length ≤ 24:=by rw [List.length_take]; omega
 unfold endM
 generalize (l.take 24).foldl stepM (blockM ⟨m0,m1,⟨[],[]⟩,0,[]⟩ []).1 = s at *
 have g:=lay_inv (V:=125) (M:=22) ⟨0,0,1,0,0,0,3⟩ hI.good hI.bare hI.vals (fun j => by have:=hI.inss j; omega) (by have:=hI.inss s.cur; omega)
 exact ⟨g.1.mono (by omega),g.2.1,g.2.2.1,by rw [g.2.2.2.1]; exact hI.blks,g.2.2.2.2⟩
def Ms.mm (s:Ms):Int × Int:=(s.m0,s.m1)
theorem lay_m (s:Ms) (p:Pc):(layM s p).mm = s.mm:=rfl
theorem edge_m (s:Ms) (a b:Nat) (l:List Int):(edgeM s a b l).mm = s.mm:=rfl
theorem block_m (s:Ms) (l:List Int):(blockM s l).1.mm = s.mm:=rfl
theorem newest_m (s:Ms) (c:Int) (p:Pc):(newestM s c p).1.mm = s.mm:=by
 unfold newestM
 split <;> rfl
theorem mk_m (E:Ms) (f:Fn) (k:Nat) (kn:List Int):Ms.mm ⟨E.m0,E.m1,f,k,kn⟩ = E.mm:=rfl
theorem way_m (c:Int) (kn:List Int) (e:Nat) (s:Ms) (p:Pc) (k:Nat) (more:Bool):(wayM c kn e s p k more).1.mm = s.mm:=by
 unfold wayM
 cases more <;> simp [mk_m,edge_m,newest_m,lay_m]
theorem fork_m (s:Ms) (p:Pc):(forkM s p).mm = s.mm:=by
 rw [forkM_eq]
 simp only [mk_m,way_m,edge_m,block_m,lay_m]
theorem ring_m (s:Ms) (p:Pc):(ringM s p).mm = s.mm:=by
 unfold ringM
 simp only [mk_m,newest_m,edge_m,block_m,lay_m]
theorem step_m (s:Ms) (p:Pc):(stepM s p).mm = s.mm:=by
 unfold stepM
 simp only
 split
 ·exact fork_m s p
 ·split
  ·exact ring_m s p
  ·split <;> rfl
theorem folds_m:∀ (l:List Pc) (s:Ms),(l.foldl stepM s).mm = s.mm
 | [],_ => rfl
 | p :: r,s => by rw [List.foldl_cons,folds_m r,step_m]
theorem end_m (m0 m1:Int) (l:List Pc):(endM m0 m1 l).m0 = m0∧(endM m0 m1 l).m1 = m1:=by
 have:(endM m0 m1 l).mm = (m0,m1):=by
  unfold endM
  rw [lay_m,folds_m]
  rfl
 exact ⟨congrArg Prod.fst this,congrArg Prod.snd this⟩
theorem mason_shape (m0 m1:Int) (h0:2 ≤ m0∧m0 ≤ 10) (h1:2 ≤ m1∧m1 ≤ 10) (l:List Pc):shapeErr (masonM m0 m1 l) m0 m1 = 0:=by
 obtain ⟨g,_,gv,gb,gi⟩:=end_good m0 m1 h0 h1 l
 have:=shape_ok g (by omega) gb (fun j => by have:=gi j; omega)
 rw [(end_m m0 m1 l).1,(end_m m0 m1 l).2] at this
 exact this
theorem usesM_known (s:Ms) (p:Pc) (flags:Int):∀ (n i:Nat) (x:Wk),(∀ o ∈ x.ops,o.value ∈ s.known) → ∀ o ∈ (usesM s p flags n i x).ops,o.value ∈ s.known
 | 0,i,x,h => h
 | n + 1,i,x,h => by
  unfold usesM
  split
  ·rename_i hc
   refine usesM_known s p flags n (i + 1) _ fun o ho => ?_
   rcases List.mem_append.1 ho with ho | ho
   ·exact h o ho
   ·rw [List.mem_singleton.1 ho]
    exact picked_mem _ _ hc.2
  ·exact h
theorem defM_ops (m0 m1:Int) (p:Pc) (flags:Int) (uses i:Nat) (values:List Int) (reused:Int) (x:Wk):∃ o:Opr,o.kind = 2∧(defM m0 m1 p flags uses i values reused x).2.2.ops = x.ops ++ [o]:=by
 unfold defM
 simp only
 split
 ·exact ⟨_,rfl,rfl⟩
 ·exact ⟨_,rfl,rfl⟩
theorem instr_known (s:Ms) (p:Pc):∀ o ∈ (instrM s p).1.operands,o.kind = 1 → o.value ∈ s.known:=by
 have hu:=usesM_known s p (pickedOf p.flags (2 ^ 30)) 3 0 ⟨[],(0,0),(0,0),pickedOf p.limits (2 ^ 40)⟩ (by simp)
 unfold instrM
 simp only
 generalize usesM s p (pickedOf p.flags (2 ^ 30)) 3 0 ⟨[],(0,0),(0,0),pickedOf p.limits (2 ^ 40)⟩ = x0 at *
 obtain ⟨o0,k0,e0⟩:=defM_ops s.m0 s.m1 p (pickedOf p.flags (2 ^ 30)) x0.ops.length 0 s.f.values (-1) x0
 generalize defM s.m0 s.m1 p (pickedOf p.flags (2 ^ 30)) x0.ops.length 0 s.f.values (-1) x0 = d0 at *
 obtain ⟨o1,k1,e1⟩:=defM_ops s.m0 s.m1 p (pickedOf p.flags (2 ^ 30)) x0.ops.length 1 d0.1 d0.2.1 d0.2.2
 intro o ho hk
 split at ho
 ·rw [e1,e0] at ho
  simp only [List.append_assoc,List.mem_append,List.mem_cons,List.not_mem_nil,or_false] at ho
  rcases ho with ho | rfl | rfl
  ·exact hu o ho
  ·omega
  ·omega
 ·rw [e0] at ho
  simp only [List.mem_append,List.mem_cons,List.not_mem_nil,or_false] at ho
  rcases ho with ho | rfl
  ·exact hu o ho
  ·omega
def MadeAt (s:Ms) (v:Int) (b:Nat) (i:Int):Prop:=(i = -1∧v ∈ (blkAt s b).params) ∨ ∃ (k:Nat) (x:Ins),i = k∧(blkAt s b).instrs[k]? = some x∧v ∈ oprM x.operands
def UsedAt (s:Ms) (v:Int) (b:Nat) (i:Int):Prop:=(∃ (k:Nat) (x:Ins),i = k∧(blkAt s b).instrs[k]? = some x∧∃ o ∈ x.operands,o.kind = 1∧o.value = v) ∨ (i = ((blkAt s b).instrs.length:Nat)∧∃ e ∈ (blkAt s b).edges,v ∈ e.args)
theorem MadeAt.lt {s:Ms} {v:Int} {b:Nat} {i:Int} (h:MadeAt s v b i):i < ((blkAt s b).instrs.length:Nat):=by
 rcases h with ⟨h,_⟩ | ⟨k,x,h,hx,_⟩
 ·omega
 ·have:=(List.getElem?_eq_some_iff.1 hx).1
  omega
theorem blkAt_out {s:Ms} {b:Nat} (h:s.f.blocks.length ≤ b):blkAt s b = ⟨[],[],[]⟩:=by
 unfold blkAt
 rw [List.getD_eq_getElem?_getD,List.getElem?_eq_none h]
 rfl
theorem MadeAt.in {s:Ms} {v:Int} {b:Nat} {i:Int} (h:MadeAt s v b i):b < s.f.blocks.length:=by
 rcases Nat.lt_or_ge b s.f.blocks.length with h1 | h1
 ·exact h1
 ·unfold MadeAt at h
  rw [blkAt_out h1] at h
  simp at h
theorem UsedAt.in {s:Ms} {v:Int} {b:Nat} {i:Int} (h:UsedAt s v b i):b < s.f.blocks.length:=by
 rcases Nat.lt_or_ge b s.f.blocks.length with h1 | h1
 ·exact h1
 ·unfold UsedAt at h
  rw [blkAt_out h1] at h
  simp at h
def Knows (D:Nat → List Nat) (s:Ms) (k:Nat) (kn:List Int):Prop:=∀ v ∈ kn,∃ b i,MadeAt s v b i∧b ∈ D k
def Ext (s s':Ms):Prop:=∀ v b i,MadeAt s v b i → MadeAt s' v b i
theorem Ext.refl (s:Ms):Ext s s:=fun _ _ _ h => h
theorem Ext.trans {a b c:Ms} (h:Ext a b) (k:Ext b c):Ext a c:=fun v j i hh => k v j i (h v j i hh)
theorem Knows.ext {D:Nat → List Nat} {s s':Ms} {k k':Nat} {kn:List Int} (h:Knows D s k kn) (he:Ext s s') (hk:∀ b ∈ D k,b ∈ D k'):Knows D s' k' kn:=fun v hv => by
 obtain ⟨b,i,h1,h2⟩:=h v hv
 exact ⟨b,i,he v b i h1,hk b h2⟩
structure Fl (D:Nat → List Nat) (s:Ms):Prop where
 kn:Knows D s s.cur s.known
 uses:∀ v b i,UsedAt s v b i → ∃ b' i',MadeAt s v b' i'∧(b' = b∧i' < i ∨ b' ≠ b∧b' ∈ D b)
theorem lay_atx (s:Ms) (p:Pc) (h:s.cur < s.f.blocks.length) (j:Nat):blkAt (layM s p) j = if j = s.cur then addI (instrM s p).1 (blkAt s j) else blkAt s j:=by
 unfold blkAt layM
 exact setBlk_at _ _ _ h j
theorem ext_blk {s s':Ms} (h:∀ b,b < s.f.blocks.length → (∀ v ∈ (blkAt s b).params,v ∈ (blkAt s' b).params)∧∃ xs,(blkAt s' b).instrs = (blkAt s b).instrs ++ xs):Ext s s':=fun v b i hm => by
 obtain ⟨h1,xs,h2⟩:=h b hm.in
 rcases hm with ⟨e,hp⟩ | ⟨k,x,e,hx,hv⟩
 ·exact Or.inl ⟨e,h1 v hp⟩
 ·refine Or.inr ⟨k,x,e,?_,hv⟩
  rw [h2,List.getElem?_append_left (List.getElem?_eq_some_iff.1 hx).1]
  exact hx
theorem lay_ext (s:Ms) (p:Pc) (h:s.cur < s.f.blocks.length):Ext s (layM s p):=ext_blk fun b hb => by
 rw [lay_atx s p h]
 split
 ·exact ⟨fun v hv => hv,[(instrM s p).1],rfl⟩
 ·exact ⟨fun v hv => hv,[],by simp⟩
theorem block_ext (s:Ms) (cl:List Int):Ext s (blockM s cl).1:=ext_blk fun b hb => by
 rw [blockM_at s cl b hb]
 exact ⟨fun v hv => hv,[],by simp⟩
theorem edge_ext (s:Ms) (src dst:Nat) (args:List Int) (h:src < s.f.blocks.length):Ext s (edgeM s src dst args):=ext_blk fun b hb => by
 rw [edgeM_at s src dst args h]
 split
 ·exact ⟨fun v hv => hv,[],by simp [addE]⟩
 ·exact ⟨fun v hv => hv,[],by simp⟩
theorem turn_ext (s:Ms) (k:Nat) (kn:List Int):Ext s { s with cur:=k,known:=kn }:=fun v b i h => h
theorem Fl.lay {D:Nat → List Nat} {s:Ms} (h:Fl D s) (p:Pc) (hc:s.cur < s.f.blocks.length) (hD:∀ b,b < s.f.blocks.length → b ∈ D b):Fl D (layM s p):=by
 have hx:=lay_ext s p hc
 have hat:=lay_atx s p hc
 refine ⟨fun v hv => ?_,fun v b i hu => ?_⟩
 ·have hv':v ∈ s.known ++ oprM (instrM s p).1.operands:=hv
  rcases List.mem_append.1 hv' with hv | hv
  ·exact (h.kn.ext hx fun b hb => hb) v hv
  ·refine ⟨s.cur,((blkAt s s.cur).instrs.length:Nat),Or.inr ⟨(blkAt s s.cur).instrs.length,(instrM s p).1,rfl,?_,hv⟩,hD _ hc⟩
   rw [hat,if_pos rfl]
   simp [addI]
 ·have old:UsedAt s v b i → ∃ b' i',MadeAt (layM s p) v b' i'∧(b' = b∧i' < i ∨ b' ≠ b∧b' ∈ D b):=fun ho => by
   obtain ⟨b',i',h1,h2⟩:=h.uses v b i ho
   exact ⟨b',i',hx _ _ _ h1,h2⟩
  unfold UsedAt at hu
  rw [hat] at hu
  by_cases e:b = s.cur
  ·rw [if_pos e] at hu
   have known:v ∈ s.known → ((blkAt s b).instrs.length:Nat) ≤ i → ∃ b' i',MadeAt (layM s p) v b' i'∧(b' = b∧i' < i ∨ b' ≠ b∧b' ∈ D b):=fun hv hi => by
    obtain ⟨b',i',h1,h2⟩:=h.kn v hv
    refine ⟨b',i',hx _ _ _ h1,?_⟩
    by_cases e2:b' = b
    ·left
     have:=h1.lt
     rw [e2] at this
     exact ⟨e2,by omega⟩
    ·right
     exact ⟨e2,by rw [e]; exact h2⟩
   rcases hu with ⟨k,x,hi,hk,o,ho,hko,hvo⟩ | ⟨hi,ed,he,hv⟩
   ·simp only [addI] at hk
    by_cases hlt:k < (blkAt s b).instrs.length
    ·rw [List.getElem?_append_left hlt] at hk
     exact old (Or.inl ⟨k,x,hi,hk,o,ho,hko,hvo⟩)
    ·rw [List.getElem?_append_right (by omega)] at hk
     have hxe:(instrM s p).1 = x:=by
      have:k - (blkAt s b).instrs.length = 0:=by
       have:=(List.getElem?_eq_some_iff.1 hk).1
       simp at this
       omega
      rw [this] at hk
      simpa using hk
     rw [← hxe] at ho
     exact known (by rw [← hvo]; exact instr_known s p o ho hko) (by omega)
   ·simp only [addI] at he hi
    obtain ⟨b',i',h1,h2⟩:=h.uses v b ((blkAt s b).instrs.length:Nat) (Or.inr ⟨rfl,ed,he,hv⟩)
    refine ⟨b',i',hx _ _ _ h1,h2.imp (fun h => ⟨h.1,?_⟩) id⟩
    have:=h.2
    simp at hi
    omega
  ·rw [if_neg e] at hu
   exact old hu
theorem Fl.newest {D:Nat → List Nat} {s:Ms} (h:Fl D s) (c:Int) (p:Pc) (hc:s.cur < s.f.blocks.length) (hD:∀ b,b < s.f.blocks.length → b ∈ D b):Fl D (newestM s c p).1∧Ext s (newestM s c p).1:=by
 unfold newestM
 split
 ·exact ⟨h,Ext.refl s⟩
 ·exact ⟨h.lay _ hc hD,lay_ext s _ hc⟩
theorem Fl.block {D:Nat → List Nat} {s:Ms} (h:Fl D s) (cl:List Int):Fl D (blockM s cl).1:=by
 have hx:=block_ext s cl
 refine ⟨h.kn.ext hx fun b hb => hb,fun v b i hu => ?_⟩
 have hb:=hu.in
 rw [blockM_len] at hb
 by_cases e:b = s.f.blocks.length
 ·unfold UsedAt at hu
  rw [e,blockM_new] at hu
  simp at hu
 ·have hu':UsedAt s v b i:=by
   unfold UsedAt at hu
   rw [blockM_at s cl b (by omega)] at hu
   exact hu
  obtain ⟨b',i',h1,h2⟩:=h.uses v b i hu'
  exact ⟨b',i',hx _ _ _ h1,h2⟩
theorem Fl.edge {D:Nat → List Nat} {s:Ms} (h:Fl D s) (src dst:Nat) (args:List Int) (hs:src < s.f.blocks.length) (ha:Knows D s src args):Fl D (edgeM s src dst args):=by
 have hx:=edge_ext s src dst args hs
 have hat:=edgeM_at s src dst args hs
 refine ⟨h.kn.ext hx fun b hb => hb,fun v b i hu => ?_⟩
 have old:UsedAt s v b i → ∃ b' i',MadeAt (edgeM s src dst args) v b' i'∧(b' = b∧i' < i ∨ b' ≠ b∧b' ∈ D b):=fun ho => by
  obtain ⟨b',i',h1,h2⟩:=h.uses v b i ho
  exact ⟨b',i',hx _ _ _ h1,h2⟩
 unfold UsedAt at hu
 rw [hat] at hu
 by_cases e:b = src
 ·rw [if_pos e] at hu
  rcases hu with hu | ⟨hi,ed,he,hv⟩
  ·exact old (Or.inl hu)
  ·simp only [addE] at he hi
   rcases List.mem_append.1 he with he | he
   ·exact old (Or.inr ⟨hi,ed,he,hv⟩)
   ·rw [List.mem_singleton.1 he] at hv
    obtain ⟨b',i',h1,h2⟩:=ha v hv
    refine ⟨b',i',hx _ _ _ h1,?_⟩
    by_cases e2:b' = b
    ·left
     have:=h1.lt
     rw [e2] at this
     exact ⟨e2,by omega⟩
    ·right
     exact ⟨e2,by rw [e]; exact h2⟩
 ·rw [if_neg e] at hu
  exact old hu
theorem Fl.turn {D:Nat → List Nat} {s:Ms} (h:Fl D s) (k:Nat) (kn:List Int) (hk:Knows D s k kn):Fl D { s with cur:=k,known:=kn }:=⟨hk,h.uses⟩
theorem Fl.dom {D D':Nat → List Nat} {s:Ms} (h:Fl D s) (hc:s.cur < s.f.blocks.length) (hD:∀ b,b < s.f.blocks.length → D' b = D b):Fl D' s :=
 ⟨fun v hv => by obtain ⟨b,i,h1,h2⟩:=h.kn v hv; exact ⟨b,i,h1,by rw [hD _ hc]; exact h2⟩,fun v b i hu => by obtain ⟨b',i',h1,h2⟩:=h.uses v b i hu; exact ⟨b',i',h1,by rw [hD b hu.in]; exact h2⟩⟩
end Go.Proofs.Ytglfpnnfcpnmoaa
