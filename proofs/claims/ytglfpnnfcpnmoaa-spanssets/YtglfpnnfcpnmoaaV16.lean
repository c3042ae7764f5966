/-
  Spans stand apart: what joining keeps; how stays lie within their block. No Go in here.
-/
import Derived.Test.YtglfpnnfcpnmoaaV15
import Derived.Test.YtglfpnnfcpnmoaaV8
namespace Go.Proofs.Ytglfpnnfcpnmoaa
open Go.RowKit
set_option linter.unusedVariables false
def Aprt:List Sp → Prop
 | [] => True
 | [x] => x.1 < x.2
 | x :: y :: r => x.1 < x.2∧x.2 < y.1∧Aprt (y :: r)
def UpTo (l:List Sp) (p:Int):Prop:=∀ x ∈ l,x.2 ≤ p
theorem aprt_snoc:∀ {l:List Sp} {y x:Sp},Aprt (l ++ [y]) → x.1 < x.2 → y.2 < x.1 → Aprt (l ++ [y] ++ [x])
 | [],y,x,h,hx,hy => ⟨h,hy,hx⟩
 | [z],y,x,h,hx,hy => ⟨h.1,h.2.1,h.2.2,hy,hx⟩
 | z :: u :: r,y,x,h,hx,hy => by
  have h1:Aprt (u :: r ++ [y]):=h.2.2
  exact ⟨h.1,h.2.1,aprt_snoc (l:=u :: r) h1 hx hy⟩
theorem aprt_merge:∀ {l:List Sp} {y:Sp} {e:Int},Aprt (l ++ [y]) → y.2 < e → Aprt (l ++ [(y.1,e)])
 | [],y,e,h,he => by
  have h1:y.1 < y.2:=h
  show y.1 < e
  omega
 | [z],y,e,h,he => by
  have h1:y.1 < y.2:=h.2.2
  refine ⟨h.1,h.2.1,?_⟩
  show y.1 < e
  omega
 | z :: u :: r,y,e,h,he => by
  have h1:Aprt (u :: r ++ [y]):=h.2.2
  exact ⟨h.1,h.2.1,aprt_merge (l:=u :: r) h1 he⟩
theorem join_aprt {l:List Sp} {x:Sp} {p:Int} (h:Aprt l) (hp:UpTo l p) (hx:x.1 < x.2) (hpx:p ≤ x.1):Aprt (joinL l x)∧UpTo (joinL l x) x.2∧joinL l x ≠ []:=by
 rcases List.eq_nil_or_concat l with rfl | ⟨m,y,rfl⟩
 ·rw [joinL_nil]
  exact ⟨hx,fun z hz => by rw [List.mem_singleton.1 hz]; exact Int.le_refl _,by simp⟩
 ·rw [List.concat_eq_append] at h hp ⊢
  rw [joinL_snoc]
  have hy:=hp y (by simp)
  split
  ·rename_i e
   refine ⟨aprt_merge h (by omega),fun z hz => ?_,by simp⟩
   rcases List.mem_append.1 hz with hz | hz
   ·have:=hp z (List.mem_append_left _ hz)
    omega
   ·rw [List.mem_singleton.1 hz]
    exact Int.le_refl _
  ·rename_i e
   refine ⟨aprt_snoc h hx (by omega),fun z hz => ?_,by simp⟩
   rcases List.mem_append.1 hz with hz | hz
   ·have:=hp z hz
    omega
   ·rw [List.mem_singleton.1 hz]
    exact Int.le_refl _
def StIn (bs:List Blk) (nv:Nat) (I O:Tb):Prop:=∀ k,k < bs.length → ∀ v,v < nv → (stayM (blkA bs k) I O k nv (startM bs k) v).1 < (stayM (blkA bs k) I O k nv (startM bs k) v).2 → startM bs k ≤ (stayM (blkA bs k) I O k nv (startM bs k) v).1∧(stayM (blkA bs k) I O k nv (startM bs k) v).2 ≤ startM bs (k + 1)
theorem start_mono {bs:List Blk} (k:Nat) (hk:k < bs.length):startM bs k ≤ startM bs (k + 1):=by
 rw [startM_succ bs k hk]
 omega
theorem spans_aprt {bs:List Blk} {nv:Nat} {I O:Tb} (h:StIn bs nv I O) (v:Nat) (hv:v < nv):∀ k,k ≤ bs.length → Aprt (spansM bs nv I O k v)∧UpTo (spansM bs nv I O k v) (startM bs k)
 | 0,_ => ⟨trivial,fun x hx => by cases hx⟩
 | k + 1,hk => by
  obtain ⟨h1,h2⟩:=spans_aprt h v hv k (by omega)
  simp only [spansM,stepL]
  split
  ·rename_i hlt
   have h3:=h k (by omega) v hv hlt
   have h4:=join_aprt h1 h2 hlt h3.1
   exact ⟨h4.1,fun x hx => Int.le_trans (h4.2.1 x hx) h3.2⟩
  ·exact ⟨h1,fun x hx => Int.le_trans (h2 x hx) (start_mono k (by omega))⟩
theorem spans_some {bs:List Blk} {nv:Nat} {I O:Tb} (v:Nat) (k:Nat) (hk:(stayM (blkA bs k) I O k nv (startM bs k) v).1 < (stayM (blkA bs k) I O k nv (startM bs k) v).2):∀ n,k < n → spansM bs nv I O n v ≠ []
 | 0,h => by omega
 | n + 1,h => by
  have hj:∀ (l:List Sp) (x:Sp),joinL l x ≠ []:=fun l x => by
   rcases List.eq_nil_or_concat l with rfl | ⟨m,y,rfl⟩
   ·simp [joinL]
   ·rw [List.concat_eq_append,joinL_snoc]
    split <;> simp
  simp only [spansM,stepL]
  by_cases e:n = k
  ·subst e
   rw [if_pos hk]
   exact hj _ _
  ·split
   ·exact hj _ _
   ·exact spans_some v k hk n (by omega)
def Hs (lo hi:Int) (x:Sp):Prop:=lo ≤ x.1∧x.1 < x.2∧x.2 ≤ hi
def Zs (lo hi:Int) (x:Sp):Prop:=x = (0,0) ∨ Hs lo hi x
theorem opr_keep {lo hi early:Int} {s:Nat → Sp} {o:Opr} (h1:lo ≤ early) (h2:early + 2 ≤ hi) {u:Nat} (h:Hs lo hi (s u)):Hs lo hi (stOpr early s o u):=by
 unfold stOpr
 have hp:(if o.late = true then early + 1 else early) ≤ early + 1∧early ≤ (if o.late = true then early + 1 else early):=by split <;> omega
 generalize (if o.late = true then early + 1 else early) = p at *
 split
 ·unfold upS
  split
  ·exact ⟨by simp only; omega,by simp only; omega,by simp only; omega⟩
  ·exact h
 ·unfold upS
  split
  ·rename_i e
   rw [← e]
   obtain ⟨a1,a2,a3⟩:=h
   exact ⟨a1,by simp only; omega,by simp only; omega⟩
  ·exact h
theorem opr_def {lo hi early:Int} {s:Nat → Sp} {o:Opr} (h1:lo ≤ early) (h2:early + 2 ≤ hi) (hk:o.kind = 2):Hs lo hi (stOpr early s o o.value.toNat):=by
 unfold stOpr
 have hp:(if o.late = true then early + 1 else early) ≤ early + 1∧early ≤ (if o.late = true then early + 1 else early):=by split <;> omega
 generalize (if o.late = true then early + 1 else early) = p at *
 rw [if_pos hk]
 unfold upS
 rw [if_pos rfl]
 exact ⟨by simp only; omega,by simp only; omega,by simp only; omega⟩
theorem opr_zero {lo hi early:Int} {s:Nat → Sp} {o:Opr} (h1:lo ≤ early) (h2:early + 2 ≤ hi) (hu:¬ o.kind = 2 → Hs lo hi (s o.value.toNat)) {u:Nat} (h:Zs lo hi (s u)):Zs lo hi (stOpr early s o u):=by
 rcases h with h | h
 ·by_cases e:u = o.value.toNat
  ·subst e
   by_cases hk:o.kind = 2
   ·exact Or.inr (opr_def h1 h2 hk)
   ·exact Or.inr (opr_keep h1 h2 (hu hk))
  ·left
   unfold stOpr
   split <;> (unfold upS; rw [if_neg e]; exact h)
 ·exact Or.inr (opr_keep h1 h2 h)
theorem oprs_keep {lo hi early:Int} (h1:lo ≤ early) (h2:early + 2 ≤ hi) {u:Nat}:∀ (os:List Opr) (s:Nat → Sp),Hs lo hi (s u) → Hs lo hi (stOprs early s os u)
 | [],s,h => h
 | o :: r,s,h => oprs_keep h1 h2 r (stOpr early s o) (opr_keep h1 h2 h)
theorem oprs_def {lo hi early:Int} (h1:lo ≤ early) (h2:early + 2 ≤ hi) {u:Nat}:∀ (os:List Opr) (s:Nat → Sp),(∀ o ∈ os,0 ≤ o.value) → (u:Int) ∈ oprM os → Hs lo hi (stOprs early s os u)
 | [],s,_,h => by cases h
 | o :: r,s,h0,h => by
  by_cases hk:o.kind = 2
  ·rw [oprM_def o r hk] at h
   rcases List.mem_cons.1 h with h | h
   ·have e:o.value.toNat = u:=by omega
    have:=opr_def (s:=s) h1 h2 hk
    rw [e] at this
    exact oprs_keep h1 h2 r (stOpr early s o) this
   ·exact oprs_def h1 h2 r _ (fun q hq => h0 q (List.mem_cons_of_mem _ hq)) h
  ·rw [oprM_use o r hk] at h
   exact oprs_def h1 h2 r _ (fun q hq => h0 q (List.mem_cons_of_mem _ hq)) h
theorem oprs_zero {lo hi early:Int} (h1:lo ≤ early) (h2:early + 2 ≤ hi) {u:Nat}:∀ (os:List Opr) (s:Nat → Sp),(∀ o ∈ os,¬ o.kind = 2 → Hs lo hi (s o.value.toNat)) → Zs lo hi (s u) → Zs lo hi (stOprs early s os u)
 | [],s,_,h => h
 | o :: r,s,hu,h => oprs_zero h1 h2 r (stOpr early s o) (fun q hq hk => opr_keep h1 h2 (hu q (List.mem_cons_of_mem _ hq) hk)) (opr_zero h1 h2 (hu o List.mem_cons_self) h)
theorem par_keep {lo hi fst:Int} (h1:lo ≤ fst) (h2:fst + 1 ≤ hi) {u:Nat}:∀ (ps:List Int) (s:Nat → Sp),Hs lo hi (s u) → Hs lo hi (stPar fst s ps u)
 | [],s,h => h
 | v :: r,s,h => par_keep h1 h2 r (upS s v.toNat (fst,fst + 1)) (by
  unfold upS
  split
  ·exact ⟨h1,by simp only; omega,h2⟩
  ·exact h)
theorem par_def {lo hi fst:Int} (h1:lo ≤ fst) (h2:fst + 1 ≤ hi) {u:Nat}:∀ (ps:List Int) (s:Nat → Sp),(∀ v ∈ ps,0 ≤ v) → (u:Int) ∈ ps → Hs lo hi (stPar fst s ps u)
 | [],s,_,h => by cases h
 | v :: r,s,h0,h => by
  rcases List.mem_cons.1 h with h | h
  ·refine par_keep h1 h2 r (upS s v.toNat (fst,fst + 1)) ?_
   unfold upS
   rw [if_pos (by omega)]
   exact ⟨h1,by simp only; omega,h2⟩
  ·exact par_def h1 h2 r _ (fun q hq => h0 q (List.mem_cons_of_mem _ hq)) h
theorem par_zero {lo hi fst:Int} (h1:lo ≤ fst) (h2:fst + 1 ≤ hi) {u:Nat}:∀ (ps:List Int) (s:Nat → Sp),Zs lo hi (s u) → Zs lo hi (stPar fst s ps u)
 | [],s,h => h
 | v :: r,s,h => par_zero h1 h2 r (upS s v.toNat (fst,fst + 1)) (by
  unfold upS
  split
  ·exact Or.inr ⟨h1,by simp only; omega,h2⟩
  ·exact h)
theorem ins_all {lo hi fst:Int} {s:Nat → Sp} {is:List Ins} (h1:lo ≤ fst) (h2:fst + 1 + 2 * (is.length:Int) ≤ hi) (h0:∀ i ∈ is,∀ o ∈ i.operands,0 ≤ o.value) (hu:∀ (i:Nat) (x:Ins) (o:Opr),is[i]? = some x → o ∈ x.operands → ¬ o.kind = 2 → Hs lo hi (s o.value.toNat) ∨ ∃ (i':Nat) (x':Ins),i' < i∧is[i']? = some x'∧o.value ∈ oprM x'.operands) :
  ∀ k,k ≤ is.length → (∀ u,Hs lo hi (s u) → Hs lo hi (stIns fst s is k u))∧(∀ (i:Nat) (x:Ins) (u:Nat),i < k → is[i]? = some x → (u:Int) ∈ oprM x.operands → Hs lo hi (stIns fst s is k u))∧∀ u,Zs lo hi (s u) → Zs lo hi (stIns fst s is k u)
 | 0,_ => ⟨fun u h => h,fun i x u hi => by omega,fun u h => h⟩
 | k + 1,hk => by
  obtain ⟨g1,g2,g3⟩:=ins_all h1 h2 h0 hu k (by omega)
  have hkl:k < is.length:=by omega
  rw [stIns_succ fst s is k hkl]
  have e1:lo ≤ fst + 1 + 2 * (k:Int):=by omega
  have e2:fst + 1 + 2 * (k:Int) + 2 ≤ hi:=by omega
  have hge:is[k]? = some is[k]:=List.getElem?_eq_getElem hkl
  refine ⟨fun u h => oprs_keep e1 e2 _ _ (g1 u h),fun i x u hi hx hm => ?_,fun u h => oprs_zero e1 e2 _ _ (fun o ho hk2 => ?_) (g3 u h)⟩
  ·by_cases e:i = k
   ·subst e
    rw [hge] at hx
    simp only [Option.some.injEq] at hx
    subst hx
    exact oprs_def e1 e2 _ _ (h0 _ (List.getElem_mem hkl)) hm
   ·exact oprs_keep e1 e2 _ _ (g2 i x u (by omega) hx hm)
  ·rcases hu k is[k] o hge ho hk2 with h | ⟨i',x',hi',hx',hm⟩
   ·exact g1 _ h
   ·have hv:=h0 _ (List.getElem_mem hkl) o ho
    have:((o.value.toNat:Nat):Int) = o.value:=by omega
    exact g2 i' x' o.value.toNat hi' hx' (by rw [this]; exact hm)
theorem instrErr_kind {values:List Int} {m0 m1:Int} {x:Ins} (h:instrErr values m0 m1 x = 0):∀ o ∈ x.operands,o.kind = 1 ∨ o.kind = 2:=fun o ho => by
 unfold instrErr at h
 split at h
 ·cases h
 ·split at h
  ·contradiction
  ·rename_i h1
   have h2:=firstE_zero _ _ (by simpa using h1) o ho
   unfold oprErr at h2
   split at h2
   ·cases h2
   ·rename_i h3
    exact Decidable.not_not.1 h3
theorem spU_par {bs:List Blk} {k:Nat} (hk:k < bs.length) {v:Int} (h:v ∈ (blkA bs k).params):(v,((k:Int),(-1:Int))) ∈ spU bs bs.length:=by
 unfold spU
 refine List.mem_flatMap.2 ⟨k,List.mem_range.2 hk,?_⟩
 exact List.mem_append_left _ (List.mem_map.2 ⟨v,h,rfl⟩)
theorem spU_ins {bs:List Blk} {k:Nat} (hk:k < bs.length) {v:Int} {i:Nat} {x:Ins} (hi:(blkA bs k).instrs[i]? = some x) (h:v ∈ oprM x.operands):(v,((k:Int),(i:Int))) ∈ spU bs bs.length:=by
 unfold spU
 refine List.mem_flatMap.2 ⟨k,List.mem_range.2 hk,?_⟩
 obtain ⟨hl,he⟩:=List.getElem?_eq_some_iff.1 hi
 refine List.mem_append_right _ (List.mem_flatMap.2 ⟨i,List.mem_range.2 hl,?_⟩)
 refine List.mem_map.2 ⟨v,?_,rfl⟩
 show v ∈ oprM (((blkA bs k).instrs).getD i ⟨0,[],[]⟩).operands
 rw [List.getD_eq_getElem?_getD,hi]
 exact h
theorem insM_at {is:List Ins} {v:Int} (h:v ∈ insM is):∃ (i:Nat) (x:Ins),is[i]? = some x∧v ∈ oprM x.operands:=by
 obtain ⟨x,hx,hv⟩:=List.mem_flatMap.1 h
 obtain ⟨i,hi,he⟩:=List.getElem_of_mem hx
 exact ⟨i,x,by rw [List.getElem?_eq_getElem hi,he],hv⟩
theorem stay_blk {f:Fn} {m0 m1:Int} (h:flowE f m0 m1 (f.blocks.length * f.blocks.length + 1) = 0) {I O:Tb} (ht:(∀ b v,v < f.values.length → (I b v = true ↔ NeedIn f.blocks b v))∧∀ b v,v < f.values.length → (O b v = true ↔ NeedOut f.blocks b v)) (k:Nat) (hk:k < f.blocks.length) :
  (∀ v,v < f.values.length → (v:Int) ∈ makersOf (blkA f.blocks k) → Hs (startM f.blocks k) (startM f.blocks (k + 1)) (stayM (blkA f.blocks k) I O k f.values.length (startM f.blocks k) v))∧∀ v,v < f.values.length → Zs (startM f.blocks k) (startM f.blocks (k + 1)) (stayM (blkA f.blocks k) I O k f.values.length (startM f.blocks k) v):=by
 obtain ⟨hs,hlen,hmade⟩:=flowE_all h
 have S:=shape_in hs
 have hb:=List.getElem_mem hk
 have eb:blkA f.blocks k = f.blocks[k]:=blkA_at hk
 have hnd:=(marks_free _ _ _ S.mks).2
 have hst:=startM_succ f.blocks k hk
 rw [← eb] at hst
 have hval:∀ x ∈ (blkA f.blocks k).instrs,∀ o ∈ x.operands,0 ≤ o.value∧o.value < f.values.length:=fun x hx o ho => by
  rw [eb] at hx
  exact isValue_bd (instrErr_val (S.ins _ hb x hx) o ho)
 have hkind:∀ x ∈ (blkA f.blocks k).instrs,∀ o ∈ x.operands,o.kind = 1 ∨ o.kind = 2:=fun x hx => by
  rw [eb] at hx
  exact instrErr_kind (S.ins _ hb x hx)
 have hpar:∀ v ∈ (blkA f.blocks k).params,0 ≤ v:=fun v hv => by
  rw [eb] at hv
  exact (isValue_bd (marks_val _ _ _ S.mks v (mem_all hb (List.mem_append_left _ hv)))).1
 generalize startM f.blocks (k + 1) = hi at *
 generalize hfst:startM f.blocks k = fst at *
 have hni:(0:Int) ≤ ((blkA f.blocks k).instrs.length:Int):=by omega
 have p2:fst + 1 ≤ hi:=by omega
 obtain ⟨s0,hs0⟩:∃ s0,stIn I k fst f.values.length = s0:=⟨_,rfl⟩
 have in0:∀ u,u < f.values.length → I k u = true → Hs fst hi (s0 u):=fun u hu hi' => by
  rw [← hs0]
  unfold stIn
  rw [if_pos ⟨hu,hi'⟩]
  exact ⟨Int.le_refl _,by simp only; omega,p2⟩
 have z0:∀ u,Zs fst hi (s0 u):=fun u => by
  rw [← hs0]
  unfold stIn
  split
  ·exact Or.inr ⟨Int.le_refl _,by simp only; omega,p2⟩
  ·exact Or.inl rfl
 obtain ⟨s1,hs1⟩:∃ s1,stPar fst s0 (blkA f.blocks k).params = s1:=⟨_,rfl⟩
 have in1:∀ u,u < f.values.length → I k u = true → Hs fst hi (s1 u):=fun u hu h1 => by rw [← hs1]; exact par_keep (Int.le_refl _) p2 _ _ (in0 u hu h1)
 have pa1:∀ u:Nat,(u:Int) ∈ (blkA f.blocks k).params → Hs fst hi (s1 u):=fun u h1 => by rw [← hs1]; exact par_def (Int.le_refl _) p2 _ _ hpar h1
 have z1:∀ u,Zs fst hi (s1 u):=fun u => by rw [← hs1]; exact par_zero (Int.le_refl _) p2 _ _ (z0 u)
 have hA:=ins_all (lo:=fst) (hi:=hi) (fst:=fst) (s:=s1) (is:=(blkA f.blocks k).instrs) (Int.le_refl _) (by omega) (fun x hx o ho => (hval x hx o ho).1) (fun i x o hx ho hk2 => ?_) _ (Nat.le_refl _)
 ·obtain ⟨g1,g2,g3⟩:=hA
  have fin1:∀ v,v < f.values.length → (v:Int) ∈ makersOf (blkA f.blocks k) ∨ I k v = true → Hs fst hi (stMid (blkA f.blocks k) I k f.values.length fst v):=fun v hv hm => by
   unfold stMid
   rw [hs0,hs1]
   rcases hm with hm | hm
   ·rcases List.mem_append.1 hm with hm | hm
    ·exact g1 v (pa1 v hm)
    ·obtain ⟨i,x,hx,hm⟩:=insM_at hm
     exact g2 i x v (List.getElem?_eq_some_iff.1 hx).1 hx hm
   ·exact g1 v (in1 v hv hm)
  have outH:∀ x:Sp,Hs fst hi x → Hs fst hi (x.1,max x.2 (fst + 1 + 2 * ((blkA f.blocks k).instrs.length:Int) + 1)):=fun x hx => by
   obtain ⟨a1,a2,a3⟩:=hx
   exact ⟨a1,by simp only; omega,by simp only; omega⟩
  refine ⟨fun v hv hm => ?_,fun v hv => ?_⟩
  ·have h1:=fin1 v hv (Or.inl hm)
   unfold stayM stOut
   split
   ·exact outH _ h1
   ·exact h1
  ·unfold stayM stOut
   split
   ·rename_i hO
    refine Or.inr (outH _ (fin1 v hv ?_))
    by_cases hm:(v:Int) ∈ makersOf (blkA f.blocks k)
    ·exact Or.inl hm
    ·exact Or.inr ((ht.1 k v hv).2 (NeedIn.iff.2 ⟨hk,hm,Or.inr ((ht.2 k v hv).1 hO.2)⟩))
   ·unfold stMid
    rw [hs0,hs1]
    exact g3 v (z1 v)
 ·obtain ⟨hil,hix⟩:=List.getElem?_eq_some_iff.1 hx
  have hxm:x ∈ (blkA f.blocks k).instrs:=by rw [← hix]; exact List.getElem_mem hil
  have hv:=hval x hxm o ho
  have hk1:o.kind = 1:=(hkind x hxm o ho).resolve_right hk2
  obtain ⟨v,hvv⟩:∃ v:Nat,o.value = v:=⟨o.value.toNat,by omega⟩
  have hvl:v < f.values.length:=by omega
  rw [hvv,Int.toNat_natCast]
  by_cases hm:(v:Int) ∈ makersOf (blkA f.blocks k)
  ·rcases List.mem_append.1 hm with hm | hm
   ·exact Or.inl (pa1 v hm)
   ·obtain ⟨i',x',hx',hm'⟩:=insM_at hm
    refine Or.inr ⟨i',x',?_,hx',hm'⟩
    have hsp:=spot_is hnd (by omega) (spU_ins hk hx' hm')
    rw [Int.toNat_natCast] at hsp
    unfold madeL at hmade
    rw [List.all_eq_true] at hmade
    have h1:=hmade k (List.mem_range.2 hk)
    unfold blkOk at h1
    simp only [Bool.and_eq_true,List.all_eq_true,List.mem_range] at h1
    have h2:=h1.1 i hil
    unfold insOk at h2
    rw [List.all_eq_true] at h2
    have h3:=h2 o (by
     show o ∈ (((blkA f.blocks k).instrs).getD i ⟨0,[],[]⟩).operands
     rw [List.getD_eq_getElem?_getD,hx]; exact ho)
    unfold useOk at h3
    simp only [hk1,BEq.rfl,Bool.not_true,Bool.false_or,hvv,Int.toNat_natCast,hsp] at h3
    unfold aheadM at h3
    simp only [if_true,decide_eq_true_eq] at h3
    omega
  ·refine Or.inl (in1 v hvl ((ht.1 k v hvl).2 (.use k v hk hm (Or.inl ?_))))
   refine List.mem_flatMap.2 ⟨x,hxm,?_⟩
   unfold oprU
   exact List.mem_map.2 ⟨o,List.mem_filter.2 ⟨ho,by simp [hk1]⟩,hvv⟩
theorem stays_in {f:Fn} {m0 m1:Int} (h:flowE f m0 m1 (f.blocks.length * f.blocks.length + 1) = 0) {I O:Tb} (ht:(∀ b v,v < f.values.length → (I b v = true ↔ NeedIn f.blocks b v))∧∀ b v,v < f.values.length → (O b v = true ↔ NeedOut f.blocks b v)):StIn f.blocks f.values.length I O:=fun k hk v hv hlt => by
 rcases (stay_blk h ht k hk).2 v hv with h1 | h1
 ·rw [h1] at hlt
  simp at hlt
 ·exact ⟨h1.1,h1.2.2⟩
theorem spans_good {f:Fn} {m0 m1:Int} (h:flowE f m0 m1 (f.blocks.length * f.blocks.length + 1) = 0) {I O:Tb} (ht:(∀ b v,v < f.values.length → (I b v = true ↔ NeedIn f.blocks b v))∧∀ b v,v < f.values.length → (O b v = true ↔ NeedOut f.blocks b v)) (v:Nat) (hv:v < f.values.length):spansM f.blocks f.values.length I O f.blocks.length v ≠ []∧Aprt (spansM f.blocks f.values.length I O f.blocks.length v):=by
 obtain ⟨d,hd,_,hm⟩:=spot_made (flowE_all h).1 v hv
 exact ⟨spans_some v d ((stay_blk h ht d hd).1 v hv hm).2.1 _ hd,(spans_aprt (stays_in h ht) v hv _ (Nat.le_refl _)).1⟩
end Go.Proofs.Ytglfpnnfcpnmoaa
