/-
  Just where a value stays in a block: its uses, where it is made, the block's beginning and end; and that spans hold just the points of stays. No Go in here.
-/
import Derived.Test.YtglfpnnfcpnmoaaV16
namespace Go.Proofs.Ytglfpnnfcpnmoaa
open Go.RowKit
set_option linter.unusedVariables false
def ptO (e:Int) (o:Opr):Int:=if o.late = true then e + 1 else e
theorem ptO_bd (e:Int) (o:Opr):e ≤ ptO e o∧ptO e o ≤ e + 1:=by unfold ptO; split <;> omega
def NoDef (u:Nat) (os:List Opr):Prop:=∀ o ∈ os,¬ (o.kind = 2∧o.value.toNat = u)
theorem opr_nd {e:Int} {s:Nat → Sp} {o:Opr} {u:Nat} (h:¬ (o.kind = 2∧o.value.toNat = u)):(stOpr e s o u).1 = (s u).1∧(s u).2 ≤ (stOpr e s o u).2∧(stOpr e s o u).2 ≤ max (s u).2 (e + 2)∧(o.value.toNat = u → ptO e o + 1 ≤ (stOpr e s o u).2):=by
 have hp:=ptO_bd e o
 unfold stOpr
 by_cases hk:o.kind = 2
 ·have hv:¬ o.value.toNat = u:=fun e => h ⟨hk,e⟩
  rw [if_pos hk]
  unfold upS
  rw [if_neg (fun e => hv e.symm)]
  exact ⟨rfl,by omega,by omega,fun e => absurd e hv⟩
 ·rw [if_neg hk]
  unfold upS
  by_cases hv:u = o.value.toNat
  ·rw [if_pos hv,← hv]
   show (s u).1 = (s u).1∧(s u).2 ≤ max (s u).2 (ptO e o + 1)∧max (s u).2 (ptO e o + 1) ≤ max (s u).2 (e + 2)∧(u = u → ptO e o + 1 ≤ max (s u).2 (ptO e o + 1))
   exact ⟨rfl,by omega,by omega,fun _ => by omega⟩
  ·rw [if_neg hv]
   exact ⟨rfl,by omega,by omega,fun e => absurd e.symm hv⟩
theorem oprs_nd {e:Int} {u:Nat}:∀ (os:List Opr) (s:Nat → Sp),NoDef u os → (stOprs e s os u).1 = (s u).1∧(s u).2 ≤ (stOprs e s os u).2∧(stOprs e s os u).2 ≤ max (s u).2 (e + 2)∧∀ o ∈ os,o.value.toNat = u → ptO e o + 1 ≤ (stOprs e s os u).2
 | [],s,_ => ⟨rfl,Int.le_refl _,by show (s u).2 ≤ _; omega,fun o h => by cases h⟩
 | o :: r,s,h => by
  obtain ⟨a1,a2,a3,a4⟩:=opr_nd (e:=e) (s:=s) (h o (by simp))
  obtain ⟨b1,b2,b3,b4⟩:=oprs_nd r (stOpr e s o) fun q hq => h q (List.mem_cons_of_mem _ hq)
  show (stOprs e (stOpr e s o) r u).1 = _∧_ ≤ (stOprs e (stOpr e s o) r u).2∧(stOprs e (stOpr e s o) r u).2 ≤ _∧∀ q ∈ o :: r,q.value.toNat = u → ptO e q + 1 ≤ (stOprs e (stOpr e s o) r u).2
  refine ⟨b1.trans a1,by omega,by omega,fun q hq hv => ?_⟩
  rcases List.mem_cons.1 hq with rfl | hq
  ·have:=a4 hv
   omega
  ·exact b4 q hq hv
theorem oprs_df {e:Int} {u:Nat} (l1 l2:List Opr) (o:Opr) (s:Nat → Sp) (hk:o.kind = 2) (hv:o.value.toNat = u) (h2:NoDef u l2):(stOprs e s (l1 ++ o :: l2) u).1 = ptO e o∧(stOprs e s (l1 ++ o :: l2) u).2 = e + 2:=by
 have e0:stOprs e s (l1 ++ o :: l2) = stOprs e (stOpr e (stOprs e s l1) o) l2:=by
  unfold stOprs
  rw [List.foldl_append]
  rfl
 have e1:stOpr e (stOprs e s l1) o u = (ptO e o,e + 2):=by
  unfold stOpr
  rw [if_pos hk]
  unfold upS
  rw [if_pos hv.symm]
  rfl
 obtain ⟨b1,b2,b3,_⟩:=oprs_nd (e:=e) l2 (stOpr e (stOprs e s l1) o) h2
 rw [e0]
 rw [e1] at b1 b2 b3
 exact ⟨b1,by omega⟩
theorem ins_nd {fst:Int} {s:Nat → Sp} {is:List Ins} {u a:Nat}:∀ k,a ≤ k → k ≤ is.length → (∀ i (h:i < is.length),a ≤ i → i < k → NoDef u is[i].operands) →
  (stIns fst s is k u).1 = (stIns fst s is a u).1∧(stIns fst s is a u).2 ≤ (stIns fst s is k u).2∧(stIns fst s is k u).2 ≤ max (stIns fst s is a u).2 (fst + 1 + 2 * (k:Int))∧∀ i (h:i < is.length),a ≤ i → i < k → ∀ o ∈ is[i].operands,o.value.toNat = u → ptO (fst + 1 + 2 * (i:Int)) o + 1 ≤ (stIns fst s is k u).2
 | 0,h,_,_ => by
  have:a = 0:=by omega
  subst this
  exact ⟨rfl,Int.le_refl _,by omega,fun i _ _ h => by omega⟩
 | k + 1,h,hk,hn => by
  by_cases ea:a = k + 1
  ·subst ea
   exact ⟨rfl,Int.le_refl _,by omega,fun i _ h1 h2 => by omega⟩
  ·obtain ⟨b1,b2,b3,b4⟩:=ins_nd (fst:=fst) (s:=s) (is:=is) (u:=u) (a:=a) k (by omega) (by omega) fun i h1 h2 h3 => hn i h1 h2 (by omega)
   have hkl:k < is.length:=by omega
   obtain ⟨c1,c2,c3,c4⟩:=oprs_nd (e:=fst + 1 + 2 * (k:Int)) is[k].operands (stIns fst s is k) (hn k hkl (by omega) (by omega))
   rw [stIns_succ fst s is k hkl]
   refine ⟨c1.trans b1,by omega,by omega,fun i hi h1 h2 o ho hv => ?_⟩
   by_cases e:i = k
   ·subst e
    exact c4 o ho hv
   ·have:=b4 i hi h1 (by omega) o ho hv
    omega
def DefAt (u:Nat) (is:List Ins) (d:Nat) (o:Opr):Prop:=∃ (h:d < is.length) (l1 l2:List Opr),is[d].operands = l1 ++ o :: l2∧o.kind = 2∧o.value.toNat = u∧NoDef u l2∧∀ i (hi:i < is.length),d < i → NoDef u is[i].operands
theorem ins_df {fst:Int} {s:Nat → Sp} {is:List Ins} {u d:Nat} {o:Opr} (h:DefAt u is d o) :
  (stIns fst s is is.length u).1 = ptO (fst + 1 + 2 * (d:Int)) o∧fst + 1 + 2 * (d:Int) + 2 ≤ (stIns fst s is is.length u).2∧(stIns fst s is is.length u).2 ≤ fst + 1 + 2 * (is.length:Int)∧∀ i (hi:i < is.length),d < i → ∀ q ∈ is[i].operands,q.value.toNat = u → ptO (fst + 1 + 2 * (i:Int)) q + 1 ≤ (stIns fst s is is.length u).2:=by
 obtain ⟨hd,l1,l2,e,hk,hv,h2,hn⟩:=h
 have h1:=oprs_df (e:=fst + 1 + 2 * (d:Int)) l1 l2 o (stIns fst s is d) hk hv h2
 rw [← e,← stIns_succ fst s is d hd] at h1
 obtain ⟨b1,b2,b3,b4⟩:=ins_nd (fst:=fst) (s:=s) (is:=is) (u:=u) (a:=d + 1) is.length (by omega) (Nat.le_refl _) fun i hi h3 _ => hn i hi (by omega)
 exact ⟨b1.trans h1.1,by omega,by omega,fun i hi h3 q hq hqv => b4 i hi (by omega) (by omega) q hq hqv⟩
def InL (l:List Sp) (p:Int):Prop:=∃ x ∈ l,x.1 ≤ p∧p < x.2
theorem joinL_in {l:List Sp} {x:Sp} (hl:∀ y ∈ l,y.1 ≤ y.2) (hx:x.1 ≤ x.2) (p:Int):InL (joinL l x) p ↔ InL l p ∨ (x.1 ≤ p∧p < x.2):=by
 rcases List.eq_nil_or_concat l with rfl | ⟨m,y,rfl⟩
 ·rw [joinL_nil]
  unfold InL
  simp
 ·rw [List.concat_eq_append] at hl ⊢
  rw [joinL_snoc]
  have hy:=hl y (by simp)
  split
  ·rename_i e
   unfold InL
   constructor
   ·rintro ⟨z,hz,h1,h2⟩
    rcases List.mem_append.1 hz with hz | hz
    ·exact Or.inl ⟨z,List.mem_append_left _ hz,h1,h2⟩
    ·rw [List.mem_singleton.1 hz] at h1 h2
     simp only at h1 h2
     by_cases hp:p < y.2
     ·exact Or.inl ⟨y,by simp,h1,hp⟩
     ·exact Or.inr ⟨by omega,h2⟩
   ·rintro (⟨z,hz,h1,h2⟩ | ⟨h1,h2⟩)
    ·rcases List.mem_append.1 hz with hz | hz
     ·exact ⟨z,List.mem_append_left _ hz,h1,h2⟩
     ·rw [List.mem_singleton.1 hz] at h1 h2
      exact ⟨(y.1,x.2),by simp,h1,by simp only; omega⟩
    ·exact ⟨(y.1,x.2),by simp,by simp only; omega,h2⟩
  ·unfold InL
   constructor
   ·rintro ⟨z,hz,h1,h2⟩
    rcases List.mem_append.1 hz with hz | hz
    ·exact Or.inl ⟨z,hz,h1,h2⟩
    ·rw [List.mem_singleton.1 hz] at h1 h2
     exact Or.inr ⟨h1,h2⟩
   ·rintro (⟨z,hz,h1,h2⟩ | ⟨h1,h2⟩)
    ·exact ⟨z,List.mem_append_left _ hz,h1,h2⟩
    ·exact ⟨x,by simp,h1,h2⟩
theorem sub_flat {α β:Type} (f:α → List β):∀ {l:List α} {a:α},a ∈ l → (f a).Sublist (l.flatMap f)
 | [],a,h => by cases h
 | b :: r,a,h => by
  rw [List.flatMap_cons]
  rcases List.mem_cons.1 h with rfl | h
  ·exact List.sublist_append_left _ _
  ·exact (sub_flat f h).trans (List.sublist_append_right _ _)
theorem nodup_flat {α β:Type} (f:α → List β):∀ {l:List α},(l.flatMap f).Nodup → ∀ i j (hi:i < l.length) (hj:j < l.length),i < j → ∀ x ∈ f l[i],x ∉ f l[j]
 | [],_,i,_,hi,_,_ => by simp at hi
 | b :: r,h,0,j + 1,_,hj,_ => fun x hx hy => by
  rw [List.flatMap_cons] at h
  have h1:=(List.nodup_append.1 h).2.2 x hx x (List.mem_flatMap.2 ⟨_,List.getElem_mem (by simpa using hj),by simpa using hy⟩)
  exact h1 rfl
 | b :: r,h,i + 1,j + 1,hi,hj,hij => fun x hx hy => by
  rw [List.flatMap_cons] at h
  exact nodup_flat f (List.nodup_append.1 h).2.1 i j (by simpa using hi) (by simpa using hj) (by omega) x (by simpa using hx) (by simpa using hy)
theorem mem_oprM {os:List Opr} {v:Int}:v ∈ oprM os ↔ ∃ o ∈ os,o.kind = 2∧o.value = v:=by
 unfold oprM
 simp only [List.mem_map,List.mem_filter,decide_eq_true_eq]
 exact ⟨fun ⟨o,⟨h1,h2⟩,h3⟩ => ⟨o,h1,h2,h3⟩,fun ⟨o,h1,h2,h3⟩ => ⟨o,⟨h1,h2⟩,h3⟩⟩
theorem noDef_of {u:Nat} {os:List Opr} (h0:∀ o ∈ os,0 ≤ o.value) (h:(u:Int) ∉ oprM os):NoDef u os:=fun o ho ⟨hk,hv⟩ => h (mem_oprM.2 ⟨o,ho,hk,by have:=h0 o ho; omega⟩)
theorem def_at {is:List Ins} {u:Nat} (h0:∀ x ∈ is,∀ o ∈ x.operands,0 ≤ o.value) (hnd:(insM is).Nodup) {d:Nat} (hd:d < is.length) {o:Opr} (ho:o ∈ is[d].operands) (hk:o.kind = 2) (hv:o.value = u):DefAt u is d o:=by
 obtain ⟨l1,l2,e⟩:=List.append_of_mem ho
 have hsub:(oprM is[d].operands).Sublist (insM is):=sub_flat (fun x:Ins => oprM x.operands) (List.getElem_mem hd)
 have hn1:=hnd.sublist hsub
 refine ⟨hd,l1,l2,e,hk,by omega,noDef_of (fun q hq => h0 _ (List.getElem_mem hd) q (by rw [e]; exact List.mem_append_right _ (List.mem_cons_of_mem _ hq))) (fun hm => ?_),fun i hi hdi => noDef_of (h0 _ (List.getElem_mem hi)) fun hm => ?_⟩
 ·have e2:oprM is[d].operands = oprM l1 ++ o.value :: oprM l2:=by
   rw [e]
   unfold oprM
   rw [List.filter_append,List.filter_cons,if_pos (by simpa using hk),List.map_append,List.map_cons]
  rw [e2] at hn1
  have h3:=(List.nodup_cons.1 (List.nodup_append.1 hn1).2.1).1
  rw [hv] at h3
  exact h3 hm
 ·exact nodup_flat (fun x:Ins => oprM x.operands) hnd d i hd hi hdi u (mem_oprM.2 ⟨o,ho,hk,hv⟩) hm
theorem par_val {fst:Int} {u:Nat}:∀ (ps:List Int) (s:Nat → Sp),(∀ v ∈ ps,0 ≤ v) → stPar fst s ps u = if (u:Int) ∈ ps then (fst,fst + 1) else s u
 | [],s,_ => by simp [stPar]
 | v :: r,s,h0 => by
  have ih:=par_val (fst:=fst) (u:=u) r (upS s v.toNat (fst,fst + 1)) fun q hq => h0 q (List.mem_cons_of_mem _ hq)
  show stPar fst (upS s v.toNat (fst,fst + 1)) r u = _
  rw [ih]
  have hv:=h0 v (by simp)
  by_cases h1:(u:Int) ∈ r
  ·rw [if_pos h1,if_pos (List.mem_cons_of_mem _ h1)]
  ·rw [if_neg h1]
   unfold upS
   by_cases h2:u = v.toNat
   ·rw [if_pos h2,if_pos (by rw [h2,Int.toNat_of_nonneg hv]; simp)]
   ·rw [if_neg h2,if_neg (fun h => by
     rcases List.mem_cons.1 h with h | h
     ·omega
     ·exact h1 h)]
structure StayAt (bs:List Blk) (nv:Nat) (I O:Tb) (k u:Nat):Prop where
 inn:I k u = true ∨ (u:Int) ∈ (blkA bs k).params → (stayM (blkA bs k) I O k nv (startM bs k) u).1 = startM bs k∧startM bs k < (stayM (blkA bs k) I O k nv (startM bs k) u).2
 out:¬ (I k u = true ∨ (u:Int) ∈ (blkA bs k).params) → ¬ ((stayM (blkA bs k) I O k nv (startM bs k) u).1 ≤ startM bs k∧startM bs k < (stayM (blkA bs k) I O k nv (startM bs k) u).2)
 use:∀ i (h:i < (blkA bs k).instrs.length),∀ o ∈ ((blkA bs k).instrs[i]).operands,¬ o.kind = 2 → o.value = u → (stayM (blkA bs k) I O k nv (startM bs k) u).1 ≤ ptO (startM bs k + 1 + 2 * (i:Int)) o∧ptO (startM bs k + 1 + 2 * (i:Int)) o < (stayM (blkA bs k) I O k nv (startM bs k) u).2
 dfn:∀ i (h:i < (blkA bs k).instrs.length),∀ o ∈ ((blkA bs k).instrs[i]).operands,o.kind = 2 → o.value = u → (stayM (blkA bs k) I O k nv (startM bs k) u).1 = ptO (startM bs k + 1 + 2 * (i:Int)) o∧ptO (startM bs k + 1 + 2 * (i:Int)) o < (stayM (blkA bs k) I O k nv (startM bs k) u).2
 fin:((stayM (blkA bs k) I O k nv (startM bs k) u).1 ≤ startM bs k + 1 + 2 * ((blkA bs k).instrs.length:Int)∧startM bs k + 1 + 2 * ((blkA bs k).instrs.length:Int) < (stayM (blkA bs k) I O k nv (startM bs k) u).2) ↔ O k u = true
theorem start_nn (bs:List Blk):∀ k,0 ≤ startM bs k
 | 0 => by simp [startM]
 | k + 1 => by
  by_cases h:k < bs.length
  ·rw [startM_succ bs k h]
   have:=start_nn bs k
   omega
  ·have:startM bs (k + 1) = startM bs k:=by
    unfold startM
    rw [List.take_of_length_le (by omega),List.take_of_length_le (by omega)]
   rw [this]
   exact start_nn bs k
theorem stay_at {f:Fn} {m0 m1:Int} (h:flowE f m0 m1 (f.blocks.length * f.blocks.length + 1) = 0) {I O:Tb} (ht:(∀ b v,v < f.values.length → (I b v = true ↔ NeedIn f.blocks b v))∧∀ b v,v < f.values.length → (O b v = true ↔ NeedOut f.blocks b v)) (k:Nat) (hk:k < f.blocks.length) (u:Nat) (hu:u < f.values.length):StayAt f.blocks f.values.length I O k u:=by
 obtain ⟨hs,hlen,hmade⟩:=flowE_all h
 have S:=shape_in hs
 have hb:=List.getElem_mem hk
 have eb:blkA f.blocks k = f.blocks[k]:=blkA_at hk
 have hnd:=(marks_free _ _ _ S.mks).2
 have hnn:=start_nn f.blocks k
 have hval:∀ x ∈ (blkA f.blocks k).instrs,∀ o ∈ x.operands,0 ≤ o.value∧o.value < f.values.length:=fun x hx o ho => by
  rw [eb] at hx
  exact isValue_bd (instrErr_val (S.ins _ hb x hx) o ho)
 have h0:∀ x ∈ (blkA f.blocks k).instrs,∀ o ∈ x.operands,0 ≤ o.value:=fun x hx o ho => (hval x hx o ho).1
 have hkind:∀ x ∈ (blkA f.blocks k).instrs,∀ o ∈ x.operands,o.kind = 1 ∨ o.kind = 2:=fun x hx => by
  rw [eb] at hx
  exact instrErr_kind (S.ins _ hb x hx)
 have hpar:∀ v ∈ (blkA f.blocks k).params,0 ≤ v:=fun v hv => by
  rw [eb] at hv
  exact (isValue_bd (marks_val _ _ _ S.mks v (mem_all hb (List.mem_append_left _ hv)))).1
 have hmk:(makersOf (blkA f.blocks k)).Nodup:=by
  rw [eb]
  exact hnd.sublist (sub_flat makersOf hb)
 have hni:(insM (blkA f.blocks k).instrs).Nodup:=(List.nodup_append.1 hmk).2.1
 -- what is used was made ahead
 have hahead:∀ i (hil:i < (blkA f.blocks k).instrs.length),∀ o ∈ ((blkA f.blocks k).instrs[i]).operands,¬ o.kind = 2 → o.value = u → (I k u = true ∨ (u:Int) ∈ (blkA f.blocks k).params) ∨ ∃ i' x',i' < i∧(blkA f.blocks k).instrs[i']? = some x'∧(u:Int) ∈ oprM x'.operands:=fun i hil o ho hk2 hv => by
  have hxm:(blkA f.blocks k).instrs[i] ∈ (blkA f.blocks k).instrs:=List.getElem_mem hil
  have hk1:o.kind = 1:=(hkind _ hxm o ho).resolve_right hk2
  by_cases hm:(u:Int) ∈ makersOf (blkA f.blocks k)
  ·rcases List.mem_append.1 hm with hm | hm
   ·exact Or.inl (Or.inr hm)
   ·obtain ⟨i',x',hx',hm'⟩:=insM_at hm
    refine Or.inr ⟨i',x',?_,hx',hm'⟩
    have hsp:=spot_is hnd (by omega) (spU_ins hk hx' hm')
    rw [Int.toNat_natCast] at hsp
    unfold madeL at hmade
    rw [List.all_eq_true] at hmade
    have h1:=hmade k (List.mem_range.2 hk)
    unfold blkOk at h1
    simp only [Bool.and_eq_true,List.all_eq_true,List.mem_range] at h1
    have h2:=h1.1 i hil
    unfold insOk at h2
    rw [List.all_eq_true] at h2
    have h3:=h2 o (by
     show o ∈ (((blkA f.blocks k).instrs).getD i ⟨0,[],[]⟩).operands
     rw [List.getD_eq_getElem?_getD,List.getElem?_eq_getElem hil]; exact ho)
    unfold useOk at h3
    simp only [hk1,BEq.rfl,Bool.not_true,Bool.false_or,hv,Int.toNat_natCast,hsp] at h3
    unfold aheadM at h3
    simp only [if_true,decide_eq_true_eq] at h3
    omega
  ·refine Or.inl (Or.inl ((ht.1 k u hu).2 (.use k u hk hm (Or.inl ?_))))
   refine List.mem_flatMap.2 ⟨_,hxm,?_⟩
   unfold oprU
   exact List.mem_map.2 ⟨o,List.mem_filter.2 ⟨ho,by simp [hk1]⟩,hv⟩
 have hI:I k u = true → (u:Int) ∉ makersOf (blkA f.blocks k):=fun hi => (NeedIn.iff.1 ((ht.1 k u hu).1 hi)).2.1
 have hO:O k u = true → (u:Int) ∈ makersOf (blkA f.blocks k) ∨ I k u = true:=fun ho => by
  by_cases hm:(u:Int) ∈ makersOf (blkA f.blocks k)
  ·exact Or.inl hm
  ·exact Or.inr ((ht.1 k u hu).2 (NeedIn.iff.2 ⟨hk,hm,Or.inr ((ht.2 k u hu).1 ho)⟩))
 obtain ⟨is,his⟩:∃ is,(blkA f.blocks k).instrs = is:=⟨_,rfl⟩
 obtain ⟨fst,hfst⟩:∃ fst,startM f.blocks k = fst:=⟨_,rfl⟩
 obtain ⟨s1,hs1⟩:∃ s1,stPar fst (stIn I k fst f.values.length) (blkA f.blocks k).params = s1:=⟨_,rfl⟩
 have es1:s1 u = if I k u = true ∨ (u:Int) ∈ (blkA f.blocks k).params then (fst,fst + 1) else (0,0):=by
  rw [← hs1,par_val _ _ hpar]
  unfold stIn
  by_cases h1:(u:Int) ∈ (blkA f.blocks k).params
  ·rw [if_pos h1,if_pos (Or.inr h1)]
  ·rw [if_neg h1]
   by_cases h2:I k u = true
   ·rw [if_pos ⟨hu,h2⟩,if_pos (Or.inl h2)]
   ·rw [if_neg (fun h => h2 h.2),if_neg (fun h => h.elim h2 h1)]
 have est:stayM (blkA f.blocks k) I O k f.values.length (startM f.blocks k) u = if O k u = true then ((stIns fst s1 is is.length u).1,max (stIns fst s1 is is.length u).2 (fst + 1 + 2 * (is.length:Int) + 1)) else stIns fst s1 is is.length u:=by
  unfold stayM stOut stMid
  rw [his,hfst,hs1]
  by_cases h2:O k u = true
  ·rw [if_pos ⟨hu,h2⟩,if_pos h2]
  ·rw [if_neg (fun h => h2 h.2),if_neg h2]
 have hlenI:(0:Int) ≤ (is.length:Int):=by omega
 obtain ⟨s,hsS⟩:∃ s,stIns fst s1 is is.length u = s:=⟨_,rfl⟩
 by_cases hm:(u:Int) ∈ insM (blkA f.blocks k).instrs
 ·-- made by an instruction
  obtain ⟨d,x,hx,hmx⟩:=insM_at hm
  obtain ⟨hd,hdx⟩:=List.getElem?_eq_some_iff.1 hx
  obtain ⟨o,ho,hk2,hv⟩:=mem_oprM.1 hmx
  rw [← hdx] at ho
  have hDA:=def_at h0 hni hd ho hk2 hv
  have hnotin:¬ (I k u = true ∨ (u:Int) ∈ (blkA f.blocks k).params):=by
   rintro (h1 | h1)
   ·exact hI h1 (List.mem_append_right _ hm)
   ·exact (List.nodup_append.1 hmk).2.2 u h1 u hm rfl
  rw [his] at hDA
  obtain ⟨g1,g2,g3,g4⟩:=ins_df (fst:=fst) (s:=s1) hDA
  rw [hsS] at g1 g2 g3 g4 est
  have hp:=ptO_bd (fst + 1 + 2 * (d:Int)) o
  have hdl:d < is.length:=by rw [← his]; exact hd
  have uniq:∀ i (hi:i < (blkA f.blocks k).instrs.length),∀ q ∈ ((blkA f.blocks k).instrs[i]).operands,q.kind = 2 → q.value = u → i = d∧ptO (fst + 1 + 2 * (i:Int)) q = s.1:=fun i hi q hq hk3 hv3 => by
   have hDB:=def_at h0 hni hi hq hk3 hv3
   rw [his] at hDB
   have g5:=(ins_df (fst:=fst) (s:=s1) hDB).1
   rw [hsS] at g5
   refine ⟨?_,g5.symm⟩
   rcases Nat.lt_trichotomy i d with h1 | h1 | h1
   ·exact absurd (mem_oprM.2 ⟨o,ho,hk2,hv⟩) (nodup_flat (fun x:Ins => oprM x.operands) hni i d hi hd h1 u (mem_oprM.2 ⟨q,hq,hk3,hv3⟩))
   ·exact h1
   ·exact absurd (mem_oprM.2 ⟨q,hq,hk3,hv3⟩) (nodup_flat (fun x:Ins => oprM x.operands) hni d i hd hi h1 u (mem_oprM.2 ⟨o,ho,hk2,hv⟩))
  have stv:(stayM (blkA f.blocks k) I O k f.values.length (startM f.blocks k) u).1 = s.1∧s.2 ≤ (stayM (blkA f.blocks k) I O k f.values.length (startM f.blocks k) u).2:=by
   rw [est]
   split
   ·exact ⟨rfl,by simp only; omega⟩
   ·exact ⟨rfl,Int.le_refl _⟩
  refine ⟨fun h1 => absurd h1 hnotin,fun _ h1 => ?_,fun i hi q hq hk3 hv3 => ?_,fun i hi q hq hk3 hv3 => ?_,?_⟩
  ·rw [stv.1,hfst] at h1
   omega
  ·rcases hahead i hi q hq hk3 hv3 with h1 | ⟨i',x',hi',hx',hm'⟩
   ·exact absurd h1 hnotin
   ·obtain ⟨hil',hix'⟩:=List.getElem?_eq_some_iff.1 hx'
    obtain ⟨q',hq',hk',hv'⟩:=mem_oprM.1 hm'
    rw [← hix'] at hq'
    obtain ⟨ed,_⟩:=uniq i' hil' q' hq' hk' hv'
    have hdi:d < i:=by omega
    have hil:i < is.length:=by rw [← his]; exact hi
    have hq2:q ∈ is[i].operands:=by
     have e:(blkA f.blocks k).instrs[i] = is[i]:=by simp only [his]
     rw [← e]; exact hq
    have g5:=g4 i hil hdi q hq2 (by omega)
    have hp2:=ptO_bd (fst + 1 + 2 * (i:Int)) q
    rw [stv.1,hfst]
    have:=stv.2
    rw [hfst] at this
    omega
  ·obtain ⟨_,e2⟩:=uniq i hi q hq hk3 hv3
   rw [stv.1,hfst]
   have h5:=stv.2
   rw [hfst] at h5
   refine ⟨e2.symm,?_⟩
   rw [e2]
   omega
  ·rw [his,hfst] at *
   rw [est]
   constructor
   ·intro h1
    apply Classical.byContradiction
    intro h2
    rw [if_neg h2] at h1
    omega
   ·intro h1
    rw [if_pos h1]
    exact ⟨by simp only; omega,by simp only; omega⟩
 ·-- not made by an instruction
  have hnD:∀ i (hi:i < is.length),NoDef u is[i].operands:=fun i hi => by
   have e:(blkA f.blocks k).instrs[i]'(by rw [his]; exact hi) = is[i]:=by simp only [his]
   rw [← e]
   exact noDef_of (h0 _ (List.getElem_mem _)) fun h1 => hm (List.mem_flatMap.2 ⟨_,List.getElem_mem _,h1⟩)
  obtain ⟨g1,g2,g3,g4⟩:=ins_nd (fst:=fst) (s:=s1) (is:=is) (u:=u) (a:=0) is.length (Nat.zero_le _) (Nat.le_refl _) fun i hi _ _ => hnD i hi
  have e0:stIns fst s1 is 0 u = s1 u:=rfl
  rw [e0] at g1 g2 g3
  rw [hsS] at g1 g2 g3 g4 est
  have nodefu:∀ i (hi:i < (blkA f.blocks k).instrs.length),∀ q ∈ ((blkA f.blocks k).instrs[i]).operands,q.kind = 2 → ¬ q.value = u:=fun i hi q hq hk3 hv3 => hm (List.mem_flatMap.2 ⟨_,List.getElem_mem hi,mem_oprM.2 ⟨q,hq,hk3,hv3⟩⟩)
  have stv:(stayM (blkA f.blocks k) I O k f.values.length (startM f.blocks k) u).1 = s.1∧s.2 ≤ (stayM (blkA f.blocks k) I O k f.values.length (startM f.blocks k) u).2:=by
   rw [est]
   split
   ·exact ⟨rfl,by simp only; omega⟩
   ·exact ⟨rfl,Int.le_refl _⟩
  by_cases hin:I k u = true ∨ (u:Int) ∈ (blkA f.blocks k).params
  ·rw [if_pos hin] at es1
   rw [es1] at g1 g2 g3
   simp only at g1 g2 g3
   refine ⟨fun _ => ?_,fun h1 => absurd hin h1,fun i hi q hq hk3 hv3 => ?_,fun i hi q hq hk3 hv3 => absurd hv3 (nodefu i hi q hq hk3),?_⟩
   ·have h5:=stv.2
    rw [stv.1,hfst]
    rw [hfst] at h5
    omega
   ·have hil:i < is.length:=by rw [← his]; exact hi
    have hq2:q ∈ is[i].operands:=by
     have e:(blkA f.blocks k).instrs[i] = is[i]:=by simp only [his]
     rw [← e]; exact hq
    have g5:=g4 i hil (Nat.zero_le _) hil q hq2 (by omega)
    have hp2:=ptO_bd (fst + 1 + 2 * (i:Int)) q
    have h5:=stv.2
    rw [stv.1,hfst]
    rw [hfst] at h5
    omega
   ·rw [his,hfst] at *
    rw [est]
    constructor
    ·intro h1
     apply Classical.byContradiction
     intro h2
     rw [if_neg h2] at h1
     omega
    ·intro h1
     rw [if_pos h1]
     exact ⟨by simp only; omega,by simp only; omega⟩
  ·rw [if_neg hin] at es1
   rw [es1] at g1 g2 g3
   simp only at g1 g2 g3
   have hno:∀ i (hi:i < (blkA f.blocks k).instrs.length),∀ q ∈ ((blkA f.blocks k).instrs[i]).operands,¬ q.kind = 2 → ¬ q.value = u:=fun i hi q hq hk3 hv3 => by
    rcases hahead i hi q hq hk3 hv3 with h1 | ⟨i',x',hi',hx',hm'⟩
    ·exact hin h1
    ·exact hm (List.mem_flatMap.2 ⟨x',(List.getElem?_eq_some_iff.1 hx').2 ▸ List.getElem_mem _,hm'⟩)
   have hnO:¬ O k u = true:=fun h1 => by
    rcases hO h1 with h2 | h2
    ·rcases List.mem_append.1 h2 with h3 | h3
     ·exact hin (Or.inr h3)
     ·exact hm h3
    ·exact hin (Or.inl h2)
   have hs2:s = (0,0):=by
    have hz:∀ j,j ≤ is.length → stIns fst s1 is j u = (0,0):=fun j => by
     induction j with
     | zero => intro _; rw [e0,es1]
     | succ j ih =>
      intro hj
      have hjl:j < is.length:=by omega
      rw [stIns_succ fst s1 is j hjl]
      have key:∀ (l:List Opr) (t:Nat → Sp),(∀ o ∈ l,¬ o.value.toNat = u) → stOprs (fst + 1 + 2 * (j:Int)) t l u = t u:=fun l => by
       induction l with
       | nil => intro t _; rfl
       | cons o r ihr =>
        intro t hl
        show stOprs _ (stOpr _ t o) r u = t u
        rw [ihr _ fun q hq => hl q (List.mem_cons_of_mem _ hq)]
        have h6:=hl o (by simp)
        unfold stOpr
        split <;> (unfold upS; rw [if_neg (fun e => h6 e.symm)])
      rw [key _ _ fun o ho hv => ?_]
      ·exact ih (by omega)
      ·have e:(blkA f.blocks k).instrs[j]'(by rw [his]; exact hjl) = is[j]:=by simp only [his]
       rw [← e] at ho
       have hvo:=h0 _ (List.getElem_mem _) o ho
       by_cases hk4:o.kind = 2
       ·exact nodefu j _ o ho hk4 (by omega)
       ·exact hno j _ o ho hk4 (by omega)
    rw [← hsS]
    exact hz _ (Nat.le_refl _)
   rw [if_neg hnO,hs2] at est
   refine ⟨fun h1 => absurd h1 hin,fun _ h1 => ?_,fun i hi q hq hk3 hv3 => absurd hv3 (hno i hi q hq hk3),fun i hi q hq hk3 hv3 => absurd hv3 (nodefu i hi q hq hk3),?_⟩
   ·rw [est,hfst] at h1
    simp only at h1
    omega
   ·rw [est,hfst,his]
    constructor
    ·intro h1
     simp only at h1
     omega
    ·intro h1
     exact absurd h1 hnO
theorem spans_in {bs:List Blk} {nv:Nat} {I O:Tb} (h:StIn bs nv I O) (v:Nat) (hv:v < nv) (p:Int):∀ k,k ≤ bs.length → (InL (spansM bs nv I O k v) p ↔ ∃ b,b < k∧(stayM (blkA bs b) I O b nv (startM bs b) v).1 ≤ p∧p < (stayM (blkA bs b) I O b nv (startM bs b) v).2)
 | 0,_ => ⟨fun ⟨x,hx,_⟩ => (by cases hx),fun ⟨b,hb,_⟩ => (by omega)⟩
 | k + 1,hk => by
  have ih:=spans_in h v hv p k (by omega)
  have ha:=(spans_aprt h v hv k (by omega)).1
  have hpos:∀ y ∈ spansM bs nv I O k v,y.1 ≤ y.2:=fun y hy => by
   have aux:∀ {l:List Sp},Aprt l → ∀ y ∈ l,y.1 ≤ y.2:=fun {l} => by
    induction l with
    | nil => intro _ y hy; cases hy
    | cons a r ih2 =>
     intro hl y hy
     cases r with
     | nil =>
      rw [List.mem_singleton.1 hy]
      exact Int.le_of_lt hl
     | cons b t =>
      rcases List.mem_cons.1 hy with rfl | hy
      ·exact Int.le_of_lt hl.1
      ·exact ih2 hl.2.2 y hy
   exact aux ha y hy
  simp only [spansM,stepL]
  split
  ·rename_i hlt
   rw [joinL_in hpos (by omega),ih]
   constructor
   ·rintro (⟨b,hb,h1⟩ | h1)
    ·exact ⟨b,by omega,h1⟩
    ·exact ⟨k,by omega,h1⟩
   ·rintro ⟨b,hb,h1⟩
    by_cases e:b = k
    ·subst e; exact Or.inr h1
    ·exact Or.inl ⟨b,by omega,h1⟩
  ·rename_i hlt
   rw [ih]
   constructor
   ·rintro ⟨b,hb,h1⟩
    exact ⟨b,by omega,h1⟩
   ·rintro ⟨b,hb,h1⟩
    by_cases e:b = k
    ·subst e; omega
    ·exact ⟨b,by omega,h1⟩
theorem start_le {bs:List Blk}:∀ {a b:Nat},a ≤ b → b ≤ bs.length → startM bs a ≤ startM bs b
 | a,0,h,_ => by rw [show a = 0 by omega]; exact Int.le_refl _
 | a,b + 1,h,hb => by
  by_cases e:a = b + 1
  ·rw [e]; exact Int.le_refl _
  ·exact Int.le_trans (start_le (a:=a) (b:=b) (by omega) (by omega)) (start_mono b (by omega))
theorem spans_blk {bs:List Blk} {nv:Nat} {I O:Tb} (h:StIn bs nv I O) (v:Nat) (hv:v < nv) (k:Nat) (hk:k < bs.length) (p:Int) (h1:startM bs k ≤ p) (h2:p < startM bs (k + 1)):InL (spansM bs nv I O bs.length v) p ↔ ((stayM (blkA bs k) I O k nv (startM bs k) v).1 ≤ p∧p < (stayM (blkA bs k) I O k nv (startM bs k) v).2):=by
 rw [spans_in h v hv p bs.length (Nat.le_refl _)]
 constructor
 ·rintro ⟨b,hb,h3⟩
  have hB:=h b hb v hv (by omega)
  have e:b = k:=by
   rcases Nat.lt_trichotomy b k with e | e | e
   ·have:=start_le (bs:=bs) (a:=b + 1) (b:=k) (by omega) (by omega)
    omega
   ·exact e
   ·have:=start_le (bs:=bs) (a:=k + 1) (b:=b) (by omega) (by omega)
    omega
  subst e
  exact h3
 ·exact fun h3 => ⟨k,hk,h3⟩
def RSn (cs:List Value) (x:Sp):Prop:=cs = cS x
theorem own_spans {w:World} {base e n:Nat} {v:Value} (l:List Sp) (h:w.ownsRow base e 2 v n (l.flatMap cS)) (hn:n ≤ longest):SlOf w 2 RSn v l:=own_sl (k:=2) cS (fun _ => rfl) (by decide) (fun _ => rfl) l h hn
theorem PSp.spans {w:World} {R nv:Nat} {vs:Nat → Value} {T:Nat → List Sp} (h:PSp w R nv vs T) (i:Nat) (hi:i < nv) (hl:(T i).length ≤ 100000):∃ a c,vs i = .slice a (T i).length c∧SlOf w 2 RSn (.slice a (T i).length c) (T i):=by
 have h1:=h.own i hi
 have h2:=own_spans (T i) h1 (by unfold longest; omega)
 obtain ⟨a,c,e,_⟩:=h2
 exact ⟨a,c,e,e ▸ own_spans (T i) h1 (by unfold longest; omega)⟩
theorem spn_cells {w:World} {a:Option Addr} {n c:Nat} {l:List Sp} (h:SlOf w 2 RSn (.slice a n c) l) (i:Nat) (hi:i < l.length):∃ b off,a = some ⟨b,off,none⟩∧b < w.heap.size∧w.cell? ⟨b,off + i * 2,none⟩ = some (.int .i64 l[i].1)∧w.cell? ⟨b,off + i * 2 + 1,none⟩ = some (.int .i64 l[i].2):=by
 obtain ⟨b,off,cs,h1,h2,h3,h4⟩:=h.at i hi
 unfold RSn at h3
 subst h3
 exact ⟨b,off,h1,block_lt (h4 0 (by simp [cS])),h4 0 (by simp [cS]),h4 1 (by simp [cS])⟩
def inB (l:List Sp) (p:Int):Bool:=l.any fun s => decide (s.1 ≤ p) && decide (p < s.2)
theorem inB_iff (l:List Sp) (p:Int):inB l p = true ↔ InL l p:=by
 unfold inB InL
 simp [List.any_eq_true]
theorem inB_take (l:List Sp) (p:Int) (j:Nat) (hj:j < l.length):inB (l.take (j + 1)) p = (inB (l.take j) p || (decide (l[j].1 ≤ p) && decide (p < l[j].2))):=by
 unfold inB
 rw [List.take_succ_eq_append_getElem hj,List.any_append]
 simp
set_option maxHeartbeats 4000000 in
theorem needed_any (a1:Option Addr) (n1 c1:Nat) (l1:List Sp) (p:Int) (w:World) (h1:SlOf w 2 RSn (.slice a1 n1 c1) l1) (e1:l1.length = n1) (b1:n1 ≤ 100000) :
  Calls Try.prog 9 #[.slice a1 n1 c1,.int .i64 p] w fun e w' => e = .returned (.bool (inB l1 p))∧Below w.heap.size w w':=by
 have HD:Hid (SlOf w 2 RSn (.slice a1 n1 c1) l1∧l1.length = n1):=⟨h1,e1⟩
 clear h1 e1
 go_enter Try.func9,Try.ntmps9
 go_wp2_with fail
 go_loopw [4,9] (fun r i wr => ∃ k:Nat,r = .bool false∧k ≤ n1∧i = .int .i64 k∧Hid (Below w.heap.size w wr∧inB (l1.take k) p = false)) (fun _ i _ => n1 - (intOf i).toNat)
 case atStart => exact ⟨0,rfl,Nat.zero_le _,rfl,Below.refl _ _,rfl⟩
 case round =>
  obtain ⟨k,rfl,hk,rfl,HJ⟩:=hrel
  by_cases hkn:k < n1
  ·have hkl:k < l1.length:=by rw [HD.out.2]; exact hkn
   obtain ⟨bb,ob,rfl,lb,x0,x1⟩:=spn_cells HD.out.1 k hkl
   have y0:=(HJ.out.1.cell (p:=⟨bb,ob + k * 2,none⟩) lb).trans x0
   have y1:=(HJ.out.1.cell (p:=⟨bb,ob + k * 2 + 1,none⟩) lb).trans x1
   have hmt:=inB_take l1 p k hkl
   obtain ⟨s,hs⟩:∃ s,l1[k] = s:=⟨_,rfl⟩
   have hsm:s ∈ l1:=by rw [← hs]; exact List.getElem_mem hkl
   rw [hs] at y0 y1 hmt
   obtain ⟨s1,hs1⟩:∃ x,s.1 = x:=⟨_,rfl⟩
   obtain ⟨s2,hs2⟩:∃ x,s.2 = x:=⟨_,rfl⟩
   rw [hs1] at y0 hmt
   rw [hs2] at y1 hmt
   have hb6:Below w.heap.size w (wr.alloc (.cells #[.int .i64 s1,.int .i64 s2] 71)):=HJ.out.1.alloc HJ.out.1.size _
   have d1:(k:Int) < (n1:Int):=by omega
   have d2:k < n1 + 1:=by omega
   have HB6:Hid (Below w.heap.size w (wr.alloc (.cells #[.int .i64 s1,.int .i64 s2] 71))):=hb6
   by_cases q1:s1 ≤ p
   ·by_cases q2:p < s2
    ·have HE:Hid (inB l1 p = true):=(inB_iff _ _).2 ⟨s,hsm,by omega,by omega⟩
     have q1':decide (p ≥ s1) = true:=by simpa using q1
     clear hmt hs hsm hs1 hs2 hb6 HJ
     go_wp2
     go_ret
     exact ⟨by rw [HE.out]; rfl,HB6.out⟩
    ·have HN:Hid (inB (l1.take (k + 1)) p = false):=by
      show _ = _
      rw [hmt,HJ.out.2]
      simp only [Bool.false_or,Bool.and_eq_false_iff,decide_eq_false_iff_not]
      right; omega
     have q1':decide (p ≥ s1) = true:=by simpa using q1
     clear hmt hs hsm hs1 hs2 hb6 HJ
     go_wp2
     go_roundw
     case rel => exact ⟨k + 1,rfl,by omega,by go_num,HB6.out,HN.out⟩
     case measure => simp [intOf]; omega
   ·have HN:Hid (inB (l1.take (k + 1)) p = false):=by
     show _ = _
     rw [hmt,HJ.out.2]
     simp only [Bool.false_or,Bool.and_eq_false_iff,decide_eq_false_iff_not]
     left; omega
    have q1':decide (p ≥ s1) = false:=by simpa using q1
    clear hmt hs hsm hs1 hs2 hb6 HJ
    go_wp2
    go_roundw
    case rel => exact ⟨k + 1,rfl,by omega,by go_num,HB6.out,HN.out⟩
    case measure => simp [intOf]; omega
  ·have HE:Hid (inB l1 p = false∧Below w.heap.size w wr):=by
    have h:=HJ.out
    rw [List.take_of_length_le (by have:=HD.out.2; omega)] at h
    exact ⟨h.2,h.1⟩
   clear HJ
   go_wp2
   go_ret
   exact ⟨by rw [HE.out.1]; rfl,HE.out.2⟩
end Go.Proofs.Ytglfpnnfcpnmoaa
