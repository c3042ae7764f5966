/-
  Groups as they lie in memory; the contract of 'parts.join'.
-/
import Derived.Test.YtdlnofjmonpmgaaG3
import Derived.Test.YtdlnofjmonpmgaaV15
import Derived.Deep.DeepCutAuto
import Derived.Deep.CutBlock
namespace Go.Proofs.Ytdlnofjmonpmgaa
open Go.RowKit
set_option linter.unusedVariables false
structure GW (w:World) (L R nv:Nat) (vs:Nat → Value) (T:Nat → List Sp) (q:Nat → Nat):Prop where
 lea:w.rowIs L 3 nv (fun i => .int .i64 (q i))
 psp:PSp w R nv vs T
 lr:L ≠ R
 off:∀ i g,i < nv → (vs i).ownBlock = some g → g ≠ L
def LR (L R:Nat) (k:Nat):Prop:=k = L ∨ k = R
theorem GW.below {w w':World} {L R nv:Nat} {vs:Nat → Value} {T:Nat → List Sp} {q:Nat → Nat} (h:GW w L R nv vs T q) (hb:Below w.heap.size w w'):GW w' L R nv vs T q :=
 ⟨h.lea.of_block (hb.block _ h.lea.lt),h.psp.below hb,h.lr,h.off⟩
theorem GW.congr {w:World} {L R nv:Nat} {vs:Nat → Value} {T:Nat → List Sp} {q q':Nat → Nat} (h:GW w L R nv vs T q) (e:∀ i,i < nv → q i = q' i):GW w L R nv vs T q' :=
 ⟨h.lea.congr fun i hi => by show Value.int .i64 (q i) = _; rw [e i hi],h.psp,h.lr,h.off⟩
theorem GW.setL {w:World} {L R nv:Nat} {vs:Nat → Value} {T:Nat → List Sp} {q:Nat → Nat} (h:GW w L R nv vs T q) (i:Nat) (u:Nat):GW (w.setCell ⟨L,i,none⟩ (.int .i64 u)) L R nv vs T (fun j => if j = i then u else q j) :=
 ⟨(h.lea.set i (.int .i64 u)).congr fun j _ => by show (if j = i then Value.int .i64 u else _) = _; split <;> rfl,
  ⟨h.psp.row.setOther (fun e => h.lr e.symm) _,fun j hj => own_keep (h.psp.own j hj) fun g hg _ _ => Below.heap_setCell _ _ _ _ fun e => h.off j g hj hg e,h.psp.apart⟩,h.lr,h.off⟩
theorem PSp.spans {w:World} {R nv:Nat} {vs:Nat → Value} {T:Nat → List Sp} (h:PSp w R nv vs T) (i:Nat) (hi:i < nv) (hl:(T i).length ≤ 100000):∃ a c,vs i = .slice a (T i).length c∧SlOf w 2 RSn (.slice a (T i).length c) (T i):=by
 have h1:=h.own i hi
 have h2:=own_spans (T i) h1 (by unfold longest; omega)
 obtain ⟨a,c,e,_⟩:=h2
 exact ⟨a,c,e,e ▸ own_spans (T i) h1 (by unfold longest; omega)⟩
theorem grMeet_symm (nv:Nat) (S:Nat → List Sp) (q:Nat → Nat) (a b:Nat) (h:grMeet nv S q a b):grMeet nv S q b a:=by
 obtain ⟨x,y,hx,hy,e1,e2,h3⟩:=h
 exact ⟨y,x,hy,hx,e2,e1,by rw [meetL_symm]; exact h3⟩
theorem grMeet_mm (nv:Nat) (S:Nat → List Sp) (q:Nat → Nat) (a b:Nat):grMeet nv S q (min a b) (max a b) ↔ grMeet nv S q a b:=by
 rcases Nat.le_total a b with h | h
 ·rw [Nat.min_eq_left h,Nat.max_eq_right h]
 ·rw [Nat.min_eq_right h,Nat.max_eq_left h]
  exact ⟨grMeet_symm _ _ _ _ _,grMeet_symm _ _ _ _ _⟩
set_option maxRecDepth 4000 in
set_option maxHeartbeats 8000000 in
theorem join_any {S:Nat → List Sp} {w:World} {L R nv:Nat} {vs:Nat → Value} {T:Nat → List Sp} {q:Nat → Nat} (k:GW w L R nv vs T q) (inv:GInv nv S q T) (hpos:∀ v,v < nv → Pos (S v)) (hne:∀ v,v < nv → S v ≠ []) (hlen:∀ v,v < nv → (S v).length ≤ 16) (hnv:nv ≤ 160) (v u:Nat) (hv:v < nv) (hu:u < nv) :
  Calls Try.prog 35 #[.agg #[.slice (some ⟨L,0,none⟩) nv nv,.slice (some ⟨R,0,none⟩) nv nv],.int .i64 v,.int .i64 u] w fun e w' => e = .returned (.tuple #[])∧∃ vs' T',GW w' L R nv vs' T' (joinG nv S q v u)∧GInv nv S (joinG nv S q v u) T'∧Tch (LR L R) w w':=by
 obtain ⟨W,hW⟩:∃ W,W = w.alloc (.cells #[.slice (some ⟨L,0,none⟩) nv nv,.slice (some ⟨R,0,none⟩) nv nv] 68):=⟨_,rfl⟩
 obtain ⟨X,hX⟩:∃ X,w.heap.size = X:=⟨_,rfl⟩
 have hbw:Below w.heap.size w W:=by rw [hW]; exact (Below.refl _ _).alloc (Nat.le_refl _) _
 have x0:W.cell? ⟨X,0,none⟩ = some (.slice (some ⟨L,0,none⟩) nv nv):=by rw [hW,← hX]; simp
 have x1:W.cell? ⟨X,1,none⟩ = some (.slice (some ⟨R,0,none⟩) nv nv):=by rw [hW,← hX]; simp
 have lX:X < W.heap.size:=by rw [hW,← hX]; simp
 have kW:=k.below hbw
 have lL:L < X:=by rw [← hX]; exact k.lea.lt
 have lR:R < X:=by rw [← hX]; exact k.psp.row.lt
 have HW:Hid (W = w.alloc (.cells #[.slice (some ⟨L,0,none⟩) nv nv,.slice (some ⟨R,0,none⟩) nv nv] 68)):=hW
 have HK:Hid (GW W L R nv vs T q∧Tch (LR L R) w W∧L < X∧R < X):=⟨kW,Tch.of hbw,lL,lR⟩
 have y1:W.cell? ⟨L,v,none⟩ = some (.int .i64 (q v)):=kW.lea.cell hv
 have y2:W.cell? ⟨L,u,none⟩ = some (.int .i64 (q u)):=kW.lea.cell hu
 have hqv:=inv.le v hv
 have hqu:=inv.le u hu
 have HQ:Hid (q v ≤ v∧q u ≤ u):=⟨hqv,hqu⟩
 have d1:(v:Int) < (nv:Int):=by omega
 have d2:(u:Int) < (nv:Int):=by omega
 have d3:v < nv + 1:=by omega
 have d4:u < nv + 1:=by omega
 clear hW hbw kW k lL lR hqv hqu
 go_enter Try.func35,Try.ntmps35
 go_upto_region 1 with fail
 rw [← HW.out]
 --CUT1
 go_quiet (fail)
 obtain ⟨W2,hW2⟩:∃ W2,W2 = W.drewN nq:=⟨_,rfl⟩
 have hb2:Below W.heap.size W W2:=by rw [hW2]; exact below_drwN (Below.refl _ _) _
 rw [← hW2]
 clear hW2 x0 y1 y2 d1 d2 d3 d4
 obtain ⟨lo,hlo⟩:∃ lo:Nat,lo = min (q v) (q u):=⟨_,rfl⟩
 obtain ⟨hi,hhi⟩:∃ hi:Nat,hi = max (q v) (q u):=⟨_,rfl⟩
 have e1:min (q v:Int) (q u:Int) = (lo:Int):=by omega
 have e2:max (q v:Int) (q u:Int) = (hi:Int):=by omega
 rw [e1,e2]
 have k2:=HK.out.1.below hb2
 have z0:W2.cell? ⟨X,0,none⟩ = some (.slice (some ⟨L,0,none⟩) nv nv):=(hb2.cell (p:=⟨X,0,none⟩) lX).trans (by rw [HW.out,← hX]; simp)
 have z1:W2.cell? ⟨X,1,none⟩ = some (.slice (some ⟨R,0,none⟩) nv nv):=(hb2.cell (p:=⟨X,1,none⟩) lX).trans x1
 have lX2:X < W2.heap.size:=Nat.lt_of_lt_of_le lX hb2.size
 have HK2:Hid (GW W2 L R nv vs T q∧Tch (LR L R) w W2∧L < X∧R < X):=⟨k2,HK.out.2.1.trans (Tch.of hb2),HK.out.2.2⟩
 have hlv:lo < nv∧hi < nv:=by have:=HQ.out; omega
 have HQ2:Hid (lo = min (q v) (q u)∧hi = max (q v) (q u)):=⟨hlo,hhi⟩
 have HX:Hid (w.heap.size = X):=hX
 clear x1 lX hb2 HK HW hX k2 hlo hhi e1 e2
 by_cases hlh:lo = hi
 ·have HE:Hid (GW W2 L R nv vs T (joinG nv S q v u)∧GInv nv S (joinG nv S q v u) T∧Tch (LR L R) w W2):=by
   have e:q v = q u:=by have:=HQ2.out; omega
   have h2:=inv.same (v:=v) (w:=u) (Or.inl e)
   refine ⟨?_,h2,HK2.out.2.1⟩
   have:joinG nv S q v u = q:=by unfold joinG; rw [if_pos (Or.inl e)]
   rw [this]
   exact HK2.out.1
  have e0:((lo:Int) == (hi:Int)) = true:=by simp; omega
  subst hlh
  clear HQ2 HQ
  go_wp2
  first | go_end0 | refine bodyPost_ret (results_none rfl _ _ _) rfl ?_
  exact ⟨rfl,_,_,HE.out⟩
 ·have hnq:q v ≠ q u:=fun e => hlh (by have:=HQ2.out; omega)
  have qlo:q lo = lo:=by
   have h:=HQ2.out
   rcases Nat.le_total (q v) (q u) with h1 | h1
   ·rw [show lo = q v by omega]; exact inv.idem v hv
   ·rw [show lo = q u by omega]; exact inv.idem u hu
  have qhi:q hi = hi:=by
   have h:=HQ2.out
   rcases Nat.le_total (q v) (q u) with h1 | h1
   ·rw [show hi = q u by omega]; exact inv.idem u hu
   ·rw [show hi = q v by omega]; exact inv.idem v hv
  have hc:∀ g,g < nv → q g = g → (T g).length ≤ 2560:=fun g hg hq => by
   rw [inv.len g hg hq]
   have:=cntG_le S q g 16 nv hlen
   omega
  have h1lo:=hc lo hlv.1 qlo
  have h1hi:=hc hi hlv.2 qhi
  obtain ⟨alo,clo,elo,slo⟩:=HK2.out.1.psp.spans lo hlv.1 (by omega)
  obtain ⟨ahi,chi,ehi,shi⟩:=HK2.out.1.psp.spans hi hlv.2 (by omega)
  have zlo:W2.cell? ⟨R,lo,none⟩ = some (.slice alo (T lo).length clo):=(HK2.out.1.psp.row.cell hlv.1).trans (by rw [elo])
  have zhi:W2.cell? ⟨R,hi,none⟩ = some (.slice ahi (T hi).length chi):=(HK2.out.1.psp.row.cell hlv.2).trans (by rw [ehi])
  have hpl:0 < (T lo).length:=by
   obtain ⟨x,hx⟩:=List.exists_mem_of_ne_nil _ (hne lo hlv.1)
   exact List.length_pos_of_mem ((inv.mem lo hlv.1 qlo x).2 ⟨lo,hlv.1,qlo,hx⟩)
  have hdr:Below W2.heap.size W2 W2.drew:=(Below.refl _ _).drew
  have HO:=ordered_any alo ahi (T lo).length (T hi).length clo chi (T lo) (T hi) W2.drew (slo.below hdr fun _ _ h => h) (shi.below hdr fun _ _ h => h) rfl rfl (by omega) (by omega) hpl
  have HPO:Hid (Pos (T lo)∧Pos (T hi)∧(T lo).Pairwise Clear∧(T hi).Pairwise Clear):=⟨inv.pos hpos hlv.1 qlo,inv.pos hpos hlv.2 qhi,inv.apart lo hlv.1 qlo,inv.apart hi hlv.2 qhi⟩
  have HQL:Hid (q lo = lo∧q hi = hi):=⟨qlo,qhi⟩
  have lR:R < W2.heap.size:=HK2.out.1.psp.row.lt
  obtain ⟨nlo,hnlo⟩:∃ n,(T lo).length = n:=⟨_,rfl⟩
  obtain ⟨nhi,hnhi⟩:∃ n,(T hi).length = n:=⟨_,rfl⟩
  rw [hnlo,hnhi] at HO
  rw [hnlo] at h1lo hpl zlo
  rw [hnhi] at h1hi zhi
  have HSF:Hid (∀ w',Below W2.heap.size W2 w' → (fun w' => w'.cell? ⟨X,1,none⟩ = some (.slice (some ⟨R,0,none⟩) nv nv)∧w'.cell? ⟨R,lo,none⟩ = some (.slice alo nlo clo)∧w'.cell? ⟨R,hi,none⟩ = some (.slice ahi nhi chi)∧Below W2.heap.size W2 w') w'):=fun w' hh => ⟨(hh.cell (p:=⟨X,1,none⟩) lX2).trans z1,(hh.cell (p:=⟨R,lo,none⟩) lR).trans zlo,(hh.cell (p:=⟨R,hi,none⟩) lR).trans zhi,hh⟩
  have HNL:Hid ((T lo).length = nlo∧(T hi).length = nhi):=⟨hnlo,hnhi⟩
  have e0:((lo:Int) == (hi:Int)) = false:=by simp; omega
  have d1:(lo:Int) < (nv:Int):=by omega
  have d2:(hi:Int) < (nv:Int):=by omega
  have d3:lo < nv + 1:=by omega
  have d4:hi < nv + 1:=by omega
  have HLH:Hid (¬ lo = hi):=hlh
  have d5:((lo:Int) = (hi:Int)) = False:=by simp; omega
  clear hc elo ehi slo shi hnlo hnhi hdr qlo qhi
  go_upto_region 3 with fail
  --CUT2
  refine wp_region_X (fun w' => w'.cell? ⟨X,1,none⟩ = some (.slice (some ⟨R,0,none⟩) nv nv)∧w'.cell? ⟨R,lo,none⟩ = some (.slice alo nlo clo)∧w'.cell? ⟨R,hi,none⟩ = some (.slice ahi nhi chi)∧Below W2.heap.size W2 w') 99 (by kernel_rfl) (HSF.out _ ((Below.refl _ _).drew)) (fun hHeld => ?_)
  refine wpXt (v:=?_) 0 rfl (by kernel_rfl) (fun _ _ _ h => h) (by rfl) ?_ hHeld ?_
  rotate_left
  ·intro w' hSw
   go_simp <;> with_reducible rfl
  try simp only [Act.put,sqa,sqb,sqc]
  refine wpXt (v:=?_) 1 rfl (by kernel_rfl) (fun _ _ _ h => h) (by rfl) ?_ hHeld ?_
  rotate_left
  ·intro w' hSw
   go_simp <;> with_reducible rfl
  try simp only [Act.put,sqa,sqb,sqc]
  refine wpXt (v:=?_) 2 rfl (by kernel_rfl) (fun _ _ _ h => h) (by rfl) ?_ hHeld ?_
  rotate_left
  ·intro w' hSw
   go_simp <;> with_reducible rfl
  try simp only [Act.put,sqa,sqb,sqc]
  refine wpXt (v:=?_) 3 rfl (by kernel_rfl) (fun _ _ _ h => h) (by rfl) ?_ hHeld ?_
  rotate_left
  ·intro w' hSw
   go_simp <;> with_reducible rfl
  try simp only [Act.put,sqa,sqb,sqc]
  refine wpXt (v:=?_) 4 rfl (by kernel_rfl) (fun _ _ _ h => h) (by rfl) ?_ hHeld ?_
  rotate_left
  ·intro w' hSw
   go_simp <;> with_reducible rfl
  try simp only [Act.put,sqa,sqb,sqc]
  refine wpXt (v:=?_) 5 rfl (by kernel_rfl) (fun _ _ _ h => h) (by rfl) ?_ hHeld ?_
  rotate_left
  ·intro w' hSw
   go_simp <;> with_reducible rfl
  try simp only [Act.put,sqa,sqb,sqc]
  refine wpXt (v:=?_) 6 rfl (by kernel_rfl) (fun _ _ _ h => h) (by rfl) ?_ hHeld ?_
  rotate_left
  ·intro w' hSw
   go_simp <;> with_reducible rfl
  try simp only [Act.put,sqa,sqb,sqc]
  refine wpXt (v:=?_) 7 rfl (by kernel_rfl) (fun _ _ _ h => h) (by rfl) ?_ hHeld ?_
  rotate_left
  ·intro w' hSw
   go_simp <;> with_reducible rfl
  try simp only [Act.put,sqa,sqb,sqc]
  refine wpXt (v:=?_) 8 rfl (by kernel_rfl) (fun _ _ _ h => h) (by rfl) ?_ hHeld ?_
  rotate_left
  ·intro w' hSw
   go_simp <;> with_reducible rfl
  try simp only [Act.put,sqa,sqb,sqc]
  refine wpXt (v:=?_) 9 rfl (by kernel_rfl) (fun _ _ _ h => h) (by rfl) ?_ hHeld ?_
  rotate_left
  ·intro w' hSw
   go_simp <;> with_reducible rfl
  try simp only [Act.put,sqa,sqb,sqc]
  --CUTr
  refine wpXs 10 rfl (by kernel_rfl) (fun K hK => ?_)
  go_simp
  refine HO.mono ?_
  clear HO
  rintro e w3 ⟨g,cap,l',rfl,hp,ha,ho,hb3⟩
  have hdr2:Hid (Below W2.heap.size W2 W2.drew):=(Below.refl _ _).drew
  refine hK.out _ _ (HSF.out _ (hdr2.out.trans hb3)) (fun hHeld => ?_)
  clear hK K
  try simp only [Act.put,sqa,sqb,sqc]
  refine wpXs 11 rfl (by kernel_rfl) (fun K hK => ?_)
  go_simp
  refine hK.out _ _ hHeld (fun hHeld => ?_)
  clear hK K
  try simp only [Act.put,sqa,sqb,sqc]
  refine wpAnyX_done (by kernel_rfl) ?_ _
  have hb3':Below W2.heap.size W2 w3:=hdr2.out.trans hb3
  have HL3:Hid (l'.Perm (T lo ++ T hi)∧Asc l'∧w3.ownsRow W2.heap.size 80 2 (.slice (some ⟨g,0,none⟩) (nlo + nhi) cap) (nlo + nhi) (l'.flatMap cS)∧Below W2.heap.size W2 w3):=⟨hp,ha,ho,hb3'⟩
  have hll:l'.length = nlo + nhi:=by
   rw [hp.length_eq,List.length_append,HNL.out.1,HNL.out.2]
  have HOV:=overlap_any l' (nlo + nhi) g cap W2.heap.size w3 ho hll (by omega)
  have cst:((nlo + nhi:Nat):Int) = (nlo:Int) + nhi:=by omega
  have HM:Hid (Side l' ↔ meetL (T lo) (T hi) = false):=side_iff hp ha HPO.out.1 HPO.out.2.1 HPO.out.2.2.1 HPO.out.2.2.2
  clear hp ha ho hb3 hb3' hdr2 cst
  --CUT3
  go_wp2_with fail
  refine HOV.mono ?_
  clear HOV
  rintro e w4 ⟨b,rfl,hb,hb4⟩
  have hb24:Below W2.heap.size W2 w4:=HL3.out.2.2.2.trans (hb4.mono HL3.out.2.2.2.size)
  have HGM:Hid (meetL (T lo) (T hi) = true ↔ grMeet nv S q (q v) (q u)):=by
   have h:=inv.meets hlv.1 hlv.2 HQL.out.1 HQL.out.2
   rw [h,HQ2.out.1,HQ2.out.2]
   exact grMeet_mm nv S q (q v) (q u)
  cases b
  ·have HSD:Hid (Side l'):=hb.1 rfl
   have hgl:W2.heap.size ≤ g:=(own_base HL3.out.2.2.1 (g:=g) rfl).1
   have ho4:w4.ownsRow W2.heap.size 80 2 (.slice (some ⟨g,0,none⟩) (nlo + nhi) cap) (nlo + nhi) (l'.flatMap cS):=own_keep HL3.out.2.2.1 fun b' _ _ hlt => hb4.block b' hlt
   have hgr:W2.grownBy w4 (vs lo).ownBlock:=⟨hb24.os,hb24.tape,hb24.output,hb24.size,fun b' hb' _ => hb24.block b' hb'⟩
   have hP:=HK2.out.1.psp.join (t:=lo) (wa:=W2) (w1:=w4) (l':=l') (v':=.slice (some ⟨g,0,none⟩) (nlo + nhi) cap) hlv.1 (Below.refl _ _) hgr (by rw [hll]; exact own_mono ho4 (by omega)) (Or.inr ⟨g,rfl,hgl⟩)
   have k4:=HK2.out.1.below hb24
   have fR:w4.frozen? ⟨R,lo,none⟩ = false:=k4.psp.row.frozen lo
   have zR4:=(hb24.cell (p:=⟨R,lo,none⟩) lR).trans zlo
   have z04:=(hb24.cell (p:=⟨X,0,none⟩) lX2).trans z0
   have z14:=(hb24.cell (p:=⟨X,1,none⟩) lX2).trans z1
   have lX4:X < w4.heap.size:=Nat.lt_of_lt_of_le lX2 hb24.size
   obtain ⟨vs5,hvs5⟩:∃ vs5:Nat → Value,vs5 = fun i => if i = lo then .slice (some ⟨g,0,none⟩) (nlo + nhi) cap else vs i:=⟨_,rfl⟩
   obtain ⟨T5,hT5⟩:∃ T5:Nat → List Sp,T5 = fun i => if i = lo then l' else T i:=⟨_,rfl⟩
   obtain ⟨W5,hW5⟩:∃ W5,W5 = w4.setCell ⟨R,lo,none⟩ (.slice (some ⟨g,0,none⟩) (nlo + nhi) cap):=⟨_,rfl⟩
   rw [← hvs5,← hT5,← hW5] at hP
   have lXR:=HK2.out.2.2
   have hst:∀ (b':Nat),b' ≠ R → W5.heap[b']? = w4.heap[b']?:=fun b' hb' => by rw [hW5]; exact Below.heap_setCell _ _ _ _ hb'
   have k5:GW W5 L R nv vs5 T5 q:=by
    refine ⟨k4.lea.of_block (hst L k4.lr),hP,k4.lr,fun i g' hi hg' => ?_⟩
    rw [hvs5] at hg'
    by_cases e:i = lo
    ·simp only [e,if_true,Value.ownBlock] at hg'
     simp only [Option.some.injEq] at hg'
     omega
    ·simp only [e,if_false] at hg'
     exact k4.off i g' hi hg'
   have z05:W5.cell? ⟨X,0,none⟩ = some (.slice (some ⟨L,0,none⟩) nv nv):=(World.cell?_of_block (a:=⟨X,0,none⟩) (hst X (by omega))).trans z04
   have tc5:Tch (LR L R) w W5:=by
    rw [hW5]
    exact (HK2.out.2.1.trans (Tch.of hb24)).setCell (p:=⟨R,lo,none⟩) (Or.inr rfl) _
   have hin:GInv nv S (joinG nv S q v u) T5:=by
    have h:=inv.union (v:=v) (w:=u) hv hu (fun e => HLH.out (by have:=HQ2.out; omega)) (fun h => by
     have h1:=HGM.out.2 h
     rw [HM.out.1 HSD.out] at h1
     cases h1) l' (fun x => by rw [← HQ2.out.1,← HQ2.out.2,HL3.out.1.mem_iff,List.mem_append]) (side_clear (fun x hx => by
      rcases List.mem_append.1 (HL3.out.1.mem_iff.1 hx) with h | h
      ·exact HPO.out.1 x h
      ·exact HPO.out.2.1 x h) HSD.out) (by rw [← HQ2.out.1,← HQ2.out.2,HL3.out.1.length_eq,List.length_append])
    rw [← HQ2.out.1] at h
    rw [hT5]
    exact h
   have hjg:∀ i,joinG nv S q v u i = if q i = hi then lo else q i:=fun i => by
    have h:¬ (q v = q u ∨ grMeet nv S q (q v) (q u)):=by
     rintro (h | h)
     ·exact HLH.out (by have:=HQ2.out; omega)
     ·have h1:=HGM.out.2 h
      rw [HM.out.1 HSD.out] at h1
      cases h1
    unfold joinG
    rw [if_neg h]
    unfold uniG
    rw [← HQ2.out.1,← HQ2.out.2]
   have H5:Hid (GW W5 L R nv vs5 T5 q∧Tch (LR L R) w W5∧GInv nv S (joinG nv S q v u) T5∧(∀ i,joinG nv S q v u i = if q i = hi then lo else q i)∧X < W5.heap.size∧W5.cell? ⟨X,0,none⟩ = some (.slice (some ⟨L,0,none⟩) nv nv)∧X ≠ L∧X ≠ R):=⟨k5,tc5,hin,hjg,by rw [hW5]; simpa [World.setCell] using lX4,z05,by omega,by omega⟩
   have HW5:Hid (W5 = w4.setCell ⟨R,lo,none⟩ (.slice (some ⟨g,0,none⟩) (nlo + nhi) cap)):=hW5
   clear hb hb24 HSD hgl ho4 hgr hP k4 hvs5 hT5 hW5 lXR hst k5 tc5 hin hjg hb4 z0 z1 zlo zhi HSF HM HGM HL3 HPO lX2 lR hll hpl h1lo h1hi
   go_upto_region 6 with fail
   --CUT4
   rw [← HW5.out]
   clear HW5 z04 z14 zR4 fR lX4
   go_wp2_with fail
   clear z05
   --CUT5
   go_loopw [57] (fun i wr => ∃ j:Nat,j ≤ nv∧i = .int .i64 j∧Hid (GW wr L R nv vs5 T5 (fun i => if i < j∧q i = hi then lo else q i)∧Tch (LR L R) W5 wr)) (fun i _ => nv - (intOf i).toNat)
   case atStart => exact ⟨0,Nat.zero_le _,rfl,H5.out.1.congr fun i hi => by rw [if_neg (by omega)],Tch.refl _ _⟩
   case round =>
    obtain ⟨j,hj,rfl,HJ⟩:=hrel
    by_cases hjn:j < nv
    ·have yj:wr.cell? ⟨L,j,none⟩ = some (.int .i64 (q j)):=(HJ.out.1.lea.cell hjn).trans (by rw [if_neg (by omega)])
     have z6:wr.cell? ⟨X,0,none⟩ = some (.slice (some ⟨L,0,none⟩) nv nv):=(World.cell?_of_block (a:=⟨X,0,none⟩) (HJ.out.2.block X H5.out.2.2.2.2.1 (fun h => by rcases h with h | h; exact H5.out.2.2.2.2.2.2.1 h; exact H5.out.2.2.2.2.2.2.2 h))).trans H5.out.2.2.2.2.2.1
     have fL:wr.frozen? ⟨L,j,none⟩ = false:=HJ.out.1.lea.frozen j
     have dj:(j:Int) < (nv:Int):=by omega
     have dj2:j < nv + 1:=by omega
     obtain ⟨x,hx⟩:∃ x,q j = x:=⟨_,rfl⟩
     rw [hx] at yj
     have HXJ:Hid (q j = x):=hx
     clear hx
     by_cases hxh:x = hi
     ·have HN:Hid (GW (wr.setCell ⟨L,j,none⟩ (.int .i64 lo)) L R nv vs5 T5 (fun i => if i < j + 1∧q i = hi then lo else q i)∧Tch (LR L R) W5 (wr.setCell ⟨L,j,none⟩ (.int .i64 lo))):=by
       refine ⟨(HJ.out.1.setL j lo).congr fun i hi' => ?_,HJ.out.2.setCell (p:=⟨L,j,none⟩) (Or.inl rfl) _⟩
       have hxj:=HXJ.out
       by_cases e:i = j
       ·subst e
        rw [if_pos rfl,if_pos ⟨by omega,by omega⟩]
       ·rw [if_neg e]
        by_cases e2:i < j∧q i = hi
        ·rw [if_pos e2,if_pos ⟨by omega,e2.2⟩]
        ·rw [if_neg e2,if_neg fun h => e2 ⟨by omega,h.2⟩]
      have ex:((x:Int) == (hi:Int)) = true:=by simp; omega
      subst hxh
      clear HJ HXJ
      go_wp2
      go_roundw
      case rel => exact ⟨j + 1,by omega,by go_num,HN⟩
      case measure => simp [intOf]; omega
     ·have HN:Hid (GW wr L R nv vs5 T5 (fun i => if i < j + 1∧q i = hi then lo else q i)∧Tch (LR L R) W5 wr):=by
       refine ⟨HJ.out.1.congr fun i hi' => ?_,HJ.out.2⟩
       have hxj:=HXJ.out
       by_cases e:i = j
       ·subst e
        rw [if_neg (by omega),if_neg (by omega)]
       ·by_cases e2:i < j∧q i = hi
        ·rw [if_pos e2,if_pos ⟨by omega,e2.2⟩]
        ·rw [if_neg e2,if_neg fun h => e2 ⟨by omega,h.2⟩]
      have ex:((x:Int) == (hi:Int)) = false:=by simp; omega
      have ex2:((x:Int) = (hi:Int)) = False:=by simp; omega
      clear HJ HXJ
      go_wp2
      go_roundw
      case rel => exact ⟨j + 1,by omega,by go_num,HN⟩
      case measure => simp [intOf]; omega
    ·have HE:Hid (GW wr L R nv vs5 T5 (joinG nv S q v u)∧GInv nv S (joinG nv S q v u) T5∧Tch (LR L R) w wr):=by
      refine ⟨HJ.out.1.congr fun i hi' => ?_,H5.out.2.2.1,H5.out.2.1.trans HJ.out.2⟩
      rw [H5.out.2.2.2.1 i]
      by_cases e:q i = hi
      ·rw [if_pos e,if_pos ⟨by omega,e⟩]
      ·rw [if_neg e,if_neg fun h => e h.2]
     clear HJ
     go_wp2
     first | go_end0 | refine bodyPost_ret (results_none rfl _ _ _) rfl ?_
     exact ⟨rfl,_,_,HE.out⟩
  ·have HE:Hid (GW w4 L R nv vs T (joinG nv S q v u)∧GInv nv S (joinG nv S q v u) T∧Tch (LR L R) w w4):=by
    have e:grMeet nv S q (q v) (q u):=by
     refine HGM.out.1 ?_
     cases hm:meetL (T lo) (T hi)
     ·have:=hb.2 (HM.out.2 hm)
      cases this
     ·rfl
    have h2:=inv.same (v:=v) (w:=u) (Or.inr e)
    have h3:joinG nv S q v u = q:=by unfold joinG; rw [if_pos (Or.inr e)]
    refine ⟨by rw [h3]; exact HK2.out.1.below hb24,h2,HK2.out.2.1.trans (Tch.of hb24)⟩
   clear hb hb24 HM HGM HL3
   go_wp2
   first | go_end0 | refine bodyPost_ret (results_none rfl _ _ _) rfl ?_
   exact ⟨rfl,_,_,HE.out⟩
end Go.Proofs.Ytdlnofjmonpmgaa
