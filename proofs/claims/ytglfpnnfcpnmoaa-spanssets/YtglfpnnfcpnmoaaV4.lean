/-
  The contract of 'mark': what a block needs by itself, and what it makes.
-/
import Derived.Test.YtglfpnnfcpnmoaaV3
import Derived.Test.YtglfpnnfcpnmoaaF3
import Derived.Test.YtglfpnnfcpnmoaaA5
namespace Go.Proofs.Ytglfpnnfcpnmoaa
open Go.RowKit
set_option linter.unusedVariables false
structure MrS (w0:World) (X r1 r2 r3 n nv:Nat) (vp vi ve:Value) (w:World) (I O M:Tb):Prop where
 nd:NdS w r1 r2 r3 n nv I O M
 bn:w.rowIs X 67 3 (fun q => if q = 0 then .slice (some ⟨r1,0,none⟩) n n else if q = 1 then .slice (some ⟨r2,0,none⟩) n n else .slice (some ⟨r3,0,none⟩) n n)
 bb:w.rowIs (X + 1) 40 3 (fun q => if q = 0 then vp else if q = 1 then vi else ve)
 tc:Tch (TS r1 r2 r3 n) w0 w
 far:r3 + n < X
theorem MrS.call {w0:World} {X r1 r2 r3 n nv:Nat} {vp vi ve:Value} {w w':World} {I O M I' O' M':Tb} (h:MrS w0 X r1 r2 r3 n nv vp vi ve w I O M) (h2:NdS w' r1 r2 r3 n nv I' O' M') (t:Tch (TS r1 r2 r3 n) w w'):MrS w0 X r1 r2 r3 n nv vp vi ve w' I' O' M' :=
 ⟨h2,t.row h.bn (by have:=h.far; have:=h.nd.a12; have:=h.nd.a23; unfold TS; omega),t.row h.bb (by have:=h.far; have:=h.nd.a12; have:=h.nd.a23; unfold TS; omega),h.tc.trans t,h.far⟩
theorem MrS.below {w0:World} {X r1 r2 r3 n nv:Nat} {vp vi ve:Value} {w w':World} {I O M:Tb} (h:MrS w0 X r1 r2 r3 n nv vp vi ve w I O M) (hb:Below w.heap.size w w'):MrS w0 X r1 r2 r3 n nv vp vi ve w' I O M:=h.call (h.nd.below hb) (Tch.of hb)
theorem MrS.upM {w0:World} {X r1 r2 r3 n nv:Nat} {vp vi ve:Value} {w:World} {I O M:Tb} (h:MrS w0 X r1 r2 r3 n nv vp vi ve w I O M) (b v:Nat) (hb:b < n):MrS w0 X r1 r2 r3 n nv vp vi ve (w.setCell ⟨r3 + 1 + b,v,none⟩ (.bool true)) I O (upT M b v):=by
 have h1:=h.nd.a12
 have h2:=h.nd.a23
 exact h.call (h.nd.upM b v hb) ((Tch.refl _ _).setCell (by unfold TS; simp; omega) _)
def BlkIn (nv:Nat) (x:Blk):Prop:=(∀ v ∈ x.params,0 ≤ v∧v < (nv:Int))∧(∀ i ∈ x.instrs,∀ o ∈ i.operands,0 ≤ o.value∧o.value < (nv:Int))∧∀ e ∈ x.edges,∀ v ∈ e.args,0 ≤ v∧v < (nv:Int)
theorem insM_take (l:List Ins) (i:Nat) (h:i < l.length):insM (l.take (i + 1)) = insM (l.take i) ++ oprM l[i].operands:=by
 unfold insM
 rw [List.take_succ_eq_append_getElem h,List.flatMap_append]
 simp
theorem insU_take (l:List Ins) (i:Nat) (h:i < l.length):insU (l.take (i + 1)) = insU (l.take i) ++ oprU l[i].operands:=by
 unfold insU
 rw [List.take_succ_eq_append_getElem h,List.flatMap_append]
 simp
theorem argsU_take (l:List Edg) (i:Nat) (h:i < l.length):argsU (l.take (i + 1)) = argsU (l.take i) ++ l[i].args:=by
 unfold argsU
 rw [List.take_succ_eq_append_getElem h,List.flatMap_append]
 simp
theorem oprM_take (l:List Opr) (j:Nat) (h:j < l.length):oprM (l.take (j + 1)) = if l[j].kind = 2 then oprM (l.take j) ++ [l[j].value] else oprM (l.take j):=by
 unfold oprM
 rw [List.take_succ_eq_append_getElem h,List.filter_append,List.map_append]
 split <;> rename_i hk <;> simp [hk]
theorem oprU_take (l:List Opr) (j:Nat) (h:j < l.length):oprU (l.take (j + 1)) = if l[j].kind = 1 then oprU (l.take j) ++ [l[j].value] else oprU (l.take j):=by
 unfold oprU
 rw [List.take_succ_eq_append_getElem h,List.filter_append,List.map_append]
 split <;> rename_i hk <;> simp [hk]
set_option maxRecDepth 4000 in
set_option maxHeartbeats 8000000 in
theorem lmark_any (n nv r1 r2 r3:Nat) (I O M:Tb) (b:Nat) (x:Blk) (ap ai ae:Option Addr) (np ni ne cp ci ce:Nat) (wb w:World) (h:NdS w r1 r2 r3 n nv I O M) (hwb:Below wb.heap.size wb w) (hB:wb.heap.size ≤ r1)
  (hnp:x.params.length = np) (hni:x.instrs.length = ni) (hne:x.edges.length = ne) (hp:SlOf wb 1 RInt (.slice ap np cp) x.params) (hi:SlOf wb 3 (RIns wb) (.slice ai ni ci) x.instrs) (he:SlOf wb 2 (REdg wb) (.slice ae ne ce) x.edges) (hd:BlkIn nv x) (hb:b < n) (hn:n ≤ 1000) (hnv:nv ≤ 1000) :
  Calls Try.prog 29 #[.agg #[.slice (some ⟨r1,0,none⟩) n n,.slice (some ⟨r2,0,none⟩) n n,.slice (some ⟨r3,0,none⟩) n n],.int .i64 b,.agg #[.slice ap np cp,.slice ai ni ci,.slice ae ne ce]] w fun e w' => e = .returned (.tuple #[])∧NdS w' r1 r2 r3 n nv (orN (orL M b (makersOf x)) I b (insU x.instrs ++ argsU x.edges)) (orL O b (argsU x.edges)) (orL M b (makersOf x))∧Tch (TS r1 r2 r3 n) w w':=by
 subst hnp hni hne
 obtain ⟨ps,is,es⟩:=x
 simp only [makersOf] at hp hi he ⊢
 obtain ⟨_,_,_,lp⟩:=hp.out
 obtain ⟨_,_,_,li⟩:=hi.out
 obtain ⟨_,_,_,le⟩:=he.out
 unfold longest at lp li le
 obtain ⟨W,hW⟩:∃ W,W = (w.alloc (.cells #[.slice (some ⟨r1,0,none⟩) n n,.slice (some ⟨r2,0,none⟩) n n,.slice (some ⟨r3,0,none⟩) n n] 67)).alloc (.cells #[.slice ap ps.length cp,.slice ai is.length ci,.slice ae es.length ce] 40):=⟨_,rfl⟩
 obtain ⟨X,hX⟩:∃ X,w.heap.size = X:=⟨_,rfl⟩
 have hst:MrS w X r1 r2 r3 n nv (.slice ap ps.length cp) (.slice ai is.length ci) (.slice ae es.length ce) W I O M:=by
  have q0:=World.rowIs_alloc w #[.slice (some ⟨r1,0,none⟩) n n,.slice (some ⟨r2,0,none⟩) n n,.slice (some ⟨r3,0,none⟩) n n] 67 (fun q => if q = 0 then .slice (some ⟨r1,0,none⟩) n n else if q = 1 then .slice (some ⟨r2,0,none⟩) n n else .slice (some ⟨r3,0,none⟩) n n) fun i hi => by
   simp at hi
   match i,hi with | 0,_ => rfl | 1,_ => rfl | 2,_ => rfl
  have q1:=World.rowIs_alloc (w.alloc (.cells #[.slice (some ⟨r1,0,none⟩) n n,.slice (some ⟨r2,0,none⟩) n n,.slice (some ⟨r3,0,none⟩) n n] 67)) #[.slice ap ps.length cp,.slice ai is.length ci,.slice ae es.length ce] 40 (fun q => if q = 0 then .slice ap ps.length cp else if q = 1 then .slice ai is.length ci else .slice ae es.length ce) fun i hi => by
   simp at hi
   match i,hi with | 0,_ => rfl | 1,_ => rfl | 2,_ => rfl
  have e:(w.alloc (.cells #[.slice (some ⟨r1,0,none⟩) n n,.slice (some ⟨r2,0,none⟩) n n,.slice (some ⟨r3,0,none⟩) n n] 67)).heap.size = X + 1:=by simp [hX]
  rw [e] at q1
  rw [hX] at q0
  have hbW:Below w.heap.size w W:=by rw [hW]; exact ((Below.refl _ _).alloc (Nat.le_refl _) _).alloc (by simp) _
  refine ⟨h.below hbW,?_,?_,Tch.of hbW,by rw [← hX]; exact h.tm.hi⟩
  ·rw [hW]; exact q0.alloc _
  ·rw [hW]; exact q1
 have HW:Hid (W = (w.alloc (.cells #[.slice (some ⟨r1,0,none⟩) n n,.slice (some ⟨r2,0,none⟩) n n,.slice (some ⟨r3,0,none⟩) n n] 67)).alloc (.cells #[.slice ap ps.length cp,.slice ai is.length ci,.slice ae es.length ce] 40)):=hW
 have HX:Hid (w.heap.size = X):=hX
 have HS0:Hid (MrS w X r1 r2 r3 n nv (.slice ap ps.length cp) (.slice ai is.length ci) (.slice ae es.length ce) W I O M):=hst
 have HLOW:Hid (∀ w',Tch (TS r1 r2 r3 n) w w' → Below wb.heap.size wb w'):=fun w' t => t.below hwb (fun k hk => by have h1:=h.a12; have h2:=h.a23; unfold TS at hk; omega) hwb.size
 have HPS:Hid (SlOf wb 1 RInt (.slice ap ps.length cp) ps):=hp
 have HIS:Hid (SlOf wb 3 (RIns wb) (.slice ai is.length ci) is):=hi
 have HES:Hid (SlOf wb 2 (REdg wb) (.slice ae es.length ce) es):=he
 have HDP:Hid (∀ v ∈ ps,0 ≤ v∧v < (nv:Int)):=hd.1
 have HDI:Hid (∀ i ∈ is,∀ o ∈ i.operands,0 ≤ o.value∧o.value < (nv:Int)):=hd.2.1
 have HDE:Hid (∀ e ∈ es,∀ v ∈ e.args,0 ≤ v∧v < (nv:Int)):=hd.2.2
 have d0:W.cell? ⟨X + 1,0,none⟩ = some (.slice ap ps.length cp):=hst.bb.cell (i:=0) (by omega)
 clear hW hX hst h hwb hB hp hi he hd
 go_enter Try.func29,Try.ntmps29
 go_upto_region 1 with fail
 rw [← HW.out,HX.out]
 clear HW
 go_wp2_with fail
 clear d0
 go_loopw [23] (fun i wr => ∃ j:Nat,j ≤ ps.length∧i = .int .i64 j∧Hid (MrS w X r1 r2 r3 n nv (.slice ap ps.length cp) (.slice ai is.length ci) (.slice ae es.length ce) wr I O (orL M b (ps.take j)))) (fun i _ => ps.length - (intOf i).toNat)
 case atStart => exact ⟨0,Nat.zero_le _,rfl,by rw [List.take_zero,orL_nil]; exact HS0⟩
 case round =>
  clear HS0
  obtain ⟨j,hj,rfl,HI⟩:=hrel
  by_cases hjl:j < ps.length
  ·obtain ⟨b6,off6,rfl,hb6,hc6⟩:=ints_at HPS.out j (by omega) (by omega)
   have e:ps.getD (j:Int).toNat 0 = ps[j]:=by simp [List.getD,hjl]
   rw [e,Int.toNat_natCast] at hc6
   have f0:=((HLOW.out _ HI.out.tc).cell (p:=⟨b6,off6 + j,none⟩) hb6).trans hc6
   have hvr:=HDP.out ps[j] (List.getElem_mem hjl)
   have HT:Hid (orL M b (ps.take (j + 1)) = upT (orL M b (ps.take j)) b ps[j].toNat):=by show _ = _; rw [List.take_succ_eq_append_getElem hjl]; exact orL_snoc _ _ _ _ hvr.1
   clear e hc6 hb6
   generalize ps[j] = v at *
   obtain ⟨V,rfl⟩:∃ V:Nat,v = V:=⟨v.toNat,by omega⟩
   rw [Int.toNat_natCast] at HT
   have v1:V < nv:=by omega
   have HN:Hid (MrS w X r1 r2 r3 n nv (.slice (some ⟨b6,off6,none⟩) ps.length cp) (.slice ai is.length ci) (.slice ae es.length ce) (wr.setCell ⟨r3 + 1 + b,V,none⟩ (.bool true)) I O (orL M b (ps.take (j + 1)))):=by
    show MrS _ _ _ _ _ _ _ _ _ _ _ _ _ _
    rw [HT.out]
    exact HI.out.upM b V hb
   have d2:wr.cell? ⟨X,2,none⟩ = some (.slice (some ⟨r3,0,none⟩) n n):=HI.out.bn.cell (i:=2) (by omega)
   have m1:wr.cell? ⟨r3,b,none⟩ = some (.slice (some ⟨r3 + 1 + b,0,none⟩) nv nv):=HI.out.nd.tm.row.cell hb
   have m2:=(HI.out.nd.tm.rows b hb).cell v1
   have z2:=(HI.out.nd.tm.rows b hb).frozen V
   clear hvr HI HT
   go_wp2
   go_roundw
   case rel => exact ⟨j + 1,by omega,by go_num,HN⟩
   case measure => simp [intOf]; omega
  ·have HJ:Hid (MrS w X r1 r2 r3 n nv (.slice ap ps.length cp) (.slice ai is.length ci) (.slice ae es.length ce) wr I O (orL M b ps)):=by
    have h:=HI.out
    rw [show ps.take j = ps from List.take_of_length_le (by omega)] at h
    exact h
   have x1:wr.cell? ⟨X + 1,1,none⟩ = some (.slice ai is.length ci):=HJ.out.bb.cell (i:=1) (by omega)
   clear HI
   go_wp2_with fail
   clear x1
   go_loopw [38] (fun i wr => ∃ i':Nat,i' ≤ is.length∧i = .int .i64 i'∧Hid (MrS w X r1 r2 r3 n nv (.slice ap ps.length cp) (.slice ai is.length ci) (.slice ae es.length ce) wr I O (orL M b (ps ++ insM (is.take i'))))) (fun i _ => is.length - (intOf i).toNat)
   case atStart => exact ⟨0,Nat.zero_le _,rfl,by simpa [insM] using HJ⟩
   case round =>
    clear HJ
    obtain ⟨i,hi,rfl,HI⟩:=hrel
    by_cases hil:i < is.length
    ·obtain ⟨b7,off7,cs,rfl,hcl7,⟨vo,vs,rfl,hvo,hvs⟩,hc⟩:=HIS.out.at i hil
     obtain ⟨ao,co,rfl,lo⟩:=hvo.out
     obtain ⟨asp,cs',rfl,_⟩:=hvs.out
     unfold longest at lo
     have hb0:=HLOW.out _ HI.out.tc
     have c0:=(hb0.cell (p:=⟨b7,off7 + i * 3 + 0,none⟩) (block_lt (hc 0 (by simp)))).trans (hc 0 (by simp))
     have c1:=(hb0.cell (p:=⟨b7,off7 + i * 3 + 1,none⟩) (block_lt (hc 1 (by simp)))).trans (hc 1 (by simp))
     have c2:=(hb0.cell (p:=⟨b7,off7 + i * 3 + 2,none⟩) (block_lt (hc 2 (by simp)))).trans (hc 2 (by simp))
     simp at c0 c1 c2
     have hdi:=HDI.out is[i] (List.getElem_mem hil)
     have HSI:Hid (insM (is.take (i + 1)) = insM (is.take i) ++ oprM is[i].operands):=insM_take is i hil
     clear hc hcl7 hvs
     generalize is[i].op = op at *
     generalize is[i].spoils.length = ns at *
     generalize is[i].operands = os at *
     have HOS:Hid (SlOf wb 5 ROpr (.slice ao os.length co) os):=hvo
     have HDO:Hid (∀ o ∈ os,0 ≤ o.value∧o.value < (nv:Int)):=hdi
     have HI2:Hid (MrS w X r1 r2 r3 n nv (.slice ap ps.length cp) (.slice (some ⟨b7,off7,none⟩) is.length ci) (.slice ae es.length ce) (wr.alloc (.cells #[.int .i64 op,.slice ao os.length co,.slice asp ns cs'] 44)) I O (orL M b (ps ++ insM (is.take i)))):=HI.out.below ((Below.refl _ _).alloc (Nat.le_refl _) _)
     clear hvo hdi hb0 HI
     go_wp2_with fail
     obtain ⟨wc,hwc⟩:∃ wc,wc = wr.alloc (.cells #[.int .i64 op,.slice ao os.length co,.slice asp ns cs'] 44):=⟨_,rfl⟩
     rw [← hwc] at HI2 ⊢
     clear hwc c0 c1 c2
     go_loopw [45] (fun x w3 => ∃ j:Nat,j ≤ os.length∧x = .int .i64 j∧Hid (MrS w X r1 r2 r3 n nv (.slice ap ps.length cp) (.slice (some ⟨b7,off7,none⟩) is.length ci) (.slice ae es.length ce) w3 I O (orL M b (ps ++ insM (is.take i) ++ oprM (os.take j))))) (fun x _ => os.length - (intOf x).toNat)
     case atStart => exact ⟨0,Nat.zero_le _,rfl,by simpa [oprM] using HI2⟩
     case round =>
      clear HI2
      obtain ⟨j,hj,rfl,HO⟩:=hrel
      by_cases hjl:j < os.length
      ·obtain ⟨b8,off8,rfl,hb8,o0,o1,o2,o3,o4⟩:=opr_cells HOS.out j hjl
       have hb0:=HLOW.out _ HO.out.tc
       have e0:=(hb0.cell (p:=⟨b8,_,none⟩) hb8).trans o0
       have e1:=(hb0.cell (p:=⟨b8,_,none⟩) hb8).trans o1
       have e2:=(hb0.cell (p:=⟨b8,_,none⟩) hb8).trans o2
       have e3:=(hb0.cell (p:=⟨b8,_,none⟩) hb8).trans o3
       have e4:=(hb0.cell (p:=⟨b8,_,none⟩) hb8).trans o4
       have hdo:=HDO.out os[j] (List.getElem_mem hjl)
       have HT:Hid (oprM (os.take (j + 1)) = if os[j].kind = 2 then oprM (os.take j) ++ [os[j].value] else oprM (os.take j)):=oprM_take os j hjl
       clear o0 o1 o2 o3 o4 hb0 hb8
       generalize os[j] = o at *
       have HX2:Hid (MrS w X r1 r2 r3 n nv (.slice ap ps.length cp) (.slice (some ⟨b7,off7,none⟩) is.length ci) (.slice ae es.length ce) (wr.alloc (.cells #[.int .i64 o.kind,.int .i64 o.value,.bool o.late,.int .i64 o.limit,.int .i64 o.n] 46)) I O (orL M b (ps ++ insM (is.take i) ++ oprM (os.take j)))):=HO.out.below ((Below.refl _ _).alloc (Nat.le_refl _) _)
       by_cases hk2:o.kind = 2
       ·have q:(o.kind == 2) = true:=by simp [hk2]
        have HE:=HT.out
        rw [if_pos hk2] at HE
        obtain ⟨V,hV⟩:∃ V:Nat,o.value = V:=⟨o.value.toNat,by omega⟩
        have v1:V < nv:=by omega
        have HT2:Hid (orL M b (ps ++ insM (is.take i) ++ oprM (os.take (j + 1))) = upT (orL M b (ps ++ insM (is.take i) ++ oprM (os.take j))) b V):=by
         show _ = _
         rw [HE,← List.append_assoc,orL_snoc _ _ _ _ hdo.1,hV,Int.toNat_natCast]
        rw [hV] at e1
        rw [hV] at HX2
        obtain ⟨okd,ovl,olt,olm,onn⟩:=o
        simp only at hk2 q e0 e1 e2 e3 e4 HX2
        clear HE hV HT hdo hk2
        go_upto_region 13 with fail
        obtain ⟨W5,hW5⟩:∃ W5,W5 = wr.alloc (.cells #[.int .i64 okd,.int .i64 V,.bool olt,.int .i64 olm,.int .i64 onn] 46):=⟨_,rfl⟩
        obtain ⟨Q,hQ⟩:∃ Q,wr.heap.size = Q:=⟨_,rfl⟩
        have q1:W5.cell? ⟨Q,1,none⟩ = some (.int .i64 V):=by rw [hW5,← hQ]; simp
        have lQ:Q < W5.heap.size:=by rw [hW5,← hQ]; simp
        rw [← hW5] at HX2 ⊢
        rw [hQ]
        have lX:=HX2.out.bn.lt
        have l3:=HX2.out.nd.tm.lt
        have d2:W5.cell? ⟨X,2,none⟩ = some (.slice (some ⟨r3,0,none⟩) n n):=HX2.out.bn.cell (i:=2) (by omega)
        have m1:W5.cell? ⟨r3,b,none⟩ = some (.slice (some ⟨r3 + 1 + b,0,none⟩) nv nv):=HX2.out.nd.tm.row.cell hb
        have m2:=(HX2.out.nd.tm.rows b hb).cell v1
        have z2:=(HX2.out.nd.tm.rows b hb).frozen V
        have HN:Hid (MrS w X r1 r2 r3 n nv (.slice ap ps.length cp) (.slice (some ⟨b7,off7,none⟩) is.length ci) (.slice ae es.length ce) (W5.setCell ⟨r3 + 1 + b,V,none⟩ (.bool true)).drew I O (orL M b (ps ++ insM (is.take i) ++ oprM (os.take (j + 1))))):=by
         show MrS _ _ _ _ _ _ _ _ _ _ _ _ _ _
         rw [HT2.out]
         exact (HX2.out.upM b V hb).below ((Below.refl _ _).drew)
        clear hW5 hQ HX2 HT2 HO e0 e1 e2 e3 e4
        have HSF:Hid (∀ w',Below W5.heap.size W5 w' → (fun w' => w'.cell? ⟨X,2,none⟩ = some (.slice (some ⟨r3,0,none⟩) n n)∧w'.cell? ⟨r3,b,none⟩ = some (.slice (some ⟨r3 + 1 + b,0,none⟩) nv nv)∧w'.cell? ⟨Q,1,none⟩ = some (.int .i64 V)∧Below W5.heap.size W5 w') w'):=fun w' hh => ⟨(hh.cell (by simp; omega)).trans d2,(hh.cell (by simp; omega)).trans m1,(hh.cell (by simp; omega)).trans q1,hh⟩
        have hbd:Below W5.heap.size W5 W5.drew:=(Below.refl _ _).drew
        refine wp_region_X (fun w' => w'.cell? ⟨X,2,none⟩ = some (.slice (some ⟨r3,0,none⟩) n n)∧w'.cell? ⟨r3,b,none⟩ = some (.slice (some ⟨r3 + 1 + b,0,none⟩) nv nv)∧w'.cell? ⟨Q,1,none⟩ = some (.int .i64 V)∧Below W5.heap.size W5 w') 8 (by kernel_rfl) (HSF.out _ hbd) (fun hHeld => ?_)
        refine wpXt 0 rfl (v:=?_) (by kernel_rfl) (fun _ _ _ h => h) (by rfl) ?_ hHeld ?_
        rotate_left
        ·intro w' hSw
         go_simp <;> with_reducible rfl
        try simp only [Act.put,List.setIfInBounds_toArray,List.set_cons_zero,List.set_cons_succ]
        refine wpXt 1 rfl (v:=?_) (by kernel_rfl) (fun _ _ _ h => h) (by rfl) ?_ hHeld ?_
        rotate_left
        ·intro w' hSw
         go_simp <;> with_reducible rfl
        try simp only [Act.put,List.setIfInBounds_toArray,List.set_cons_zero,List.set_cons_succ]
        refine wpXt 2 rfl (v:=?_) (by kernel_rfl) (fun _ _ _ h => h) (by rfl) ?_ hHeld ?_
        rotate_left
        ·intro w' hSw
         go_simp <;> with_reducible rfl
        try simp only [Act.put,List.setIfInBounds_toArray,List.set_cons_zero,List.set_cons_succ]
        refine wpXt 3 rfl (v:=?_) (by kernel_rfl) (fun _ _ _ h => h) (by rfl) ?_ hHeld ?_
        rotate_left
        ·intro w' hSw
         go_simp <;> with_reducible rfl
        try simp only [Act.put,List.setIfInBounds_toArray,List.set_cons_zero,List.set_cons_succ]
        refine wpXt 4 rfl (v:=?_) (by kernel_rfl) (fun _ _ _ h => h) (by rfl) ?_ hHeld ?_
        rotate_left
        ·intro w' hSw
         go_simp <;> with_reducible rfl
        try simp only [Act.put,List.setIfInBounds_toArray,List.set_cons_zero,List.set_cons_succ]
        refine wpXt 5 rfl (v:=?_) (by kernel_rfl) (fun _ _ _ h => h) (by rfl) ?_ hHeld ?_
        rotate_left
        ·intro w' hSw
         go_simp <;> with_reducible rfl
        try simp only [Act.put,List.setIfInBounds_toArray,List.set_cons_zero,List.set_cons_succ]
        refine wpXt 6 rfl (v:=?_) (by kernel_rfl) (fun _ _ _ h => h) (by rfl) ?_ hHeld ?_
        rotate_left
        ·intro w' hSw
         go_simp <;> with_reducible rfl
        try simp only [Act.put,List.setIfInBounds_toArray,List.set_cons_zero,List.set_cons_succ]
        refine wpXt 7 rfl (v:=?_) (by kernel_rfl) (fun _ _ _ h => h) (by rfl) ?_ hHeld ?_
        rotate_left
        ·intro w' hSw
         go_simp <;> with_reducible rfl
        try simp only [Act.put,List.setIfInBounds_toArray,List.set_cons_zero,List.set_cons_succ]
        refine wpXl 8 rfl (by kernel_rfl) rfl (by kernel_rfl) (fun K hK => ?_)
        go_simp
        refine hK.out _ _ ?_
        clear hK K
        go_wp2
        go_roundw
        case rel => exact ⟨j + 1,by omega,by go_num,HN⟩
        case measure => simp [intOf]; omega
       ·have q:(o.kind == 2) = false:=by simp [hk2]
        have HE:=HT.out
        rw [if_neg hk2] at HE
        rw [← HE] at HX2
        clear HE HT hdo hk2 HO
        go_wp2
        go_roundw
        case rel => exact ⟨j + 1,by omega,by go_num,HX2⟩
        case measure => simp [intOf]; omega
      ·have HN:Hid (MrS w X r1 r2 r3 n nv (.slice ap ps.length cp) (.slice (some ⟨b7,off7,none⟩) is.length ci) (.slice ae es.length ce) wr I O (orL M b (ps ++ insM (is.take (i + 1))))):=by
        have h:=HO.out
        rw [show os.take j = os from List.take_of_length_le (by omega)] at h
        show MrS _ _ _ _ _ _ _ _ _ _ _ _ _ _
        rw [HSI.out,← List.append_assoc]
        exact h
       clear HO
       go_wp2
       go_roundw
       case rel => exact ⟨i + 1,by omega,by go_num,HN⟩
       case measure => simp [intOf]; omega
    ·have HJ:Hid (MrS w X r1 r2 r3 n nv (.slice ap ps.length cp) (.slice ai is.length ci) (.slice ae es.length ce) wr I O (orL M b (ps ++ insM is))):=by
      have h:=HI.out
      rw [show is.take i = is from List.take_of_length_le (by omega)] at h
      exact h
     have x1:wr.cell? ⟨X + 1,1,none⟩ = some (.slice ai is.length ci):=HJ.out.bb.cell (i:=1) (by omega)
     clear HI
     go_wp2_with fail
     clear x1
     go_loopw [65] (fun i wr => ∃ i':Nat,i' ≤ is.length∧i = .int .i64 i'∧Hid (MrS w X r1 r2 r3 n nv (.slice ap ps.length cp) (.slice ai is.length ci) (.slice ae es.length ce) wr (orN (orL M b (ps ++ insM is)) I b (insU (is.take i'))) O (orL M b (ps ++ insM is)))) (fun i _ => is.length - (intOf i).toNat)
     case atStart => exact ⟨0,Nat.zero_le _,rfl,by rw [List.take_zero,show insU [] = [] from rfl,orN_nil]; exact HJ⟩
     case round =>
      clear HJ
      obtain ⟨i,hi,rfl,HI⟩:=hrel
      by_cases hil:i < is.length
      ·obtain ⟨b7,off7,cs,rfl,hcl7,⟨vo,vs,rfl,hvo,hvs⟩,hc⟩:=HIS.out.at i hil
       obtain ⟨ao,co,rfl,lo⟩:=hvo.out
       obtain ⟨asp,cs',rfl,_⟩:=hvs.out
       unfold longest at lo
       have hb0:=HLOW.out _ HI.out.tc
       have c0:=(hb0.cell (p:=⟨b7,off7 + i * 3 + 0,none⟩) (block_lt (hc 0 (by simp)))).trans (hc 0 (by simp))
       have c1:=(hb0.cell (p:=⟨b7,off7 + i * 3 + 1,none⟩) (block_lt (hc 1 (by simp)))).trans (hc 1 (by simp))
       have c2:=(hb0.cell (p:=⟨b7,off7 + i * 3 + 2,none⟩) (block_lt (hc 2 (by simp)))).trans (hc 2 (by simp))
       simp at c0 c1 c2
       have hdi:=HDI.out is[i] (List.getElem_mem hil)
       have HSI:Hid (insU (is.take (i + 1)) = insU (is.take i) ++ oprU is[i].operands):=insU_take is i hil
       clear hc hcl7 hvs
       generalize is[i].op = op at *
       generalize is[i].spoils.length = ns at *
       generalize is[i].operands = os at *
       have HOS:Hid (SlOf wb 5 ROpr (.slice ao os.length co) os):=hvo
       have HDO:Hid (∀ o ∈ os,0 ≤ o.value∧o.value < (nv:Int)):=hdi
       have HI2:Hid (MrS w X r1 r2 r3 n nv (.slice ap ps.length cp) (.slice (some ⟨b7,off7,none⟩) is.length ci) (.slice ae es.length ce) (wr.alloc (.cells #[.int .i64 op,.slice ao os.length co,.slice asp ns cs'] 44)) (orN (orL M b (ps ++ insM is)) I b (insU (is.take i))) O (orL M b (ps ++ insM is))):=HI.out.below ((Below.refl _ _).alloc (Nat.le_refl _) _)
       clear hvo hdi hb0 HI
       go_wp2_with fail
       obtain ⟨wc,hwc⟩:∃ wc,wc = wr.alloc (.cells #[.int .i64 op,.slice ao os.length co,.slice asp ns cs'] 44):=⟨_,rfl⟩
       rw [← hwc] at HI2 ⊢
       clear hwc c0 c1 c2
       go_loopw [72] (fun x w3 => ∃ j:Nat,j ≤ os.length∧x = .int .i64 j∧Hid (MrS w X r1 r2 r3 n nv (.slice ap ps.length cp) (.slice (some ⟨b7,off7,none⟩) is.length ci) (.slice ae es.length ce) w3 (orN (orL M b (ps ++ insM is)) I b (insU (is.take i) ++ oprU (os.take j))) O (orL M b (ps ++ insM is)))) (fun x _ => os.length - (intOf x).toNat)
       case atStart => exact ⟨0,Nat.zero_le _,rfl,by simpa [oprU] using HI2⟩
       case round =>
        clear HI2
        obtain ⟨j,hj,rfl,HO⟩:=hrel
        by_cases hjl:j < os.length
        ·obtain ⟨b8,off8,rfl,hb8,o0,o1,o2,o3,o4⟩:=opr_cells HOS.out j hjl
         have hb0:=HLOW.out _ HO.out.tc
         have e0:=(hb0.cell (p:=⟨b8,_,none⟩) hb8).trans o0
         have e1:=(hb0.cell (p:=⟨b8,_,none⟩) hb8).trans o1
         have e2:=(hb0.cell (p:=⟨b8,_,none⟩) hb8).trans o2
         have e3:=(hb0.cell (p:=⟨b8,_,none⟩) hb8).trans o3
         have e4:=(hb0.cell (p:=⟨b8,_,none⟩) hb8).trans o4
         have hdo:=HDO.out os[j] (List.getElem_mem hjl)
         have HT:Hid (oprU (os.take (j + 1)) = if os[j].kind = 1 then oprU (os.take j) ++ [os[j].value] else oprU (os.take j)):=oprU_take os j hjl
         clear o0 o1 o2 o3 o4 hb0 hb8
         generalize os[j] = o at *
         have HX2:Hid (MrS w X r1 r2 r3 n nv (.slice ap ps.length cp) (.slice (some ⟨b7,off7,none⟩) is.length ci) (.slice ae es.length ce) (wr.alloc (.cells #[.int .i64 o.kind,.int .i64 o.value,.bool o.late,.int .i64 o.limit,.int .i64 o.n] 46)) (orN (orL M b (ps ++ insM is)) I b (insU (is.take i) ++ oprU (os.take j))) O (orL M b (ps ++ insM is))):=HO.out.below ((Below.refl _ _).alloc (Nat.le_refl _) _)
         by_cases hk2:o.kind = 1
         ·have q:(o.kind == 1) = true:=by simp [hk2]
          have HE:=HT.out
          rw [if_pos hk2] at HE
          obtain ⟨V,hV⟩:∃ V:Nat,o.value = V:=⟨o.value.toNat,by omega⟩
          have v1:V < nv:=by omega
          have HT2:Hid (orN (orL M b (ps ++ insM is)) I b (insU (is.take i) ++ oprU (os.take (j + 1))) = askT (orL M b (ps ++ insM is)) (orN (orL M b (ps ++ insM is)) I b (insU (is.take i) ++ oprU (os.take j))) b V):=by
           show _ = _
           rw [HE,← List.append_assoc,orN_snoc _ _ _ _ _ hdo.1,hV,Int.toNat_natCast]
          rw [hV] at e1
          rw [hV] at HX2
          obtain ⟨okd,ovl,olt,olm,onn⟩:=o
          simp only at hk2 q e0 e1 e2 e3 e4 HX2
          have HC:=askFor_any n nv r1 r2 r3 _ _ _ b V _ HX2.out.nd hb v1 hn hnv
          have d0:wr.cell? ⟨X,0,none⟩ = some (.slice (some ⟨r1,0,none⟩) n n):=HO.out.bn.cell (i:=0) (by omega)
          have d1:wr.cell? ⟨X,1,none⟩ = some (.slice (some ⟨r2,0,none⟩) n n):=HO.out.bn.cell (i:=1) (by omega)
          have d2:wr.cell? ⟨X,2,none⟩ = some (.slice (some ⟨r3,0,none⟩) n n):=HO.out.bn.cell (i:=2) (by omega)
          have lX:=HO.out.bn.lt
          have LX:=old_cell X
          clear HE hV HT hdo hk2 HO
          go_wp2_with fail
          refine HC.mono ?_
          clear HC d0 d1 d2 e0 e1 e2 e3 e4 LX
          rintro e w6 ⟨rfl,h6,t6⟩
          have HN:Hid (MrS w X r1 r2 r3 n nv (.slice ap ps.length cp) (.slice (some ⟨b7,off7,none⟩) is.length ci) (.slice ae es.length ce) w6 (orN (orL M b (ps ++ insM is)) I b (insU (is.take i) ++ oprU (os.take (j + 1)))) O (orL M b (ps ++ insM is))):=by
           show MrS _ _ _ _ _ _ _ _ _ _ _ _ _ _
           rw [HT2.out]
           exact HX2.out.call h6 t6
          clear h6 t6 HX2 HT2
          go_wp2
          go_roundw
          case rel => exact ⟨j + 1,by omega,by go_num,HN⟩
          case measure => simp [intOf]; omega
         ·have q:(o.kind == 1) = false:=by simp [hk2]
          have HE:=HT.out
          rw [if_neg hk2] at HE
          rw [← HE] at HX2
          clear HE HT hdo hk2 HO
          go_wp2
          go_roundw
          case rel => exact ⟨j + 1,by omega,by go_num,HX2⟩
          case measure => simp [intOf]; omega
        ·have HN:Hid (MrS w X r1 r2 r3 n nv (.slice ap ps.length cp) (.slice (some ⟨b7,off7,none⟩) is.length ci) (.slice ae es.length ce) wr (orN (orL M b (ps ++ insM is)) I b (insU (is.take (i + 1)))) O (orL M b (ps ++ insM is))):=by
          have h:=HO.out
          rw [show os.take j = os from List.take_of_length_le (by omega)] at h
          show MrS _ _ _ _ _ _ _ _ _ _ _ _ _ _
          rw [HSI.out]
          exact h
         clear HO
         go_wp2
         go_roundw
         case rel => exact ⟨i + 1,by omega,by go_num,HN⟩
         case measure => simp [intOf]; omega
      ·have HJ:Hid (MrS w X r1 r2 r3 n nv (.slice ap ps.length cp) (.slice ai is.length ci) (.slice ae es.length ce) wr (orN (orL M b (ps ++ insM is)) I b (insU is)) O (orL M b (ps ++ insM is))):=by
        have h:=HI.out
        rw [show is.take i = is from List.take_of_length_le (by omega)] at h
        exact h
       have x1:wr.cell? ⟨X + 1,2,none⟩ = some (.slice ae es.length ce):=HJ.out.bb.cell (i:=2) (by omega)
       clear HI
       go_wp2_with fail
       clear x1
       obtain ⟨M1,hM1⟩:∃ M1,orL M b (ps ++ insM is) = M1:=⟨_,rfl⟩
       rw [hM1] at HJ
       have HM1:Hid (orL M b (ps ++ insM is) = M1):=hM1
       clear hM1
       go_loopw [89] (fun i wr => ∃ i':Nat,i' ≤ es.length∧i = .int .i64 i'∧Hid (MrS w X r1 r2 r3 n nv (.slice ap ps.length cp) (.slice ai is.length ci) (.slice ae es.length ce) wr (orN M1 I b (insU is ++ argsU (es.take i'))) (orL O b (argsU (es.take i'))) M1)) (fun i _ => es.length - (intOf i).toNat)
       case atStart => exact ⟨0,Nat.zero_le _,rfl,by rw [List.take_zero,show argsU [] = [] from rfl,orL_nil,List.append_nil]; exact HJ⟩
       case round =>
        clear HJ
        obtain ⟨i,hi,rfl,HI⟩:=hrel
        by_cases hil:i < es.length
        ·obtain ⟨b9,off9,cs,rfl,hcl9,⟨va,rfl,hva⟩,hc⟩:=HES.out.at i hil
         obtain ⟨aa,ca,rfl,la⟩:=hva.out
         unfold longest at la
         have hb0:=HLOW.out _ HI.out.tc
         have c0:=(hb0.cell (p:=⟨b9,off9 + i * 2 + 0,none⟩) (block_lt (hc 0 (by simp)))).trans (hc 0 (by simp))
         have c1:=(hb0.cell (p:=⟨b9,off9 + i * 2 + 1,none⟩) (block_lt (hc 1 (by simp)))).trans (hc 1 (by simp))
         simp at c0 c1
         have hde:=HDE.out es[i] (List.getElem_mem hil)
         have HSI:Hid (argsU (es.take (i + 1)) = argsU (es.take i) ++ es[i].args):=argsU_take es i hil
         clear hc hcl9
         generalize es[i].block = t at *
         generalize es[i].args = gs at *
         have HAS:Hid (SlOf wb 1 RInt (.slice aa gs.length ca) gs):=hva
         have HDA:Hid (∀ v ∈ gs,0 ≤ v∧v < (nv:Int)):=hde
         have HI2:Hid (MrS w X r1 r2 r3 n nv (.slice ap ps.length cp) (.slice ai is.length ci) (.slice (some ⟨b9,off9,none⟩) es.length ce) (wr.alloc (.cells #[.int .i64 t,.slice aa gs.length ca] 92)) (orN M1 I b (insU is ++ argsU (es.take i))) (orL O b (argsU (es.take i))) M1):=HI.out.below ((Below.refl _ _).alloc (Nat.le_refl _) _)
         clear hva hde hb0 HI
         go_wp2_with fail
         obtain ⟨wc,hwc⟩:∃ wc,wc = wr.alloc (.cells #[.int .i64 t,.slice aa gs.length ca] 92):=⟨_,rfl⟩
         rw [← hwc] at HI2 ⊢
         clear hwc c0 c1
         go_loopw [96] (fun x w3 => ∃ j:Nat,j ≤ gs.length∧x = .int .i64 j∧Hid (MrS w X r1 r2 r3 n nv (.slice ap ps.length cp) (.slice ai is.length ci) (.slice (some ⟨b9,off9,none⟩) es.length ce) w3 (orN M1 I b (insU is ++ argsU (es.take i) ++ gs.take j)) (orL O b (argsU (es.take i) ++ gs.take j)) M1)) (fun x _ => gs.length - (intOf x).toNat)
         case atStart => exact ⟨0,Nat.zero_le _,rfl,by rw [List.take_zero,List.append_nil,List.append_nil]; exact HI2⟩
         case round =>
          clear HI2
          obtain ⟨j,hj,rfl,HO⟩:=hrel
          by_cases hjl:j < gs.length
          ·obtain ⟨b8,off8,rfl,hb8,hc8⟩:=ints_at HAS.out j (by omega) (by omega)
           have e:gs.getD (j:Int).toNat 0 = gs[j]:=by simp [List.getD,hjl]
           rw [e,Int.toNat_natCast] at hc8
           have f0:=((HLOW.out _ HO.out.tc).cell (p:=⟨b8,off8 + j,none⟩) hb8).trans hc8
           have hvr:=HDA.out gs[j] (List.getElem_mem hjl)
           have HT:Hid (gs.take (j + 1) = gs.take j ++ [gs[j]]):=List.take_succ_eq_append_getElem hjl
           clear e hc8 hb8
           generalize gs[j] = v at *
           obtain ⟨V,rfl⟩:∃ V:Nat,v = V:=⟨v.toNat,by omega⟩
           have v1:V < nv:=by omega
           have HC:=hold_any n nv r1 r2 r3 _ _ _ b V _ HO.out.nd hb v1 hn hnv
           have d0:wr.cell? ⟨X,0,none⟩ = some (.slice (some ⟨r1,0,none⟩) n n):=HO.out.bn.cell (i:=0) (by omega)
           have d1:wr.cell? ⟨X,1,none⟩ = some (.slice (some ⟨r2,0,none⟩) n n):=HO.out.bn.cell (i:=1) (by omega)
           have d2:wr.cell? ⟨X,2,none⟩ = some (.slice (some ⟨r3,0,none⟩) n n):=HO.out.bn.cell (i:=2) (by omega)
           clear hvr
           go_wp2_with fail
           refine HC.mono ?_
           clear HC d0 d1 d2 f0
           rintro e w6 ⟨rfl,h6,t6⟩
           have HN:Hid (MrS w X r1 r2 r3 n nv (.slice ap ps.length cp) (.slice ai is.length ci) (.slice (some ⟨b9,off9,none⟩) es.length ce) w6 (orN M1 I b (insU is ++ argsU (es.take i) ++ gs.take (j + 1))) (orL O b (argsU (es.take i) ++ gs.take (j + 1))) M1):=by
            have h:=HO.out.call h6 t6
            show MrS _ _ _ _ _ _ _ _ _ _ _ _ _ _
            rw [HT.out,← List.append_assoc,← List.append_assoc,orN_snoc _ _ _ _ _ (by omega),orL_snoc _ _ _ _ (by omega),Int.toNat_natCast]
            exact h
           clear h6 t6 HO HT
           go_wp2
           go_roundw
           case rel => exact ⟨j + 1,by omega,by go_num,HN⟩
           case measure => simp [intOf]; omega
          ·have HN:Hid (MrS w X r1 r2 r3 n nv (.slice ap ps.length cp) (.slice ai is.length ci) (.slice (some ⟨b9,off9,none⟩) es.length ce) wr (orN M1 I b (insU is ++ argsU (es.take (i + 1)))) (orL O b (argsU (es.take (i + 1)))) M1):=by
            have h:=HO.out
            rw [show gs.take j = gs from List.take_of_length_le (by omega)] at h
            show MrS _ _ _ _ _ _ _ _ _ _ _ _ _ _
            rw [HSI.out,← List.append_assoc]
            exact h
           clear HO
           go_wp2
           go_roundw
           case rel => exact ⟨i + 1,by omega,by go_num,HN⟩
           case measure => simp [intOf]; omega
        ·have HJ:Hid (NdS wr r1 r2 r3 n nv (orN M1 I b (insU is ++ argsU es)) (orL O b (argsU es)) M1∧Tch (TS r1 r2 r3 n) w wr):=by
          have h:=HI.out
          rw [show es.take i = es from List.take_of_length_le (by omega)] at h
          exact ⟨h.nd,h.tc⟩
         clear HI
         go_wp2
         go_end0
         exact ⟨rfl,by rw [HM1.out]; exact HJ.out⟩
end Go.Proofs.Ytglfpnnfcpnmoaa
