/-
  The contracts of 'parts.joinArgs' and 'parts.joinReuses'.
-/
import Derived.Test.YtdlnofjmonpmgaaG6
namespace Go.Proofs.Ytdlnofjmonpmgaa
open Go.RowKit
set_option linter.unusedVariables false
noncomputable def argsG (nv:Nat) (S:Nat → List Sp) (ps gs:List Int) (q:Nat → Nat):Nat → Nat:=(ps.zip gs).foldl (fun q x => joinG nv S q x.1.toNat x.2.toNat) q
noncomputable def reStep (nv:Nat) (S:Nat → List Sp) (l:List Opr) (q:Nat → Nat) (o:Opr):Nat → Nat:=if o.limit = 5 then joinG nv S q o.value.toNat (l.getD o.n.toNat ⟨0,0,false,0,0⟩).value.toNat else q
noncomputable def reuseG (nv:Nat) (S:Nat → List Sp) (l:List Opr) (q:Nat → Nat):Nat → Nat:=l.foldl (reStep nv S l) q
theorem args_step (nv:Nat) (S:Nat → List Sp) (ps gs:List Int) (q:Nat → Nat) (j:Nat) (h1:j < ps.length) (h2:j < gs.length):argsG nv S (ps.take (j + 1)) (gs.take (j + 1)) q = joinG nv S (argsG nv S (ps.take j) (gs.take j) q) ps[j].toNat gs[j].toNat:=by
 unfold argsG
 rw [List.take_succ_eq_append_getElem h1,List.take_succ_eq_append_getElem h2,List.zip_append (by rw [List.length_take,List.length_take]; omega),List.foldl_append]
 rfl
theorem re_step (nv:Nat) (S:Nat → List Sp) (l:List Opr) (q:Nat → Nat) (j:Nat) (h1:j < l.length):(l.take (j + 1)).foldl (reStep nv S l) q = reStep nv S l ((l.take j).foldl (reStep nv S l) q) l[j]:=by
 rw [List.take_succ_eq_append_getElem h1,List.foldl_append]
 rfl
theorem int_at {w:World} {a:Option Addr} {n cap:Nat} {l:List Int} (h:SlOf w 1 RInt (.slice a n cap) l) (k:Nat) (h1:k < l.length):∃ b off,a = some ⟨b,off,none⟩∧b < w.heap.size∧w.cell? ⟨b,off + k,none⟩ = some (.int .i64 l[k]):=by
 obtain ⟨b,off,cs,rfl,hl,hR,hc⟩:=h.at k h1
 unfold RInt at hR
 subst hR
 have hc0:=hc 0 (by simp)
 simp only [Nat.mul_one,Nat.add_zero,List.getElem_cons_zero] at hc0
 exact ⟨b,off,rfl,block_lt hc0,hc0⟩
set_option maxRecDepth 4000 in
set_option maxHeartbeats 8000000 in
theorem joinArgs_any {S:Nat → List Sp} {w wb:World} {L R nv:Nat} {vs:Nat → Value} {T:Nat → List Sp} {q:Nat → Nat} (k:GW w L R nv vs T q) (inv:GInv nv S q T) (hpos:∀ v,v < nv → Pos (S v)) (hne:∀ v,v < nv → S v ≠ []) (hlen:∀ v,v < nv → (S v).length ≤ 16) (hnv:nv ≤ 160)
  (hwb:Below wb.heap.size wb w) (hL:wb.heap.size ≤ L) (hR:wb.heap.size ≤ R) (ps gs:List Int) (ap aa:Option Addr) (n cp ca:Nat) (hps:SlOf wb 1 RInt (.slice ap n cp) ps) (has:SlOf wb 1 RInt (.slice aa n ca) gs) (hnp:ps.length = n) (hna:gs.length = n) (hpv:∀ v ∈ ps,0 ≤ v∧v < (nv:Int)) (hav:∀ v ∈ gs,0 ≤ v∧v < (nv:Int)) :
  Calls Try.prog 24 #[.agg #[.slice (some ⟨L,0,none⟩) nv nv,.slice (some ⟨R,0,none⟩) nv nv],.slice ap n cp,.slice aa n ca] w fun e w' => e = .returned (.tuple #[])∧∃ vs' T',GW w' L R nv vs' T' (argsG nv S ps gs q)∧GInv nv S (argsG nv S ps gs q) T'∧Tch (LR L R) w w':=by
 obtain ⟨W,hW⟩:∃ W,W = w.alloc (.cells #[.slice (some ⟨L,0,none⟩) nv nv,.slice (some ⟨R,0,none⟩) nv nv] 68):=⟨_,rfl⟩
 obtain ⟨X,hX⟩:∃ X,w.heap.size = X:=⟨_,rfl⟩
 have hbw:Below w.heap.size w W:=by rw [hW]; exact (Below.refl _ _).alloc (Nat.le_refl _) _
 have x0:W.cell? ⟨X,0,none⟩ = some (.slice (some ⟨L,0,none⟩) nv nv):=by rw [hW,← hX]; simp
 have x1:W.cell? ⟨X,1,none⟩ = some (.slice (some ⟨R,0,none⟩) nv nv):=by rw [hW,← hX]; simp
 have lX:X < W.heap.size:=by rw [hW,← hX]; simp
 have lL:L < X:=by rw [← hX]; exact k.lea.lt
 have lR:R < X:=by rw [← hX]; exact k.psp.row.lt
 have HB0:Hid (GW W L R nv vs T q∧Tch (LR L R) w W∧Below wb.heap.size wb W∧GInv nv S q T):=⟨k.below hbw,Tch.of hbw,hwb.trans (hbw.mono hwb.size),inv⟩
 have HW:Hid (W = w.alloc (.cells #[.slice (some ⟨L,0,none⟩) nv nv,.slice (some ⟨R,0,none⟩) nv nv] 68)):=hW
 have HX:Hid (X < W.heap.size∧L < X∧R < X∧wb.heap.size ≤ L∧wb.heap.size ≤ R∧wb.heap.size ≤ W.heap.size∧W.cell? ⟨X,0,none⟩ = some (.slice (some ⟨L,0,none⟩) nv nv)∧W.cell? ⟨X,1,none⟩ = some (.slice (some ⟨R,0,none⟩) nv nv)):=⟨lX,lL,lR,hL,hR,Nat.le_trans hwb.size hbw.size,x0,x1⟩
 have HD:Hid (SlOf wb 1 RInt (.slice ap n cp) ps∧SlOf wb 1 RInt (.slice aa n ca) gs∧ps.length = n∧gs.length = n∧(∀ v ∈ ps,0 ≤ v∧v < (nv:Int))∧∀ v ∈ gs,0 ≤ v∧v < (nv:Int)):=⟨hps,has,hnp,hna,hpv,hav⟩
 have HP:Hid ((∀ v,v < nv → Pos (S v))∧(∀ v,v < nv → S v ≠ [])∧(∀ v,v < nv → (S v).length ≤ 16)):=⟨hpos,hne,hlen⟩
 have hn63:n ≤ longest:=by obtain ⟨_,_,_,h⟩:=hps.out; omega
 unfold longest at hn63
 clear hW hbw x0 x1 k lL lR inv hwb hps has hnp hna hpv hav hpos hne hlen hL hR lX
 go_enter Try.func24,Try.ntmps24
 go_upto_region 1 with fail
 rw [← HW.out]
 clear HW hX
 go_wp2_with fail
 go_loopw [10] (fun i wr => ∃ (j:Nat) (vs:Nat → Value) (T:Nat → List Sp),j ≤ n∧i = .int .i64 j∧Hid (GW wr L R nv vs T (argsG nv S (ps.take j) (gs.take j) q)∧Tch (LR L R) W wr∧GInv nv S (argsG nv S (ps.take j) (gs.take j) q) T)) (fun i _ => n - (intOf i).toNat)
 case atStart => exact ⟨0,vs,T,Nat.zero_le _,rfl,HB0.out.1,Tch.refl _ _,HB0.out.2.2.2⟩
 case round =>
  obtain ⟨j,vs,T,hj,rfl,HJ⟩:=hrel
  by_cases hjn:j < n
  ·have h1:j < ps.length:=by rw [HD.out.2.2.1]; exact hjn
   have h2:j < gs.length:=by rw [HD.out.2.2.2.1]; exact hjn
   have hbr:Below wb.heap.size wb wr:=HJ.out.2.1.below HB0.out.2.2.1 (fun k hk => by have:=HX.out; rcases hk with h | h <;> omega) HX.out.2.2.2.2.2.1
   obtain ⟨b1,o1,rfl,l1,p1⟩:=int_at HD.out.1 j h1
   obtain ⟨b2,o2,rfl,l2,p2⟩:=int_at HD.out.2.1 j h2
   have y1:=(hbr.cell (p:=⟨b1,o1 + j,none⟩) l1).trans p1
   have y2:=(hbr.cell (p:=⟨b2,o2 + j,none⟩) l2).trans p2
   have hXo:wr.heap[X]? = W.heap[X]?:=HJ.out.2.1.block X HX.out.1 (fun h => by have:=HX.out; rcases h with h | h <;> omega)
   have x0:wr.cell? ⟨X,0,none⟩ = some (.slice (some ⟨L,0,none⟩) nv nv):=(World.cell?_of_block (a:=⟨X,0,none⟩) hXo).trans HX.out.2.2.2.2.2.2.1
   have x1:wr.cell? ⟨X,1,none⟩ = some (.slice (some ⟨R,0,none⟩) nv nv):=(World.cell?_of_block (a:=⟨X,1,none⟩) hXo).trans HX.out.2.2.2.2.2.2.2
   obtain ⟨V,hV,hV2⟩:∃ V:Nat,ps[j] = V∧V < nv:=by have:=HD.out.2.2.2.2.1 ps[j] (List.getElem_mem h1); exact ⟨ps[j].toNat,by omega,by omega⟩
   obtain ⟨U,hU,hU2⟩:∃ U:Nat,gs[j] = U∧U < nv:=by have:=HD.out.2.2.2.2.2 gs[j] (List.getElem_mem h2); exact ⟨gs[j].toNat,by omega,by omega⟩
   rw [hV] at y1
   rw [hU] at y2
   have hst:argsG nv S (ps.take (j + 1)) (gs.take (j + 1)) q = joinG nv S (argsG nv S (ps.take j) (gs.take j) q) V U:=by rw [args_step nv S ps gs q j h1 h2,hV,hU]; rfl
   obtain ⟨q1,hq1⟩:∃ q1,argsG nv S (ps.take j) (gs.take j) q = q1:=⟨_,rfl⟩
   rw [hq1] at hst HJ
   have hdr:Below wr.heap.size wr wr.drew:=(Below.refl _ _).drew
   have HC:=join_any (S:=S) (HJ.out.1.below hdr) HJ.out.2.2 HP.out.1 HP.out.2.1 HP.out.2.2 hnv V U hV2 hU2
   have HST:Hid (argsG nv S (ps.take (j + 1)) (gs.take (j + 1)) q = joinG nv S q1 V U):=hst
   have HSF:Hid ((fun w' => w'.cell? ⟨X,0,none⟩ = some (.slice (some ⟨L,0,none⟩) nv nv)∧w'.cell? ⟨X,1,none⟩ = some (.slice (some ⟨R,0,none⟩) nv nv)∧w'.cell? ⟨b2,o2 + j,none⟩ = some (.int .i64 (U:Int))) wr.drew):=⟨x0,x1,y2⟩
   have HJ1:Hid (Tch (LR L R) W wr):=HJ.out.2.1
   have HIN:Hid (X < W.heap.size∧b2 < wb.heap.size∧wb.heap.size ≤ L∧wb.heap.size ≤ R∧wb.heap.size ≤ wr.heap.size∧X ≠ L∧X ≠ R∧X < wr.heap.size):=by
    have h:=HX.out
    have hsz:=HJ.out.2.1.size
    exact ⟨h.1,l2,h.2.2.2.1,h.2.2.2.2.1,by omega,by omega,by omega,by omega⟩
   have d1:(j:Int) < (n:Int):=by omega
   have d2:j < n + 1:=by omega
   clear hbr p1 p2 hXo hst hq1 hdr HJ l1 l2 hV hU HB0 hV2 hU2
   go_upto_region 4 with fail
   --CUT1
   refine wp_region_X (fun w' => w'.cell? ⟨X,0,none⟩ = some (.slice (some ⟨L,0,none⟩) nv nv)∧w'.cell? ⟨X,1,none⟩ = some (.slice (some ⟨R,0,none⟩) nv nv)∧w'.cell? ⟨b2,o2 + j,none⟩ = some (.int .i64 (U:Int))) 99 (by kernel_rfl) HSF.out (fun hHeld => ?_)
   refine wpXt (v:=?_) 0 rfl (by kernel_rfl) (fun _ _ _ h => h) (by rfl) ?_ hHeld ?_
   rotate_left
   ·intro w' hSw
    go_simp <;> with_reducible rfl
   try simp only [Act.put,sqa,sqb,sqc]
   refine wpXt (v:=?_) 1 rfl (by kernel_rfl) (fun _ _ _ h => h) (by rfl) ?_ hHeld ?_
   rotate_left
   ·intro w' hSw
    go_simp <;> with_reducible rfl
   try simp only [Act.put,sqa,sqb,sqc]
   refine wpXt (v:=?_) 2 rfl (by kernel_rfl) (fun _ _ _ h => h) (by rfl) ?_ hHeld ?_
   rotate_left
   ·intro w' hSw
    go_simp <;> with_reducible rfl
   try simp only [Act.put,sqa,sqb,sqc]
   refine wpXt (v:=?_) 3 rfl (by kernel_rfl) (fun _ _ _ h => h) (by rfl) ?_ hHeld ?_
   rotate_left
   ·intro w' hSw
    go_simp <;> with_reducible rfl
   try simp only [Act.put,sqa,sqb,sqc]
   refine wpXt (v:=?_) 4 rfl (by kernel_rfl) (fun _ _ _ h => h) (by rfl) ?_ hHeld ?_
   rotate_left
   ·intro w' hSw
    go_simp <;> with_reducible rfl
   try simp only [Act.put,sqa,sqb,sqc]
   refine wpXt (v:=?_) 5 rfl (by kernel_rfl) (fun _ _ _ h => h) (by rfl) ?_ hHeld ?_
   rotate_left
   ·intro w' hSw
    go_simp <;> with_reducible rfl
   try simp only [Act.put,sqa,sqb,sqc]
   --CUTr
   refine wpXs 6 rfl (by kernel_rfl) (fun K hK => ?_)
   go_simp
   refine HC.mono ?_
   clear HC
   rintro e w3 ⟨rfl,vs',T',k3,i3,t3⟩
   have HN:Hid (GW w3 L R nv vs' T' (argsG nv S (ps.take (j + 1)) (gs.take (j + 1)) q)∧Tch (LR L R) W w3∧GInv nv S (argsG nv S (ps.take (j + 1)) (gs.take (j + 1)) q) T'):=by
    rw [HST.out]
    exact ⟨k3,HJ1.out.trans ((Tch.of (Below.refl _ _).drew).trans t3),i3⟩
   have HS3:Hid ((fun w' => w'.cell? ⟨X,0,none⟩ = some (.slice (some ⟨L,0,none⟩) nv nv)∧w'.cell? ⟨X,1,none⟩ = some (.slice (some ⟨R,0,none⟩) nv nv)∧w'.cell? ⟨b2,o2 + j,none⟩ = some (.int .i64 (U:Int))) w3):=by
    have hs:=HSF.out
    have h:=HIN.out
    have hXo:w3.heap[X]? = wr.drew.heap[X]?:=t3.block X h.2.2.2.2.2.2.2 (fun hh => by rcases hh with hh | hh <;> omega)
    have hbo:w3.heap[b2]? = wr.drew.heap[b2]?:=t3.block b2 (Nat.lt_of_lt_of_le h.2.1 h.2.2.2.2.1) (fun hh => by rcases hh with hh | hh <;> omega)
    exact ⟨(World.cell?_of_block (a:=⟨X,0,none⟩) hXo).trans hs.1,(World.cell?_of_block (a:=⟨X,1,none⟩) hXo).trans hs.2.1,(World.cell?_of_block (a:=⟨b2,o2 + j,none⟩) hbo).trans hs.2.2⟩
   clear k3 i3 t3
   refine hK.out _ _ HS3.out (fun hHeld => ?_)
   clear hK K
   try simp only [Act.put,sqa,sqb,sqc]
   refine wpAnyX_done (by kernel_rfl) ?_ _
   go_wp2
   go_roundw
   --CUT5
   case rel => exact ⟨j + 1,vs',T',by omega,by go_num,HN.out⟩
   case measure => simp [intOf]; omega
  ·have HE:Hid (GW wr L R nv vs T (argsG nv S ps gs q)∧GInv nv S (argsG nv S ps gs q) T∧Tch (LR L R) w wr):=by
    have h:=HJ.out
    have e1:ps.take j = ps:=List.take_of_length_le (by rw [HD.out.2.2.1]; omega)
    have e2:gs.take j = gs:=List.take_of_length_le (by rw [HD.out.2.2.2.1]; omega)
    rw [e1,e2] at h
    exact ⟨h.1,h.2.2,HB0.out.2.1.trans h.2.1⟩
   clear HJ
   go_wp2
   first | go_end0 | refine bodyPost_ret (results_none rfl _ _ _) rfl ?_
   exact ⟨rfl,_,_,HE.out⟩
set_option maxRecDepth 4000 in
set_option maxHeartbeats 8000000 in
theorem joinReuses_any {S:Nat → List Sp} {w wb:World} {L R nv:Nat} {vs:Nat → Value} {T:Nat → List Sp} {q:Nat → Nat} (k:GW w L R nv vs T q) (inv:GInv nv S q T) (hpos:∀ v,v < nv → Pos (S v)) (hne:∀ v,v < nv → S v ≠ []) (hlen:∀ v,v < nv → (S v).length ≤ 16) (hnv:nv ≤ 160)
  (hwb:Below wb.heap.size wb w) (hL:wb.heap.size ≤ L) (hR:wb.heap.size ≤ R) (l:List Opr) (al:Option Addr) (n cl:Nat) (hl:SlOf wb 5 ROpr (.slice al n cl) l) (hn:l.length = n) (hre:∀ o ∈ l,o.limit = 5 → 0 ≤ o.n∧o.n < (l.length:Int)) (hval:∀ o ∈ l,0 ≤ o.value∧o.value < (nv:Int)) :
  Calls Try.prog 23 #[.agg #[.slice (some ⟨L,0,none⟩) nv nv,.slice (some ⟨R,0,none⟩) nv nv],.slice al n cl] w fun e w' => e = .returned (.tuple #[])∧∃ vs' T',GW w' L R nv vs' T' (reuseG nv S l q)∧GInv nv S (reuseG nv S l q) T'∧Tch (LR L R) w w':=by
 obtain ⟨W,hW⟩:∃ W,W = w.alloc (.cells #[.slice (some ⟨L,0,none⟩) nv nv,.slice (some ⟨R,0,none⟩) nv nv] 68):=⟨_,rfl⟩
 obtain ⟨X,hX⟩:∃ X,w.heap.size = X:=⟨_,rfl⟩
 have hbw:Below w.heap.size w W:=by rw [hW]; exact (Below.refl _ _).alloc (Nat.le_refl _) _
 have x0:W.cell? ⟨X,0,none⟩ = some (.slice (some ⟨L,0,none⟩) nv nv):=by rw [hW,← hX]; simp
 have x1:W.cell? ⟨X,1,none⟩ = some (.slice (some ⟨R,0,none⟩) nv nv):=by rw [hW,← hX]; simp
 have lX:X < W.heap.size:=by rw [hW,← hX]; simp
 have lL:L < X:=by rw [← hX]; exact k.lea.lt
 have lR:R < X:=by rw [← hX]; exact k.psp.row.lt
 have HB0:Hid (GW W L R nv vs T q∧Tch (LR L R) w W∧Below wb.heap.size wb W∧GInv nv S q T):=⟨k.below hbw,Tch.of hbw,hwb.trans (hbw.mono hwb.size),inv⟩
 have HW:Hid (W = w.alloc (.cells #[.slice (some ⟨L,0,none⟩) nv nv,.slice (some ⟨R,0,none⟩) nv nv] 68)):=hW
 have HX:Hid (X < W.heap.size∧L < X∧R < X∧wb.heap.size ≤ L∧wb.heap.size ≤ R∧wb.heap.size ≤ W.heap.size∧W.cell? ⟨X,0,none⟩ = some (.slice (some ⟨L,0,none⟩) nv nv)∧W.cell? ⟨X,1,none⟩ = some (.slice (some ⟨R,0,none⟩) nv nv)):=⟨lX,lL,lR,hL,hR,Nat.le_trans hwb.size hbw.size,x0,x1⟩
 have HD:Hid (SlOf wb 5 ROpr (.slice al n cl) l∧l.length = n∧(∀ o ∈ l,o.limit = 5 → 0 ≤ o.n∧o.n < (l.length:Int))∧∀ o ∈ l,0 ≤ o.value∧o.value < (nv:Int)):=⟨hl,hn,hre,hval⟩
 have HP:Hid ((∀ v,v < nv → Pos (S v))∧(∀ v,v < nv → S v ≠ [])∧(∀ v,v < nv → (S v).length ≤ 16)):=⟨hpos,hne,hlen⟩
 have hn63:n ≤ longest:=by obtain ⟨_,_,_,h⟩:=hl.out; omega
 unfold longest at hn63
 clear hW hbw x0 x1 k lL lR inv hwb hl hn hre hval hpos hne hlen hL hR lX
 go_enter Try.func23,Try.ntmps23
 go_upto_region 1 with fail
 rw [← HW.out]
 clear HW hX
 go_wp2_with fail
 go_loopw [8] (fun i wr => ∃ (j:Nat) (vs:Nat → Value) (T:Nat → List Sp),j ≤ n∧i = .int .i64 j∧Hid (GW wr L R nv vs T ((l.take j).foldl (reStep nv S l) q)∧Tch (LR L R) W wr∧GInv nv S ((l.take j).foldl (reStep nv S l) q) T)) (fun i _ => n - (intOf i).toNat)
 case atStart => exact ⟨0,vs,T,Nat.zero_le _,rfl,HB0.out.1,Tch.refl _ _,HB0.out.2.2.2⟩
 case round =>
  obtain ⟨j,vs,T,hj,rfl,HJ⟩:=hrel
  by_cases hjn:j < n
  ·have h1:j < l.length:=by rw [HD.out.2.1]; exact hjn
   have hbr:Below wb.heap.size wb wr:=HJ.out.2.1.below HB0.out.2.2.1 (fun k hk => by have:=HX.out; rcases hk with h | h <;> omega) HX.out.2.2.2.2.2.1
   obtain ⟨b1,o1,rfl,l1,p0,p1,p2,p3,p4⟩:=opr_cells HD.out.1 j h1
   obtain ⟨o,ho⟩:∃ o,l[j] = o:=⟨_,rfl⟩
   have hmem:o ∈ l:=by rw [← ho]; exact List.getElem_mem h1
   rw [ho] at p0 p1 p2 p3 p4
   have y0:=(hbr.cell (p:=⟨b1,o1 + j * 5,none⟩) l1).trans p0
   have y1:=(hbr.cell (p:=⟨b1,o1 + j * 5 + 1,none⟩) l1).trans p1
   have y2:=(hbr.cell (p:=⟨b1,o1 + j * 5 + 2,none⟩) l1).trans p2
   have y3:=(hbr.cell (p:=⟨b1,o1 + j * 5 + 3,none⟩) l1).trans p3
   have y4:=(hbr.cell (p:=⟨b1,o1 + j * 5 + 4,none⟩) l1).trans p4
   have hXo:wr.heap[X]? = W.heap[X]?:=HJ.out.2.1.block X HX.out.1 (fun h => by have:=HX.out; rcases h with h | h <;> omega)
   have x0:wr.cell? ⟨X,0,none⟩ = some (.slice (some ⟨L,0,none⟩) nv nv):=(World.cell?_of_block (a:=⟨X,0,none⟩) hXo).trans HX.out.2.2.2.2.2.2.1
   have x1:wr.cell? ⟨X,1,none⟩ = some (.slice (some ⟨R,0,none⟩) nv nv):=(World.cell?_of_block (a:=⟨X,1,none⟩) hXo).trans HX.out.2.2.2.2.2.2.2
   have hst:(l.take (j + 1)).foldl (reStep nv S l) q = reStep nv S l ((l.take j).foldl (reStep nv S l) q) o:=by rw [re_step nv S l q j h1,ho]
   obtain ⟨q1,hq1⟩:∃ q1,(l.take j).foldl (reStep nv S l) q = q1:=⟨_,rfl⟩
   rw [hq1] at hst HJ
   have d1:(j:Int) < (n:Int):=by omega
   have d2:j < n + 1:=by omega
   obtain ⟨W3,hW3⟩:∃ W3,W3 = wr.alloc (.cells #[.int .i64 o.kind,.int .i64 o.value,.bool o.late,.int .i64 o.limit,.int .i64 o.n] 51):=⟨_,rfl⟩
   obtain ⟨B,hB⟩:∃ B,wr.heap.size = B:=⟨_,rfl⟩
   have hb3:Below wr.heap.size wr W3:=by rw [hW3]; exact (Below.refl _ _).alloc (Nat.le_refl _) _
   have HW3:Hid (W3 = wr.alloc (.cells #[.int .i64 o.kind,.int .i64 o.value,.bool o.late,.int .i64 o.limit,.int .i64 o.n] 51)):=hW3
   have HST:Hid ((l.take (j + 1)).foldl (reStep nv S l) q = reStep nv S l q1 o∧o ∈ l):=⟨hst,hmem⟩
   by_cases hlim:o.limit = 5
   ·have hno:=HD.out.2.2.1 o hmem hlim
    obtain ⟨m,hm⟩:∃ m:Nat,o.n = m:=⟨o.n.toNat,by omega⟩
    have hml:m < l.length:=by omega
    obtain ⟨b1',o1',hbb,r0',r5',r1,r2',r3',r4'⟩:=opr_cells HD.out.1 m hml
    clear r0' r5' r2' r3' r4'
    simp only [Option.some.injEq,Addr.mk.injEq] at hbb
    obtain ⟨rfl,rfl,_⟩:=hbb
    obtain ⟨V,hV,hV2⟩:∃ V:Nat,o.value = V∧V < nv:=by have:=HD.out.2.2.2 o hmem; exact ⟨o.value.toNat,by omega,by omega⟩
    obtain ⟨U,hU,hU2⟩:∃ U:Nat,l[m].value = U∧U < nv:=by have:=HD.out.2.2.2 l[m] (List.getElem_mem hml); exact ⟨l[m].value.toNat,by omega,by omega⟩
    have hst2:reStep nv S l q1 o = joinG nv S q1 V U:=by
     unfold reStep
     rw [if_pos hlim,hV,hm,Int.toNat_natCast,Int.toNat_natCast,List.getD_eq_getElem?_getD,List.getElem?_eq_getElem hml,Option.getD_some,hU,Int.toNat_natCast]
    rw [hU] at r1
    have hd3:Below wr.heap.size wr W3.drew:=hb3.drew
    have t0:W3.cell? ⟨B,1,none⟩ = some (.int .i64 (V:Int)):=by rw [hW3,← hB,← hV]; simp
    have t1:W3.cell? ⟨B,4,none⟩ = some (.int .i64 (m:Int)):=by rw [hW3,← hB,← hm]; simp
    have t2:W3.cell? ⟨B,3,none⟩ = some (.int .i64 5):=by rw [hW3,← hB,← hlim]; simp
    have lwr:wb.heap.size ≤ wr.heap.size:=hbr.size
    have lXr:X < wr.heap.size:=Nat.lt_of_lt_of_le HX.out.1 HJ.out.2.1.size
    have s0:=(hb3.cell (p:=⟨X,0,none⟩) lXr).trans x0
    have s1:=(hb3.cell (p:=⟨X,1,none⟩) lXr).trans x1
    have s2:=(hb3.cell (p:=⟨b1,o1 + m * 5 + 1,none⟩) (Nat.lt_of_lt_of_le l1 lwr)).trans ((hbr.cell (p:=⟨b1,o1 + m * 5 + 1,none⟩) l1).trans r1)
    have HC:=join_any (S:=S) (HJ.out.1.below hd3) HJ.out.2.2 HP.out.1 HP.out.2.1 HP.out.2.2 hnv V U hV2 hU2
    have HSF:Hid ((fun w' => w'.cell? ⟨X,0,none⟩ = some (.slice (some ⟨L,0,none⟩) nv nv)∧w'.cell? ⟨X,1,none⟩ = some (.slice (some ⟨R,0,none⟩) nv nv)∧w'.cell? ⟨B,1,none⟩ = some (.int .i64 (V:Int))∧w'.cell? ⟨B,4,none⟩ = some (.int .i64 (m:Int))∧w'.cell? ⟨b1,o1 + m * 5 + 1,none⟩ = some (.int .i64 (U:Int))) W3.drew):=⟨s0,s1,t0,t1,s2⟩
    have HJ1:Hid (Tch (LR L R) W W3.drew):=HJ.out.2.1.trans (Tch.of hd3)
    have hst3:=HST.out.1.trans hst2
    have HS2:Hid ((l.take (j + 1)).foldl (reStep nv S l) q = joinG nv S q1 V U):=hst3
    have HIN:Hid (X < W3.drew.heap.size∧b1 < W3.drew.heap.size∧B < W3.drew.heap.size∧X ≠ L∧X ≠ R∧b1 ≠ L∧b1 ≠ R∧B ≠ L∧B ≠ R):=by
     have h:=HX.out
     have hsz:W3.drew.heap.size = B + 1:=by show W3.heap.size = _; rw [hW3,← hB]; simp
     refine ⟨?_,?_,?_,?_,?_,?_,?_,?_,?_⟩ <;> omega
    have d3:(m:Int) < (n:Int):=by have:=HD.out.2.1; omega
    have d4:m < n + 1:=by omega
    have HLM:Hid (o.limit = 5):=hlim
    have q5:((5:Int) == 5) = true:=rfl
    rw [hV] at y1
    rw [hm] at y4
    rw [hlim] at y3
    have hW3':W3 = wr.alloc (.cells #[.int .i64 o.kind,.int .i64 (V:Int),.bool o.late,.int .i64 5,.int .i64 (m:Int)] 51):=by rw [hW3,hV,hm,hlim]
    have HW3':Hid (W3 = wr.alloc (.cells #[.int .i64 o.kind,.int .i64 (V:Int),.bool o.late,.int .i64 5,.int .i64 (m:Int)] 51)∧wr.heap.size = B):=⟨hW3',hB⟩
    clear hbr p0 p1 p2 p3 p4 hXo hst hst2 hst3 hq1 HJ l1 HB0 hV2 hU2 hmem hno hml r1 hd3 hb3 hW3 HW3 HST lwr lXr s0 s1 s2 hlim hV hm hU hW3' hB ho h1
    go_upto_region 4 with fail
    --CUT1
    rw [← HW3'.out.1,HW3'.out.2]
    clear y0 y1 y2 y3 y4 x0 x1 HW3'
    go_upto_region 5 with fail
    --CUT2
    refine wp_region_X (fun w' => w'.cell? ⟨X,0,none⟩ = some (.slice (some ⟨L,0,none⟩) nv nv)∧w'.cell? ⟨X,1,none⟩ = some (.slice (some ⟨R,0,none⟩) nv nv)∧w'.cell? ⟨B,1,none⟩ = some (.int .i64 (V:Int))∧w'.cell? ⟨B,4,none⟩ = some (.int .i64 (m:Int))∧w'.cell? ⟨b1,o1 + m * 5 + 1,none⟩ = some (.int .i64 (U:Int))) 99 (by kernel_rfl) HSF.out (fun hHeld => ?_)
    refine wpXt (v:=?_) 0 rfl (by kernel_rfl) (fun _ _ _ h => h) (by rfl) ?_ hHeld ?_
    rotate_left
    ·intro w' hSw
     go_simp <;> with_reducible rfl
    try simp only [Act.put,sqa,sqb,sqc]
    refine wpXt (v:=?_) 1 rfl (by kernel_rfl) (fun _ _ _ h => h) (by rfl) ?_ hHeld ?_
    rotate_left
    ·intro w' hSw
     go_simp <;> with_reducible rfl
    try simp only [Act.put,sqa,sqb,sqc]
    refine wpXt (v:=?_) 2 rfl (by kernel_rfl) (fun _ _ _ h => h) (by rfl) ?_ hHeld ?_
    rotate_left
    ·intro w' hSw
     go_simp <;> with_reducible rfl
    try simp only [Act.put,sqa,sqb,sqc]
    refine wpXt (v:=?_) 3 rfl (by kernel_rfl) (fun _ _ _ h => h) (by rfl) ?_ hHeld ?_
    rotate_left
    ·intro w' hSw
     go_simp <;> with_reducible rfl
    try simp only [Act.put,sqa,sqb,sqc]
    refine wpXt (v:=?_) 4 rfl (by kernel_rfl) (fun _ _ _ h => h) (by rfl) ?_ hHeld ?_
    rotate_left
    ·intro w' hSw
     go_simp <;> with_reducible rfl
    try simp only [Act.put,sqa,sqb,sqc]
    refine wpXt (v:=?_) 5 rfl (by kernel_rfl) (fun _ _ _ h => h) (by rfl) ?_ hHeld ?_
    rotate_left
    ·intro w' hSw
     go_simp <;> with_reducible rfl
    try simp only [Act.put,sqa,sqb,sqc]
    refine wpXt (v:=?_) 6 rfl (by kernel_rfl) (fun _ _ _ h => h) (by rfl) ?_ hHeld ?_
    rotate_left
    ·intro w' hSw
     go_simp <;> with_reducible rfl
    try simp only [Act.put,sqa,sqb,sqc]
    refine wpXt (v:=?_) 7 rfl (by kernel_rfl) (fun _ _ _ h => h) (by rfl) ?_ hHeld ?_
    rotate_left
    ·intro w' hSw
     go_simp <;> with_reducible rfl
    try simp only [Act.put,sqa,sqb,sqc]
    refine wpXt (v:=?_) 8 rfl (by kernel_rfl) (fun _ _ _ h => h) (by rfl) ?_ hHeld ?_
    rotate_left
    ·intro w' hSw
     go_simp <;> with_reducible rfl
    try simp only [Act.put,sqa,sqb,sqc]
    --CUTr
    refine wpXs 9 rfl (by kernel_rfl) (fun K hK => ?_)
    go_simp
    refine HC.mono ?_
    clear HC
    rintro e w3 ⟨rfl,vs',T',k3,i3,t3⟩
    have HN:Hid (GW w3 L R nv vs' T' ((l.take (j + 1)).foldl (reStep nv S l) q)∧Tch (LR L R) W w3∧GInv nv S ((l.take (j + 1)).foldl (reStep nv S l) q) T'):=by
     rw [HS2.out]
     exact ⟨k3,HJ1.out.trans t3,i3⟩
    have HS3:Hid ((fun w' => w'.cell? ⟨X,0,none⟩ = some (.slice (some ⟨L,0,none⟩) nv nv)∧w'.cell? ⟨X,1,none⟩ = some (.slice (some ⟨R,0,none⟩) nv nv)∧w'.cell? ⟨B,1,none⟩ = some (.int .i64 (V:Int))∧w'.cell? ⟨B,4,none⟩ = some (.int .i64 (m:Int))∧w'.cell? ⟨b1,o1 + m * 5 + 1,none⟩ = some (.int .i64 (U:Int))) w3):=by
     have hs:=HSF.out
     have h:=HIN.out
     have hXo:w3.heap[X]? = W3.drew.heap[X]?:=t3.block X h.1 (fun hh => by rcases hh with hh | hh <;> omega)
     have hbo:w3.heap[b1]? = W3.drew.heap[b1]?:=t3.block b1 h.2.1 (fun hh => by rcases hh with hh | hh <;> omega)
     have hBo:w3.heap[B]? = W3.drew.heap[B]?:=t3.block B h.2.2.1 (fun hh => by rcases hh with hh | hh <;> omega)
     exact ⟨(World.cell?_of_block (a:=⟨X,0,none⟩) hXo).trans hs.1,(World.cell?_of_block (a:=⟨X,1,none⟩) hXo).trans hs.2.1,(World.cell?_of_block (a:=⟨B,1,none⟩) hBo).trans hs.2.2.1,(World.cell?_of_block (a:=⟨B,4,none⟩) hBo).trans hs.2.2.2.1,(World.cell?_of_block (a:=⟨b1,o1 + m * 5 + 1,none⟩) hbo).trans hs.2.2.2.2⟩
    clear k3 i3 t3
    refine hK.out _ _ HS3.out (fun hHeld => ?_)
    clear hK K
    try simp only [Act.put,sqa,sqb,sqc]
    refine wpAnyX_done (by kernel_rfl) ?_ _
    go_wp2
    go_roundw
    case rel => exact ⟨j + 1,vs',T',by omega,by go_num,HN.out⟩
    case measure => simp [intOf]; omega
   ·have HN:Hid (GW W3 L R nv vs T ((l.take (j + 1)).foldl (reStep nv S l) q)∧Tch (LR L R) W W3∧GInv nv S ((l.take (j + 1)).foldl (reStep nv S l) q) T):=by
     have e:reStep nv S l q1 o = q1:=by unfold reStep; rw [if_neg hlim]
     rw [HST.out.1,e]
     exact ⟨HJ.out.1.below hb3,HJ.out.2.1.trans (Tch.of hb3),HJ.out.2.2⟩
    have t2:W3.cell? ⟨B,3,none⟩ = some (.int .i64 o.limit):=by rw [hW3,← hB]; simp
    obtain ⟨lm,hlm⟩:∃ lm,o.limit = lm:=⟨_,rfl⟩
    rw [hlm] at t2 y3 HW3 hlim
    have q5:(lm == 5) = false:=by simpa using hlim
    have HB':Hid (wr.heap.size = B):=hB
    clear hbr p0 p1 p2 p3 p4 hXo hst hq1 HJ l1 hmem hb3 hW3 HST hlm hB ho h1
    go_upto_region 4 with fail
    rw [← HW3.out,HB'.out]
    clear y0 y1 y2 y3 y4 x0 x1 HW3 HB'
    go_wp2
    go_roundw
    case rel => exact ⟨j + 1,vs,T,by omega,by go_num,HN.out⟩
    case measure => simp [intOf]; omega
  ·have HE:Hid (GW wr L R nv vs T (reuseG nv S l q)∧GInv nv S (reuseG nv S l q) T∧Tch (LR L R) w wr):=by
    have h:=HJ.out
    have e1:l.take j = l:=List.take_of_length_le (by rw [HD.out.2.1]; omega)
    rw [e1] at h
    exact ⟨h.1,h.2.2,HB0.out.2.1.trans h.2.1⟩
   clear HJ
   go_wp2
   first | go_end0 | refine bodyPost_ret (results_none rfl _ _ _) rfl ?_
   exact ⟨rfl,_,_,HE.out⟩
set_option maxRecDepth 4000 in
set_option maxHeartbeats 8000000 in
theorem partsOf_any (R nv:Nat) (hnv:nv ≤ 160) (w:World) (lR:R < w.heap.size) :
  Calls Try.prog 22 #[.slice (some ⟨R,0,none⟩) nv nv] w fun e w' => ∃ L,e = .returned (.agg #[.slice (some ⟨L,0,none⟩) nv nv,.slice (some ⟨R,0,none⟩) nv nv])∧w'.rowIs L 3 nv (fun i => .int .i64 (i:Int))∧w.heap.size ≤ L∧Below w.heap.size w w':=by
 have hmk:=run_make_row' (P:=Try.prog) 27 3 (.int .i64 0) 8 Try.underlying27 (by kernel_rfl) rfl .i64 .i64 nv (by omega) (by omega)
 obtain ⟨Q,hQ⟩:∃ Q,w.heap.size = Q:=⟨_,rfl⟩
 obtain ⟨W1,hW1⟩:∃ W1,W1 = w.alloc (.cells #[.slice none 0 0,.slice none 0 0] 68):=⟨_,rfl⟩
 obtain ⟨W2,hW2⟩:∃ W2,W2 = W1.alloc (.cells (madeCells #[.int .i64 0] nv) 3):=⟨_,rfl⟩
 obtain ⟨W3,hW3⟩:∃ W3,W3 = W2.alloc (.cells #[.slice (some ⟨Q + 1,0,none⟩) nv nv,.slice (some ⟨R,0,none⟩) nv nv] 68):=⟨_,rfl⟩
 have z1:W1.heap.size = Q + 1:=by rw [hW1,← hQ]; simp
 have z2:W2.heap.size = Q + 1 + 1:=by rw [hW2,← z1]; simp
 have z3:W3.heap.size = Q + 1 + 1 + 1:=by rw [hW3,← z2]; simp
 have r2:W2.rowIs (Q + 1) 3 nv (fun _ => .int .i64 0):=by rw [hW2,← z1]; exact World.rowIs_made _ _ _ _
 have b3:Below (Q + 1 + 1) W2 W3:=by rw [hW3]; exact (Below.refl _ _).alloc (by omega) _
 have r3:W3.rowIs (Q + 1) 3 nv (fun _ => .int .i64 0):=r2.of_block (b3.block _ (by omega))
 have hb:Below Q w W3:=by
  have h1:Below Q w W1:=by rw [hW1]; exact (Below.refl _ _).alloc (by omega) _
  have h2:Below Q w W2:=by rw [hW2]; exact h1.alloc (by omega) _
  rw [hW3]; exact h2.alloc (by omega) _
 have HQ:Hid (w.heap.size = Q∧W1.heap.size = Q + 1∧W2.heap.size = Q + 1 + 1):=⟨hQ,z1,z2⟩
 have HW1:Hid (W1 = w.alloc (.cells #[.slice none 0 0,.slice none 0 0] 68)):=hW1
 have HW2:Hid (W2 = W1.alloc (.cells (madeCells #[.int .i64 0] nv) 3)):=hW2
 have HW3:Hid (W3 = W2.alloc (.cells #[.slice (some ⟨Q + 1,0,none⟩) nv nv,.slice (some ⟨R,0,none⟩) nv nv] 68)):=hW3
 have p0:W3.cell? ⟨Q + 1 + 1,0,none⟩ = some (.slice (some ⟨Q + 1,0,none⟩) nv nv):=by rw [hW3,← z2]; simp
 have p1:W3.cell? ⟨Q + 1 + 1,1,none⟩ = some (.slice (some ⟨R,0,none⟩) nv nv):=by rw [hW3,← z2]; simp
 have hq0:W3.heap[Q]? = some (.cells #[.slice none 0 0,.slice none 0 0] 68):=by
  have h1:W3.heap[Q]? = W2.heap[Q]?:=b3.block Q (by omega)
  have h2:W2.heap[Q]? = W1.heap[Q]?:=by rw [hW2]; exact Below.heap_alloc _ _ _ (by omega)
  rw [h1,h2,hW1,← hQ]
  exact heap_alloc_new w _
 have q0:W3.cell? ⟨Q,0,none⟩ = some (.slice none 0 0):=by simp [World.cell?,hq0]
 have q1:W3.cell? ⟨Q,1,none⟩ = some (.slice none 0 0):=by simp [World.cell?,hq0]
 have fq0:W3.frozen? ⟨Q,0,none⟩ = false:=by simp [World.frozen?,hq0]
 have fq1:W3.frozen? ⟨Q,1,none⟩ = false:=by simp [World.frozen?,hq0]
 have H3:Hid (W3.rowIs (Q + 1) 3 nv (fun _ => .int .i64 0)∧Below Q w W3∧W3.heap.size = Q + 1 + 1 + 1∧W3.cell? ⟨Q + 1 + 1,0,none⟩ = some (.slice (some ⟨Q + 1,0,none⟩) nv nv)∧W3.cell? ⟨Q + 1 + 1,1,none⟩ = some (.slice (some ⟨R,0,none⟩) nv nv)∧W3.cell? ⟨Q,0,none⟩ = some (.slice none 0 0)∧W3.cell? ⟨Q,1,none⟩ = some (.slice none 0 0)∧W3.heap[Q]? = some (.cells #[.slice none 0 0,.slice none 0 0] 68)):=⟨r3,hb,z3,p0,p1,q0,q1,hq0⟩
 clear hW1 hW2 hW3 z1 z2 z3 r2 b3 r3 hb hq0 q0 q1 fq0 fq1 p1 hQ
 go_enter Try.func22,Try.ntmps22
 go_upto_region 1 with fail
 rw [HQ.out.1,← HW1.out]
 clear HW1
 go_upto_region 2 with fail
 rw [HQ.out.2.1]
 --CUT1
 rw [← HW2.out,← HW3.out]
 clear HW2 HW3 hmk
 go_wp2_with fail
 clear p0
 go_loopw [13] (fun i wr => ∃ k:Nat,k ≤ nv∧i = .int .i64 k∧Hid (wr.rowIs (Q + 1) 3 nv (fun j => .int .i64 ((if j < k then j else 0:Nat):Int))∧Tch (fun b => b = Q + 1) W3 wr)) (fun i _ => nv - (intOf i).toNat)
 case atStart => exact ⟨0,Nat.zero_le _,rfl,H3.out.1.congr fun j _ => by rw [if_neg (by omega)]; rfl,Tch.refl _ _⟩
 case round =>
  obtain ⟨k,hk,rfl,HJ⟩:=hrel
  have blk:∀ b,b < Q + 1 + 1 + 1 → b ≠ Q + 1 → wr.heap[b]? = W3.heap[b]?:=fun b h1 h2 => HJ.out.2.block b (by have:=H3.out.2.2.1; omega) h2
  have p0:wr.cell? ⟨Q + 1 + 1,0,none⟩ = some (.slice (some ⟨Q + 1,0,none⟩) nv nv):=(World.cell?_of_block (a:=⟨Q + 1 + 1,0,none⟩) (blk (Q + 1 + 1) (by omega) (by omega))).trans H3.out.2.2.2.1
  by_cases hkn:k < nv
  ·have x0:wr.cell? ⟨Q + 1,k,none⟩ = some (.int .i64 0):=(HJ.out.1.cell hkn).trans (by rw [if_neg (by omega)]; rfl)
   have fx:wr.frozen? ⟨Q + 1,k,none⟩ = false:=HJ.out.1.frozen k
   have d1:(k:Int) < (nv:Int):=by omega
   have d2:k < nv + 1:=by omega
   have HN:Hid ((wr.setCell ⟨Q + 1,k,none⟩ (.int .i64 (k:Int))).rowIs (Q + 1) 3 nv (fun j => .int .i64 ((if j < k + 1 then j else 0:Nat):Int))∧Tch (fun b => b = Q + 1) W3 (wr.setCell ⟨Q + 1,k,none⟩ (.int .i64 (k:Int)))):=by
    refine ⟨(HJ.out.1.set k (.int .i64 (k:Int))).congr fun j _ => ?_,HJ.out.2.setCell (p:=⟨Q + 1,k,none⟩) rfl _⟩
    by_cases e:j = k
    ·subst e; rw [if_pos rfl,if_pos (by omega)]
    ·rw [if_neg e]
     by_cases e2:j < k
     ·rw [if_pos e2,if_pos (by omega)]
     ·rw [if_neg e2,if_neg (by omega)]
   clear HJ blk
   go_wp2
   go_roundw
   case rel => exact ⟨k + 1,by omega,by go_num,HN⟩
   case measure => simp [intOf]; omega
  ·have p1:wr.cell? ⟨Q + 1 + 1,1,none⟩ = some (.slice (some ⟨R,0,none⟩) nv nv):=(World.cell?_of_block (a:=⟨Q + 1 + 1,1,none⟩) (blk (Q + 1 + 1) (by omega) (by omega))).trans H3.out.2.2.2.2.1
   have hqw:wr.heap[Q]? = some (.cells #[.slice none 0 0,.slice none 0 0] 68):=(blk Q (by omega) (by omega)).trans H3.out.2.2.2.2.2.2.2
   have q0:wr.cell? ⟨Q,0,none⟩ = some (.slice none 0 0):=by simp [World.cell?,hqw]
   have q1:wr.cell? ⟨Q,1,none⟩ = some (.slice none 0 0):=by simp [World.cell?,hqw]
   have fq0:wr.frozen? ⟨Q,0,none⟩ = false:=by simp [World.frozen?,hqw]
   have fq1:wr.frozen? ⟨Q,1,none⟩ = false:=by simp [World.frozen?,hqw]
   have HE:Hid (∀ W',Tch (fun b => b = Q) wr W' → W'.rowIs (Q + 1) 3 nv (fun j => .int .i64 (j:Int))∧Below Q w W'):=fun W' ht => by
    refine ⟨((HJ.out.1.congr (g:=fun j => .int .i64 (j:Int)) fun j hj => by rw [if_pos (by omega)]).of_block (ht.block _ HJ.out.1.lt (by omega))),?_⟩
    have h1:Below Q w wr:=HJ.out.2.below H3.out.2.1 (fun b h => by omega) (by have:=H3.out.2.2.1; omega)
    exact ht.below h1 (fun b h => by omega) (by have:=H3.out.2.2.1; have:=HJ.out.2.size; omega)
   clear HJ blk hqw
   go_wp2
   --CUT2
   obtain ⟨W',hW'⟩:∃ W',W' = (wr.setCell ⟨Q,0,none⟩ (.slice (some ⟨Q + 1,0,none⟩) nv nv)).setCell ⟨Q,1,none⟩ (.slice (some ⟨R,0,none⟩) nv nv):=⟨_,rfl⟩
   have hT:Tch (fun b => b = Q) wr W':=by
    rw [hW']
    exact ((Tch.refl (fun b => b = Q) wr).setCell (p:=⟨Q,0,none⟩) (show (fun b => b = Q) Q from rfl) _).setCell (p:=⟨Q,1,none⟩) (show (fun b => b = Q) Q from rfl) _
   have hE:=HE.out W' hT
   have m0:W'.cell? ⟨Q,0,none⟩ = some (.slice (some ⟨Q + 1,0,none⟩) nv nv):=by
    rw [hW',World.cell?_setCell_other _ _ _ _ (by simp)]
    exact World.cell?_setCell_same _ _ _ q0
   have m1:W'.cell? ⟨Q,1,none⟩ = some (.slice (some ⟨R,0,none⟩) nv nv):=by
    rw [hW']
    exact World.cell?_setCell_same _ _ _ ((World.cell?_setCell_other _ _ _ _ (by simp)).trans q1)
   rw [← hW']
   clear hW' hT q0 q1 fq0 fq1 HE
   refine bodyPost_ret (v:=.agg #[.slice (some ⟨Q + 1,0,none⟩) nv nv,.slice (some ⟨R,0,none⟩) nv nv]) (by simp [results,Try.results22,go_sem,m0,m1]) rfl ⟨Q + 1,rfl,hE.1,by rw [HQ.out.1]; omega,by rw [HQ.out.1]; exact hE.2⟩
end Go.Proofs.Ytdlnofjmonpmgaa
