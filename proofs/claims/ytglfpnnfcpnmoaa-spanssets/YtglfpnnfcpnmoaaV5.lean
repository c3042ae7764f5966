/-
  The contract of 'handBack': one round back through the blocks; and why rounds end.
-/
import Derived.Test.YtglfpnnfcpnmoaaV3
import Derived.Test.YtglfpnnfcpnmoaaA5
namespace Go.Proofs.Ytglfpnnfcpnmoaa
open Go.RowKit
set_option linter.unusedVariables false
structure Rnd (bs:List Blk) (nv:Nat) (Ia Oa:Tb) (news:Bool) (I O:Tb) (vis:Nat → Nat → Nat → Prop):Prop where
 mid:Mid bs I O
 cnt:cntT bs.length nv Oa + (if news = true then 1 else 0) ≤ cntT bs.length nv O
 old:news = false → I = Ia∧O = Oa∧∀ b t v,vis b t v → Ia t v = true → Oa b v = true
theorem Rnd.mono {bs:List Blk} {nv:Nat} {Ia Oa:Tb} {news:Bool} {I O:Tb} {vis vis':Nat → Nat → Nat → Prop} (h:Rnd bs nv Ia Oa news I O vis) (hv:∀ b t v,vis' b t v → vis b t v):Rnd bs nv Ia Oa news I O vis' :=
 ⟨h.mid,h.cnt,fun hf => ⟨(h.old hf).1,(h.old hf).2.1,fun b t v hx => (h.old hf).2.2 b t v (hv b t v hx)⟩⟩
theorem Rnd.pass {bs:List Blk} {nv:Nat} {Ia Oa:Tb} {news:Bool} {I O:Tb} {vis vis':Nat → Nat → Nat → Prop} (h:Rnd bs nv Ia Oa news I O vis) {b0 t0 v0:Nat} (hp:I t0 v0 = true → O b0 v0 = true) (hv:∀ b t v,vis' b t v → vis b t v ∨ (b = b0∧t = t0∧v = v0)):Rnd bs nv Ia Oa news I O vis':=by
 refine ⟨h.mid,h.cnt,fun hf => ?_⟩
 obtain ⟨h1,h2,h3⟩:=h.old hf
 refine ⟨h1,h2,fun b t v hx => ?_⟩
 rcases hv b t v hx with hy | ⟨rfl,rfl,rfl⟩
 ·exact h3 b t v hy
 ·rw [← h1,← h2]; exact hp
theorem Rnd.hold {bs:List Blk} {nv:Nat} {Ia Oa:Tb} {news:Bool} {I O:Tb} {vis vis':Nat → Nat → Nat → Prop} (h:Rnd bs nv Ia Oa news I O vis) {b t v:Nat} (hb:b < bs.length) (hv:v < nv) (ht:t ∈ succM bs b) (hi:I t v = true) (ho:O b v = false):Rnd bs nv Ia Oa true (askT (M0 bs bs.length) I b v) (upT O b v) vis':=by
 refine ⟨h.mid.hold hb ht hi,?_,fun hf => by cases hf⟩
 have h1:=h.cnt
 rw [cntT_up _ _ _ _ _ hb hv ho,if_pos rfl]
 have:0 ≤ (if news = true then 1 else 0):=Nat.zero_le _
 omega
structure HkS (w0:World) (X r1 r2 r3 n nv:Nat) (w:World) (I O M:Tb):Prop where
 nd:NdS w r1 r2 r3 n nv I O M
 bn:w.rowIs X 67 3 (fun q => if q = 0 then .slice (some ⟨r1,0,none⟩) n n else if q = 1 then .slice (some ⟨r2,0,none⟩) n n else .slice (some ⟨r3,0,none⟩) n n)
 tc:Tch (TS r1 r2 r3 n) w0 w
 far:r3 + n < X
theorem HkS.call {w0:World} {X r1 r2 r3 n nv:Nat} {w w':World} {I O M I' O' M':Tb} (h:HkS w0 X r1 r2 r3 n nv w I O M) (h2:NdS w' r1 r2 r3 n nv I' O' M') (t:Tch (TS r1 r2 r3 n) w w'):HkS w0 X r1 r2 r3 n nv w' I' O' M' :=
 ⟨h2,t.row h.bn (by have:=h.far; have:=h.nd.a12; have:=h.nd.a23; unfold TS; omega),h.tc.trans t,h.far⟩
theorem HkS.below {w0:World} {X r1 r2 r3 n nv:Nat} {w w':World} {I O M:Tb} (h:HkS w0 X r1 r2 r3 n nv w I O M) (hb:Below w.heap.size w w'):HkS w0 X r1 r2 r3 n nv w' I O M:=h.call (h.nd.below hb) (Tch.of hb)
set_option maxRecDepth 4000 in
set_option maxHeartbeats 8000000 in
theorem handBack_any (bs:List Blk) (n nv r1 r2 r3:Nat) (Ia Oa:Tb) (ab:Option Addr) (cb:Nat) (wb w:World) (hbl:bs.length = n) (h:NdS w r1 r2 r3 n nv Ia Oa (M0 bs bs.length)) (hm:Mid bs Ia Oa) (hwb:Below wb.heap.size wb w) (hB:wb.heap.size ≤ r1) (hs:SlOf wb 3 (RBlk wb) (.slice ab n cb) bs) (hr:∀ b ∈ bs,∀ e ∈ b.edges,0 ≤ e.block∧e.block < (n:Int)) (hn:n ≤ 1000) (hnv:nv ≤ 1000) :
  Calls Try.prog 30 #[.agg #[.slice (some ⟨r1,0,none⟩) n n,.slice (some ⟨r2,0,none⟩) n n,.slice (some ⟨r3,0,none⟩) n n],.slice ab n cb] w fun e w' => ∃ news I O,e = .returned (.bool news)∧NdS w' r1 r2 r3 n nv I O (M0 bs bs.length)∧Tch (TS r1 r2 r3 n) w w'∧Rnd bs nv Ia Oa news I O (fun b t v => b < n∧t ∈ succM bs b∧v < nv):=by
 obtain ⟨W,hW⟩:∃ W,W = w.alloc (.cells #[.slice (some ⟨r1,0,none⟩) n n,.slice (some ⟨r2,0,none⟩) n n,.slice (some ⟨r3,0,none⟩) n n] 67):=⟨_,rfl⟩
 obtain ⟨X,hX⟩:∃ X,w.heap.size = X:=⟨_,rfl⟩
 have hst:HkS w X r1 r2 r3 n nv W Ia Oa (M0 bs bs.length):=by
  have q0:=World.rowIs_alloc w #[.slice (some ⟨r1,0,none⟩) n n,.slice (some ⟨r2,0,none⟩) n n,.slice (some ⟨r3,0,none⟩) n n] 67 (fun q => if q = 0 then .slice (some ⟨r1,0,none⟩) n n else if q = 1 then .slice (some ⟨r2,0,none⟩) n n else .slice (some ⟨r3,0,none⟩) n n) fun i hi => by
   simp at hi
   match i,hi with | 0,_ => rfl | 1,_ => rfl | 2,_ => rfl
  rw [hX] at q0
  have hbW:Below w.heap.size w W:=by rw [hW]; exact (Below.refl _ _).alloc (Nat.le_refl _) _
  refine ⟨h.below hbW,?_,Tch.of hbW,by rw [← hX]; exact h.tm.hi⟩
  rw [hW]; exact q0
 have HW:Hid (W = w.alloc (.cells #[.slice (some ⟨r1,0,none⟩) n n,.slice (some ⟨r2,0,none⟩) n n,.slice (some ⟨r3,0,none⟩) n n] 67)):=hW
 have HX:Hid (w.heap.size = X):=hX
 have HS0:Hid (HkS w X r1 r2 r3 n nv W Ia Oa (M0 bs bs.length)):=hst
 have HLOW:Hid (∀ w',Tch (TS r1 r2 r3 n) w w' → Below wb.heap.size wb w'):=fun w' t => t.below hwb (fun k hk => by have h1:=h.a12; have h2:=h.a23; unfold TS at hk; omega) hwb.size
 have HBS:Hid (SlOf wb 3 (RBlk wb) (.slice ab n cb) bs):=hs
 have HR:Hid (∀ b ∈ bs,∀ e ∈ b.edges,0 ≤ e.block∧e.block < (n:Int)):=hr
 have HL:Hid (bs.length = n):=hbl
 have HM:Hid (Mid bs Ia Oa):=hm
 have wr1:IntKind.i64.wrap ((n:Int) - 1) = (n:Int) - 1:=by rw [IntKind.wrap_i64]; omega
 generalize hM0:M0 bs bs.length = M at *
 have HM0:Hid (M0 bs bs.length = M):=hM0
 clear hM0 hW hX hst h hwb hB hs hr hbl hm
 go_enter Try.func30,Try.ntmps30
 go_upto_region 2 with fail
 rw [← HW.out,HX.out]
 clear HW
 go_wp2_with fail
 go_loopw [5,6] (fun c i wr => ∃ (kk:Nat) (news:Bool) (I O:Tb),kk ≤ n∧i = .int .i64 ((kk:Int) - 1)∧c = .bool news∧Hid (HkS w X r1 r2 r3 n nv wr I O M)∧Hid (Rnd bs nv Ia Oa news I O (fun b t v => kk ≤ b∧b < n∧t ∈ succM bs b∧v < nv))) (fun _ i _ => ((intOf i) + 1).toNat)
 case atStart => exact ⟨n,false,Ia,Oa,Nat.le_refl _,rfl,rfl,HS0,⟨HM.out,by simp,fun _ => ⟨rfl,rfl,fun b t v hx => by omega⟩⟩⟩
 case round =>
  clear HS0 HM
  obtain ⟨kk,news,I,O,hkk,rfl,rfl,HI,HP⟩:=hrel
  by_cases hlt:0 < kk
  ·obtain ⟨k,rfl⟩:∃ k,kk = k + 1:=⟨kk - 1,by omega⟩
   have ek:((k + 1:Nat):Int) - 1 = (k:Int):=by omega
   rw [ek]
   clear ek
   have hkb:k < bs.length:=by rw [HL.out]; omega
   have hkn:k < n:=by omega
   obtain ⟨b5,off5,cs,rfl,hcl5,⟨vp,vi,ve,rfl,hp,hi,he0⟩,hc⟩:=HBS.out.at k hkb
   obtain ⟨ae,ce,rfl,le⟩:=he0.out
   unfold longest at le
   have hb0:=HLOW.out _ HI.out.tc
   have c2:=(hb0.cell (p:=⟨b5,off5 + k * 3 + 2,none⟩) (block_lt (hc 2 (by simp)))).trans (hc 2 (by simp))
   simp at c2
   have hrk:=HR.out bs[k] (List.getElem_mem hkb)
   have HSC:Hid (succM bs k = bs[k].edges.map fun e => e.block.toNat):=succM_at bs k hkb
   clear hc hcl5 hp hi
   generalize bs[k].edges = es at *
   have HE:Hid (SlOf wb 2 (REdg wb) (.slice ae es.length ce) es):=he0
   have HRK:Hid (∀ e ∈ es,0 ≤ e.block∧e.block < (n:Int)):=hrk
   have HP2:Hid (Rnd bs nv Ia Oa news I O (fun b t v => (k + 1 ≤ b∧b < n∧t ∈ succM bs b∧v < nv) ∨ (b = k∧t ∈ (es.take 0).map (fun e => e.block.toNat)∧v < nv))):=HP.out.mono fun b t v hx => by
    rcases hx with hx | hx
    ·exact hx
    ·simp at hx
   clear he0 hrk hb0 HP
   go_wp2_with fail
   clear c2
   go_loopw [5,24] (fun c i wr => ∃ (j:Nat) (news:Bool) (I O:Tb),j ≤ es.length∧i = .int .i64 j∧c = .bool news∧Hid (HkS w X r1 r2 r3 n nv wr I O M)∧Hid (Rnd bs nv Ia Oa news I O (fun b t v => (k + 1 ≤ b∧b < n∧t ∈ succM bs b∧v < nv) ∨ (b = k∧t ∈ (es.take j).map (fun e => e.block.toNat)∧v < nv)))) (fun _ i _ => es.length - (intOf i).toNat)
   case atStart => exact ⟨0,news,I,O,Nat.zero_le _,rfl,rfl,HI,HP2⟩
   case round =>
    clear HI HP2
    obtain ⟨j,news,I,O,hj,rfl,rfl,HI,HP⟩:=hrel
    by_cases hjl:j < es.length
    ·obtain ⟨b6,off6,cs,rfl,hcl6,⟨va,rfl,hva⟩,hc⟩:=HE.out.at j hjl
     obtain ⟨aa,ca,rfl,_⟩:=hva.out
     have hb0:=HLOW.out _ HI.out.tc
     have e0:=(hb0.cell (p:=⟨b6,off6 + j * 2 + 0,none⟩) (block_lt (hc 0 (by simp)))).trans (hc 0 (by simp))
     have e1:=(hb0.cell (p:=⟨b6,off6 + j * 2 + 1,none⟩) (block_lt (hc 1 (by simp)))).trans (hc 1 (by simp))
     simp at e0 e1
     have hrj:=HRK.out es[j] (List.getElem_mem hjl)
     have HTS:Hid ((es.take (j + 1)).map (fun e => e.block.toNat) = (es.take j).map (fun e => e.block.toNat) ++ [es[j].block.toNat]):=map_take_succ _ _ _ hjl
     have HTM:Hid (es[j].block.toNat ∈ succM bs k):=by
      show _ ∈ _
      rw [HSC.out]
      exact List.mem_map_of_mem (List.getElem_mem hjl)
     clear hc hcl6 hva hb0
     generalize es[j].args.length = na at *
     generalize es[j].block = t0 at *
     obtain ⟨t,rfl⟩:∃ t:Nat,t0 = t:=⟨t0.toNat,by omega⟩
     rw [Int.toNat_natCast] at HTS HTM
     have htn:t < n:=by omega
     have d0:wr.cell? ⟨X,0,none⟩ = some (.slice (some ⟨r1,0,none⟩) n n):=HI.out.bn.cell (i:=0) (by omega)
     have i1:wr.cell? ⟨r1,t,none⟩ = some (.slice (some ⟨r1 + 1 + t,0,none⟩) nv nv):=HI.out.nd.ti.row.cell htn
     have lX:=HI.out.bn.lt
     have l1:=HI.out.nd.ti.lt
     have LX:=old_cell X
     have L1:=old_cell r1
     have HI2:Hid (HkS w X r1 r2 r3 n nv (wr.alloc (.cells #[.int .i64 t,.slice aa na ca] 92)) I O M):=HI.out.below ((Below.refl _ _).alloc (Nat.le_refl _) _)
     have HP2:Hid (Rnd bs nv Ia Oa news I O (fun b t' v => ((k + 1 ≤ b∧b < n∧t' ∈ succM bs b∧v < nv) ∨ (b = k∧t' ∈ (es.take j).map (fun e => e.block.toNat)∧v < nv)) ∨ (b = k∧t' = t∧v < 0))):=HP.out.mono fun b t v hx => by
      rcases hx with hx | hx
      ·exact hx
      ·omega
     clear hrj HI HP
     go_wp2_with fail
     obtain ⟨wc,hwc⟩:∃ wc,wc = wr.alloc (.cells #[.int .i64 t,.slice aa na ca] 92):=⟨_,rfl⟩
     rw [← hwc] at HI2 ⊢
     clear hwc e0 e1 d0 i1 lX l1 LX L1
     go_loopw [5,35] (fun c i wr => ∃ (u:Nat) (news:Bool) (I O:Tb),u ≤ nv∧i = .int .i64 u∧c = .bool news∧Hid (HkS w X r1 r2 r3 n nv wr I O M)∧Hid (Rnd bs nv Ia Oa news I O (fun b t' v => ((k + 1 ≤ b∧b < n∧t' ∈ succM bs b∧v < nv) ∨ (b = k∧t' ∈ (es.take j).map (fun e => e.block.toNat)∧v < nv)) ∨ (b = k∧t' = t∧v < u)))) (fun _ i _ => nv - (intOf i).toNat)
     case atStart => exact ⟨0,news,I,O,Nat.zero_le _,rfl,rfl,HI2,HP2⟩
     case round =>
      clear HI2 HP2
      obtain ⟨u,news,I,O,hu,rfl,rfl,HI,HP⟩:=hrel
      by_cases hul:u < nv
      ·have x1:=(HI.out.nd.ti.rows t htn).cell hul
       have d0:wr.cell? ⟨X,0,none⟩ = some (.slice (some ⟨r1,0,none⟩) n n):=HI.out.bn.cell (i:=0) (by omega)
       have d1:wr.cell? ⟨X,1,none⟩ = some (.slice (some ⟨r2,0,none⟩) n n):=HI.out.bn.cell (i:=1) (by omega)
       have d2:wr.cell? ⟨X,2,none⟩ = some (.slice (some ⟨r3,0,none⟩) n n):=HI.out.bn.cell (i:=2) (by omega)
       have o1:wr.cell? ⟨r2,k,none⟩ = some (.slice (some ⟨r2 + 1 + k,0,none⟩) nv nv):=HI.out.nd.tu.row.cell hkn
       have o2:=(HI.out.nd.tu.rows k hkn).cell hul
       cases hi:I t u
       ·rw [hi] at x1
        have HP2:Hid (Rnd bs nv Ia Oa news I O (fun b t' v => ((k + 1 ≤ b∧b < n∧t' ∈ succM bs b∧v < nv) ∨ (b = k∧t' ∈ (es.take j).map (fun e => e.block.toNat)∧v < nv)) ∨ (b = k∧t' = t∧v < u + 1))):=HP.out.pass (b0:=k) (t0:=t) (v0:=u) (fun hx => by rw [hi] at hx; cases hx) fun b t' v hx => by
         rcases hx with hx | ⟨h1,h2,h3⟩
         ·exact Or.inl (Or.inl hx)
         ·by_cases e:v = u
          ·exact Or.inr ⟨h1,h2,e⟩
          ·exact Or.inl (Or.inr ⟨h1,h2,by omega⟩)
        clear hi HP
        go_wp2
        go_roundw
        case rel => exact ⟨u + 1,news,I,O,by omega,by go_num,rfl,HI,HP2⟩
        case measure => simp [intOf]; omega
       ·rw [hi] at x1
        cases ho:O k u
        ·rw [ho] at o2
         have HC:=hold_any n nv r1 r2 r3 I O M k u wr HI.out.nd hkn hul hn hnv
         have HP2:Hid (Rnd bs nv Ia Oa true (askT M I k u) (upT O k u) (fun b t' v => ((k + 1 ≤ b∧b < n∧t' ∈ succM bs b∧v < nv) ∨ (b = k∧t' ∈ (es.take j).map (fun e => e.block.toNat)∧v < nv)) ∨ (b = k∧t' = t∧v < u + 1))):=by
          show Rnd _ _ _ _ _ _ _ _
          rw [← HM0.out]
          exact HP.out.hold hkb hul HTM.out hi ho
         clear hi ho HP
         go_wp2_with fail
         refine HC.mono ?_
         clear HC d0 d1 d2 x1 o1 o2
         rintro e w6 ⟨rfl,h6,t6⟩
         have HN:Hid (HkS w X r1 r2 r3 n nv w6 (askT M I k u) (upT O k u) M):=HI.out.call h6 t6
         clear h6 t6 HI
         go_wp2
         go_roundw
         case rel => exact ⟨u + 1,true,_,_,by omega,by go_num,rfl,HN,HP2⟩
         case measure => simp [intOf]; omega
        ·rw [ho] at o2
         have HP2:Hid (Rnd bs nv Ia Oa news I O (fun b t' v => ((k + 1 ≤ b∧b < n∧t' ∈ succM bs b∧v < nv) ∨ (b = k∧t' ∈ (es.take j).map (fun e => e.block.toNat)∧v < nv)) ∨ (b = k∧t' = t∧v < u + 1))):=HP.out.pass (b0:=k) (t0:=t) (v0:=u) (fun _ => ho) fun b t' v hx => by
          rcases hx with hx | ⟨h1,h2,h3⟩
          ·exact Or.inl (Or.inl hx)
          ·by_cases e:v = u
           ·exact Or.inr ⟨h1,h2,e⟩
           ·exact Or.inl (Or.inr ⟨h1,h2,by omega⟩)
         clear hi ho HP
         go_wp2
         go_roundw
         case rel => exact ⟨u + 1,news,I,O,by omega,by go_num,rfl,HI,HP2⟩
         case measure => simp [intOf]; omega
      ·have HP2:Hid (Rnd bs nv Ia Oa news I O (fun b t v => (k + 1 ≤ b∧b < n∧t ∈ succM bs b∧v < nv) ∨ (b = k∧t ∈ (es.take (j + 1)).map (fun e => e.block.toNat)∧v < nv))):=HP.out.mono fun b t' v hx => by
        rw [HTS.out] at hx
        rcases hx with hx | ⟨h1,h2,h3⟩
        ·exact Or.inl (Or.inl hx)
        ·rcases List.mem_append.1 h2 with h2 | h2
         ·exact Or.inl (Or.inr ⟨h1,h2,h3⟩)
         ·exact Or.inr ⟨h1,List.mem_singleton.1 h2,by omega⟩
       clear HP
       go_wp2
       go_roundw
       case rel => exact ⟨j + 1,news,I,O,by omega,by go_num,rfl,HI,HP2⟩
       case measure => simp [intOf]; omega
    ·have HP2:Hid (Rnd bs nv Ia Oa news I O (fun b t v => k ≤ b∧b < n∧t ∈ succM bs b∧v < nv)):=HP.out.mono fun b t v hx => by
      by_cases e:b = k
      ·right
       refine ⟨e,?_,hx.2.2.2⟩
       have h1:=hx.2.2.1
       rw [e,HSC.out] at h1
       rw [List.take_of_length_le (by omega)]
       exact h1
      ·left; exact ⟨by omega,hx.2⟩
     have wk:IntKind.i64.wrap ((k:Int) - 1) = (k:Int) - 1:=by rw [IntKind.wrap_i64]; omega
     clear HP
     go_wp2
     go_roundw
     case rel => exact ⟨k,news,I,O,by omega,rfl,rfl,HI,HP2⟩
     case measure => simp [intOf]
  ·obtain rfl:kk = 0:=by omega
   have HE:Hid (NdS wr r1 r2 r3 n nv I O M∧Tch (TS r1 r2 r3 n) w wr∧Rnd bs nv Ia Oa news I O (fun b t v => b < n∧t ∈ succM bs b∧v < nv)):=⟨HI.out.nd,HI.out.tc,HP.out.mono fun b t v hx => ⟨Nat.zero_le _,hx⟩⟩
   have e0:((0:Nat):Int) - 1 = -1:=by omega
   rw [e0]
   clear e0 HI HP
   go_wp2
   go_ret
   exact ⟨news,I,O,rfl,HE.out⟩
end Go.Proofs.Ytglfpnnfcpnmoaa
