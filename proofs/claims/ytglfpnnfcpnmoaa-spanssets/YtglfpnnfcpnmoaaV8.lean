/-
  At the beginning of the first block nothing is needed, where flow finds no fault. No Go in here.
-/
import Derived.Test.YtglfpnnfcpnmoaaV0
import Derived.Test.YtglfpnnfcpnmoaaF7
namespace Go.Proofs.Ytglfpnnfcpnmoaa
open Go.RowKit
set_option linter.unusedVariables false
theorem flowE_all {f:Fn} {m0 m1:Int} {K:Nat} (h:flowE f m0 m1 K = 0):shapeErr f m0 m1 = 0∧f.blocks.length ≤ (orderM f.blocks).length∧madeL (spU f.blocks f.blocks.length) (idomF f K) f.blocks = true:=by
 unfold flowE at h
 split at h
 ·contradiction
 ·rename_i h1
  split at h
  ·cases h
  ·rename_i h2
   split at h
   ·cases h
   ·rename_i h3
    split at h
    ·rename_i h4
     exact ⟨by simpa using h1,by omega,h4⟩
    ·cases h
theorem nodup_nat {l:List Int} (h:l.Nodup) (h0:∀ x ∈ l,0 ≤ x):(l.map Int.toNat).Nodup:=by
 refine List.pairwise_map.2 (List.Pairwise.imp_of_mem (fun {a b} ha hb hne he => hne ?_) h)
 have:=h0 a ha
 have:=h0 b hb
 omega
theorem made_somewhere {f:Fn} {m0 m1:Int} (hs:shapeErr f m0 m1 = 0) (v:Nat) (hv:v < f.values.length):(v:Int) ∈ allM f.blocks:=by
 have S:=shape_in hs
 have hval:=marks_val _ _ _ S.mks
 have hnd:=(marks_free _ _ _ S.mks).2
 have h:=all_of_full (n:=f.values.length) (nodup_nat hnd fun x hx => (isValue_bd (hval x hx)).1) (fun x hx => by
  obtain ⟨y,hy,rfl⟩:=List.mem_map.1 hx
  have:=isValue_bd (hval y hy)
  omega) (by rw [List.length_map]; exact S.all) v hv
 obtain ⟨y,hy,e⟩:=List.mem_map.1 h
 have:=isValue_bd (hval y hy)
 rw [show (v:Int) = y by omega]
 exact hy
theorem mem_spU {bs:List Blk} {v:Int} {sp:Spot} (h:(v,sp) ∈ spU bs bs.length):∃ b:Nat,b < bs.length∧sp.1 = (b:Int)∧v ∈ makersOf (blkA bs b):=by
 unfold spU at h
 obtain ⟨b,hb,h⟩:=List.mem_flatMap.1 h
 refine ⟨b,List.mem_range.1 hb,?_⟩
 unfold blkSp at h
 rcases List.mem_append.1 h with h | h
 ·obtain ⟨u,hu,e⟩:=List.mem_map.1 h
  simp only [Prod.mk.injEq] at e
  obtain ⟨rfl,rfl⟩:=e
  exact ⟨rfl,List.mem_append_left _ hu⟩
 ·obtain ⟨i,hi,h⟩:=List.mem_flatMap.1 h
  obtain ⟨u,hu,e⟩:=List.mem_map.1 h
  simp only [Prod.mk.injEq] at e
  obtain ⟨rfl,rfl⟩:=e
  refine ⟨rfl,List.mem_append_right _ ?_⟩
  have hil:=List.mem_range.1 hi
  rw [List.getD_eq_getElem?_getD,List.getElem?_eq_getElem hil] at hu
  exact List.mem_flatMap.2 ⟨_,List.getElem_mem hil,hu⟩
theorem spot_made {f:Fn} {m0 m1:Int} (hs:shapeErr f m0 m1 = 0) (v:Nat) (hv:v < f.values.length):∃ b:Nat,b < f.blocks.length∧(spotOf (spU f.blocks f.blocks.length) v).1 = (b:Int)∧(v:Int) ∈ makersOf (blkA f.blocks b):=by
 have S:=shape_in hs
 have hm:=made_somewhere hs v hv
 rw [← sp_vals] at hm
 obtain ⟨⟨x,sp⟩,hx,e⟩:=List.mem_map.1 hm
 simp only at e
 subst e
 have h1:=spot_is (marks_free _ _ _ S.mks).2 (by omega) hx
 rw [Int.toNat_natCast] at h1
 rw [h1]
 exact mem_spU hx
theorem first_bare {f:Fn} {m0 m1:Int} (h:flowE f m0 m1 (f.blocks.length * f.blocks.length + 1) = 0) (v:Nat) (hv:v < f.values.length):¬ NeedIn f.blocks 0 v:=by
 obtain ⟨hs,hlen,hmade⟩:=flowE_all h
 have S:=shape_in hs
 have I:=flowIn_all hs
 obtain ⟨g,hf⟩:=I.gr hlen
 have hroot:=order_first f.blocks S.pos I.suc
 obtain ⟨d,hd,hsp,hmk⟩:=spot_made hs v hv
 obtain ⟨n,hn⟩:∃ n,f.blocks.length = n:=⟨_,rfl⟩
 obtain ⟨K,hK⟩:∃ K,n * n + 1 = K:=⟨_,rfl⟩
 have hK0:0 < K:=by omega
 unfold idomF at hmade
 rw [hn,hK] at hf hmade
 rw [hn] at g hd hsp
 have hB:=fix_back g hK0 hf
 have key:∀ b u,NeedIn f.blocks b u → u = v → b < n∧Up ((orderM f.blocks).getD 0 0) (roundsM (predL (predsL f.blocks)) (orderM f.blocks) n K) (b:Int) (d:Int)∧d ≠ b:=by
  intro b u hneed
  induction hneed with
  | use b u hb hm hu =>
   intro e
   subst e
   rw [hn] at hb
   have hdb:d ≠ b:=fun e => by subst e; exact hm hmk
   refine ⟨hb,?_,hdb⟩
   have hbl:b < f.blocks.length:=by omega
   unfold madeL at hmade
   rw [List.all_eq_true] at hmade
   have h1:=hmade b (List.mem_range.2 hbl)
   unfold blkOk at h1
   have hbb:f.blocks.getD b ⟨[],[],[]⟩ = blkA f.blocks b:=rfl
   rw [hbb] at h1
   simp only [Bool.and_eq_true,List.all_eq_true,List.mem_range] at h1
   have ahead:∀ i:Int,aheadM (roundsM (predL (predsL f.blocks)) (orderM f.blocks) n K) n (spotOf (spU f.blocks n) u) ((b:Int),i) = true → Up ((orderM f.blocks).getD 0 0) (roundsM (predL (predsL f.blocks)) (orderM f.blocks) n K) (b:Int) (d:Int):=fun i ha => by
    unfold aheadM at ha
    rw [if_neg (by rw [hsp]; simp only; omega),hsp] at ha
    exact (dom_end g hK0 (by omega) (by omega) (by omega)).1 ha
   rw [hn] at h1
   rcases hu with hu | hu
   ·obtain ⟨x,hx,ho⟩:=List.mem_flatMap.1 hu
    obtain ⟨i,hil,hix⟩:=List.getElem_of_mem hx
    have h2:=h1.1 i hil
    unfold insOk at h2
    rw [List.all_eq_true] at h2
    obtain ⟨o,ho2,hov⟩:=List.mem_map.1 ho
    obtain ⟨ho3,hok⟩:=List.mem_filter.1 ho2
    have h3:=h2 o (by rw [List.getD_eq_getElem?_getD,List.getElem?_eq_getElem hil,hix]; exact ho3)
    unfold useOk at h3
    have hk1:o.kind = 1:=by simpa using hok
    simp only [hk1,BEq.rfl,Bool.not_true,Bool.false_or,hov,Int.toNat_natCast] at h3
    exact ahead _ h3
   ·obtain ⟨e,he,ha⟩:=List.mem_flatMap.1 hu
    have h2:=h1.2 e he
    unfold edgOk at h2
    rw [List.all_eq_true] at h2
    have h3:=h2 _ ha
    unfold argOk at h3
    rw [Int.toNat_natCast] at h3
    exact ahead _ h3
  | edge b u t hb hm ht _ ih =>
   intro e
   subst e
   obtain ⟨htn,hup,hdt⟩:=ih rfl
   rw [hn] at hb
   refine ⟨hb,?_,fun e => by subst e; exact hm hmk⟩
   refine hB.back (d:Int) (t:Int) (b:Int) (by omega) (by omega) hup (by omega) ?_
   rw [Int.toNat_natCast,mem_preds (by rw [hn]; exact htn)]
   exact ⟨by omega,by rw [hn]; omega,by rw [Int.toNat_natCast]; exact ht⟩
 intro hneed
 obtain ⟨_,hup,hd0⟩:=key 0 v hneed rfl
 have h1:=hB.top (d:Int) (by rw [hroot] at hup ⊢; exact hup)
 rw [hroot] at h1
 omega
end Go.Proofs.Ytglfpnnfcpnmoaa
