/-
  At the beginning of the first block nothing is needed, where flow finds no fault. No Go in here.
-/
import Derived.Test.YtdlnofjmonpmgaaV0
import Derived.Test.YtdlnofjmonpmgaaF7
namespace Go.Proofs.Ytdlnofjmonpmgaa
open Go.RowKit
set_option linter.unusedVariables false
theorem flowE_all {f:Fn} {m0 m1:Int} {K:Nat} (h:flowE f m0 m1 K = 0):shapeErr f m0 m1 = 0∧f.blocks.length ≤ (orderM f.blocks).length∧madeL (spU f.blocks f.blocks.length) (idomF f K) f.blocks = true:=by
 unfold flowE at h
 split at h
 ·contradiction
 ·rename_i h1
  split at h
  ·cases h
  ·rename_i h2
   split at h
   ·cases h
   ·rename_i h3
    split at h
    ·rename_i h4
     exact ⟨by simpa using h1,by omega,h4⟩
    ·cases h
theorem nodup_nat {l:List Int} (h:l.Nodup) (h0:∀ x ∈ l,0 ≤ x):(l.map Int.toNat).Nodup:=by
 refine List.pairwise_map.2 (List.Pairwise.imp_of_mem (fun {a b} ha hb hne he => hne ?_) h)
 have:=h0 a ha
 have:=h0 b hb
 omega
theorem made_somewhere {f:Fn} {m0 m1:Int} (hs:shapeErr f m0 m1 = 0) (v:Nat) (hv:v < f.values.length):(v:Int) ∈ allM f.blocks:=by
 have S:=shape_in hs
 have hval:=marks_val _ _ _ S.mks
 have hnd:=(marks_free _ _ _ S.mks).2
 have h:=all_of_full (n:=f.values.length) (nodup_nat hnd fun x hx => (isValue_bd (hval x hx)).1) (fun x hx => by
  obtain ⟨y,hy,rfl⟩:=List.mem_map.1 hx
  have:=isValue_bd (hval y hy)
  omega) (by rw [List.length_map]; exact S.all) v hv
 obtain ⟨y,hy,e⟩:=List.mem_map.1 h
 have:=isValue_bd (hval y hy)
 rw [show (v:Int) = y by omega]
 exact hy
theorem mem_spU {bs:List Blk} {v:Int} {sp:Spot} (h:(v,sp) ∈ spU bs bs.length):∃ b:Nat,b < bs.length∧sp.1 = (b:Int)∧v ∈ makersOf (blkA bs b):=by
 unfold spU at h
 obtain ⟨b,hb,h⟩:=List.mem_flatMap.1 h
 refine ⟨b,List.mem_range.1 hb,?_⟩
 unfold blkSp at h
 rcases List.mem_append.1 h with h | h
 ·obtain ⟨u,hu,e⟩:=List.mem_map.1 h
  simp only [Prod.mk.injEq] at e
  obtain ⟨rfl,rfl⟩:=e
  exact ⟨rfl,List.mem_append_left _ hu⟩
 ·obtain ⟨i,hi,h⟩:=List.mem_flatMap.1 h
  obtain ⟨u,hu,e⟩:=List.mem_map.1 h
  simp only [Prod.mk.injEq] at e
  obtain ⟨rfl,rfl⟩:=e
  refine ⟨rfl,List.mem_append_right _ ?_⟩
  have hil:=List.mem_range.1 hi
  rw [List.getD_eq_getElem?_getD,List.getElem?_eq_getElem hil] at hu
  exact List.mem_flatMap.2 ⟨_,List.getElem_mem hil,hu⟩
theorem spot_made {f:Fn} {m0 m1:Int} (hs:shapeErr f m0 m1 = 0) (v:Nat) (hv:v < f.values.length):∃ b:Nat,b < f.blocks.length∧(spotOf (spU f.blocks f.blocks.length) v).1 = (b:Int)∧(v:Int) ∈ makersOf (blkA f.blocks b):=by
 have S:=shape_in hs
 have hm:=made_somewhere hs v hv
 rw [← sp_vals] at hm
 obtain ⟨⟨x,sp⟩,hx,e⟩:=List.mem_map.1 hm
 simp only at e
 subst e
 have h1:=spot_is (marks_free _ _ _ S.mks).2 (by omega) hx
 rw [Int.toNat_natCast] at h1
 rw [h1]
 exact mem_spU hx
end Go.Proofs.Ytdlnofjmonpmgaa
