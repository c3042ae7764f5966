/-
  What the statements over sets have in common: rows of the sets.
-/
import Derived.Test.YtglfpnnfcpnmoaaV9
import Derived.Test.YtglfpnnfcpnmoaaV8
import Derived.Test.YtglfpnnfcpnmoaaD2
import Derived.Test.YtglfpnnfcpnmoaaF9
namespace Go.Proofs.Ytglfpnnfcpnmoaa
open Go.RowKit
set_option linter.unusedVariables false
theorem rowS_at {w:World} {g n c nb:Nat} {F:Nat → List Int} (h:SlOf w 1 (RRow w) (.slice (some ⟨g,0,none⟩) n c) ((List.range nb).map F)) (k:Nat) (hk:k < nb):∃ a' c',g < w.heap.size∧w.cell? ⟨g,k,none⟩ = some (.slice a' (F k).length c')∧SlOf w 1 RInt (.slice a' (F k).length c') (F k)∧(F k).length ≤ longest:=by
 obtain ⟨b,off,a',c',e,hb,hc,hs,hl⟩:=rows_at h (k:Int) (by omega) (by simp; omega)
 simp only [Option.some.injEq,Addr.mk.injEq] at e
 obtain ⟨rfl,rfl,_⟩:=e
 have ek:((List.range nb).map F).getD k [] = F k:=by simp [List.getD,hk]
 rw [Int.toNat_natCast,Nat.zero_add] at hc
 rw [Int.toNat_natCast] at hs hl
 rw [ek] at hc hs hl
 exact ⟨a',c',hb,hc,hs,hl⟩
def wantL (nv:Nat) (I:Tb) (es:List Edg) (v:Nat):Bool:=es.any fun e => decide ((v:Int) ∈ e.args) || decide ((v:Int) ∈ rowL nv (I e.block.toNat))
theorem want_take (nv:Nat) (I:Tb) (es:List Edg) (v j:Nat) (h:j < es.length):wantL nv I (es.take (j + 1)) v = (wantL nv I (es.take j) v || (decide ((v:Int) ∈ es[j].args) || decide ((v:Int) ∈ rowL nv (I es[j].block.toNat)))):=by
 unfold wantL
 rw [List.take_succ_eq_append_getElem h,List.any_append]
 simp
theorem want_eq {bs:List Blk} {nv:Nat} {I O:Tb} (h:Told3 bs nv I O) {k:Nat} (hk:k < bs.length) (v:Nat) (hv:v < nv):wantL nv I (blkA bs k).edges v = decide ((v:Int) ∈ rowL nv (O k)):=by
 rw [Bool.eq_iff_iff]
 unfold wantL
 simp only [List.any_eq_true,Bool.or_eq_true,decide_eq_true_eq,mem_rowL]
 rw [h.2 k v hv]
 constructor
 ·rintro ⟨e,he,ha | ⟨_,hi⟩⟩
  ·exact ⟨hv,hk,Or.inl (List.mem_flatMap.2 ⟨e,he,ha⟩)⟩
  ·exact ⟨hv,hk,Or.inr ⟨e.block.toNat,List.mem_map_of_mem he,(h.1 _ v hv).1 hi⟩⟩
 ·rintro ⟨_,_,ha | ⟨t,ht,hi⟩⟩
  ·obtain ⟨e,he,ha⟩:=List.mem_flatMap.1 ha
   exact ⟨e,he,Or.inl ha⟩
  ·obtain ⟨e,he,rfl⟩:=List.mem_map.1 ht
   exact ⟨e,he,Or.inr ⟨hv,(h.1 _ v hv).2 hi⟩⟩
end Go.Proofs.Ytglfpnnfcpnmoaa
