/-
  The contract of 'examine' in a form that fits; for seats without 'flow.Dominators' (laid under the name FlowS).
-/
import Derived.Test.YtglfpnnfcpnmoaaF5
namespace Go.Proofs.Ytglfpnnfcpnmoaa
open Go.RowKit
set_option linter.unusedVariables false
theorem examine_is (f:Fn) (K:Nat) (m0 m1:Int) (av ab:Option Addr) (cv cb:Nat) (r:Int) (hr:flowE f m0 m1 K = r) (w:World) (hv:SlOf w 1 RInt (.slice av f.values.length cv) f.values) (hb:SlOf w 3 (RBlk w) (.slice ab f.blocks.length cb) f.blocks) (hin:shapeErr f m0 m1 = 0 → FlowIn f K) :
  Calls Try.prog 27 #[.agg #[.slice av f.values.length cv,.slice ab f.blocks.length cb],.agg #[.int .i64 m0,.int .i64 m1]] w fun e w' => ∃ a b c n1 n2 n3 c1 c2 c3,e = .returned (.tuple #[.agg #[.slice a n1 c1,.slice b n2 c2,.slice c n3 c3],.int .i64 r])∧(r = 0 → GraphAt f K w.heap.size w' (.agg #[.slice a n1 c1,.slice b n2 c2,.slice c n3 c3]))∧Below w.heap.size w w':=by
 rw [← hr]
 refine (examine_any f K m0 m1 av ab cv cb w hv hb hin).mono ?_
 rintro e w' ⟨v,h1,⟨a,b,c,n1,n2,n3,c1,c2,c3,rfl⟩,h2,h3⟩
 exact ⟨a,b,c,n1,n2,n3,c1,c2,c3,h1,h2,h3⟩
theorem sl_kept {w w':World} {n cap:Nat} {a:Option Addr} {l:List Int} (h:SlOf w 1 RInt (.slice a n cap) l) (he:∀ b,b < w.heap.size → (∃ off,a = some ⟨b,off,none⟩) → w'.heap[b]? = w.heap[b]?):SlOf w' 1 RInt (.slice a n cap) l:=by
 obtain ⟨a',c,hv,hl,h⟩:=h
 refine ⟨a',c,hv,hl,h.imp id ?_⟩
 rintro ⟨b,off,ha,h⟩
 simp only [Value.slice.injEq] at hv
 refine ⟨b,off,ha,fun i hi => ?_⟩
 obtain ⟨cs,h1,h2,h3⟩:=h i hi
 refine ⟨cs,h1,h2,fun j hj => ?_⟩
 have hlt:=block_lt (h3 j hj)
 exact (World.cell?_of_block (he b hlt ⟨off,hv.1.trans ha⟩)).trans (h3 j hj)
theorem unb_le (n:Nat) (s:Nat → Bool):unb n s ≤ n:=by
 have:=List.countP_le_length (p:=fun i:Nat => !s i) (l:=List.range n)
 rw [List.length_range] at this
 exact this
def inBn (n:Nat) (v:Int):Bool:=decide (0 ≤ v) && decide (v < (n:Int))
theorem inBn_iff {n:Nat} {v:Int} (h:inBn n v = true):0 ≤ v∧v < (n:Int):=by simpa [inBn] using h
def flowInB (f:Fn) (K:Nat):Bool :=
 decide (0 < f.blocks.length) && decide (f.blocks.length ≤ 1000) && decide (f.values.length ≤ 1000) && decide ((pairsM f.blocks).length ≤ 100000) &&
 (f.blocks.all fun b => b.edges.all fun e => inBn f.blocks.length e.block) &&
 (f.blocks.all fun b => b.params.all (inBn f.values.length) && b.instrs.all fun x => x.operands.all fun o => inBn f.values.length o.value) &&
 (f.blocks.all fun b => b.edges.all fun e => e.args.all (inBn f.values.length)) &&
 decide ((orderM f.blocks).length = f.blocks.length) && decide (orderM f.blocks).Nodup && (orderM f.blocks).all (inBn f.blocks.length) &&
 ((List.range f.blocks.length).all fun a => (orderM f.blocks).contains (a:Int)) &&
 ((List.range f.blocks.length).all fun i => decide (i = 0) || ((predsL f.blocks).getD ((orderM f.blocks).getD i 0).toNat []).any fun p => decide (rankM (orderM f.blocks) p.toNat < i)) &&
 ((List.range f.blocks.length).all fun i => decide (roundsM (predL (predsL f.blocks)) (orderM f.blocks) f.blocks.length (K + 1) i = roundsM (predL (predsL f.blocks)) (orderM f.blocks) f.blocks.length K i))
theorem into_mem {bs:List Blk} {t:Nat} {p:Int} (h:p ∈ intoM (pairsM bs) t):0 ≤ p∧p < (bs.length:Int):=by
 unfold intoM at h
 obtain ⟨q,hq,rfl⟩:=List.mem_map.1 h
 have hq2:=(List.mem_filter.1 hq).1
 unfold pairsM pairsUpto at hq2
 obtain ⟨b,hb,hq3⟩:=List.mem_flatMap.1 hq2
 obtain ⟨t',_,rfl⟩:=List.mem_map.1 hq3
 have:=List.mem_range.1 hb
 simp only
 omega
theorem preds_inn (bs:List Blk) (t:Nat):∀ p ∈ (predsL bs).getD t [],0 ≤ p∧p < (bs.length:Int):=by
 intro p hp
 unfold predsL at hp
 by_cases ht:t < bs.length
 ·rw [List.getD_eq_getElem?_getD,List.getElem?_eq_getElem (by simpa using ht)] at hp
  simp only [List.getElem_map,List.getElem_range,Option.getD_some] at hp
  exact into_mem hp
 ·rw [List.getD_eq_getElem?_getD,List.getElem?_eq_none (by simp; omega)] at hp
  simp at hp
theorem succ_lt {bs:List Blk} (h:∀ b ∈ bs,∀ e ∈ b.edges,0 ≤ e.block∧e.block < (bs.length:Int)) (b t:Nat) (ht:t ∈ succM bs b):t < bs.length:=by
 unfold succM at ht
 by_cases hb:b < bs.length
 ·rw [List.getD_eq_getElem?_getD,List.getElem?_eq_getElem hb] at ht
  obtain ⟨e,he,rfl⟩:=List.mem_map.1 ht
  have:=h bs[b] (List.getElem_mem hb) e he
  omega
 ·rw [List.getD_eq_getElem?_getD,List.getElem?_eq_none (by omega)] at ht
  simp at ht
theorem flowIn_of {f:Fn} {K:Nat} (h:flowInB f K = true):FlowIn f K:=by
 unfold flowInB at h
 simp only [Bool.and_eq_true,decide_eq_true_eq,List.all_eq_true] at h
 obtain ⟨⟨⟨⟨⟨⟨⟨⟨⟨⟨⟨⟨h1,h2⟩,h3⟩,h4⟩,h5⟩,h6⟩,h7⟩,h8⟩,h9⟩,h10⟩,h11⟩,h12⟩,h13⟩:=h
 have hr:∀ b ∈ f.blocks,∀ e ∈ b.edges,0 ≤ e.block∧e.block < (f.blocks.length:Int):=fun b hb e he => inBn_iff (h5 b hb e he)
 refine ⟨h1,h2,h3,h4,hr,succ_lt hr,fun b hb => ⟨fun v hv => inBn_iff ((h6 b hb).1 v hv),fun x hx o ho _ => inBn_iff ((h6 b hb).2 x hx o ho)⟩,fun b hb => ⟨fun x hx o ho _ => inBn_iff ((h6 b hb).2 x hx o ho),fun e he v hv => inBn_iff (h7 b hb e he v hv)⟩,fun _ => ⟨⟨h1,by unfold predsL; simp,h8,h9,fun x hx => inBn_iff (h10 x hx),fun a a0 a1 => ?_,preds_inn f.blocks,fun i i0 i1 => ?_⟩,fun i hi => h13 i (List.mem_range.2 hi)⟩⟩
 ·have:=h11 a.toNat (List.mem_range.2 (by omega))
  rw [Int.toNat_of_nonneg a0] at this
  simpa using this
 ·have:=h12 i (List.mem_range.2 i1)
  simp only [Bool.or_eq_true,decide_eq_true_eq,List.any_eq_true] at this
  rcases this with h | ⟨p,hp,h⟩
  ·omega
  ·exact ⟨p,hp,h⟩
end Go.Proofs.Ytglfpnnfcpnmoaa
