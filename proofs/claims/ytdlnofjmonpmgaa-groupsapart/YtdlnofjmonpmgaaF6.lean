/-
  The contract of 'examine' in a form that fits; for seats without 'flow.Dominators' (laid under the name FlowS).
-/
import Derived.Test.YtdlnofjmonpmgaaF5
namespace Go.Proofs.Ytdlnofjmonpmgaa
open Go.RowKit
set_option linter.unusedVariables false
theorem examine_is (f:Fn) (K:Nat) (m0 m1:Int) (av ab:Option Addr) (cv cb:Nat) (r:Int) (hr:flowE f m0 m1 K = r) (w:World) (hv:SlOf w 1 RInt (.slice av f.values.length cv) f.values) (hb:SlOf w 3 (RBlk w) (.slice ab f.blocks.length cb) f.blocks) (hin:shapeErr f m0 m1 = 0 → FlowIn f K) :
  Calls Try.prog 36 #[.agg #[.slice av f.values.length cv,.slice ab f.blocks.length cb],.agg #[.int .i64 m0,.int .i64 m1]] w fun e w' => ∃ a b c n1 n2 n3 c1 c2 c3,e = .returned (.tuple #[.agg #[.slice a n1 c1,.slice b n2 c2,.slice c n3 c3],.int .i64 r])∧(r = 0 → GraphAt f K w.heap.size w' (.agg #[.slice a n1 c1,.slice b n2 c2,.slice c n3 c3]))∧Below w.heap.size w w':=by
 rw [← hr]
 refine (examine_any f K m0 m1 av ab cv cb w hv hb hin).mono ?_
 rintro e w' ⟨v,h1,⟨a,b,c,n1,n2,n3,c1,c2,c3,rfl⟩,h2,h3⟩
 exact ⟨a,b,c,n1,n2,n3,c1,c2,c3,h1,h2,h3⟩
theorem unb_le (n:Nat) (s:Nat → Bool):unb n s ≤ n:=by
 have:=List.countP_le_length (p:=fun i:Nat => !s i) (l:=List.range n)
 rw [List.length_range] at this
 exact this
def inBn (n:Nat) (v:Int):Bool:=decide (0 ≤ v) && decide (v < (n:Int))
theorem inBn_iff {n:Nat} {v:Int} (h:inBn n v = true):0 ≤ v∧v < (n:Int):=by simpa [inBn] using h
def flowInB (f:Fn) (K:Nat):Bool :=
 decide (0 < f.blocks.length) && decide (f.blocks.length ≤ 1000) && decide (f.values.length ≤ 1000) && decide ((pairsM f.blocks).length ≤ 100000) &&
 (f.blocks.all fun b => b.edges.all fun e => inBn f.blocks.length e.block) &&
 (f.blocks.all fun b => b.params.all (inBn f.values.length) && b.instrs.all fun x => x.operands.all fun o => inBn f.values.length o.value) &&
 (f.blocks.all fun b => b.edges.all fun e => e.args.all (inBn f.values.length)) &&
 decide ((orderM f.blocks).length = f.blocks.length) && decide (orderM f.blocks).Nodup && (orderM f.blocks).all (inBn f.blocks.length) &&
 ((List.range f.blocks.length).all fun a => (orderM f.blocks).contains (a:Int)) &&
 ((List.range f.blocks.length).all fun i => decide (i = 0) || ((predsL f.blocks).getD ((orderM f.blocks).getD i 0).toNat []).any fun p => decide (rankM (orderM f.blocks) p.toNat < i)) &&
 ((List.range f.blocks.length).all fun i => decide (roundsM (predL (predsL f.blocks)) (orderM f.blocks) f.blocks.length (K + 1) i = roundsM (predL (predsL f.blocks)) (orderM f.blocks) f.blocks.length K i))
theorem into_mem {bs:List Blk} {t:Nat} {p:Int} (h:p ∈ intoM (pairsM bs) t):0 ≤ p∧p < (bs.length:Int):=by
 unfold intoM at h
 obtain ⟨q,hq,rfl⟩:=List.mem_map.1 h
 have hq2:=(List.mem_filter.1 hq).1
 unfold pairsM pairsUpto at hq2
 obtain ⟨b,hb,hq3⟩:=List.mem_flatMap.1 hq2
 obtain ⟨t',_,rfl⟩:=List.mem_map.1 hq3
 have:=List.mem_range.1 hb
 simp only
 omega
theorem preds_inn (bs:List Blk) (t:Nat):∀ p ∈ (predsL bs).getD t [],0 ≤ p∧p < (bs.length:Int):=by
 intro p hp
 unfold predsL at hp
 by_cases ht:t < bs.length
 ·rw [List.getD_eq_getElem?_getD,List.getElem?_eq_getElem (by simpa using ht)] at hp
  simp only [List.getElem_map,List.getElem_range,Option.getD_some] at hp
  exact into_mem hp
 ·rw [List.getD_eq_getElem?_getD,List.getElem?_eq_none (by simp; omega)] at hp
  simp at hp
theorem succ_lt {bs:List Blk} (h:∀ b ∈ bs,∀ e ∈ b.edges,0 ≤ e.block∧e.block < (bs.length:Int)) (b t:Nat) (ht:t ∈ succM bs b):t < bs.length:=by
 unfold succM at ht
 by_cases hb:b < bs.length
 ·rw [List.getD_eq_getElem?_getD,List.getElem?_eq_getElem hb] at ht
  obtain ⟨e,he,rfl⟩:=List.mem_map.1 ht
  have:=h bs[b] (List.getElem_mem hb) e he
  omega
 ·rw [List.getD_eq_getElem?_getD,List.getElem?_eq_none (by omega)] at ht
  simp at ht
end Go.Proofs.Ytdlnofjmonpmgaa
