/-
  The contract of 'predsOf': for each block where its edges come from.
-/
import Derived.Test.YtglfpnnfcpnmoaaF1
import Derived.Test.YtglfpnnfcpnmoaaA4
import Derived.Test.YtglfpnnfcpnmoaaA5
import Derived.Deep.OwnRows
import Derived.Shelf.RegionOpenPlain
import Derived.Deep.LoopGhost
import Derived.Lib.Walk
import Derived.Sort.WalkB12
import Derived.Lib.SlicesMore
import Derived.Lib.OwnBridge
import Derived.Laws.MakeOwn
import Derived.Laws.EntriesVeiled
namespace Go.Proofs.Ytglfpnnfcpnmoaa
open Go.RowKit
set_option linter.unusedVariables false
structure PSt (w:World) (R n:Nat) (vs:Nat → Value) (L:List (Nat × Nat)):Prop where
 row:w.rowIs R 27 n vs
 own:∀ i,i < n → w.ownsRow (R + 1) 3 1 (vs i) (intoM L i).length ((intoM L i).flatMap cI)
 apart:∀ i j g,i < n → j < n → i ≠ j → (vs i).ownBlock = some g → (vs j).ownBlock ≠ some g
theorem PSt.below {w w':World} {R n:Nat} {vs:Nat → Value} {L:List (Nat × Nat)} (h:PSt w R n vs L) (hb:Below w.heap.size w w'):PSt w' R n vs L :=
 ⟨h.row.of_block (hb.block _ h.row.lt),fun i hi => own_keep (h.own i hi) fun g _ _ hg => hb.block g hg,h.apart⟩
theorem intoM_snoc (L:List (Nat × Nat)) (a t i:Nat):intoM (L ++ [(a,t)]) i = if i = t then intoM L i ++ [(a:Int)] else intoM L i:=by
 unfold intoM
 rw [List.filter_append,List.map_append]
 by_cases e:i = t
 ·subst e
  simp
 ·rw [if_neg e]
  have:((t == i) = false):=by simp; omega
  simp [this]
theorem PSt.push {w wa w1:World} {R n t a g cap H:Nat} {vs:Nat → Value} {L:List (Nat × Nat)} (h:PSt w R n vs L) (ht:t < n) (hwa:Below w.heap.size w wa) (hgrow:wa.grownBy w1 (vs t).ownBlock)
  (hown:w1.ownsRow (R + 1) 3 1 (.slice (some ⟨g,0,none⟩) ((intoM L t).length + 1) cap) ((intoM L t).length + 1) ((intoM L t).flatMap cI ++ [.int .i64 a])) (hat:(vs t).ownBlock = some g ∨ g = H) (hH:w.heap.size ≤ H) :
  PSt (w1.setCell ⟨R,t,none⟩ (.slice (some ⟨g,0,none⟩) ((intoM L t).length + 1) cap)) R n (fun i => if i = t then .slice (some ⟨g,0,none⟩) ((intoM L t).length + 1) cap else vs i) (L ++ [(a,t)]):=by
 have hza:=hwa.size
 have kept:∀ b,b < w.heap.size → some b ≠ (vs t).ownBlock → w1.heap[b]? = w.heap[b]?:=fun b hb hne => (hgrow.block b (by omega) hne).trans (hwa.block b hb)
 have hRv:some R ≠ (vs t).ownBlock:=fun e => by have:=own_base (h.own t ht) e.symm; omega
 have hst:∀ (b:Nat),b ≠ R → (w1.setCell ⟨R,t,none⟩ (.slice (some ⟨g,0,none⟩) ((intoM L t).length + 1) cap)).heap[b]? = w1.heap[b]?:=fun b hb => Below.heap_setCell _ _ _ _ hb
 have newg:∀ j,j < n → j ≠ t → (vs j).ownBlock ≠ some g:=by
  intro j hj hjt e
  rcases hat with h1 | h1
  ·exact h.apart t j g ht hj (fun e => hjt e.symm) h1 e
  ·have:=own_base (h.own j hj) e; omega
 refine ⟨?_,fun i hi => ?_,fun i j g' hi hj hij hg => ?_⟩
 ·exact (h.row.of_block (kept R h.row.lt hRv)).set t _
 ·rw [intoM_snoc]
  show World.ownsRow _ _ _ _ (if i = t then _ else vs i) _ _
  by_cases e:i = t
  ·subst e
   rw [if_pos rfl,if_pos rfl,List.length_append,List.length_singleton,List.flatMap_append]
   refine own_keep hown fun b hb h1 h2 => hst b (by omega)
  ·rw [if_neg e,if_neg e]
   refine own_keep (h.own i hi) fun b hb h1 h2 => (hst b (by omega)).trans (kept b h2 fun e2 => ?_)
   exact h.apart i t b hi ht e hb e2.symm
 ·show (if j = t then _ else vs j).ownBlock ≠ some g'
  have hg':(if i = t then Value.slice (some ⟨g,0,none⟩) ((intoM L t).length + 1) cap else vs i).ownBlock = some g':=hg
  by_cases e:i = t
  ·rw [if_pos e] at hg'
   rw [if_neg (by omega)]
   simp [Value.ownBlock] at hg'
   subst hg'
   exact newg j hj (by omega)
  ·rw [if_neg e] at hg'
   by_cases e2:j = t
   ·rw [if_pos e2]
    intro e3
    simp [Value.ownBlock] at e3
    subst e3
    exact newg i hi e hg'
   ·rw [if_neg e2]
    exact h.apart i j g' hi hj hij hg'
theorem PSt.sl {w:World} {R n:Nat} {vs:Nat → Value} {L:List (Nat × Nat)} (h:PSt w R n vs L) (hL:L.length ≤ 1000000) (hn:n ≤ 1000):SlOf w 1 (RRow w) (.slice (some ⟨R,0,none⟩) n n) ((List.range n).map (intoM L)):=by
 refine ⟨_,n,by simp,by simp; unfold longest; omega,Or.inr ⟨R,0,rfl,fun i hi => ?_⟩⟩
 have hi':i < n:=by simpa using hi
 refine ⟨[vs i],rfl,⟨vs i,rfl,?_⟩,fun j hj => ?_⟩
 ·rw [List.getElem_map,List.getElem_range]
  refine own_ints _ (h.own i hi') ?_
  unfold intoM longest
  rw [List.length_map]
  have:=List.length_filter_le (fun p:Nat × Nat => p.2 == i) L
  omega
 ·have:j = 0:=by simp at hj; exact hj
  subst this
  simp only [Nat.mul_one,Nat.add_zero,Nat.zero_add,List.getElem_cons_zero]
  exact h.row.cell hi'
theorem pairs_succ (bs:List Blk) (k:Nat):pairsUpto bs (k + 1) = pairsUpto bs k ++ (succM bs k).map fun t => (k,t):=by
 unfold pairsUpto
 rw [List.range_succ,List.flatMap_append]
 simp
theorem succM_at (bs:List Blk) (k:Nat) (h:k < bs.length):succM bs k = bs[k].edges.map fun e => e.block.toNat:=by
 unfold succM
 rw [List.getD_eq_getElem?_getD,List.getElem?_eq_getElem h]
 rfl
theorem map_take_succ {α β:Type} (f:α → β) (l:List α) (j:Nat) (h:j < l.length):(l.take (j + 1)).map f = (l.take j).map f ++ [f l[j]]:=by
 rw [List.take_succ_eq_append_getElem h,List.map_append]
 rfl
theorem infoFI:(Try.prog.info? 3).map (fun i => (i.zero,i.size,i.bytes)) = some (some (.int .i64 0),1,8):=by kernel_rfl
set_option maxHeartbeats 4000000 in
theorem predsOf_any (bs:List Blk) (ab:Option Addr) (cb:Nat) (w:World) (hb:SlOf w 3 (RBlk w) (.slice ab bs.length cb) bs) (hn:bs.length ≤ 1000) (hrange:∀ b ∈ bs,∀ e ∈ b.edges,0 ≤ e.block∧e.block < (bs.length:Int)) (hfew:(pairsM bs).length ≤ 100000) :
  Calls Try.prog 36 #[.slice ab bs.length cb] w fun e w' => ∃ vs,e = .returned (.slice (some ⟨w.heap.size,0,none⟩) bs.length bs.length)∧PSt w' w.heap.size bs.length vs (pairsM bs)∧Below w.heap.size w w':=by
 obtain ⟨i3,hi3,hz3,hz31,hz32⟩:=info_parts infoFI
 have hmk:=run_make_row' (P:=Try.prog) 50 27 (.slice none 0 0) 24 Try.underlying50 (by kernel_rfl) rfl .i64 .i64 bs.length (by omega) (by omega)
 obtain ⟨W,hW⟩:∃ W,W = w.alloc (.cells (madeCells #[.slice none 0 0] bs.length) 27):=⟨_,rfl⟩
 have hbw:Below w.heap.size w W:=by rw [hW]; exact (Below.refl _ _).alloc (Nat.le_refl _) _
 have hst:PSt W w.heap.size bs.length (fun _ => .slice none 0 0) (pairsUpto bs 0):=by
  rw [hW]
  refine ⟨World.rowIs_made _ _ _ _,fun i hi => ?_,fun i j g _ _ _ h => by simp [Value.ownBlock] at h⟩
  exact ⟨rfl,Or.inl ⟨rfl,rfl⟩⟩
 have HW:Hid (W = w.alloc (.cells (madeCells #[.slice none 0 0] bs.length) 27)):=hW
 have HS0:Hid (PSt W w.heap.size bs.length (fun _ => .slice none 0 0) (pairsUpto bs 0)∧Below w.heap.size w W):=⟨hst,hbw⟩
 have HB:Hid (SlOf w 3 (RBlk w) (.slice ab bs.length cb) bs):=hb
 have HR:Hid (∀ b ∈ bs,∀ e ∈ b.edges,0 ≤ e.block∧e.block < (bs.length:Int)):=hrange
 have HFEW:Hid ((pairsM bs).length ≤ 100000):=hfew
 clear hW hst hbw hb hrange hfew
 go_enter Try.func36,Try.ntmps36
 go_upto_region 2 with fail
 rw [← HW.out]
 go_wp2_with fail
 go_loopw [13] (fun i wr => ∃ (k:Nat) (vs:Nat → Value),k ≤ bs.length∧i = .int .i64 k∧Hid (PSt wr w.heap.size bs.length vs (pairsUpto bs k)∧Below w.heap.size w wr)) (fun i _ => bs.length - (intOf i).toNat)
 case atStart => exact ⟨0,_,Nat.zero_le _,rfl,HS0⟩
 case round =>
  obtain ⟨k,vs,hk,rfl,HI⟩:=hrel
  by_cases hlt:k < bs.length
  ·obtain ⟨b5,off5,cs,rfl,hcl5,⟨vp,vi,ve,rfl,hp,hi,he0⟩,hc⟩:=HB.out.at k hlt
   obtain ⟨ae,ce,rfl,le⟩:=he0.out
   obtain ⟨ap,cp,rfl,_⟩:=hp.out
   obtain ⟨ai,ci,rfl,_⟩:=hi.out
   unfold longest at le
   have hb0:=HI.out.2
   have c0:=(hb0.cell (p:=⟨b5,off5 + k * 3 + 0,none⟩) (block_lt (hc 0 (by simp)))).trans (hc 0 (by simp))
   have c1:=(hb0.cell (p:=⟨b5,off5 + k * 3 + 1,none⟩) (block_lt (hc 1 (by simp)))).trans (hc 1 (by simp))
   have c2:=(hb0.cell (p:=⟨b5,off5 + k * 3 + 2,none⟩) (block_lt (hc 2 (by simp)))).trans (hc 2 (by simp))
   simp at c0 c1 c2
   have hlen:(pairsUpto bs (k + 1)).length ≤ 100000:=by
    have h1:=HFEW.out
    have h2:(pairsUpto bs (k + 1)).length ≤ (pairsUpto bs bs.length).length:=by
     have mono:∀ d,(pairsUpto bs (k + 1)).length ≤ (pairsUpto bs (k + 1 + d)).length:=by
      intro d
      induction d with
      | zero => exact Nat.le_refl _
      | succ d ih =>
       have e:=pairs_succ bs (k + 1 + d)
       rw [← Nat.add_assoc,e,List.length_append]
       omega
     have:=mono (bs.length - (k + 1))
     rw [show k + 1 + (bs.length - (k + 1)) = bs.length by omega] at this
     exact this
    exact Nat.le_trans h2 h1
   have hrk:=HR.out bs[k] (List.getElem_mem hlt)
   have HPS:Hid (pairsUpto bs (k + 1) = pairsUpto bs k ++ (bs[k].edges.map fun e => e.block.toNat).map fun t => (k,t)):=by
    show _ = _
    rw [pairs_succ,succM_at _ _ hlt]
   clear hc hcl5 hp hi
   generalize bs[k].params.length = np at *
   generalize bs[k].instrs.length = ni at *
   generalize bs[k].edges = es at *
   have HE:Hid (SlOf w 2 (REdg w) (.slice ae es.length ce) es):=he0
   have HRK:Hid (∀ e ∈ es,0 ≤ e.block∧e.block < (bs.length:Int)):=hrk
   rw [HPS.out,List.length_append,List.length_map,List.length_map] at hlen
   have hz0:=HI.out.1.row.lt
   have HI2:Hid (PSt (wr.alloc (.cells #[.slice ap np cp,.slice ai ni ci,.slice ae es.length ce] 40)) w.heap.size bs.length vs (pairsUpto bs k)∧Below w.heap.size w (wr.alloc (.cells #[.slice ap np cp,.slice ai ni ci,.slice ae es.length ce] 40))):=⟨HI.out.1.below ((Below.refl _ _).alloc (Nat.le_refl _) _),hb0.alloc hb0.size _⟩
   clear he0 hrk hb0 HI
   go_wp2_with fail
   go_loopw [21] (fun i w2 => ∃ (j:Nat) (us:Nat → Value),j ≤ es.length∧i = .int .i64 j∧Hid (PSt w2 w.heap.size bs.length us (pairsUpto bs k ++ ((es.take j).map fun e => e.block.toNat).map fun t => (k,t))∧Below w.heap.size w w2)) (fun i _ => es.length - (intOf i).toNat)
   case atStart => exact ⟨0,vs,Nat.zero_le _,rfl,by simpa using HI2⟩
   case round =>
    obtain ⟨j,us,hj,rfl,HJ⟩:=hrel
    by_cases hjl:j < es.length
    ·obtain ⟨b6,off6,cs,rfl,hcl6,⟨va,rfl,hva⟩,hc⟩:=HE.out.at j hjl
     obtain ⟨aa,ca,rfl,_⟩:=hva.out
     have hb0:=HJ.out.2
     have e0:=(hb0.cell (p:=⟨b6,off6 + j * 2 + 0,none⟩) (block_lt (hc 0 (by simp)))).trans (hc 0 (by simp))
     have e1:=(hb0.cell (p:=⟨b6,off6 + j * 2 + 1,none⟩) (block_lt (hc 1 (by simp)))).trans (hc 1 (by simp))
     simp at e0 e1
     have hrj:=HRK.out es[j] (List.getElem_mem hjl)
     have HPJ:Hid (pairsUpto bs k ++ ((es.take (j + 1)).map fun e => e.block.toNat).map (fun t => (k,t)) = (pairsUpto bs k ++ ((es.take j).map fun e => e.block.toNat).map fun t => (k,t)) ++ [(k,es[j].block.toNat)]):=by
      show _ = _
      rw [map_take_succ _ _ _ hjl,List.map_append,List.append_assoc]
      rfl
     have hll:(pairsUpto bs k ++ ((es.take j).map fun e => e.block.toNat).map fun t => (k,t)).length ≤ 100000:=by
      rw [List.length_append,List.length_map,List.length_map,List.length_take]
      omega
     clear hc hcl6 hva
     generalize es[j].args.length = na at *
     generalize es[j].block = t at *
     generalize pairsUpto bs k ++ ((es.take j).map fun e => e.block.toNat).map (fun t => (k,t)) = L at *
     have ht0:=hrj.1
     have ht1:=hrj.2
     have htn:t.toNat < bs.length:=by omega
     have hil:(intoM L t.toNat).length ≤ 100000:=by
      unfold intoM
      rw [List.length_map]
      have:=List.length_filter_le (fun p:Nat × Nat => p.2 == t.toNat) L
      omega
     go_upto_region 8 with fail
     obtain ⟨wn,hwn⟩:∃ wn,wn = wr.alloc (.cells #[.int .i64 t,.slice aa na ca] 92):=⟨_,rfl⟩
     have hbn:Below wr.heap.size wr wn:=by rw [hwn]; exact (Below.refl _ _).alloc (Nat.le_refl _) _
     have x0:wn.cell? ⟨wr.heap.size,0,none⟩ = some (.int .i64 t):=by rw [hwn]; simp
     have lX:wr.heap.size < wn.heap.size:=by rw [hwn]; simp
     rw [← hwn]
     clear hwn
     have hP:=HJ.out.1.below hbn
     have hbn':Below w.heap.size w wn:=HJ.out.2.trans (hbn.mono HJ.out.2.size)
     have r0:=hP.row.cell htn
     have rz:=hP.row.frozen t.toNat
     have rl:=hP.row.lt
     have own:=hP.own t.toNat htn
     have HP:Hid (PSt wn w.heap.size bs.length us L):=hP
     generalize hv:us t.toNat = v at *
     have nR:some w.heap.size ≠ v.ownBlock:=fun e => by have:=own_base own e.symm; omega
     have nX:some wr.heap.size ≠ v.ownBlock:=fun e => by
      have h1:=HJ.out.1.own t.toNat htn
      rw [hv] at h1
      have:=own_base h1 e.symm
      omega
     have oA:=(own.alloc (.cells #[.int .i64 k] 3)).drew
     have LR:=old_cell w.heap.size
     have LX:=old_cell wr.heap.size
     have cR:((wn.alloc (.cells #[.int .i64 k] 3)).drew).cell? ⟨w.heap.size,t.toNat,none⟩ = some v:=(LR _ _ _ rl).trans r0
     have cZ:((wn.alloc (.cells #[.int .i64 k] 3)).drew).frozen? ⟨w.heap.size,t.toNat,none⟩ = false:=(frozen?_alloc_cells _ _ _ _).trans rz
     have cX:((wn.alloc (.cells #[.int .i64 k] 3)).drew).cell? ⟨wr.heap.size,0,none⟩ = some (.int .i64 t):=(LX _ _ _ lX).trans x0
     have lR':w.heap.size < ((wn.alloc (.cells #[.int .i64 k] 3)).drew).heap.size:=by simp; omega
     have lX':wr.heap.size < ((wn.alloc (.cells #[.int .i64 k] 3)).drew).heap.size:=by simp; omega
     have HN:Hid (∀ j u,([.int .i64 k]:List Value)[j]? = some u → ((wn.alloc (.cells #[.int .i64 k] 3)).drew).cell? ((⟨wn.heap.size,0,none⟩:Addr).add j) = some u):=World.news_of_block (cs:=#[.int .i64 k]) (t:=3) (fr:=(0,0)) (heap_alloc_new wn _)
     have h1c:∀ u ∈ ([.int .i64 k]:List Value),u.oneCell' = true:=by intro u hu; simp at hu; subst hu; rfl
     have HV:Hid (us t.toNat = v):=hv
     have HB2:Hid (Below w.heap.size w wn):=hbn'
     clear hv hP hbn' hbn hrj e0 e1 c0 c1 c2 hb0 HJ
     refine wp_region_X (fun w' => w'.cell? ⟨wr.heap.size,0,none⟩ = some (.int .i64 t)∧w'.cell? ⟨w.heap.size,t.toNat,none⟩ = some v) 12 (by kernel_rfl) ⟨x0,r0⟩ (fun hHeld => ?_)
     refine wpXt 0 rfl (v:=?_) (by kernel_rfl) (fun _ _ _ h => h) (by rfl) ?_ hHeld ?_
     rotate_left
     ·intro w' hSw
      go_simp <;> with_reducible rfl
     try simp only [Act.put,List.setIfInBounds_toArray,List.set_cons_zero,List.set_cons_succ]
     refine wpXt 1 rfl (v:=?_) (by kernel_rfl) (fun _ _ _ h => h) (by rfl) ?_ hHeld ?_
     rotate_left
     ·intro w' hSw
      go_simp <;> with_reducible rfl
     try simp only [Act.put,List.setIfInBounds_toArray,List.set_cons_zero,List.set_cons_succ]
     refine wpXt 2 rfl (v:=?_) (by kernel_rfl) (fun _ _ _ h => h) (by rfl) ?_ hHeld ?_
     rotate_left
     ·intro w' hSw
      go_simp <;> with_reducible rfl
     try simp only [Act.put,List.setIfInBounds_toArray,List.set_cons_zero,List.set_cons_succ]
     refine wpXt 3 rfl (v:=?_) (by kernel_rfl) (fun _ _ _ h => h) (by rfl) ?_ hHeld ?_
     rotate_left
     ·intro w' hSw
      go_simp <;> with_reducible rfl
     try simp only [Act.put,List.setIfInBounds_toArray,List.set_cons_zero,List.set_cons_succ]
     refine wpXt 4 rfl (v:=?_) (by kernel_rfl) (fun _ _ _ h => h) (by rfl) ?_ hHeld ?_
     rotate_left
     ·intro w' hSw
      go_simp <;> with_reducible rfl
     try simp only [Act.put,List.setIfInBounds_toArray,List.set_cons_zero,List.set_cons_succ]
     refine wpXt 5 rfl (v:=?_) (by kernel_rfl) (fun _ _ _ h => h) (by rfl) ?_ hHeld ?_
     rotate_left
     ·intro w' hSw
      go_simp <;> with_reducible rfl
     try simp only [Act.put,List.setIfInBounds_toArray,List.set_cons_zero,List.set_cons_succ]
     refine wpXt 6 rfl (v:=?_) (by kernel_rfl) (fun _ _ _ h => h) (by rfl) ?_ hHeld ?_
     rotate_left
     ·intro w' hSw
      go_simp <;> with_reducible rfl
     try simp only [Act.put,List.setIfInBounds_toArray,List.set_cons_zero,List.set_cons_succ]
     refine wpXt 7 rfl (v:=?_) (by kernel_rfl) (fun _ _ _ h => h) (by rfl) ?_ hHeld ?_
     rotate_left
     ·intro w' hSw
      go_simp <;> with_reducible rfl
     try simp only [Act.put,List.setIfInBounds_toArray,List.set_cons_zero,List.set_cons_succ]
     refine wpXt 8 rfl (v:=?_) (by kernel_rfl) (fun _ _ _ h => h) (by rfl) ?_ hHeld ?_
     rotate_left
     ·intro w' hSw
      go_simp <;> with_reducible rfl
     try simp only [Act.put,List.setIfInBounds_toArray,List.set_cons_zero,List.set_cons_succ]
     refine wpXs 9 rfl (by kernel_rfl) (fun K hK => ?_)
     go_simp
     refine hK.out _ _ ⟨cX,cR⟩ (fun hHeld => ?_)
     clear hK K
     try simp only [Act.put,List.setIfInBounds_toArray,List.set_cons_zero,List.set_cons_succ]
     refine wpXs 10 rfl (by kernel_rfl) (fun K hK => ?_)
     refine step_append_lies _ (by rfl) _ _ _ (by rfl) (w.heap.size + 1) 3 i3 _ 1 8 Try.underlying27 hi3 hz3 hz31 hz32 rfl (by omega) v (intoM L t.toNat).length _ (by rfl) oA ⟨wn.heap.size,0,none⟩ 1 1 [.int .i64 k] (by rfl) (by rfl) HN.out h1c (by omega) (by unfold maxLen; omega) (by omega) (by simp; omega) (wn.heap.size + 1) (by simp) ?_
     intro gg cap2 wb2 hown1 hgrow hat2 hlt2
     have r0':=(hgrow.cell_far _ lR' nR).trans cR
     have rz':=(hgrow.frozen_far _ lR' nR).trans cZ
     have x0':=(hgrow.cell_far _ lX' nX).trans cX
     refine hK.out _ _ ⟨x0',r0'⟩ (fun hHeld => ?_)
     clear hK K
     try simp only [Act.put,List.setIfInBounds_toArray,List.set_cons_zero,List.set_cons_succ]
     refine wpXt 11 rfl (v:=?_) (by kernel_rfl) (fun _ _ _ h => h) (by rfl) ?_ hHeld ?_
     rotate_left
     ·intro w' hSw
      go_simp <;> with_reducible rfl
     try simp only [Act.put,List.setIfInBounds_toArray,List.set_cons_zero,List.set_cons_succ]
     refine wpXl 12 rfl (by kernel_rfl) rfl (by kernel_rfl) (fun K hK => ?_)
     go_simp
     refine hK.out _ _ ?_
     clear hK K
     go_wp2
     go_roundw
     case rel =>
      have hp2:=HP.out.push htn (((Below.refl _ _).alloc (Nat.le_refl _) (.cells #[.int .i64 k] 3)).drew) (by rw [HV.out]; exact hgrow) hown1 (H:=wn.heap.size + 1) (by rw [HV.out]; exact hat2) (by omega)
      refine ⟨j + 1,fun i => if i = t.toNat then .slice (some ⟨gg,0,none⟩) ((intoM L t.toNat).length + 1) cap2 else us i,by omega,by go_num,?_,?_⟩
      ·rw [HPJ.out]; exact hp2
      ·exact Below.setCell (((HB2.out.alloc HB2.out.size _).drew).grown hgrow (by simp; omega) (fun h hh => by have:=own_base own hh; omega)) (by simp) _
     case measure => simp [intOf]; omega
    ·have HJ2:Hid (PSt wr w.heap.size bs.length us (pairsUpto bs (k + 1))∧Below w.heap.size w wr):=by
      refine ⟨?_,HJ.out.2⟩
      rw [HPS.out]
      have:=HJ.out.1
      rw [List.take_of_length_le (by omega)] at this
      exact this
     clear HJ c0 c1 c2
     go_wp2
     go_roundw
     case rel => exact ⟨k + 1,us,by omega,by go_num,HJ2⟩
     case measure => simp [intOf]; omega
  ·have hk2:k = bs.length:=by omega
   have HI2:Hid (PSt wr w.heap.size bs.length vs (pairsM bs)∧Below w.heap.size w wr):=by
    have h:=HI.out
    rw [hk2] at h
    exact h
   clear HI hk2
   go_wp2
   go_ret
   exact ⟨vs,rfl,HI2.out.1,HI2.out.2⟩
end Go.Proofs.Ytglfpnnfcpnmoaa
namespace Go.Proofs.Ytglfpnnfcpnmoaa
open Go.RowKit Go.Lib Go.Sort
set_option linter.unusedVariables false
set_option maxHeartbeats 1600000 in
theorem reverse_arr (blk off cap:Nat) (d:Array Int) (w:World) (hH:Holds encI w blk off d) (hsz:d.size ≤ 9223372036854775807) :
  Calls Try.prog 49 #[.slice (some ⟨blk,off,none⟩) d.size cap] w fun e w' => e = .returned (.tuple #[])∧∃ n,w' = putRow encI (Sort.ahead w n) blk off d.reverse:=by
 have mixed:Try.prog.follows .mixedOrders = true:=by kernel_rfl
 go_enter Try.func49,Try.ntmps49
 go_wp2
 go_loopg [2,3] d.size (fun k s2 s3 wr => ∃ (i jn:Nat) (jz:Int) (dk:Array Int) (n:Nat),s2 = .int .i64 i∧s3 = .int .i64 jz∧((i:Int) < jz → jz = jn∧jn < d.size)∧(¬ (i:Int) < jz → ¬ i < jn)∧jn - i ≤ k ∧
  dk.size = d.size∧wr = putRow encI (Sort.ahead w n) blk off dk∧reverseLoop i jn dk = reverseLoop 0 (d.size - 1) d)
 case atStart => exact ⟨0,d.size - 1,(d.size:Int) - 1,d,0,rfl,by go_num,fun h => ⟨by omega,by omega⟩,fun h => by omega,by omega,rfl,(putRow_self encI w blk off d hH).symm,rfl⟩
 case round =>
  obtain ⟨i,jn,jz,dk,n,rfl,rfl,h1,h2,hk,hds,hwr,heq⟩:=hrel
  by_cases hlt:(i:Int) < jz
  ·obtain ⟨rfl,hjn⟩:=h1 hlt
   have hij:i < jn:=by omega
   have hid:i < d.size:=by omega
   have hHk:Holds encI wr blk off dk:=by rw [hwr]; exact holds_putRow encI _ blk off d dk (holds_ahead encI w n blk off d hH) hds
   obtain ⟨ci,fi⟩:=hHk i (by omega)
   obtain ⟨cj,fj⟩:=hHk jn (by omega)
   have A:Aside (wr = putRow encI (Sort.ahead w n) blk off dk):=hwr
   clear hwr hHk hH h1 h2
   go_wp2_with fail
   go_region_o
   go_wp2
   go_roundg (jn - 1 - (i + 1))
   case measure => omega
   case rel =>
    rw [reverseLoop,if_pos hij] at heq
    exact ⟨i + 1,jn - 1,(jn:Int) - 1,swp dk i jn,n + 1,by simp,rfl,fun h => ⟨by omega,by omega⟩,fun h => by omega,Nat.le_refl _,by rw [size_swp]; exact hds,
     swap_world encI (by omega) (by omega) A.out (by first | rfl | simp [encI,getElem!_pos,show jn < dk.size by omega]) (by first | rfl | simp [encI,getElem!_pos,show i < dk.size by omega]),heq⟩
  ·have hnot:=h2 hlt
   go_wp2
   go_end0
   refine ⟨rfl,n,?_⟩
   rw [reverseLoop,if_neg hnot] at heq
   rw [← Lib.reverseLoop_reverse,← heq]
end Go.Proofs.Ytglfpnnfcpnmoaa
namespace Go.Proofs.Ytglfpnnfcpnmoaa
open Go.RowKit
set_option linter.unusedVariables false
def unb (n:Nat) (bg:Nat → Bool):Nat:=(List.range n).countP fun i => !bg i
theorem unb_up {n:Nat} {bg:Nat → Bool} {b:Nat} (hb:b < n) (h:bg b = false):unb n (upB bg b true) + 1 ≤ unb n bg:=by
 unfold unb
 induction n with
 | zero => omega
 | succ m ih =>
  rw [List.range_succ,List.countP_append,List.countP_append]
  by_cases e:b = m
  ·subst e
   have h1:(List.range b).countP (fun i => !upB bg b true i) ≤ (List.range b).countP (fun i => !bg i):=by
    refine List.countP_mono_left fun i hi h2 => ?_
    unfold upB at h2
    split at h2
    ·simp at h2
    ·exact h2
   have e1:[b].countP (fun i => !upB bg b true i) = 0:=by simp [upB]
   have e2:[b].countP (fun i => !bg i) = 1:=by simp [h]
   omega
  ·have:=ih (by omega)
   have e1:[m].countP (fun i => !upB bg b true i) = [m].countP (fun i => !bg i):=by
    simp [List.countP_cons,upB,show ¬ m = b by omega]
   omega
theorem unb_mono {n:Nat} {bg bg':Nat → Bool} (h:∀ i,bg i = true → bg' i = true):unb n bg' ≤ unb n bg:=by
 refine List.countP_mono_left fun i hi h2 => ?_
 cases e:bg i
 ·rfl
 ·rw [h i e] at h2; simp at h2
theorem unb_pos {n:Nat} {bg:Nat → Bool} {b:Nat} (hb:b < n) (h:bg b = false):0 < unb n bg:=by
 have:=unb_up hb h
 omega
def Beh (n:Nat) (s s':(Nat → Bool) × List Int):Prop:=(∀ i,s.1 i = true → s'.1 i = true)∧unb n s'.1 + s'.2.length ≤ unb n s.1 + s.2.length
theorem Beh.refl (n:Nat) (s:(Nat → Bool) × List Int):Beh n s s:=⟨fun _ h => h,Nat.le_refl _⟩
theorem Beh.trans {n:Nat} {a b c:(Nat → Bool) × List Int} (h:Beh n a b) (k:Beh n b c):Beh n a c:=⟨fun i hi => k.1 i (h.1 i hi),Nat.le_trans k.2 h.2⟩
def stepV (sc:Nat → List Nat) (k:Nat) (s:(Nat → Bool) × List Int) (t:Nat):(Nat → Bool) × List Int:=if s.1 t then s else visitM sc k t s
theorem fold_beh {n:Nat} (sc:Nat → List Nat) (k:Nat) (hv:∀ b s,b < n → s.1 b = false → Beh n s (visitM sc k b s)):∀ (l:List Nat) (s:(Nat → Bool) × List Int),(∀ t ∈ l,t < n) → Beh n s (l.foldl (stepV sc k) s)
 | [],s,_ => Beh.refl n s
 | t :: r,s,h => by
  refine Beh.trans ?_ (fold_beh sc k hv r _ fun x hx => h x (List.mem_cons_of_mem _ hx))
  unfold stepV
  cases e:s.1 t
  ·exact hv t s (h t List.mem_cons_self) e
  ·exact Beh.refl n s
theorem visit_beh {n:Nat} (sc:Nat → List Nat) (hsc:∀ b t,t ∈ sc b → t < n):∀ (k b:Nat) (s:(Nat → Bool) × List Int),b < n → s.1 b = false → Beh n s (visitM sc k b s)
 | 0,b,s,_,_ => Beh.refl n s
 | k + 1,b,s,hb,h => by
  have h1:Beh n (upB s.1 b true,s.2) ((sc b).foldl (stepV sc k) (upB s.1 b true,s.2)):=fold_beh sc k (fun b s hb h => visit_beh sc hsc k b s hb h) _ _ fun t ht => hsc b t ht
  have h2:=unb_up hb h
  show Beh n s (((sc b).foldl (stepV sc k) (upB s.1 b true,s.2)).1,((sc b).foldl (stepV sc k) (upB s.1 b true,s.2)).2 ++ [(b:Int)])
  refine ⟨fun i hi => h1.1 i ?_,?_⟩
  ·show upB s.1 b true i = true
   unfold upB
   split
   ·rfl
   ·exact hi
  ·have:=h1.2
   simp only [List.length_append,List.length_singleton] at this ⊢
   omega
theorem visitM_succ (sc:Nat → List Nat) (k b:Nat) (s:(Nat → Bool) × List Int):visitM sc (k + 1) b s = (((sc b).foldl (stepV sc k) (upB s.1 b true,s.2)).1,((sc b).foldl (stepV sc k) (upB s.1 b true,s.2)).2 ++ [(b:Int)]):=rfl
structure VSt (w0:World) (N n:Nat) (vb:Value) (w:World) (bg:Nat → Bool) (od:List Int) (v:Value):Prop where
 pb:w.rowIs N 28 1 (fun _ => vb)
 rr:w.rowIs (N + 1) 4 n (fun i => .bool (bg i))
 pr:w.rowIs (N + 1 + 1) 87 1 (fun _ => .slice (some ⟨N + 1,0,none⟩) n n)
 po:w.rowIs (N + 1 + 1 + 1 + 1) 27 1 (fun _ => v)
 pv:w.rowIs (N + 1 + 1 + 1 + 1 + 1) 109 1 (fun _ => .func (.func 48) #[] #[.pointer (some ⟨N + 1 + 1,0,none⟩),.pointer (some ⟨N,0,none⟩),.pointer (some ⟨N + 1 + 1 + 1 + 1 + 1,0,none⟩),.pointer (some ⟨N + 1 + 1 + 1 + 1,0,none⟩)])
 own:w.ownsRow (N + 1 + 1 + 1) 3 1 v od.length (od.flatMap cI)
 far:∀ g,v.ownBlock = some g → g = N + 1 + 1 + 1 ∨ N + 1 + 1 + 1 + 1 + 1 < g
 low:Below N w0 w
 base:w0.heap.size = N
theorem VSt.below {w0:World} {N n:Nat} {vb:Value} {w w':World} {bg:Nat → Bool} {od:List Int} {v:Value} (h:VSt w0 N n vb w bg od v) (hb:Below w.heap.size w w'):VSt w0 N n vb w' bg od v :=
 ⟨h.pb.of_block (hb.block _ h.pb.lt),h.rr.of_block (hb.block _ h.rr.lt),h.pr.of_block (hb.block _ h.pr.lt),h.po.of_block (hb.block _ h.po.lt),h.pv.of_block (hb.block _ h.pv.lt),own_keep h.own fun g _ _ hg => hb.block g hg,h.far,h.low.trans (hb.mono (by have:=h.pb.lt; omega)),h.base⟩
theorem VSt.mark {w0:World} {N n:Nat} {vb:Value} {w:World} {bg:Nat → Bool} {od:List Int} {v:Value} (h:VSt w0 N n vb w bg od v) (b:Nat):VSt w0 N n vb (w.setCell ⟨N + 1,b,none⟩ (.bool true)) (upB bg b true) od v:=by
 refine ⟨h.pb.setOther (by simp; try omega) _,(h.rr.set b _).congr fun j hj => ?_,h.pr.setOther (by simp; try omega) _,h.po.setOther (by simp; try omega) _,h.pv.setOther (by simp; try omega) _,own_keep h.own fun g hg _ _ => ?_,h.far,h.low.setCell (by simp) _,h.base⟩
 ·unfold upB
  split <;> rfl
 ·refine Below.heap_setCell _ _ _ _ ?_
  have:=h.far g hg
  show g ≠ N + 1
  omega
theorem VSt.push {w0:World} {N n g cap H:Nat} {vb:Value} {w wa w1:World} {bg:Nat → Bool} {od:List Int} {v:Value} {b:Nat} (h:VSt w0 N n vb w bg od v) (hwa:Below w.heap.size w wa) (hgrow:wa.grownBy w1 v.ownBlock)
  (hown:w1.ownsRow (N + 1 + 1 + 1) 3 1 (.slice (some ⟨g,0,none⟩) (od.length + 1) cap) (od.length + 1) (od.flatMap cI ++ [.int .i64 b])) (hat:v.ownBlock = some g ∨ g = H) (hH:w.heap.size ≤ H) :
  VSt w0 N n vb (w1.setCell ⟨N + 1 + 1 + 1 + 1,0,none⟩ (.slice (some ⟨g,0,none⟩) (od.length + 1) cap)) bg (od ++ [(b:Int)]) (.slice (some ⟨g,0,none⟩) (od.length + 1) cap):=by
 have hza:=hwa.size
 have kept:∀ b,b < w.heap.size → some b ≠ v.ownBlock → w1.heap[b]? = w.heap[b]?:=fun b hb hne => (hgrow.block b (by omega) hne).trans (hwa.block b hb)
 have nv:∀ b,b ≠ N + 1 + 1 + 1 → b ≤ N + 1 + 1 + 1 + 1 + 1 → some b ≠ v.ownBlock:=fun b h1 h2 e => by have:=h.far b e.symm; omega
 have hl:=h.pv.lt
 have hg:g = N + 1 + 1 + 1 ∨ N + 1 + 1 + 1 + 1 + 1 < g:=by
  rcases hat with h1 | h1
  ·exact h.far g h1
  ·omega
 have hst:∀ (b:Nat),b ≠ N + 1 + 1 + 1 + 1 → (w1.setCell ⟨N + 1 + 1 + 1 + 1,0,none⟩ (.slice (some ⟨g,0,none⟩) (od.length + 1) cap)).heap[b]? = w1.heap[b]?:=fun b hb => Below.heap_setCell _ _ _ _ hb
 refine ⟨h.pb.of_block ((hst _ (by omega)).trans (kept _ (by omega) (nv _ (by omega) (by omega)))),h.rr.of_block ((hst _ (by omega)).trans (kept _ (by omega) (nv _ (by omega) (by omega)))),h.pr.of_block ((hst _ (by omega)).trans (kept _ (by omega) (nv _ (by omega) (by omega)))),?_,h.pv.of_block ((hst _ (by omega)).trans (kept _ (by omega) (nv _ (by omega) (by omega)))),?_,fun g' hg' => ?_,?_,h.base⟩
 ·refine ((h.po.of_block (kept _ (by omega) (nv _ (by omega) (by omega)))).set 0 _).congr fun j hj => ?_
  have:j = 0:=by omega
  simp [this]
 ·rw [List.length_append,List.length_singleton,List.flatMap_append]
  exact own_keep hown fun b hb h1 h2 => hst b (by simp [Value.ownBlock] at hb; omega)
 ·simp [Value.ownBlock] at hg'
  omega
 ·refine Below.setCell (Below.grown (h.low.trans (hwa.mono (by omega))) hgrow (by omega) fun k hk => ?_) (by simp; omega) _
  have:=h.far k hk
  omega
theorem newsF {w:World} {ob:Obj} {cs:Array Value} {t:Nat} (h:ob = .cells cs t):∀ j u,cs.toList[j]? = some u → (w.alloc ob).cell? ((⟨w.heap.size,0,none⟩:Addr).add j) = some u:=by
 subst h
 exact World.news_of_block (cs:=cs) (t:=t) (fr:=(0,0)) (heap_alloc_new w _)
def VisitOk (w0:World) (N:Nat) (bs:List Blk) (ab:Option Addr) (cb fuel:Nat):Prop:=∀ (b:Nat) (w:World) (bg:Nat → Bool) (od:List Int) (v:Value),VSt w0 N bs.length (.slice ab bs.length cb) w bg od v → b < bs.length → bg b = false → unb bs.length bg ≤ fuel → unb bs.length bg + od.length ≤ bs.length →
  Calls Try.prog 48 #[.int .i64 b,.pointer (some ⟨N + 1 + 1,0,none⟩),.pointer (some ⟨N,0,none⟩),.pointer (some ⟨N + 1 + 1 + 1 + 1 + 1,0,none⟩),.pointer (some ⟨N + 1 + 1 + 1 + 1,0,none⟩)] w fun e w' => e = .returned (.tuple #[])∧∃ v',VSt w0 N bs.length (.slice ab bs.length cb) w' (visitM (succM bs) fuel b (bg,od)).1 (visitM (succM bs) fuel b (bg,od)).2 v'
set_option maxHeartbeats 4000000 in
theorem visit_step (w0:World) (N:Nat) (bs:List Blk) (ab:Option Addr) (cb:Nat) (hb:SlOf w0 3 (RBlk w0) (.slice ab bs.length cb) bs) (hn:bs.length ≤ 1000) (hsc:∀ b t,t ∈ succM bs b → t < bs.length) (hrange:∀ b ∈ bs,∀ e ∈ b.edges,0 ≤ e.block∧e.block < (bs.length:Int))
  (fuel:Nat) (IH:Hid (VisitOk w0 N bs ab cb fuel)) (b:Nat) (w:World) (bg:Nat → Bool) (od:List Int) (v:Value) (hS:VSt w0 N bs.length (.slice ab bs.length cb) w bg od v) (hbn:b < bs.length) (hbg:bg b = false) (hfu:unb bs.length bg ≤ fuel + 1) (hlen:unb bs.length bg + od.length ≤ bs.length) :
  Calls Try.prog 48 #[.int .i64 b,.pointer (some ⟨N + 1 + 1,0,none⟩),.pointer (some ⟨N,0,none⟩),.pointer (some ⟨N + 1 + 1 + 1 + 1 + 1,0,none⟩),.pointer (some ⟨N + 1 + 1 + 1 + 1,0,none⟩)] w fun e w' => e = .returned (.tuple #[])∧∃ v',VSt w0 N bs.length (.slice ab bs.length cb) w' (visitM (succM bs) (fuel + 1) b (bg,od)).1 (visitM (succM bs) (fuel + 1) b (bg,od)).2 v':=by
 obtain ⟨i3,hi3,hz3,hz31,hz32⟩:=info_parts infoFI
 obtain ⟨b5,off5,cs,rfl,hcl5,⟨vp,vi,ve,rfl,hp,hi,he0⟩,hc⟩:=hb.at b hbn
 obtain ⟨ae,ce,rfl,le⟩:=he0.out
 obtain ⟨ap,cp,rfl,_⟩:=hp.out
 obtain ⟨ai,ci,rfl,_⟩:=hi.out
 unfold longest at le
 have HSC:Hid (succM bs b = bs[b].edges.map fun e => e.block.toNat):=succM_at bs b hbn
 have hrk:=hrange bs[b] (List.getElem_mem hbn)
 have hc2:=hc 2 (by simp)
 simp at hc2
 have HBEH:Hid (∀ b s,b < bs.length → s.1 b = false → Beh bs.length s (visitM (succM bs) fuel b s)):=fun b s => visit_beh (succM bs) hsc fuel b s
 have HTS:Hid (∀ t ∈ succM bs b,t < bs.length):=fun t ht => hsc b t ht
 clear hc hcl5 hp hi hb hrange hsc
 generalize bs[b].params.length = np at *
 generalize bs[b].instrs.length = ni at *
 generalize bs[b].edges = es at *
 have HE:Hid (SlOf w0 2 (REdg w0) (.slice ae es.length ce) es):=he0
 have HRK:Hid (∀ e ∈ es,0 ≤ e.block∧e.block < (bs.length:Int)):=hrk
 have hb5:b5 < N:=by rw [← hS.base]; exact block_lt hc2
 have HC2:Hid (∀ w',Below N w0 w' → w'.cell? ⟨b5,off5 + b * 3 + 2,none⟩ = some (.slice ae es.length ce)):=fun w' hh => (hh.cell (p:=⟨b5,off5 + b * 3 + 2,none⟩) hb5).trans hc2
 have a1:=hS.pr.cell (i:=0) (by omega)
 have a2:=hS.rr.cell (i:=b) hbn
 have a3:=hS.rr.frozen b
 have hM:=hS.mark b
 have HM:Hid (VSt w0 N bs.length (.slice (some ⟨b5,off5,none⟩) bs.length cb) (w.setCell ⟨N + 1,b,none⟩ (.bool true)) (upB bg b true) od v):=hM
 have hup:=unb_up hbn hbg
 have HUP:Hid (unb bs.length (upB bg b true) ≤ fuel∧unb bs.length (upB bg b true) + od.length + 1 ≤ bs.length):=⟨by omega,by omega⟩
 obtain ⟨W,hW⟩:∃ W,W = w.setCell ⟨N + 1,b,none⟩ (.bool true):=⟨_,rfl⟩
 have HW:Hid (W = w.setCell ⟨N + 1,b,none⟩ (.bool true)):=hW
 rw [← hW] at HM
 have p1:=HM.out.pb.cell (i:=0) (by omega)
 have p2:=HC2.out W HM.out.low
 clear he0 hrk hM hW hup hS hfu hlen hbg hc2
 go_enter Try.func48,Try.ntmps48
 go_upto_region 1 with fail
 rw [← HW.out]
 clear a1 a2 a3 HW
 go_wp2_with fail
 go_loopw [17] (fun i wr => ∃ (j:Nat) (v1:Value),j ≤ es.length∧i = .int .i64 j∧Hid (VSt w0 N bs.length (.slice (some ⟨b5,off5,none⟩) bs.length cb) wr (((es.take j).map fun e => e.block.toNat).foldl (stepV (succM bs) fuel) (upB bg b true,od)).1 (((es.take j).map fun e => e.block.toNat).foldl (stepV (succM bs) fuel) (upB bg b true,od)).2 v1)) (fun i _ => es.length - (intOf i).toNat)
 case atStart => exact ⟨0,v,Nat.zero_le _,rfl,HM⟩
 case round =>
  obtain ⟨j,v1,hj,rfl,HI⟩:=hrel
  have hbeh:Beh bs.length (upB bg b true,od) (((es.take j).map fun e => e.block.toNat).foldl (stepV (succM bs) fuel) (upB bg b true,od)):=by
   refine fold_beh (succM bs) fuel HBEH.out _ _ fun t ht => HTS.out t ?_
   rw [HSC.out]
   obtain ⟨e,he,rfl⟩:=List.mem_map.1 ht
   exact List.mem_map.2 ⟨e,List.mem_of_mem_take he,rfl⟩
  have HU:Hid (unb bs.length (((es.take j).map fun e => e.block.toNat).foldl (stepV (succM bs) fuel) (upB bg b true,od)).1 ≤ fuel∧unb bs.length (((es.take j).map fun e => e.block.toNat).foldl (stepV (succM bs) fuel) (upB bg b true,od)).1 + (((es.take j).map fun e => e.block.toNat).foldl (stepV (succM bs) fuel) (upB bg b true,od)).2.length + 1 ≤ bs.length):=by
   have h1:=unb_mono (n:=bs.length) hbeh.1
   have h2:=hbeh.2
   simp only at h1 h2
   have h3:=HUP.out
   exact ⟨by omega,by omega⟩
  clear hbeh
  by_cases hjl:j < es.length
  ·obtain ⟨b6,off6,cs,rfl,hcl6,⟨va,rfl,hva⟩,hc⟩:=HE.out.at j hjl
   obtain ⟨aa,ca,rfl,_⟩:=hva.out
   have hb6:∀ o,w0.cell? ⟨b6,o,none⟩ ≠ none → b6 < N:=fun o ho => by
    rw [← HI.out.base]
    cases hx:w0.cell? ⟨b6,o,none⟩ with
    | none => exact absurd hx ho
    | some y => exact block_lt hx
   have hb6':=hb6 _ (by rw [hc 0 (by simp)]; simp)
   have e0:=(HI.out.low.cell (p:=⟨b6,off6 + j * 2 + 0,none⟩) hb6').trans (hc 0 (by simp))
   have e1:=(HI.out.low.cell (p:=⟨b6,off6 + j * 2 + 1,none⟩) hb6').trans (hc 1 (by simp))
   simp at e0 e1
   have hrj:=HRK.out es[j] (List.getElem_mem hjl)
   have HPJ:Hid (((es.take (j + 1)).map fun e => e.block.toNat).foldl (stepV (succM bs) fuel) (upB bg b true,od) = stepV (succM bs) fuel (((es.take j).map fun e => e.block.toNat).foldl (stepV (succM bs) fuel) (upB bg b true,od)) es[j].block.toNat):=by
    show _ = _
    rw [map_take_succ _ _ _ hjl,List.foldl_append]
    rfl
   clear hc hcl6 hva hb6 hb6'
   generalize es[j].args.length = na at *
   generalize es[j].block = t at *
   generalize ((es.take j).map fun e => e.block.toNat).foldl (stepV (succM bs) fuel) (upB bg b true,od) = s at *
   obtain ⟨bg1,od1⟩:=s
   have ht0:=hrj.1
   have ht1:=hrj.2
   have htn:t.toNat < bs.length:=by omega
   have HS2:Hid (VSt w0 N bs.length (.slice (some ⟨b5,off5,none⟩) bs.length cb) (wr.alloc (.cells #[.int .i64 t,.slice aa na ca] 92)) bg1 od1 v1):=HI.out.below ((Below.refl _ _).alloc (Nat.le_refl _) _)
   have r1:=HI.out.pr.cell (i:=0) (by omega)
   have r2:wr.cell? ⟨N + 1,t.toNat,none⟩ = some (.bool (bg1 t.toNat)):=HI.out.rr.cell (i:=t.toNat) htn
   have r3:=HI.out.pv.cell (i:=0) (by omega)
   have l1:=HI.out.pr.lt
   have l2:=HI.out.rr.lt
   have l3:=HI.out.pv.lt
   have L1:=old_cell (N + 1 + 1)
   have L2:=old_cell (N + 1)
   have L3:=old_cell (N + 1 + 1 + 1 + 1 + 1)
   clear hrj HI
   cases hbt:bg1 t.toNat
   ·have HSTEP:Hid (stepV (succM bs) fuel (bg1,od1) t.toNat = visitM (succM bs) fuel t.toNat (bg1,od1)):=by show _ = _; unfold stepV; rw [if_neg (by simp [hbt])]
    have HC:=IH.out t.toNat _ bg1 od1 v1 HS2.out htn hbt HU.out.1 (by have:=HU.out.2; simp only at this; omega)
    rw [hbt] at r2
    have et:((t.toNat:Nat):Int) = t:=by omega
    rw [et] at HC
    clear et hbt HU
    go_wp2_with fail
    refine HC.mono ?_
    rintro e w2 ⟨rfl,v2,hS2⟩
    have HR:Hid (VSt w0 N bs.length (.slice (some ⟨b5,off5,none⟩) bs.length cb) w2 (((es.take (j + 1)).map fun e => e.block.toNat).foldl (stepV (succM bs) fuel) (upB bg b true,od)).1 (((es.take (j + 1)).map fun e => e.block.toNat).foldl (stepV (succM bs) fuel) (upB bg b true,od)).2 v2):=by
     rw [HPJ.out,HSTEP.out]; exact hS2
    clear hS2 HC
    go_wp2
    go_roundw
    case rel => exact ⟨j + 1,v2,by omega,by go_num,HR⟩
    case measure => simp [intOf]; omega
   ·have HR:Hid (VSt w0 N bs.length (.slice (some ⟨b5,off5,none⟩) bs.length cb) (wr.alloc (.cells #[.int .i64 t,.slice aa na ca] 92)) (((es.take (j + 1)).map fun e => e.block.toNat).foldl (stepV (succM bs) fuel) (upB bg b true,od)).1 (((es.take (j + 1)).map fun e => e.block.toNat).foldl (stepV (succM bs) fuel) (upB bg b true,od)).2 v1):=by
     rw [HPJ.out]
     unfold stepV
     rw [if_pos (by simp [hbt])]
     exact HS2
    rw [hbt] at r2
    clear hbt HU HS2
    go_wp2
    go_roundw
    case rel => exact ⟨j + 1,v1,by omega,by go_num,HR⟩
    case measure => simp [intOf]; omega
  ·have hes:((es.take j).map fun e => e.block.toNat).foldl (stepV (succM bs) fuel) (upB bg b true,od) = (succM bs b).foldl (stepV (succM bs) fuel) (upB bg b true,od):=by
    rw [List.take_of_length_le (by omega),HSC.out]
   have HV:Hid (visitM (succM bs) (fuel + 1) b (bg,od) = (((es.take j).map fun e => e.block.toNat).foldl (stepV (succM bs) fuel) (upB bg b true,od) |>.1,(((es.take j).map fun e => e.block.toNat).foldl (stepV (succM bs) fuel) (upB bg b true,od)).2 ++ [(b:Int)])):=by
    show _ = _
    rw [visitM_succ,hes]
   clear hes
   generalize ((es.take j).map fun e => e.block.toNat).foldl (stepV (succM bs) fuel) (upB bg b true,od) = s at *
   obtain ⟨bg1,od1⟩:=s
   have hlen:=HU.out.2
   simp only at hlen
   have o1:=HI.out.po.cell (i:=0) (by omega)
   have oz:=HI.out.po.frozen 0
   have ol:=HI.out.po.lt
   have own:=HI.out.own
   have oA:=own.alloc (.cells #[.int .i64 b] 3)
   have nP:some (N + 1 + 1 + 1 + 1) ≠ v1.ownBlock:=fun e => by have:=HI.out.far _ e.symm; omega
   have hsz:N + 1 + 1 + 1 ≤ wr.heap.size:=by omega
   have HI':Hid (VSt w0 N bs.length (.slice (some ⟨b5,off5,none⟩) bs.length cb) wr bg1 od1 v1):=HI
   clear HI HU
   go_wp2_with (at_builtin; go_must (refine wpList_append_lies _ rfl _ _ 27 rfl (N + 1 + 1 + 1) 3 i3 (.int .i64 0) 1 8 Try.underlying27 hi3 hz3 hz31 hz32 rfl (by omega) v1 od1.length _ (by rfl) oA ⟨wr.heap.size,0,none⟩ 1 1 [.int .i64 b] (by rfl) (by rfl) ?c1 ?c2 (by omega) ?c3 ?c4 ?c5 (wr.heap.size + 1) ?c6 ?_))
   rotate_left
   any_goals (first | (exact newsF rfl) | rfl | (show Value.oneCell' _ = true; simp [Value.oneCell']) | (intro u hu; simp at hu; subst hu; rfl) | (unfold maxLen; omega) | omega | (simp; omega) | (simp; rfl) | (simp; done))
   intro g cap wb hown hgrow hat hgl
   have hP:=HI'.out.push (b:=b) (H:=wr.heap.size + 1) ((Below.refl _ _).alloc (Nat.le_refl _) (.cells #[.int .i64 b] 3)) hgrow hown hat (by omega)
   have HP:Hid (VSt w0 N bs.length (.slice (some ⟨b5,off5,none⟩) bs.length cb) (wb.setCell ⟨N + 1 + 1 + 1 + 1,0,none⟩ (.slice (some ⟨g,0,none⟩) (od1.length + 1) cap)) bg1 (od1 ++ [(b:Int)]) (.slice (some ⟨g,0,none⟩) (od1.length + 1) cap)):=hP
   have LP:=old_cell (N + 1 + 1 + 1 + 1)
   have lP':N + 1 + 1 + 1 + 1 < (wr.alloc (.cells #[.int .i64 b] 3)).heap.size:=by simp; omega
   have o1':=(hgrow.cell_far ⟨N + 1 + 1 + 1 + 1,0,none⟩ lP' nP).trans ((LP _ _ _ ol).trans o1)
   have oz':=(hgrow.frozen_far ⟨N + 1 + 1 + 1 + 1,0,none⟩ lP' nP).trans ((frozen?_alloc_cells _ _ _ _).trans oz)
   clear hP hown hgrow hat hgl oA own o1 oz LP
   go_wp2
   go_end0
   exact ⟨rfl,_,by rw [HV.out]; exact HP.out⟩
theorem visit_any (w0:World) (N:Nat) (bs:List Blk) (ab:Option Addr) (cb:Nat) (hb:SlOf w0 3 (RBlk w0) (.slice ab bs.length cb) bs) (hn:bs.length ≤ 1000) (hsc:∀ b t,t ∈ succM bs b → t < bs.length) (hrange:∀ b ∈ bs,∀ e ∈ b.edges,0 ≤ e.block∧e.block < (bs.length:Int)) (fuel:Nat):VisitOk w0 N bs ab cb fuel:=by
 induction fuel with
 | zero =>
  intro b w bg od v hS hbn hbg hfu
  have:=unb_pos hbn hbg
  omega
 | succ fuel ih => exact fun b w bg od v hS hbn hbg hfu hlen => visit_step w0 N bs ab cb hb hn hsc hrange fuel ih b w bg od v hS hbn hbg hfu hlen
end Go.Proofs.Ytglfpnnfcpnmoaa
namespace Go.Proofs.Ytglfpnnfcpnmoaa
open Go.RowKit Go.Lib Go.Sort
set_option linter.unusedVariables false
theorem cI_map (l:List Int):l.flatMap cI = l.map (Value.int .i64):=by
 induction l with
 | nil => rfl
 | cons x r ih => simp [List.flatMap_cons,cI,ih]
theorem make_cap (n:Nat) (hn:n ≤ 1000000) (w:World):(Instr.makeSlice 27 (.int .i64 0) (.int .i64 (n:Int))).run Try.prog w = .ok (.slice (some ⟨w.heap.size,0,none⟩) 0 n) (w.alloc (.cells (madeCells #[.int .i64 0] n) 3)):=by
 obtain ⟨i3,hi3,hz3,hz31,hz32⟩:=info_parts infoFI
 have h:=run_make (P:=Try.prog) w 27 3 i3 (.int .i64 0) Try.underlying27 hi3 hz3 .i64 .i64 0 n (by omega) (by omega) (by rw [hz32]; omega) (by omega)
 rw [hz31] at h
 have e:(Value.int .i64 0).cells = #[.int .i64 0]:=rfl
 rw [e] at h
 simp only [Int.toNat_natCast,Nat.mul_one] at h
 exact h
theorem post_pos (bs:List Blk) (h:0 < bs.length):0 < (postM bs).length:=by
 unfold postM
 obtain ⟨k,hk⟩:∃ k,bs.length = k + 1:=⟨bs.length - 1,by omega⟩
 rw [hk,visitM_succ]
 simp
theorem post_le (bs:List Blk) (hpos:0 < bs.length) (hsc:∀ b t,t ∈ succM bs b → t < bs.length):(postM bs).length ≤ bs.length:=by
 have h:=visit_beh (succM bs) hsc bs.length 0 (fun _ => false,[]) hpos rfl
 have h2:=h.2
 have hle:unb bs.length (fun _ => false) ≤ bs.length:=by
  have:=List.countP_le_length (p:=fun i:Nat => !(fun _ => false) i) (l:=List.range bs.length)
  rw [List.length_range] at this
  exact this
 unfold postM
 simp only [List.length_nil] at h2
 omega
set_option maxHeartbeats 4000000 in
theorem orderOf_any (bs:List Blk) (ab:Option Addr) (cb:Nat) (w:World) (hb:SlOf w 3 (RBlk w) (.slice ab bs.length cb) bs) (hpos:0 < bs.length) (hn:bs.length ≤ 1000) (hsc:∀ b t,t ∈ succM bs b → t < bs.length) (hrange:∀ b ∈ bs,∀ e ∈ b.edges,0 ≤ e.block∧e.block < (bs.length:Int)) :
  Calls Try.prog 37 #[.slice ab bs.length cb] w fun e w' => ∃ g cap,e = .returned (.slice (some ⟨g,0,none⟩) (orderM bs).length cap)∧(orderM bs).length ≤ cap∧w.heap.size ≤ g∧SlOf w' 1 RInt (.slice (some ⟨g,0,none⟩) (orderM bs).length cap) (orderM bs)∧Below w.heap.size w w':=by
 have hmk:=run_make_row' (P:=Try.prog) 87 4 (.bool false) 1 Try.underlying87 (by kernel_rfl) rfl .i64 .i64 bs.length (by omega) (by omega)
 have hmk2:=make_cap bs.length (by omega)
 have hmf:∀ (fn:Go.Fn) (first cap:Array Value) (w:World),(Instr.makeFunc fn first cap).run Try.prog w = .ok (.func fn first cap) w:=fun _ _ _ _ => rfl
 have HV:Hid (VisitOk w w.heap.size bs ab cb bs.length):=visit_any w w.heap.size bs ab cb hb hn hsc hrange bs.length
 have HPP:Hid (0 < (postM bs).length):=post_pos bs hpos
 have hpl:=post_le bs hpos hsc
 obtain ⟨W,hW⟩:∃ W,W = (((((w.alloc (.cells #[.slice ab bs.length cb] 28)).alloc (.cells (madeCells #[.bool false] bs.length) 4)).alloc (.cells #[.slice (some ⟨w.heap.size + 1,0,none⟩) bs.length bs.length] 87)).alloc (.cells (madeCells #[.int .i64 0] bs.length) 3)).alloc (.cells #[.slice (some ⟨w.heap.size + 1 + 1 + 1,0,none⟩) 0 bs.length] 27)).alloc (.cells #[.func (.func 48) #[] #[.pointer (some ⟨w.heap.size + 1 + 1,0,none⟩),.pointer (some ⟨w.heap.size,0,none⟩),.pointer (some ⟨w.heap.size + 1 + 1 + 1 + 1 + 1,0,none⟩),.pointer (some ⟨w.heap.size + 1 + 1 + 1 + 1,0,none⟩)]] 109):=⟨_,rfl⟩
 have hst:VSt w w.heap.size bs.length (.slice ab bs.length cb) W (fun _ => false) [] (.slice (some ⟨w.heap.size + 1 + 1 + 1,0,none⟩) 0 bs.length):=by
  rw [hW]
  have one:∀ (V:World) (x:Value) (t:Nat),(V.alloc (.cells #[x] t)).rowIs V.heap.size t 1 (fun _ => x):=fun V x t => World.rowIs_alloc V #[x] t (fun _ => x) (fun i hi => by simp at hi; subst hi; rfl)
  have r0:=one w (.slice ab bs.length cb) 28
  obtain ⟨V1,hV1⟩:∃ V1,V1 = w.alloc (.cells #[.slice ab bs.length cb] 28):=⟨_,rfl⟩
  have z1:V1.heap.size = w.heap.size + 1:=by rw [hV1]; simp
  have b1:Below w.heap.size w V1:=by rw [hV1]; exact (Below.refl _ _).alloc (Nat.le_refl _) _
  rw [← hV1] at r0 ⊢
  clear hV1
  have r1:=World.rowIs_made V1 (.bool false) bs.length 4
  rw [z1] at r1
  obtain ⟨V2,hV2⟩:∃ V2,V2 = V1.alloc (.cells (madeCells #[.bool false] bs.length) 4):=⟨_,rfl⟩
  have z2:V2.heap.size = w.heap.size + 1 + 1:=by rw [hV2]; simp [z1]
  replace r0:=r0.alloc (.cells (madeCells #[.bool false] bs.length) 4)
  have b2:Below w.heap.size w V2:=by rw [hV2]; exact b1.alloc (by omega) _
  rw [← hV2] at r0 r1 ⊢
  clear hV2
  have r2:=one V2 (.slice (some ⟨w.heap.size + 1,0,none⟩) bs.length bs.length) 87
  rw [z2] at r2
  obtain ⟨V3,hV3⟩:∃ V3,V3 = V2.alloc (.cells #[.slice (some ⟨w.heap.size + 1,0,none⟩) bs.length bs.length] 87):=⟨_,rfl⟩
  have z3:V3.heap.size = w.heap.size + 1 + 1 + 1:=by rw [hV3]; simp [z2]
  replace r0:=r0.alloc (.cells #[.slice (some ⟨w.heap.size + 1,0,none⟩) bs.length bs.length] 87)
  replace r1:=r1.alloc (.cells #[.slice (some ⟨w.heap.size + 1,0,none⟩) bs.length bs.length] 87)
  have b3:Below w.heap.size w V3:=by rw [hV3]; exact b2.alloc (by omega) _
  rw [← hV3] at r0 r1 r2 ⊢
  clear hV3
  have r3:=World.rowIs_made V3 (.int .i64 0) bs.length 3
  rw [z3] at r3
  obtain ⟨V4,hV4⟩:∃ V4,V4 = V3.alloc (.cells (madeCells #[.int .i64 0] bs.length) 3):=⟨_,rfl⟩
  have z4:V4.heap.size = w.heap.size + 1 + 1 + 1 + 1:=by rw [hV4]; simp [z3]
  replace r0:=r0.alloc (.cells (madeCells #[.int .i64 0] bs.length) 3)
  replace r1:=r1.alloc (.cells (madeCells #[.int .i64 0] bs.length) 3)
  replace r2:=r2.alloc (.cells (madeCells #[.int .i64 0] bs.length) 3)
  have b4:Below w.heap.size w V4:=by rw [hV4]; exact b3.alloc (by omega) _
  rw [← hV4] at r0 r1 r2 r3 ⊢
  clear hV4
  have r4:=one V4 (.slice (some ⟨w.heap.size + 1 + 1 + 1,0,none⟩) 0 bs.length) 27
  rw [z4] at r4
  obtain ⟨V5,hV5⟩:∃ V5,V5 = V4.alloc (.cells #[.slice (some ⟨w.heap.size + 1 + 1 + 1,0,none⟩) 0 bs.length] 27):=⟨_,rfl⟩
  have z5:V5.heap.size = w.heap.size + 1 + 1 + 1 + 1 + 1:=by rw [hV5]; simp [z4]
  replace r0:=r0.alloc (.cells #[.slice (some ⟨w.heap.size + 1 + 1 + 1,0,none⟩) 0 bs.length] 27)
  replace r1:=r1.alloc (.cells #[.slice (some ⟨w.heap.size + 1 + 1 + 1,0,none⟩) 0 bs.length] 27)
  replace r2:=r2.alloc (.cells #[.slice (some ⟨w.heap.size + 1 + 1 + 1,0,none⟩) 0 bs.length] 27)
  replace r3:=r3.alloc (.cells #[.slice (some ⟨w.heap.size + 1 + 1 + 1,0,none⟩) 0 bs.length] 27)
  have b5:Below w.heap.size w V5:=by rw [hV5]; exact b4.alloc (by omega) _
  rw [← hV5] at r0 r1 r2 r3 r4 ⊢
  clear hV5
  have r5:=one V5 (.func (.func 48) #[] #[.pointer (some ⟨w.heap.size + 1 + 1,0,none⟩),.pointer (some ⟨w.heap.size,0,none⟩),.pointer (some ⟨w.heap.size + 1 + 1 + 1 + 1 + 1,0,none⟩),.pointer (some ⟨w.heap.size + 1 + 1 + 1 + 1,0,none⟩)]) 109
  rw [z5] at r5
  have r3':=r3.alloc (.cells #[.func (.func 48) #[] #[.pointer (some ⟨w.heap.size + 1 + 1,0,none⟩),.pointer (some ⟨w.heap.size,0,none⟩),.pointer (some ⟨w.heap.size + 1 + 1 + 1 + 1 + 1,0,none⟩),.pointer (some ⟨w.heap.size + 1 + 1 + 1 + 1,0,none⟩)]] 109)
  obtain ⟨c,hc,hcs,hcx⟩:=r3'
  refine ⟨r0.alloc _,r1.alloc _,r2.alloc _,r4.alloc _,r5,⟨rfl,Or.inr ⟨w.heap.size + 1 + 1 + 1,bs.length,c,rfl,Nat.le_refl _,hc,Nat.zero_le _,by unfold maxLen; omega,by omega,rfl⟩⟩,fun g hg => Or.inl ?_,b5.alloc (by omega) _,rfl⟩
  simpa [Value.ownBlock] using hg.symm
 have HW:Hid (W = (((((w.alloc (.cells #[.slice ab bs.length cb] 28)).alloc (.cells (madeCells #[.bool false] bs.length) 4)).alloc (.cells #[.slice (some ⟨w.heap.size + 1,0,none⟩) bs.length bs.length] 87)).alloc (.cells (madeCells #[.int .i64 0] bs.length) 3)).alloc (.cells #[.slice (some ⟨w.heap.size + 1 + 1 + 1,0,none⟩) 0 bs.length] 27)).alloc (.cells #[.func (.func 48) #[] #[.pointer (some ⟨w.heap.size + 1 + 1,0,none⟩),.pointer (some ⟨w.heap.size,0,none⟩),.pointer (some ⟨w.heap.size + 1 + 1 + 1 + 1 + 1,0,none⟩),.pointer (some ⟨w.heap.size + 1 + 1 + 1 + 1,0,none⟩)]] 109)):=hW
 have hle:unb bs.length (fun _ => false) ≤ bs.length:=by
  have:=List.countP_le_length (p:=fun i:Nat => !(fun _ => false) i) (l:=List.range bs.length)
  rw [List.length_range] at this
  exact this
 have HC:=HV.out 0 W (fun _ => false) [] _ hst hpos rfl hle (by simpa using hle)
 have p5:=hst.pv.cell (i:=0) (by omega)
 clear hW hst hle hb hsc hrange
 go_enter Try.func37,Try.ntmps37
 go_upto_region 5 with fail
 rw [← HW.out]
 clear HW hmk hmk2
 go_wp2_with fail
 refine HC.mono ?_
 clear HC p5
 rintro e w2 ⟨rfl,v',hS⟩
 have hown:=hS.own
 rw [cI_map] at hown
 have hlow:=hS.low
 have hfar:=hS.far
 have p4:=hS.po.cell (i:=0) (by omega)
 have l4:=hS.po.lt
 have z4:=hS.po
 clear hS
 have epost:(visitM (succM bs) bs.length 0 (fun _ => false,[])).2 = postM bs:=rfl
 rw [epost] at hown
 have hnn:v' ≠ .slice none 0 0:=by
  rintro rfl
  rcases hown.2 with ⟨_,h0⟩ | ⟨g,cap,cur,h0,_⟩
  ·have:=HPP.out; omega
  ·simp at h0
 obtain ⟨g,cap,rfl,hbg,hgl,hncap,hcm,hlen,hH⟩:=Lib.holds_of_ownsRow hown hnn
 have hrev:=reverse_arr g 0 cap (postM bs).toArray w2 hH (by unfold maxLen at hcm; simp; omega)
 have eSz:(postM bs).toArray.size = (postM bs).length:=by simp
 rw [eSz] at hrev
 have X:Hid (_∧_∧_∧_∧_):=⟨hown,hlow,hfar,hbg,z4⟩
 have hg4:¬ w.heap.size + 1 + 1 + 1 + 1 = g:=by have:=hfar g rfl; omega
 clear hown hlow hfar hbg z4 hH hnn eSz epost
 go_wp2_with fail
 refine hrev.mono ?_
 clear hrev
 rintro e w3 ⟨rfl,q,hw3⟩
 have hp3:w3.cell? ⟨w.heap.size + 1 + 1 + 1 + 1,0,none⟩ = some (.slice (some ⟨g,0,none⟩) (postM bs).length cap):=by
  rw [hw3,← p4]
  refine World.cell?_of_block ?_
  simp [putRow,mapBlock,Sort.ahead,Array.getElem?_modify,show ¬ g = w.heap.size + 1 + 1 + 1 + 1 by omega]
 have hfin:SlOf w3 1 RInt (.slice (some ⟨g,0,none⟩) (postM bs).length cap) (orderM bs)∧Below w.heap.size w w3:=by
  have h1:=Lib.ownsRow_putRow (q:=q) (ys:=(postM bs).reverse) X.out.1 (by simp) (Nat.le_refl _)
  rw [List.take_of_length_le (by simp),← cI_map] at h1
  have e2:(postM bs).toArray.reverse = (postM bs).reverse.toArray:=by simp
  rw [e2] at hw3
  have h1':=h1
  refine ⟨?_,?_⟩
  ·rw [hw3]
   exact own_ints _ h1' (by unfold maxLen at hcm; unfold longest; omega)
  ·rw [hw3]
   exact Lib.below_putRow X.out.2.1 (by have:=X.out.2.2.2.1; omega)
 have HFIN:Hid (_∧_):=hfin
 have hgw:w.heap.size ≤ g:=by have:=X.out.2.2.2.1; omega
 clear hfin hw3 p4 X
 go_wp2
 go_ret
 have eL:(orderM bs).length = (postM bs).length:=by unfold orderM; simp
 rw [eL]
 exact ⟨g,cap,rfl,hncap,hgw,HFIN.out.1,HFIN.out.2⟩
end Go.Proofs.Ytglfpnnfcpnmoaa
namespace Go.Proofs.Ytglfpnnfcpnmoaa
open Go.RowKit
set_option linter.unusedVariables false
def edgeMany (preds:List (List Int)) (e:Edg):Bool:=decide (1 < (preds.getD e.block.toNat []).length)
def blkMany (preds:List (List Int)) (b:Blk):Bool:=decide (2 ≤ b.edges.length) && b.edges.any (edgeMany preds)
def manyL (preds:List (List Int)) (bs:List Blk):Bool:=bs.any (blkMany preds)
theorem anyF_snoc {α:Type} (p:α → Bool) (l:List α) (k:Nat) (h:k < l.length) (h1:(l.take k).any p = false) (h2:p l[k] = false):(l.take (k + 1)).any p = false:=by
 rw [List.take_succ_eq_append_getElem h,List.any_append,h1]
 simp [h2]
theorem anyF_at {α:Type} (p:α → Bool) (l:List α) (k:Nat) (h:k < l.length) (h2:p l[k] = true):l.any p = true:=List.any_eq_true.2 ⟨_,List.getElem_mem h,h2⟩
theorem anyF_end {α:Type} (p:α → Bool) (l:List α) (k:Nat) (h:l.length ≤ k) (h1:(l.take k).any p = false):l.any p = false:=by
 rw [List.take_of_length_le h] at h1
 exact h1
set_option maxHeartbeats 4000000 in
theorem many_any (n:Nat) (bs:List Blk) (preds:List (List Int)) (ab ap:Option Addr) (cb cp:Nat) (vo vd:Value) (w:World) (hb:SlOf w 3 (RBlk w) (.slice ab bs.length cb) bs) (hp:SlOf w 1 (RRow w) (.slice ap n cp) preds) (hpl:preds.length = n)
  (hrange:∀ b ∈ bs,∀ e ∈ b.edges,0 ≤ e.block∧e.block < (n:Int)) :
  Calls Try.prog 38 #[.agg #[.slice ap n cp,vo,vd],.slice ab bs.length cb] w fun e w' => e = .returned (.bool (manyL preds bs))∧Below w.heap.size w w':=by
 obtain ⟨_,_,_,lb⟩:=hb.out
 have lp:preds.length ≤ longest:=by
  obtain ⟨_,_,_,h⟩:=hp.out
  exact h
 rw [hpl] at lp
 unfold longest at lb lp
 obtain ⟨res,hres⟩:∃ res,manyL preds bs = res:=⟨_,rfl⟩
 rw [hres]
 have HRES:Hid (manyL preds bs = res):=hres
 obtain ⟨W,hW⟩:∃ W,W = w.alloc (.cells #[.slice ap n cp,vo,vd] 81):=⟨_,rfl⟩
 have hbw:Below w.heap.size w W:=by rw [hW]; exact (Below.refl _ _).alloc (Nat.le_refl _) _
 have d0:W.cell? ⟨w.heap.size,0,none⟩ = some (.slice ap n cp):=by rw [hW]; simp
 have hz:w.heap.size < W.heap.size:=by rw [hW]; simp
 have HW:Hid (W = w.alloc (.cells #[.slice ap n cp,vo,vd] 81)):=hW
 have HB:Hid (SlOf w 3 (RBlk w) (.slice ab bs.length cb) bs):=hb
 have HP:Hid (SlOf w 1 (RRow w) (.slice ap n cp) preds):=hp
 have HR:Hid (∀ b ∈ bs,∀ e ∈ b.edges,0 ≤ e.block∧e.block < (n:Int)):=hrange
 have HD:Hid (W.cell? ⟨w.heap.size,0,none⟩ = some (.slice ap n cp)):=d0
 have HPL:Hid (preds.length = n):=hpl
 clear hW hb hp hrange hres d0 hpl
 go_enter Try.func38,Try.ntmps38
 go_upto_region 1 with fail
 rw [← HW.out]
 go_wp2_with fail
 go_loopw [11] (fun i wr => ∃ k:Nat,k ≤ bs.length∧i = .int .i64 k∧Below W.heap.size W wr∧Hid ((bs.take k).any (blkMany preds) = false)) (fun i _ => bs.length - (intOf i).toNat)
 case atStart => exact ⟨0,Nat.zero_le _,rfl,Below.refl _ _,rfl⟩
 case round =>
  obtain ⟨k,hk,rfl,hbr,HK⟩:=hrel
  have hb0:Below w.heap.size w wr:=hbw.trans (hbr.mono (Nat.le_of_lt hz))
  by_cases hlt:k < bs.length
  ·obtain ⟨b5,off5,cs,rfl,hcl5,⟨vp,vi,ve,rfl,hp,hi,he0⟩,hc⟩:=HB.out.at k hlt
   obtain ⟨ae,ce,rfl,le⟩:=he0.out
   obtain ⟨ap',cp',rfl,_⟩:=hp.out
   obtain ⟨ai,ci,rfl,_⟩:=hi.out
   unfold longest at le
   have c0:=(hb0.cell (p:=⟨b5,off5 + k * 3 + 0,none⟩) (block_lt (hc 0 (by simp)))).trans (hc 0 (by simp))
   have c1:=(hb0.cell (p:=⟨b5,off5 + k * 3 + 1,none⟩) (block_lt (hc 1 (by simp)))).trans (hc 1 (by simp))
   have c2:=(hb0.cell (p:=⟨b5,off5 + k * 3 + 2,none⟩) (block_lt (hc 2 (by simp)))).trans (hc 2 (by simp))
   simp at c0 c1 c2
   have hrk:=HR.out bs[k] (List.getElem_mem hlt)
   have HN:Hid (blkMany preds bs[k] = false → (bs.take (k + 1)).any (blkMany preds) = false):=fun h => anyF_snoc _ _ _ hlt HK.out h
   have HT:Hid (blkMany preds bs[k] = true → true = res):=fun h => by rw [← HRES.out]; exact (anyF_at _ _ _ hlt h).symm
   have HBM:Hid (blkMany preds bs[k] = (decide (2 ≤ bs[k].edges.length) && bs[k].edges.any (edgeMany preds))):=rfl
   generalize blkMany preds bs[k] = bm at *
   clear hc hcl5 hp hi HK
   generalize bs[k].params.length = np at *
   generalize bs[k].instrs.length = ni at *
   generalize bs[k].edges = es at *
   have HE:Hid (SlOf w 2 (REdg w) (.slice ae es.length ce) es):=he0
   have HRK:Hid (∀ e ∈ es,0 ≤ e.block∧e.block < (n:Int)):=hrk
   clear he0 hrk
   by_cases h2:es.length < 2
   ·have q1:(es.length:Int) < 2:=by omega
    have hF:=HN.out (by rw [HBM.out]; simp; omega)
    have HF:Hid _:=hF
    clear hF h2
    go_wp2
    go_roundw
    case rel => exact ⟨k + 1,by omega,by go_num,hbr.alloc hbr.size _,HF⟩
    case measure => simp [intOf]; omega
   ·have q1:¬ (es.length:Int) < 2:=by omega
    go_wp2_with fail
    obtain ⟨wb,hwb⟩:∃ wb,wb = wr.alloc (.cells #[.slice ap' np cp',.slice ai ni ci,.slice ae es.length ce] 40):=⟨_,rfl⟩
    have hbb:Below W.heap.size W wb:=by rw [hwb]; exact hbr.alloc hbr.size _
    rw [← hwb]
    clear hwb hbr hb0 c0 c1 c2
    go_loopw [22] (fun i w2 => ∃ j:Nat,j ≤ es.length∧i = .int .i64 j∧Below W.heap.size W w2∧Hid ((es.take j).any (edgeMany preds) = false)) (fun i _ => es.length - (intOf i).toNat)
    case atStart => exact ⟨0,Nat.zero_le _,rfl,hbb,rfl⟩
    case round =>
     obtain ⟨j,hj,rfl,hbr,HJ⟩:=hrel
     have hb0:Below w.heap.size w wr:=hbw.trans (hbr.mono (Nat.le_of_lt hz))
     by_cases hjl:j < es.length
     ·obtain ⟨b6,off6,cs,rfl,hcl6,⟨va,rfl,hva⟩,hc⟩:=HE.out.at j hjl
      obtain ⟨aa,ca,rfl,_⟩:=hva.out
      have e0:=(hb0.cell (p:=⟨b6,off6 + j * 2 + 0,none⟩) (block_lt (hc 0 (by simp)))).trans (hc 0 (by simp))
      have e1:=(hb0.cell (p:=⟨b6,off6 + j * 2 + 1,none⟩) (block_lt (hc 1 (by simp)))).trans (hc 1 (by simp))
      simp at e0 e1
      have hrj:=HRK.out es[j] (List.getElem_mem hjl)
      have HNJ:Hid (edgeMany preds es[j] = false → (es.take (j + 1)).any (edgeMany preds) = false):=fun h => anyF_snoc _ _ _ hjl HJ.out h
      have HTJ:Hid (edgeMany preds es[j] = true → true = res):=fun h => HT.out (by rw [HBM.out,anyF_at _ _ _ hjl h]; simp; omega)
      have HEM:Hid (edgeMany preds es[j] = decide (1 < (preds.getD es[j].block.toNat []).length)):=rfl
      generalize edgeMany preds es[j] = em at *
      clear hc hcl6 hva HJ
      generalize es[j].args.length = na at *
      generalize es[j].block = t at *
      have ht0:=hrj.1
      have ht1:=hrj.2
      obtain ⟨bp,offp,a',c',rfl,hbp,hcp,_,hll⟩:=rows_at HP.out t ht0 (by rw [HPL.out]; exact ht1)
      unfold longest at hll
      have f0:=(hb0.cell (p:=⟨bp,offp + t.toNat,none⟩) hbp).trans hcp
      have f1:=(hbr.cell (p:=⟨w.heap.size,0,none⟩) hz).trans HD.out
      generalize (preds.getD t.toNat []).length = ln at *
      have hlb:bp < wr.heap.size:=by have:=hb0.size; omega
      have hlw:w.heap.size < wr.heap.size:=by have:=hbr.size; omega
      have LP:=old_cell bp
      have LW:=old_cell w.heap.size
      have HBE:Hid (Below W.heap.size W (wr.alloc (.cells #[.int .i64 t,.slice aa na ca] 92))):=hbr.alloc hbr.size _
      clear hcp hrj
      by_cases hbig:1 < ln
      ·have q2:(1:Int) < ln:=by omega
       have H:Hid (true = res):=HTJ.out (by rw [HEM.out]; simp [hbig])
       clear HTJ HNJ HEM hbig
       go_wp2
       go_ret
       exact ⟨ret_bool H.out,hbw.trans (HBE.out.mono (Nat.le_of_lt hz))⟩
      ·have q2:¬ (1:Int) < ln:=by omega
       have HF:Hid ((es.take (j + 1)).any (edgeMany preds) = false):=HNJ.out (by rw [HEM.out]; simp; omega)
       clear HTJ HNJ HEM hbig
       go_wp2
       go_roundw
       case rel => exact ⟨j + 1,by omega,by go_num,HBE.out,HF⟩
       case measure => simp [intOf]; omega
     ·have HF:Hid ((bs.take (k + 1)).any (blkMany preds) = false):=HN.out (by rw [HBM.out,anyF_end _ _ j (by omega) HJ.out]; simp)
      clear HJ
      go_wp2
      go_roundw
      case rel => exact ⟨k + 1,by omega,by go_num,hbr,HF⟩
      case measure => simp [intOf]; omega
  ·have H:Hid (false = res):=by show _ = _; rw [← HRES.out]; exact (anyF_end _ _ k (by omega) HK.out).symm
   clear HK
   go_wp2
   go_ret
   exact ⟨ret_bool H.out,hb0⟩
end Go.Proofs.Ytglfpnnfcpnmoaa
