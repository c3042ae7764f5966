/-
  The contract of 'examine': what is wrong with how the blocks hang together, and the graph.
-/
import Derived.Test.YtglfpnnfcpnmoaaF4
import Derived.Test.YtglfpnnfcpnmoaaF1
import Derived.Test.YtglfpnnfcpnmoaaF2
import Derived.Test.YtglfpnnfcpnmoaaA4
namespace Go.Proofs.Ytglfpnnfcpnmoaa
open Go.RowKit
set_option linter.unusedVariables false
def predsL (bs:List Blk):List (List Int):=(List.range bs.length).map (intoM (pairsM bs))
def idomF (f:Fn) (K:Nat):Nat → Int:=roundsM (predL (predsL f.blocks)) (orderM f.blocks) f.blocks.length K
def flowE (f:Fn) (m0 m1:Int) (K:Nat):Int :=
 if shapeErr f m0 m1 ≠ 0 then shapeErr f m0 m1
 else if (orderM f.blocks).length < f.blocks.length then 16
 else if manyL (predsL f.blocks) f.blocks = true then 11
 else if madeL (spU f.blocks f.blocks.length) (idomF f K) f.blocks = true then 0 else 10
structure FlowIn (f:Fn) (K:Nat):Prop where
 pos:0 < f.blocks.length
 nb:f.blocks.length ≤ 1000
 nv:f.values.length ≤ 1000
 few:(pairsM f.blocks).length ≤ 100000
 rng:∀ b ∈ f.blocks,∀ e ∈ b.edges,0 ≤ e.block∧e.block < (f.blocks.length:Int)
 suc:∀ b t,t ∈ succM f.blocks b → t < f.blocks.length
 defs:DefsIn f.values.length f.blocks
 uses:UsesIn f.values.length f.blocks
 gr:f.blocks.length ≤ (orderM f.blocks).length → Gr f.blocks.length (predsL f.blocks) (orderM f.blocks)∧FixAt (predsL f.blocks) (orderM f.blocks) f.blocks.length K
def GraphAt (f:Fn) (K lo:Nat) (w:World) (v:Value):Prop:=∃ pa g ib co,v = .agg #[.slice (some ⟨pa,0,none⟩) f.blocks.length f.blocks.length,.slice (some ⟨g,0,none⟩) f.blocks.length co,.slice (some ⟨ib,0,none⟩) f.blocks.length f.blocks.length]∧(lo ≤ g∧f.blocks.length ≤ co)∧lo ≤ ib ∧
 SlOf w 1 (RRow w) (.slice (some ⟨pa,0,none⟩) f.blocks.length f.blocks.length) (predsL f.blocks)∧SlOf w 1 RInt (.slice (some ⟨g,0,none⟩) f.blocks.length co) (orderM f.blocks)∧SlOf w 1 RInt (.slice (some ⟨ib,0,none⟩) f.blocks.length f.blocks.length) (fnL f.blocks.length (idomF f K))
theorem shape_is (f:Fn) (m0 m1:Int) (vv vb:Value) (w:World) (r:Int) (hr:shapeErr f m0 m1 = r) (hv0:SlOf w 1 RInt vv f.values) (hb0:SlOf w 3 (RBlk w) vb f.blocks) :
  Calls Try.prog 35 #[.agg #[vv,vb],.agg #[.int .i64 m0,.int .i64 m1]] w fun e w' => e = .returned (.int .i64 r)∧Below w.heap.size w w':=by
 rw [← hr]; exact check_any f m0 m1 vv vb w hv0 hb0
theorem many_is (n:Nat) (bs:List Blk) (preds:List (List Int)) (ab ap:Option Addr) (cb cp:Nat) (vo vd:Value) (r:Bool) (hr:manyL preds bs = r) (w:World) (hb:SlOf w 3 (RBlk w) (.slice ab bs.length cb) bs) (hp:SlOf w 1 (RRow w) (.slice ap n cp) preds) (hpl:preds.length = n)
  (hrange:∀ b ∈ bs,∀ e ∈ b.edges,0 ≤ e.block∧e.block < (n:Int)) :
  Calls Try.prog 38 #[.agg #[.slice ap n cp,vo,vd],.slice ab bs.length cb] w fun e w' => e = .returned (.bool r)∧Below w.heap.size w w':=by
 rw [← hr]; exact many_any n bs preds ab ap cb cp vo vd w hb hp hpl hrange
theorem made_is (n:Nat) (rank idom:Nat → Int) (values:List Int) (bs:List Blk) (av ab ap ao ad:Option Addr) (cv cb np no cp co cd:Nat) (r:Bool) (w:World) (hr:madeL (spU bs bs.length) idom bs = r) (hnb:bs.length = n) (hv:SlOf w 1 RInt (.slice av values.length cv) values) (hb:SlOf w 3 (RBlk w) (.slice ab bs.length cb) bs)
  (hn:values.length ≤ 1000) (hn2:n ≤ 1000) (hd:DefsIn values.length bs) (hu:UsesIn values.length bs) (hid:SlOf w 1 RInt (.slice ad n cd) (fnL n idom)) (hk:DomOk n rank idom) :
  Calls Try.prog 40 #[.agg #[.slice ap np cp,.slice ao no co,.slice ad n cd],.agg #[.slice av values.length cv,.slice ab bs.length cb]] w fun e w' => e = .returned (.bool r)∧Below w.heap.size w w':=by
 rw [← hr]; exact madeAhead_any n rank idom values bs av ab ap ao ad cv cb np no cp co cd w hnb hv hb hn hn2 hd hu hid hk
theorem idoms_is (n K M:Nat) (preds:List (List Int)) (order:List Int) (ap ao:Option Addr) (cp co:Nat) (vd:Value) (w:World) (hM:w.heap.size = M)
  (hp:SlOf w 1 (RRow w) (.slice ap n cp) preds) (ho:SlOf w 1 RInt (.slice ao n co) order) (hco:n ≤ co) (hg:Gr n preds order) (hfix:FixAt preds order n K) (hn:n ≤ 1000) :
  Calls Try.prog 39 #[.agg #[.slice ap n cp,.slice ao n co,vd]] w fun e w' => e = .returned (.slice (some ⟨M + 1 + 1 + 1,0,none⟩) n n)∧w'.rowIs (M + 1 + 1 + 1) 3 n (fun i => .int .i64 (roundsM (predL preds) order n K i))∧Below w.heap.size w w':=by
 subst hM; exact idoms_any n K preds order ap ao cp co vd w hp ho hco hg hfix hn
theorem rounds_domOk {n K:Nat} {preds:List (List Int)} {order:List Int} (g:Gr n preds order) (h:FixAt preds order n K):DomOk n (rankM order) (roundsM (predL preds) order n K):=by
 have e:=fix_all g h
 rw [← e]
 exact ((RI.rounds g (K + 1)).2 (by omega)).domOk g (by have:=g.pos; omega)
theorem row_sl {w:World} {R n:Nat} {f:Nat → Int} (h:w.rowIs R 3 n (fun i => .int .i64 (f i))) (hn:n ≤ 1000):SlOf w 1 RInt (.slice (some ⟨R,0,none⟩) n n) (fnL n f):=by
 refine ⟨_,n,by rw [fnL_length],by rw [fnL_length]; unfold longest; omega,Or.inr ⟨R,0,rfl,fun i hi => ?_⟩⟩
 rw [fnL_length] at hi
 refine ⟨[.int .i64 (f i)],rfl,?_,fun j hj => ?_⟩
 ·unfold RInt
  simp [fnL]
 ·have:j = 0:=by simp at hj; exact hj
  subst this
  simp only [Nat.mul_one,Nat.add_zero,Nat.zero_add,List.getElem_cons_zero]
  exact h.cell hi
theorem sl_lt {w:World} {g n cap:Nat} {l:List Int} (h:SlOf w 1 RInt (.slice (some ⟨g,0,none⟩) n cap) l) (hp:0 < l.length):g < w.heap.size:=by
 obtain ⟨b,off,he,hb,_⟩:=ints_at h 0 (by omega) (by omega)
 simp only [Option.some.injEq,Addr.mk.injEq] at he
 omega
theorem PSt.other {w:World} {R n X q:Nat} {u:Value} {vs:Nat → Value} {L:List (Nat × Nat)} (h:PSt w R n vs L) (hX:R ≠ X) (ho:∀ i g,i < n → (vs i).ownBlock = some g → g ≠ X):PSt (w.setCell ⟨X,q,none⟩ u) R n vs L :=
 ⟨h.row.setOther (by simpa using hX) _,fun i hi => own_keep (h.own i hi) fun g hg _ _ => Below.heap_setCell _ _ _ _ (ho i g hi hg),h.apart⟩
theorem ints_other {w w2:World} {g n cap:Nat} {l:List Int} (h:SlOf w 1 RInt (.slice (some ⟨g,0,none⟩) n cap) l) (he:w2.heap[g]? = w.heap[g]?):SlOf w2 1 RInt (.slice (some ⟨g,0,none⟩) n cap) l:=by
 obtain ⟨a,c,hv,hl,h⟩:=h
 refine ⟨a,c,hv,hl,h.imp id ?_⟩
 rintro ⟨b,off,ha,h⟩
 simp only [Value.slice.injEq] at hv
 have hb:b = g:=by
  have:=hv.1.trans ha
  simp only [Option.some.injEq,Addr.mk.injEq] at this
  exact this.1.symm
 subst hb
 refine ⟨b,off,ha,fun i hi => ?_⟩
 obtain ⟨cs,h1,h2,h3⟩:=h i hi
 exact ⟨cs,h1,h2,fun j hj => (World.cell?_of_block he).trans (h3 j hj)⟩
theorem PSt.kept {w w':World} {R n:Nat} {vs:Nat → Value} {L:List (Nat × Nat)} (h:PSt w R n vs L) (hR:w'.heap[R]? = w.heap[R]?) (ho:∀ i g,i < n → (vs i).ownBlock = some g → w'.heap[g]? = w.heap[g]?):PSt w' R n vs L :=
 ⟨h.row.of_block hR,fun i hi => own_keep (h.own i hi) fun g hg _ _ => ho i g hi hg,h.apart⟩
def KeptX (W:World) (X:Nat) (w w':World):Prop:=∀ b,W.heap.size ≤ b → b ≠ X → b < w.heap.size → w'.heap[b]? = w.heap[b]?
def Begun (f:Fn) (W:World) (x:Value) (wz:World):Prop:=∃ X pa g cap,x = .pointer (some ⟨X,0,none⟩)∧wz.rowIs X 81 3 (fun i => if i = 0 then .slice (some ⟨pa,0,none⟩) f.blocks.length f.blocks.length else if i = 1 then .slice (some ⟨g,0,none⟩) (orderM f.blocks).length cap else .slice none 0 0) ∧
 Below W.heap.size W wz∧W.heap.size ≤ X∧W.heap.size ≤ g∧(∀ w',KeptX W X wz w' → SlOf w' 1 (RRow w') (.slice (some ⟨pa,0,none⟩) f.blocks.length f.blocks.length) (predsL f.blocks)∧SlOf w' 1 RInt (.slice (some ⟨g,0,none⟩) (orderM f.blocks).length cap) (orderM f.blocks))∧(orderM f.blocks).length ≤ cap
theorem begun_sl {f:Fn} {K R g cap X:Nat} {vs:Nat → Value} {W w3 wz w':World} (hFI:FlowIn f K) (hP:PSt w3 R f.blocks.length vs (pairsM f.blocks)) (ho:SlOf w3 1 RInt (.slice (some ⟨g,0,none⟩) (orderM f.blocks).length cap) (orderM f.blocks)) (hgl:g < w3.heap.size) (hR:W.heap.size ≤ R) (hg:W.heap.size ≤ g)
  (hRX:R ≠ X) (hgX:g ≠ X) (hoX:∀ i g,i < f.blocks.length → (vs i).ownBlock = some g → g ≠ X) (h3:∀ b,b ≠ X → b < w3.heap.size → wz.heap[b]? = w3.heap[b]?) (hz:w3.heap.size ≤ wz.heap.size) (hk:KeptX W X wz w') :
  SlOf w' 1 (RRow w') (.slice (some ⟨R,0,none⟩) f.blocks.length f.blocks.length) (predsL f.blocks)∧SlOf w' 1 RInt (.slice (some ⟨g,0,none⟩) (orderM f.blocks).length cap) (orderM f.blocks):=by
 have hs:∀ b,W.heap.size ≤ b → b ≠ X → b < w3.heap.size → w'.heap[b]? = w3.heap[b]?:=fun b h1 h2 h4 => (hk b h1 h2 (by omega)).trans (h3 b h2 h4)
 refine ⟨(hP.kept (hs R hR hRX hP.row.lt) fun i g' hi hg' => ?_).sl (by have:=hFI.few; omega) hFI.nb,ints_other ho (hs g hg hgX hgl)⟩
 have hb:=own_base (hP.own i hi) hg'
 exact hs g' (by omega) (hoX i g' hi hg') hb.2
theorem begun_new {f:Fn} {K R g cap:Nat} {vs:Nat → Value} {W w3:World} (hFI:FlowIn f K) (hP:PSt w3 R f.blocks.length vs (pairsM f.blocks)) (ho:SlOf w3 1 RInt (.slice (some ⟨g,0,none⟩) (orderM f.blocks).length cap) (orderM f.blocks)) (hpos:0 < (orderM f.blocks).length) (hc:(orderM f.blocks).length ≤ cap) (hW:Below W.heap.size W w3) (hR:W.heap.size ≤ R) (hg:W.heap.size ≤ g) :
  Begun f W (.pointer (some ⟨w3.heap.size,0,none⟩)) (w3.alloc (.cells #[.slice (some ⟨R,0,none⟩) f.blocks.length f.blocks.length,.slice (some ⟨g,0,none⟩) (orderM f.blocks).length cap,.slice none 0 0] 81)):=by
 have hb:Below w3.heap.size w3 (w3.alloc (.cells #[.slice (some ⟨R,0,none⟩) f.blocks.length f.blocks.length,.slice (some ⟨g,0,none⟩) (orderM f.blocks).length cap,.slice none 0 0] 81)):=(Below.refl _ _).alloc (Nat.le_refl _) _
 have hgl:g < w3.heap.size:=sl_lt ho hpos
 refine ⟨w3.heap.size,R,g,cap,rfl,World.rowIs_alloc _ _ _ _ fun i hi => ?_,hW.alloc hW.size _,hW.size,hg,fun w' hk => ?_,hc⟩
 ·simp at hi
  match i,hi with | 0,_ => rfl | 1,_ => rfl | 2,_ => rfl
 ·refine begun_sl hFI hP ho hgl hR hg ?_ ?_ (fun i g hi hg => ?_) (fun b _ h2 => hb.block b h2) hb.size hk
  ·have:=hP.row.lt; omega
  ·omega
  ·have:=own_base (hP.own i hi) hg; omega
theorem begun_set {f:Fn} {K R g cap X:Nat} {vs:Nat → Value} {W w3:World} (hFI:FlowIn f K) (hP:PSt w3 R f.blocks.length vs (pairsM f.blocks)) (ho:SlOf w3 1 RInt (.slice (some ⟨g,0,none⟩) (orderM f.blocks).length cap) (orderM f.blocks)) (hpos:0 < (orderM f.blocks).length) (hc:(orderM f.blocks).length ≤ cap) (hW:Below W.heap.size W w3) (hR:W.heap.size ≤ R) (hg:W.heap.size ≤ g)
  (hr:w3.rowIs X 81 3 (fun _ => .slice none 0 0)) (hX:W.heap.size ≤ X) (hRX:R ≠ X) (hgX:g ≠ X) (hoX:∀ i g,i < f.blocks.length → (vs i).ownBlock = some g → g ≠ X) :
  Begun f W (.pointer (some ⟨X,0,none⟩)) (((w3.setCell ⟨X,0,none⟩ (.slice (some ⟨R,0,none⟩) f.blocks.length f.blocks.length)).setCell ⟨X,1,none⟩ (.slice (some ⟨g,0,none⟩) (orderM f.blocks).length cap)).setCell ⟨X,2,none⟩ (.slice none 0 0)):=by
 have hgl:g < w3.heap.size:=sl_lt ho hpos
 refine ⟨X,R,g,cap,rfl,(((hr.set 0 _).set 1 _).set 2 _).congr fun i hi => ?_,((hW.setCell hX _).setCell hX _).setCell hX _,hX,hg,fun w' hk => begun_sl hFI hP ho hgl hR hg hRX hgX hoX (fun b hb _ => ?_) (by simp) hk,hc⟩
 ·match i,hi with | 0,_ => rfl | 1,_ => rfl | 2,_ => rfl
 ·rw [Below.heap_setCell _ _ _ _ hb,Below.heap_setCell _ _ _ _ hb,Below.heap_setCell _ _ _ _ hb]
set_option maxRecDepth 4000 in
set_option maxHeartbeats 8000000 in
theorem examine_any (f:Fn) (K:Nat) (m0 m1:Int) (av ab:Option Addr) (cv cb:Nat) (w:World) (hv:SlOf w 1 RInt (.slice av f.values.length cv) f.values) (hb:SlOf w 3 (RBlk w) (.slice ab f.blocks.length cb) f.blocks) (hin:shapeErr f m0 m1 = 0 → FlowIn f K) :
  Calls Try.prog 27 #[.agg #[.slice av f.values.length cv,.slice ab f.blocks.length cb],.agg #[.int .i64 m0,.int .i64 m1]] w fun e w' => ∃ v,e = .returned (.tuple #[v,.int .i64 (flowE f m0 m1 K)])∧(∃ a b c n1 n2 n3 c1 c2 c3,v = .agg #[.slice a n1 c1,.slice b n2 c2,.slice c n3 c3])∧(flowE f m0 m1 K = 0 → GraphAt f K w.heap.size w' v)∧Below w.heap.size w w':=by
 obtain ⟨W,hW⟩:∃ W,W = ((w.alloc (.cells #[.slice av f.values.length cv,.slice ab f.blocks.length cb] 30)).alloc (.cells #[.int .i64 m0,.int .i64 m1] 25)).alloc (.cells #[.slice none 0 0,.slice none 0 0,.slice none 0 0] 81):=⟨_,rfl⟩
 have hz:W.heap.size = w.heap.size + 1 + 1 + 1:=by rw [hW]; simp
 have hbw:Below w.heap.size w W:=by
  rw [hW]
  repeat (first | exact Below.refl _ _ | refine Below.alloc ?_ (by simp; try omega) _)
 have r0:W.rowIs w.heap.size 30 2 (fun i => if i = 0 then .slice av f.values.length cv else .slice ab f.blocks.length cb):=by
  rw [hW]
  exact ((World.rowIs_alloc w #[.slice av f.values.length cv,.slice ab f.blocks.length cb] _ (fun i => if i = 0 then .slice av f.values.length cv else .slice ab f.blocks.length cb) fun i hi => by
   simp at hi
   match i,hi with | 0,_ => rfl | 1,_ => rfl).alloc _).alloc _
 have r1:W.rowIs (w.heap.size + 1) 25 2 (fun i => if i = 0 then .int .i64 m0 else .int .i64 m1):=by
  rw [hW]
  have h:=(World.rowIs_alloc (w.alloc (.cells #[.slice av f.values.length cv,.slice ab f.blocks.length cb] 30)) #[.int .i64 m0,.int .i64 m1] 25 (fun i => if i = 0 then .int .i64 m0 else .int .i64 m1) fun i hi => by
   simp at hi
   match i,hi with | 0,_ => rfl | 1,_ => rfl).alloc (.cells #[.slice none 0 0,.slice none 0 0,.slice none 0 0] 81)
  have e:(w.alloc (.cells #[.slice av f.values.length cv,.slice ab f.blocks.length cb] 30)).heap.size = w.heap.size + 1:=by simp
  rw [e] at h
  exact h
 have r2:W.rowIs (w.heap.size + 1 + 1) 81 3 (fun _ => .slice none 0 0):=by
  rw [hW]
  have h:=World.rowIs_alloc ((w.alloc (.cells #[.slice av f.values.length cv,.slice ab f.blocks.length cb] 30)).alloc (.cells #[.int .i64 m0,.int .i64 m1] 25)) #[.slice none 0 0,.slice none 0 0,.slice none 0 0] 81 (fun _ => .slice none 0 0) fun i hi => by
   simp at hi
   match i,hi with | 0,_ => rfl | 1,_ => rfl | 2,_ => rfl
  have e:((w.alloc (.cells #[.slice av f.values.length cv,.slice ab f.blocks.length cb] 30)).alloc (.cells #[.int .i64 m0,.int .i64 m1] 25)).heap.size = w.heap.size + 1 + 1:=by simp
  rw [e] at h
  exact h
 have HW:Hid (W = ((w.alloc (.cells #[.slice av f.values.length cv,.slice ab f.blocks.length cb] 30)).alloc (.cells #[.int .i64 m0,.int .i64 m1] 25)).alloc (.cells #[.slice none 0 0,.slice none 0 0,.slice none 0 0] 81)):=hW
 have HR:Hid (∀ w',Below W.heap.size W w' → w'.rowIs w.heap.size 30 2 (fun i => if i = 0 then .slice av f.values.length cv else .slice ab f.blocks.length cb)∧w'.rowIs (w.heap.size + 1 + 1) 81 3 (fun _ => .slice none 0 0)∧Below w.heap.size w w'):=fun w' hh => ⟨r0.of_block (hh.block _ r0.lt),r2.of_block (hh.block _ r2.lt),hbw.trans (hh.mono (by omega))⟩
 have HVB:Hid (∀ w',Below W.heap.size W w' → SlOf w' 1 RInt (.slice av f.values.length cv) f.values∧SlOf w' 3 (RBlk w') (.slice ab f.blocks.length cb) f.blocks):=fun w' hh => by
  have h:=hbw.trans (hh.mono (by omega))
  exact ⟨hv.below h fun _ _ h => h,hb.below h (RBlk.below h)⟩
 have HIN:Hid (shapeErr f m0 m1 = 0 → FlowIn f K):=hin
 obtain ⟨e0,he0⟩:∃ e0,shapeErr f m0 m1 = e0:=⟨_,rfl⟩
 have HFE:Hid (flowE f m0 m1 K = if e0 ≠ 0 then e0 else if (orderM f.blocks).length < f.blocks.length then 16 else if manyL (predsL f.blocks) f.blocks = true then 11 else if madeL (spU f.blocks f.blocks.length) (idomF f K) f.blocks = true then 0 else 10):=by
  show _ = _
  unfold flowE
  rw [he0]
 have HC:=shape_is f m0 m1 _ _ W e0 he0 (HVB.out W (Below.refl _ _)).1 (HVB.out W (Below.refl _ _)).2
 have a0:W.cell? ⟨w.heap.size,0,none⟩ = some (.slice av f.values.length cv):=r0.cell (i:=0) (by omega)
 have a1:W.cell? ⟨w.heap.size,1,none⟩ = some (.slice ab f.blocks.length cb):=r0.cell (i:=1) (by omega)
 have b0:W.cell? ⟨w.heap.size + 1,0,none⟩ = some (.int .i64 m0):=r1.cell (i:=0) (by omega)
 have b1:W.cell? ⟨w.heap.size + 1,1,none⟩ = some (.int .i64 m1):=r1.cell (i:=1) (by omega)
 have HSH:Hid (shapeErr f m0 m1 = e0):=he0
 have HZ:Hid (W.heap.size = w.heap.size + 1 + 1 + 1):=hz
 clear hW hz hbw r0 r1 r2 hv hb hin he0
 obtain ⟨fe,hfe⟩:∃ fe,flowE f m0 m1 K = fe:=⟨_,rfl⟩
 rw [hfe] at HFE
 rw [hfe]
 clear hfe
 go_enter Try.func27,Try.ntmps27
 go_upto_region 1 with fail
 rw [← HW.out]
 go_wp2_with fail
 refine HC.mono ?_
 clear HC a0 a1 b0 b1 HW
 rintro e w1 ⟨rfl,hb1⟩
 by_cases hne:e0 = 0
 ·have q1:(e0 != 0) = false:=by simp [hne]
  have hFI:=HIN.out (HSH.out.trans hne)
  have HFI:Hid (FlowIn f K):=hFI
  have hFE2:=HFE.out
  rw [if_neg (by simp [hne])] at hFE2
  have HFE2:Hid (fe = if (orderM f.blocks).length < f.blocks.length then 16 else if manyL (predsL f.blocks) f.blocks = true then 11 else if madeL (spU f.blocks f.blocks.length) (idomF f K) f.blocks = true then 0 else 10):=hFE2
  have lb:f.blocks.length ≤ 1000:=hFI.nb
  have npos:0 < f.blocks.length:=hFI.pos
  have lo:(orderM f.blocks).length ≤ 1000:=by
   have:=post_le f.blocks hFI.pos hFI.suc
   unfold orderM
   rw [List.length_reverse]
   omega
  have HPC:Hid (∀ w',Below W.heap.size W w' → Calls Try.prog 36 #[.slice ab f.blocks.length cb] w' fun e w'' => ∃ vs,e = .returned (.slice (some ⟨w'.heap.size,0,none⟩) f.blocks.length f.blocks.length)∧PSt w'' w'.heap.size f.blocks.length vs (pairsM f.blocks)∧Below w'.heap.size w' w''):=fun w' hh => predsOf_any f.blocks ab cb w' (HVB.out _ hh).2 hFI.nb hFI.rng hFI.few
  have HOC:Hid (∀ w',Below W.heap.size W w' → Calls Try.prog 37 #[.slice ab f.blocks.length cb] w' fun e w'' => ∃ g cap,e = .returned (.slice (some ⟨g,0,none⟩) (orderM f.blocks).length cap)∧(orderM f.blocks).length ≤ cap∧w'.heap.size ≤ g∧SlOf w'' 1 RInt (.slice (some ⟨g,0,none⟩) (orderM f.blocks).length cap) (orderM f.blocks)∧Below w'.heap.size w' w''):=fun w' hh => orderOf_any f.blocks ab cb w' (HVB.out _ hh).2 hFI.pos hFI.nb hFI.suc hFI.rng
  clear hFI hFE2 HFE hne
  go_upto_region 4 with fail
  have HS:Hid (∀ w',Below W.heap.size W w' → w'.cell? ⟨w.heap.size,1,none⟩ = some (.slice ab f.blocks.length cb)):=fun w' hh => (HR.out _ hh).1.cell (i:=1) (by omega)
  have s1:=HS.out w1 hb1
  have hl0:w.heap.size < W.heap.size:=by have:=HZ.out; omega
  have HL0:Hid (W.heap.size ≤ w1.heap.size):=hb1.size
  have HPO:Hid (0 < (orderM f.blocks).length):=by show _ < _; unfold orderM; rw [List.length_reverse]; exact post_pos _ npos
  go_cut [7] (fun x wz => Begun f W x wz)
  case first =>
   refine wp_region_X (fun w' => w'.cell? ⟨w.heap.size,1,none⟩ = some (.slice ab f.blocks.length cb)) 99 (by kernel_rfl) s1 (fun hHeld => ?_)
   refine wpXt 0 rfl (v:=?_) (by kernel_rfl) (fun _ _ _ h => h) (by rfl) ?_ hHeld ?_
   rotate_left
   ·intro w' hSw
    go_simp <;> with_reducible rfl
   try simp only [Act.put,List.setIfInBounds_toArray,List.set_cons_zero,List.set_cons_succ]
   refine wpXt 1 rfl (v:=?_) (by kernel_rfl) (fun _ _ _ h => h) (by rfl) ?_ hHeld ?_
   rotate_left
   ·intro w' hSw
    go_simp <;> with_reducible rfl
   try simp only [Act.put,List.setIfInBounds_toArray,List.set_cons_zero,List.set_cons_succ]
   refine wpXt 3 rfl (v:=?_) (by kernel_rfl) (fun _ _ _ h => h) (by rfl) ?_ hHeld ?_
   rotate_left
   ·intro w' hSw
    go_simp <;> with_reducible rfl
   try simp only [Act.put,List.setIfInBounds_toArray,List.set_cons_zero,List.set_cons_succ]
   refine wpXt 4 rfl (v:=?_) (by kernel_rfl) (fun _ _ _ h => h) (by rfl) ?_ hHeld ?_
   rotate_left
   ·intro w' hSw
    go_simp <;> with_reducible rfl
   try simp only [Act.put,List.setIfInBounds_toArray,List.set_cons_zero,List.set_cons_succ]
   refine wpAnyX_both (i:=2) (k:=7) rfl rfl (by kernel_rfl) (fun K hK => ?_) (fun K hK => ?_)
   ·go_simp
    refine (HPC.out _ hb1.drew).mono ?_
    rintro e w2 ⟨vs,rfl,hPS,hb2⟩
    have hW2:Below W.heap.size W w2:=Below.trans hb1.drew (hb2.mono (hb1.drew).size)
    refine hK.out _ _ (HS.out _ hW2) (fun hHeld => ?_)
    clear hK K
    try simp only [Act.put,List.setIfInBounds_toArray,List.set_cons_zero,List.set_cons_succ]
    refine wpAnyX_both (i:=5) (k:=7) rfl rfl (by kernel_rfl) (fun K hK => ?_) (fun K hK => ?_)
    ·go_simp
     refine (HOC.out _ hW2).mono ?_
     rintro e w3 ⟨g,cap,rfl,hcap,hgX,hord,hb3⟩
     have hW3:Below W.heap.size W w3:=hW2.trans (hb3.mono hW2.size)
     refine hK.out _ _ (HS.out _ hW3) (fun hHeld => ?_)
     clear hK K
     try simp only [Act.put,List.setIfInBounds_toArray,List.set_cons_zero,List.set_cons_succ]
     refine wpXt 6 rfl (v:=?_) (by kernel_rfl) (fun _ _ _ h => h) (by rfl) ?_ hHeld ?_
     rotate_left
     ·intro w' hSw
      go_simp <;> with_reducible rfl
     try simp only [Act.put,List.setIfInBounds_toArray,List.set_cons_zero,List.set_cons_succ]
     refine wpXs 7 rfl (by kernel_rfl) (fun K hK => ?_)
     go_simp
     refine hK.out _ _ (HS.out _ (hW3.alloc hW3.size _)) (fun hHeld => ?_)
     clear hK K
     try simp only [Act.put,List.setIfInBounds_toArray,List.set_cons_zero,List.set_cons_succ]
     refine wpXs 8 rfl (by kernel_rfl) (fun K hK => ?_)
     go_simp
     refine hK.out _ _ (HS.out _ (hW3.alloc hW3.size _)) (fun hHeld => ?_)
     clear hK K
     try simp only [Act.put,List.setIfInBounds_toArray,List.set_cons_zero,List.set_cons_succ]
     refine wpAnyX_done (by kernel_rfl) ?_ _
     go_wp2
     go_meet
     exact begun_new HFI.out (hPS.below hb3) hord HPO.out hcap hW3 HL0.out (by have:=hW2.size; omega)
    ·go_simp
     have hWa:Below W.heap.size W (w2.alloc (.cells #[.slice none 0 0,.slice none 0 0,.slice none 0 0] 81)):=hW2.alloc hW2.size _
     refine hK.out _ _ (HS.out _ hWa) (fun hHeld => ?_)
     clear hK K
     try simp only [Act.put,List.setIfInBounds_toArray,List.set_cons_zero,List.set_cons_succ]
     refine wpXs 5 rfl (by kernel_rfl) (fun K hK => ?_)
     go_simp
     refine (HOC.out _ hWa).mono ?_
     rintro e w3 ⟨g,cap,rfl,hcap,hgX,hord,hb3⟩
     have hW3:Below W.heap.size W w3:=hWa.trans (hb3.mono hWa.size)
     refine hK.out _ _ (HS.out _ hW3) (fun hHeld => ?_)
     clear hK K
     try simp only [Act.put,List.setIfInBounds_toArray,List.set_cons_zero,List.set_cons_succ]
     refine wpXt 6 rfl (v:=?_) (by kernel_rfl) (fun _ _ _ h => h) (by rfl) ?_ hHeld ?_
     rotate_left
     ·intro w' hSw
      go_simp <;> with_reducible rfl
     try simp only [Act.put,List.setIfInBounds_toArray,List.set_cons_zero,List.set_cons_succ]
     have hrz:(w2.alloc (.cells #[.slice none 0 0,.slice none 0 0,.slice none 0 0] 81)).rowIs w2.heap.size 81 3 (fun _ => .slice none 0 0):=World.rowIs_alloc _ _ _ _ fun i hi => by
      simp at hi
      match i,hi with | 0,_ => rfl | 1,_ => rfl | 2,_ => rfl
     have hr3:=hrz.of_block (hb3.block _ hrz.lt)
     have c0:=hr3.cell (i:=0) (by omega)
     have c1:=hr3.cell (i:=1) (by omega)
     have c2:=hr3.cell (i:=2) (by omega)
     have z0:=hr3.frozen 0
     have z1:=hr3.frozen 1
     have z2:=hr3.frozen 2
     have hPa:=hPS.below ((Below.refl w2.heap.size w2).alloc (Nat.le_refl _) (.cells #[.slice none 0 0,.slice none 0 0,.slice none 0 0] 81))
     have hgX':w2.heap.size + 1 ≤ g:=by simpa using hgX
     have hRl:=hPS.row.lt
     have hBE:=begun_set HFI.out (hPa.below hb3) hord HPO.out hcap hW3 HL0.out (by have:=hW2.size; omega) hr3 hW2.size (by omega) (by omega) (fun i g hi hg => by have:=own_base (hPS.own i hi) hg; omega)
     have HBE:Hid (Begun _ _ _ _):=hBE
     have hX0:Below W.heap.size W (((w3.setCell ⟨w2.heap.size,0,none⟩ (.slice (some ⟨w1.heap.size,0,none⟩) f.blocks.length f.blocks.length)).setCell ⟨w2.heap.size,1,none⟩ (.slice (some ⟨g,0,none⟩) (orderM f.blocks).length cap)).setCell ⟨w2.heap.size,2,none⟩ (.slice none 0 0)):=((hW3.setCell hW2.size _).setCell hW2.size _).setCell hW2.size _
     clear hBE hr3 hrz hPa hgX'
     refine wpXs 8 rfl (by kernel_rfl) (fun K hK => ?_)
     go_simp
     refine hK.out _ _ (HS.out _ hX0) (fun hHeld => ?_)
     clear hK K
     try simp only [Act.put,List.setIfInBounds_toArray,List.set_cons_zero,List.set_cons_succ]
     refine wpAnyX_done (by kernel_rfl) ?_ _
     go_wp2
     go_meet
     exact HBE.out
   ·go_simp
    have hWa:Below W.heap.size W (w1.alloc (.cells #[.slice none 0 0,.slice none 0 0,.slice none 0 0] 81)).drew:=(hb1.alloc hb1.size _).drew
    refine hK.out _ _ (HS.out _ hWa) (fun hHeld => ?_)
    clear hK K
    try simp only [Act.put,List.setIfInBounds_toArray,List.set_cons_zero,List.set_cons_succ]
    refine wpXs 2 rfl (by kernel_rfl) (fun K hK => ?_)
    go_simp
    refine (HPC.out _ hWa).mono ?_
    rintro e w2 ⟨vs,rfl,hPS,hb2⟩
    have hW2:Below W.heap.size W w2:=Below.trans hWa (hb2.mono (hWa).size)
    refine hK.out _ _ (HS.out _ hW2) (fun hHeld => ?_)
    clear hK K
    try simp only [Act.put,List.setIfInBounds_toArray,List.set_cons_zero,List.set_cons_succ]
    refine wpXs 5 rfl (by kernel_rfl) (fun K hK => ?_)
    go_simp
    refine (HOC.out _ hW2).mono ?_
    rintro e w3 ⟨g,cap,rfl,hcap,hgX,hord,hb3⟩
    have hW3:Below W.heap.size W w3:=hW2.trans (hb3.mono hW2.size)
    refine hK.out _ _ (HS.out _ hW3) (fun hHeld => ?_)
    clear hK K
    try simp only [Act.put,List.setIfInBounds_toArray,List.set_cons_zero,List.set_cons_succ]
    refine wpXt 6 rfl (v:=?_) (by kernel_rfl) (fun _ _ _ h => h) (by rfl) ?_ hHeld ?_
    rotate_left
    ·intro w' hSw
     go_simp <;> with_reducible rfl
    try simp only [Act.put,List.setIfInBounds_toArray,List.set_cons_zero,List.set_cons_succ]
    have hrz:(w1.alloc (.cells #[.slice none 0 0,.slice none 0 0,.slice none 0 0] 81)).drew.rowIs w1.heap.size 81 3 (fun _ => .slice none 0 0):=World.rowIs_alloc _ _ _ _ fun i hi => by
     simp at hi
     match i,hi with | 0,_ => rfl | 1,_ => rfl | 2,_ => rfl
    have hr2:=hrz.of_block (hb2.block _ hrz.lt)
    have hr3:=hr2.of_block (hb3.block _ hr2.lt)
    have c0:=hr3.cell (i:=0) (by omega)
    have c1:=hr3.cell (i:=1) (by omega)
    have c2:=hr3.cell (i:=2) (by omega)
    have z0:=hr3.frozen 0
    have z1:=hr3.frozen 1
    have z2:=hr3.frozen 2
    have hPS':PSt w2 (w1.heap.size + 1) f.blocks.length vs (pairsM f.blocks):=by simpa using hPS
    have hRl:=hPS'.row.lt
    have hBE:=begun_set HFI.out (hPS'.below hb3) hord HPO.out hcap hW3 (by have:=HL0.out; omega) (by have:=hW2.size; omega) hr3 HL0.out (by omega) (by omega) (fun i g hi hg => by have:=own_base (hPS'.own i hi) hg; omega)
    have HBE:Hid (Begun _ _ _ _):=hBE
    have hX0:Below W.heap.size W (((w3.setCell ⟨w1.heap.size,0,none⟩ (.slice (some ⟨w1.heap.size + 1,0,none⟩) f.blocks.length f.blocks.length)).setCell ⟨w1.heap.size,1,none⟩ (.slice (some ⟨g,0,none⟩) (orderM f.blocks).length cap)).setCell ⟨w1.heap.size,2,none⟩ (.slice none 0 0)):=((hW3.setCell HL0.out _).setCell HL0.out _).setCell HL0.out _
    clear hBE hr3 hr2 hrz hPS'
    refine wpXs 8 rfl (by kernel_rfl) (fun K hK => ?_)
    go_simp
    refine hK.out _ _ (HS.out _ hX0) (fun hHeld => ?_)
    clear hK K
    try simp only [Act.put,List.setIfInBounds_toArray,List.set_cons_zero,List.set_cons_succ]
    refine wpAnyX_done (by kernel_rfl) ?_ _
    go_wp2
    go_meet
    exact HBE.out
  case rest =>
   obtain ⟨X,pa,g,cap,rfl,hrow,hWz,hXW,hgW,hkept,hocap⟩:=hcut
   clear s1 HPC HOC
   have hrf:=(HR.out _ hWz).1
   have x1:wc.cell? ⟨X,1,none⟩ = some (.slice (some ⟨g,0,none⟩) (orderM f.blocks).length cap):=hrow.cell (i:=1) (by omega)
   have f1:wc.cell? ⟨w.heap.size,1,none⟩ = some (.slice ab f.blocks.length cb):=hrf.cell (i:=1) (by omega)
   by_cases hsh:(orderM f.blocks).length < f.blocks.length
   ·have q2:((orderM f.blocks).length:Int) < (f.blocks.length:Int):=by omega
    have H:Hid (fe = 16):=by show _ = _; rw [HFE2.out,if_pos hsh]
    clear hrow hkept hsh hrf
    have R2:=(HR.out _ hWz).2.1
    have k0:=R2.cell (i:=0) (by omega)
    have k1:=R2.cell (i:=1) (by omega)
    have k2:=R2.cell (i:=2) (by omega)
    have y0:=R2.frozen 0
    have y1:=R2.frozen 1
    have y2:=R2.frozen 2
    have HBW:Hid (Below w.heap.size w wc):=(HR.out _ hWz).2.2
    have S0:(wc.setCell ⟨w.heap.size + 1 + 1,0,none⟩ (.slice none 0 0)).cell? ⟨w.heap.size + 1 + 1,0,none⟩ = some (.slice none 0 0):=(R2.set 0 (.slice none 0 0)).cell (i:=0) (by omega)
    have S1:((wc.setCell ⟨w.heap.size + 1 + 1,0,none⟩ (.slice none 0 0)).setCell ⟨w.heap.size + 1 + 1,1,none⟩ (.slice none 0 0)).cell? ⟨w.heap.size + 1 + 1,1,none⟩ = some (.slice none 0 0):=((R2.set 0 (.slice none 0 0)).set 1 (.slice none 0 0)).cell (i:=1) (by omega)
    have S2:(((wc.setCell ⟨w.heap.size + 1 + 1,0,none⟩ (.slice none 0 0)).setCell ⟨w.heap.size + 1 + 1,1,none⟩ (.slice none 0 0)).setCell ⟨w.heap.size + 1 + 1,2,none⟩ (.slice none 0 0)).cell? ⟨w.heap.size + 1 + 1,2,none⟩ = some (.slice none 0 0):=(((R2.set 0 (.slice none 0 0)).set 1 (.slice none 0 0)).set 2 (.slice none 0 0)).cell (i:=2) (by omega)
    clear R2
    go_wp2
    refine bodyPost_ret (v:=.tuple #[.agg #[.slice none 0 0,.slice none 0 0,.slice none 0 0],.int .i64 16]) (by simp [results,Try.results27,go_sem,S0,S1,S2]) rfl ⟨_,by rw [H.out],⟨none,none,none,0,0,0,0,0,0,rfl⟩,fun h => ?_,?_⟩
    ·rw [H.out] at h; simp at h
    ·exact ((HBW.out.setCell (by simp; try omega) _).setCell (by simp; try omega) _).setCell (by simp; try omega) _
   ·have q2:¬ ((orderM f.blocks).length:Int) < (f.blocks.length:Int):=by omega
    have hFE3:=HFE2.out
    rw [if_neg hsh] at hFE3
    have HFE3:Hid (fe = if manyL (predsL f.blocks) f.blocks = true then 11 else if madeL (spU f.blocks f.blocks.length) (idomF f K) f.blocks = true then 0 else 10):=hFE3
    have hGR:=HFI.out.gr (by omega)
    have hol:(orderM f.blocks).length = f.blocks.length:=hGR.1.olen
    have hpl:(predsL f.blocks).length = f.blocks.length:=by unfold predsL; simp
    have HGR:Hid (Gr f.blocks.length (predsL f.blocks) (orderM f.blocks)∧FixAt (predsL f.blocks) (orderM f.blocks) f.blocks.length K):=hGR
    obtain ⟨rm,hrm⟩:∃ rm,manyL (predsL f.blocks) f.blocks = rm:=⟨_,rfl⟩
    rw [hol] at hkept hocap
    have HKEPT:Hid (∀ w',KeptX W X wc w' → SlOf w' 1 (RRow w') (.slice (some ⟨pa,0,none⟩) f.blocks.length f.blocks.length) (predsL f.blocks)∧SlOf w' 1 RInt (.slice (some ⟨g,0,none⟩) f.blocks.length cap) (orderM f.blocks)):=hkept
    have hpsl:=(hkept wc fun _ _ _ _ => rfl).1
    have HC:=many_is f.blocks.length f.blocks (predsL f.blocks) ab (some ⟨pa,0,none⟩) cb f.blocks.length (.slice (some ⟨g,0,none⟩) (orderM f.blocks).length cap) (.slice none 0 0) rm hrm wc (HVB.out _ hWz).2 hpsl hpl HFI.out.rng
    have x0:wc.cell? ⟨X,0,none⟩ = some (.slice (some ⟨pa,0,none⟩) f.blocks.length f.blocks.length):=hrow.cell (i:=0) (by omega)
    have x2:wc.cell? ⟨X,2,none⟩ = some (.slice none 0 0):=hrow.cell (i:=2) (by omega)
    have HROW:Hid (wc.rowIs X 81 3 (fun i => if i = 0 then .slice (some ⟨pa,0,none⟩) f.blocks.length f.blocks.length else if i = 1 then .slice (some ⟨g,0,none⟩) f.blocks.length cap else .slice none 0 0)):=by rw [hol] at hrow; exact hrow
    have HOL:Hid ((orderM f.blocks).length = f.blocks.length):=hol
    rw [hrm] at HFE3
    clear hFE3 HFE2 hGR hol hpl hrow hkept hpsl hsh hrm hrf
    go_wp2_with fail
    refine HC.mono ?_
    clear HC x0 x1 x2 f1
    rintro e w4 ⟨rfl,hb4⟩
    have hW4:Below W.heap.size W w4:=hWz.trans (hb4.mono hWz.size)
    cases rm
    ·have HROW4:Hid (w4.rowIs X 81 3 (fun i => if i = 0 then .slice (some ⟨pa,0,none⟩) f.blocks.length f.blocks.length else if i = 1 then .slice (some ⟨g,0,none⟩) f.blocks.length cap else .slice none 0 0)):=HROW.out.of_block (hb4.block _ HROW.out.lt)
     have hk4:KeptX W X wc w4:=fun b _ _ h => hb4.block b h
     have hS4:=HKEPT.out w4 hk4
     have hzz:=hb4.size
     have hX4:X < w4.heap.size:=HROW4.out.lt
     obtain ⟨M,hM⟩:∃ M,w4.heap.size = M:=⟨_,rfl⟩
     have HMe:Hid (w4.heap.size = M):=hM
     have HC:=idoms_is f.blocks.length K M (predsL f.blocks) (orderM f.blocks) (some ⟨pa,0,none⟩) (some ⟨g,0,none⟩) f.blocks.length cap (.slice none 0 0) w4 hM hS4.1 hS4.2 hocap HGR.out.1 HGR.out.2 lb
     have x0:w4.cell? ⟨X,0,none⟩ = some (.slice (some ⟨pa,0,none⟩) f.blocks.length f.blocks.length):=HROW4.out.cell (i:=0) (by omega)
     have x1:w4.cell? ⟨X,1,none⟩ = some (.slice (some ⟨g,0,none⟩) f.blocks.length cap):=HROW4.out.cell (i:=1) (by omega)
     have x2:w4.cell? ⟨X,2,none⟩ = some (.slice none 0 0):=HROW4.out.cell (i:=2) (by omega)
     have hXM:X < M:=by omega
     clear HROW hb4 hM hS4
     go_wp2_with fail
     refine HC.mono ?_
     clear HC x0 x1 x2
     rintro e w5 ⟨rfl,hrow5,hb5⟩
     have hW5:Below W.heap.size W w5:=hW4.trans (hb5.mono hW4.size)
     have HR5:Hid (w5.rowIs X 81 3 (fun i => if i = 0 then .slice (some ⟨pa,0,none⟩) f.blocks.length f.blocks.length else if i = 1 then .slice (some ⟨g,0,none⟩) f.blocks.length cap else .slice none 0 0)):=HROW4.out.of_block (hb5.block _ HROW4.out.lt)
     have y2:w5.cell? ⟨X,2,none⟩ = some (.slice none 0 0):=HR5.out.cell (i:=2) (by omega)
     have yz:=HR5.out.frozen 2
     have hMb:M ≤ w5.heap.size:=by rw [← HMe.out]; exact hb5.size
     obtain ⟨w6,hw6⟩:∃ w6,w6 = w5.setCell ⟨X,2,none⟩ (.slice (some ⟨M + 1 + 1 + 1,0,none⟩) f.blocks.length f.blocks.length):=⟨_,rfl⟩
     have hz6:w6.heap.size = w5.heap.size:=by rw [hw6]; simp
     have hR6:w6.rowIs X 81 3 (fun i => if i = 0 then .slice (some ⟨pa,0,none⟩) f.blocks.length f.blocks.length else if i = 1 then .slice (some ⟨g,0,none⟩) f.blocks.length cap else .slice (some ⟨M + 1 + 1 + 1,0,none⟩) f.blocks.length f.blocks.length):=by
      rw [hw6]
      refine (HR5.out.set 2 _).congr fun i hi => ?_
      match i,hi with | 0,_ => rfl | 1,_ => rfl | 2,_ => rfl
     have hk6:KeptX W X wc w6:=fun b h1 h2 h3 => by
      rw [hw6,Below.heap_setCell _ _ _ _ h2]
      exact (hb5.block b (by omega)).trans (hk4 b h1 h2 h3)
     have hW6:Below W.heap.size W w6:=by rw [hw6]; exact hW5.setCell hXW _
     have hrow6:w6.rowIs (M + 1 + 1 + 1) 3 f.blocks.length (fun i => .int .i64 (idomF f K i)):=by rw [hw6]; exact hrow5.setOther (by simp; omega) _
     have hdom:DomOk f.blocks.length (rankM (orderM f.blocks)) (idomF f K):=rounds_domOk HGR.out.1 HGR.out.2
     have hsl6:=row_sl hrow6 lb
     obtain ⟨rm,hrm⟩:∃ rm,madeL (spU f.blocks f.blocks.length) (idomF f K) f.blocks = rm:=⟨_,rfl⟩
     have HC:=made_is f.blocks.length _ _ f.values f.blocks av ab (some ⟨pa,0,none⟩) (some ⟨g,0,none⟩) (some ⟨M + 1 + 1 + 1,0,none⟩) cv cb f.blocks.length f.blocks.length f.blocks.length cap f.blocks.length rm w6 hrm rfl (HVB.out _ hW6).1 (HVB.out _ hW6).2 HFI.out.nv lb HFI.out.defs HFI.out.uses hsl6 hdom
     have HFE4:Hid (fe = if rm = true then 0 else 10):=by
      show _ = _
      rw [HFE3.out,if_neg (by simp),hrm]
     have x0:w6.cell? ⟨X,0,none⟩ = some (.slice (some ⟨pa,0,none⟩) f.blocks.length f.blocks.length):=hR6.cell (i:=0) (by omega)
     have x1:w6.cell? ⟨X,1,none⟩ = some (.slice (some ⟨g,0,none⟩) f.blocks.length cap):=hR6.cell (i:=1) (by omega)
     have x2:w6.cell? ⟨X,2,none⟩ = some (.slice (some ⟨M + 1 + 1 + 1,0,none⟩) f.blocks.length f.blocks.length):=hR6.cell (i:=2) (by omega)
     have f0:w6.cell? ⟨w.heap.size,0,none⟩ = some (.slice av f.values.length cv):=(HR.out _ hW6).1.cell (i:=0) (by omega)
     have f1:w6.cell? ⟨w.heap.size,1,none⟩ = some (.slice ab f.blocks.length cb):=(HR.out _ hW6).1.cell (i:=1) (by omega)
     have HW6:Hid (w6 = w5.setCell ⟨X,2,none⟩ (.slice (some ⟨M + 1 + 1 + 1,0,none⟩) f.blocks.length f.blocks.length)):=hw6
     have H6:Hid (w6.rowIs X 81 3 (fun i => if i = 0 then .slice (some ⟨pa,0,none⟩) f.blocks.length f.blocks.length else if i = 1 then .slice (some ⟨g,0,none⟩) f.blocks.length cap else .slice (some ⟨M + 1 + 1 + 1,0,none⟩) f.blocks.length f.blocks.length)∧KeptX W X wc w6∧w6.rowIs (M + 1 + 1 + 1) 3 f.blocks.length (fun i => .int .i64 (idomF f K i))):=⟨hR6,hk6,hrow6⟩
     have hzw6:wc.heap.size ≤ w6.heap.size:=by have:=HMe.out; omega
     clear hR6 hk6 hrow6 hsl6 hdom hw6 hz6 hrow5 HR5 hk4 hrm hb5 HFE3 HROW4
     go_upto_region 10 with fail
     rw [← HW6.out]
     clear y2 yz HW6
     go_wp2_with fail
     refine HC.mono ?_
     clear HC x0 x1 x2 f0 f1
     rintro e w7 ⟨rfl,hb7⟩
     have hW7:Below W.heap.size W w7:=hW6.trans (hb7.mono hW6.size)
     cases rm
     ·have H:Hid (fe = 10):=by show _ = _; rw [HFE4.out]; rfl
      clear HFE4 H6
      have R2:=(HR.out _ hW7).2.1
      have k0:=R2.cell (i:=0) (by omega)
      have k1:=R2.cell (i:=1) (by omega)
      have k2:=R2.cell (i:=2) (by omega)
      have y0:=R2.frozen 0
      have y1:=R2.frozen 1
      have y2:=R2.frozen 2
      have HBW:Hid (Below w.heap.size w w7):=(HR.out _ hW7).2.2
      have S0:(w7.setCell ⟨w.heap.size + 1 + 1,0,none⟩ (.slice none 0 0)).cell? ⟨w.heap.size + 1 + 1,0,none⟩ = some (.slice none 0 0):=(R2.set 0 (.slice none 0 0)).cell (i:=0) (by omega)
      have S1:((w7.setCell ⟨w.heap.size + 1 + 1,0,none⟩ (.slice none 0 0)).setCell ⟨w.heap.size + 1 + 1,1,none⟩ (.slice none 0 0)).cell? ⟨w.heap.size + 1 + 1,1,none⟩ = some (.slice none 0 0):=((R2.set 0 (.slice none 0 0)).set 1 (.slice none 0 0)).cell (i:=1) (by omega)
      have S2:(((w7.setCell ⟨w.heap.size + 1 + 1,0,none⟩ (.slice none 0 0)).setCell ⟨w.heap.size + 1 + 1,1,none⟩ (.slice none 0 0)).setCell ⟨w.heap.size + 1 + 1,2,none⟩ (.slice none 0 0)).cell? ⟨w.heap.size + 1 + 1,2,none⟩ = some (.slice none 0 0):=(((R2.set 0 (.slice none 0 0)).set 1 (.slice none 0 0)).set 2 (.slice none 0 0)).cell (i:=2) (by omega)
      clear R2
      go_wp2
      refine bodyPost_ret (v:=.tuple #[.agg #[.slice none 0 0,.slice none 0 0,.slice none 0 0],.int .i64 10]) (by simp [results,Try.results27,go_sem,S0,S1,S2]) rfl ⟨_,by rw [H.out],⟨none,none,none,0,0,0,0,0,0,rfl⟩,fun h => ?_,?_⟩
      ·rw [H.out] at h; simp at h
      ·exact ((HBW.out.setCell (by simp; try omega) _).setCell (by simp; try omega) _).setCell (by simp; try omega) _
     ·have H:Hid (fe = 0):=by show _ = _; rw [HFE4.out]; rfl
      have R7:=H6.out.1.of_block (hb7.block _ H6.out.1.lt)
      have x0:w7.cell? ⟨X,0,none⟩ = some (.slice (some ⟨pa,0,none⟩) f.blocks.length f.blocks.length):=R7.cell (i:=0) (by omega)
      have x1:w7.cell? ⟨X,1,none⟩ = some (.slice (some ⟨g,0,none⟩) f.blocks.length cap):=R7.cell (i:=1) (by omega)
      have x2:w7.cell? ⟨X,2,none⟩ = some (.slice (some ⟨M + 1 + 1 + 1,0,none⟩) f.blocks.length f.blocks.length):=R7.cell (i:=2) (by omega)
      have R2:=(HR.out _ hW7).2.1
      have k0:=R2.cell (i:=0) (by omega)
      have k1:=R2.cell (i:=1) (by omega)
      have k2:=R2.cell (i:=2) (by omega)
      have y0:=R2.frozen 0
      have y1:=R2.frozen 1
      have y2:=R2.frozen 2
      have S0:=(R2.set 0 (.slice (some ⟨pa,0,none⟩) f.blocks.length f.blocks.length)).cell (i:=0) (by omega)
      have S1:=((R2.set 0 (.slice (some ⟨pa,0,none⟩) f.blocks.length f.blocks.length)).set 1 (.slice (some ⟨g,0,none⟩) f.blocks.length cap)).cell (i:=1) (by omega)
      have S2:=(((R2.set 0 (.slice (some ⟨pa,0,none⟩) f.blocks.length f.blocks.length)).set 1 (.slice (some ⟨g,0,none⟩) f.blocks.length cap)).set 2 (.slice (some ⟨M + 1 + 1 + 1,0,none⟩) f.blocks.length f.blocks.length)).cell (i:=2) (by omega)
      simp only [if_true] at S0 S1 S2
      have HBW:Hid (Below w.heap.size w w7):=(HR.out _ hW7).2.2
      obtain ⟨w8,hw8⟩:∃ w8,w8 = ((w7.setCell ⟨w.heap.size + 1 + 1,0,none⟩ (.slice (some ⟨pa,0,none⟩) f.blocks.length f.blocks.length)).setCell ⟨w.heap.size + 1 + 1,1,none⟩ (.slice (some ⟨g,0,none⟩) f.blocks.length cap)).setCell ⟨w.heap.size + 1 + 1,2,none⟩ (.slice (some ⟨M + 1 + 1 + 1,0,none⟩) f.blocks.length f.blocks.length):=⟨_,rfl⟩
      have hzW:=HZ.out
      have hk8:∀ b,b ≠ w.heap.size + 1 + 1 → w8.heap[b]? = w7.heap[b]?:=fun b hb => by
       rw [hw8,Below.heap_setCell _ _ _ _ hb,Below.heap_setCell _ _ _ _ hb,Below.heap_setCell _ _ _ _ hb]
      have hGA:GraphAt f K w.heap.size w8 (.agg #[.slice (some ⟨pa,0,none⟩) f.blocks.length f.blocks.length,.slice (some ⟨g,0,none⟩) f.blocks.length cap,.slice (some ⟨M + 1 + 1 + 1,0,none⟩) f.blocks.length f.blocks.length]):=by
       have hs8:=HKEPT.out w8 fun b h1 h2 h3 => (hk8 b (by omega)).trans ((hb7.block b (by omega)).trans (H6.out.2.1 b h1 h2 h3))
       have hr7:=H6.out.2.2.of_block (hb7.block _ H6.out.2.2.lt)
       exact ⟨_,_,_,_,rfl,by omega,by omega,hs8.1,hs8.2,row_sl (hr7.of_block (hk8 _ (by omega))) lb⟩
      have HGA:Hid (GraphAt f K w.heap.size w8 (.agg #[.slice (some ⟨pa,0,none⟩) f.blocks.length f.blocks.length,.slice (some ⟨g,0,none⟩) f.blocks.length cap,.slice (some ⟨M + 1 + 1 + 1,0,none⟩) f.blocks.length f.blocks.length])):=hGA
      rw [hw8] at HGA
      clear hGA hk8 hw8 R2 R7 H6 HKEPT HFE4 hzW
      go_wp2
      refine bodyPost_ret (v:=.tuple #[.agg #[.slice (some ⟨pa,0,none⟩) f.blocks.length f.blocks.length,.slice (some ⟨g,0,none⟩) f.blocks.length cap,.slice (some ⟨M + 1 + 1 + 1,0,none⟩) f.blocks.length f.blocks.length],.int .i64 0]) (by simp [results,Try.results27,go_sem,S0,S1,S2]) rfl ⟨_,by rw [H.out],⟨_,_,_,_,_,_,_,_,_,rfl⟩,fun _ => HGA.out,?_⟩
      exact ((HBW.out.setCell (by simp; try omega) _).setCell (by simp; try omega) _).setCell (by simp; try omega) _
    ·have H:Hid (fe = 11):=by show _ = _; rw [HFE3.out]; rfl
     clear HROW HKEPT HFE3
     have R2:=(HR.out _ hW4).2.1
     have k0:=R2.cell (i:=0) (by omega)
     have k1:=R2.cell (i:=1) (by omega)
     have k2:=R2.cell (i:=2) (by omega)
     have y0:=R2.frozen 0
     have y1:=R2.frozen 1
     have y2:=R2.frozen 2
     have HBW:Hid (Below w.heap.size w w4):=(HR.out _ hW4).2.2
     have S0:(w4.setCell ⟨w.heap.size + 1 + 1,0,none⟩ (.slice none 0 0)).cell? ⟨w.heap.size + 1 + 1,0,none⟩ = some (.slice none 0 0):=(R2.set 0 (.slice none 0 0)).cell (i:=0) (by omega)
     have S1:((w4.setCell ⟨w.heap.size + 1 + 1,0,none⟩ (.slice none 0 0)).setCell ⟨w.heap.size + 1 + 1,1,none⟩ (.slice none 0 0)).cell? ⟨w.heap.size + 1 + 1,1,none⟩ = some (.slice none 0 0):=((R2.set 0 (.slice none 0 0)).set 1 (.slice none 0 0)).cell (i:=1) (by omega)
     have S2:(((w4.setCell ⟨w.heap.size + 1 + 1,0,none⟩ (.slice none 0 0)).setCell ⟨w.heap.size + 1 + 1,1,none⟩ (.slice none 0 0)).setCell ⟨w.heap.size + 1 + 1,2,none⟩ (.slice none 0 0)).cell? ⟨w.heap.size + 1 + 1,2,none⟩ = some (.slice none 0 0):=(((R2.set 0 (.slice none 0 0)).set 1 (.slice none 0 0)).set 2 (.slice none 0 0)).cell (i:=2) (by omega)
     clear R2
     go_wp2
     refine bodyPost_ret (v:=.tuple #[.agg #[.slice none 0 0,.slice none 0 0,.slice none 0 0],.int .i64 11]) (by simp [results,Try.results27,go_sem,S0,S1,S2]) rfl ⟨_,by rw [H.out],⟨none,none,none,0,0,0,0,0,0,rfl⟩,fun h => ?_,?_⟩
     ·rw [H.out] at h; simp at h
     ·exact ((HBW.out.setCell (by simp; try omega) _).setCell (by simp; try omega) _).setCell (by simp; try omega) _
 ·have q1:(e0 != 0) = true:=by simp [hne]
  have H:Hid (fe = e0):=by show _ = _; rw [HFE.out,if_pos hne]
  have Hne:Hid (e0 ≠ 0):=hne
  clear hne HFE
  have R2:=(HR.out _ hb1).2.1
  have k0:=R2.cell (i:=0) (by omega)
  have k1:=R2.cell (i:=1) (by omega)
  have k2:=R2.cell (i:=2) (by omega)
  have y0:=R2.frozen 0
  have y1:=R2.frozen 1
  have y2:=R2.frozen 2
  have HBW:Hid (Below w.heap.size w w1):=(HR.out _ hb1).2.2
  have S0:(w1.setCell ⟨w.heap.size + 1 + 1,0,none⟩ (.slice none 0 0)).cell? ⟨w.heap.size + 1 + 1,0,none⟩ = some (.slice none 0 0):=(R2.set 0 (.slice none 0 0)).cell (i:=0) (by omega)
  have S1:((w1.setCell ⟨w.heap.size + 1 + 1,0,none⟩ (.slice none 0 0)).setCell ⟨w.heap.size + 1 + 1,1,none⟩ (.slice none 0 0)).cell? ⟨w.heap.size + 1 + 1,1,none⟩ = some (.slice none 0 0):=((R2.set 0 (.slice none 0 0)).set 1 (.slice none 0 0)).cell (i:=1) (by omega)
  have S2:(((w1.setCell ⟨w.heap.size + 1 + 1,0,none⟩ (.slice none 0 0)).setCell ⟨w.heap.size + 1 + 1,1,none⟩ (.slice none 0 0)).setCell ⟨w.heap.size + 1 + 1,2,none⟩ (.slice none 0 0)).cell? ⟨w.heap.size + 1 + 1,2,none⟩ = some (.slice none 0 0):=(((R2.set 0 (.slice none 0 0)).set 1 (.slice none 0 0)).set 2 (.slice none 0 0)).cell (i:=2) (by omega)
  clear R2
  go_wp2
  refine bodyPost_ret (v:=.tuple #[.agg #[.slice none 0 0,.slice none 0 0,.slice none 0 0],.int .i64 e0]) (by simp [results,Try.results27,go_sem,S0,S1,S2]) rfl ⟨_,by rw [H.out],⟨none,none,none,0,0,0,0,0,0,rfl⟩,fun h => ?_,?_⟩
  ·rw [H.out] at h; exact absurd h Hne.out
  ·exact ((HBW.out.setCell (by simp; try omega) _).setCell (by simp; try omega) _).setCell (by simp; try omega) _
end Go.Proofs.Ytglfpnnfcpnmoaa
