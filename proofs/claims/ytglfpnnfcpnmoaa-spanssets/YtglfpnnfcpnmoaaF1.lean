/-
  The blocks' graph in plain terms: who leads to whom, the order, the dominators, the loops (P2). No Go in here.
-/
import Derived.Test.YtglfpnnfcpnmoaaA4
import Derived.Shelf.RegionOpenPlain
import Derived.Deep.OwnRows
import Derived.Deep.LoopGhost
namespace Go.Proofs.Ytglfpnnfcpnmoaa
open Go.RowKit
set_option linter.unusedVariables false
def succM (bs:List Blk) (b:Nat):List Nat:=(bs.getD b ⟨[],[],[]⟩).edges.map fun e => e.block.toNat
def pairsUpto (bs:List Blk) (k:Nat):List (Nat × Nat):=(List.range k).flatMap fun b => (succM bs b).map fun t => (b,t)
def pairsM (bs:List Blk):List (Nat × Nat):=pairsUpto bs bs.length
def intoM (L:List (Nat × Nat)) (t:Nat):List Int:=(L.filter fun p => p.2 == t).map fun p => (p.1:Int)
def predM (bs:List Blk) (t:Nat):List Int:=intoM (pairsM bs) t
def upB (f:Nat → Bool) (i:Nat) (v:Bool):Nat → Bool:=fun j => if j = i then v else f j
def upI (f:Nat → Int) (i:Nat) (v:Int):Nat → Int:=fun j => if j = i then v else f j
def visitM (sc:Nat → List Nat):Nat → Nat → (Nat → Bool) × List Int → (Nat → Bool) × List Int
 | 0,_,s => s
 | k + 1,b,s =>
  let r:=(sc b).foldl (fun s t => if s.1 t then s else visitM sc k t s) (upB s.1 b true,s.2)
  (r.1,r.2 ++ [(b:Int)])
def postM (bs:List Blk):List Int:=(visitM (succM bs) bs.length 0 (fun _ => false,[])).2
def orderM (bs:List Blk):List Int:=(postM bs).reverse
def manyM (bs:List Blk):Bool:=bs.any fun b => decide (2 ≤ b.edges.length) && b.edges.any fun e => decide (1 < (predM bs e.block.toNat).length)
def meetM (rank idom:Nat → Int):Nat → Int → Int → Int
 | 0,a,_ => a
 | k + 1,a,b => if a = b then a else if rank a.toNat > rank b.toNat then meetM rank idom k (idom a.toNat) b else meetM rank idom k a (idom b.toNat)
def nearStep (root:Int) (rank idom:Nat → Int) (n:Nat) (next:Int) (p:Int):Int :=
 if p ≠ root∧idom p.toNat = -1 then next else if next = -1 then p else meetM rank idom (2 * n) next p
def nearM (root:Int) (rank idom:Nat → Int) (n:Nat) (preds:List Int):Int:=preds.foldl (nearStep root rank idom n) (-1)
def roundM (pred:Nat → List Int) (root:Int) (rank:Nat → Int) (n:Nat) (bs:List Int) (idom:Nat → Int):Nat → Int :=
 bs.foldl (fun idom b => upI idom b.toNat (nearM root rank idom n (pred b.toNat))) idom
def rankM (order:List Int) (b:Nat):Int:=((order.idxOf (b:Int):Nat):Int)
def roundsM (pred:Nat → List Int) (order:List Int) (n:Nat):Nat → Nat → Int
 | 0 => fun _ => -1
 | k + 1 => roundM pred (order.getD 0 0) (rankM order) n order.tail (roundsM pred order n k)
def idomM (bs:List Blk) (k:Nat):Nat → Int:=roundsM (predM bs) (orderM bs) bs.length k
def domM (idom:Nat → Int):Nat → Int → Int → Bool
 | 0,a,b => decide (b = a)
 | k + 1,a,b => if b = -1 ∨ b = a then decide (b = a) else domM idom k a (idom b.toNat)
def spotsBlk (b:Nat) (x:Blk):List (Int × (Int × Int)):=x.params.map (fun v => (v,((b:Int),-1))) ++ x.instrs.zipIdx.flatMap fun p => (oprM p.1.operands).map fun v => (v,((b:Int),(p.2:Int)))
def spotsM (bs:List Blk):List (Int × (Int × Int)):=bs.zipIdx.flatMap fun p => spotsBlk p.2 p.1
def spotOf (L:List (Int × (Int × Int))) (v:Nat):Int × Int:=L.foldl (fun s p => if p.1 = (v:Int) then p.2 else s) (0,0)
def aheadM (idom:Nat → Int) (n:Nat) (made used:Int × Int):Bool:=if made.1 = used.1 then decide (made.2 < used.2) else domM idom (n + 1) made.1 used.1
def usesBlk (b:Nat) (x:Blk):List (Int × (Int × Int)):=(x.instrs.zipIdx.flatMap fun p => (p.1.operands.filter fun o => o.kind == 1).map fun o => (o.value,((b:Int),(p.2:Int)))) ++ x.edges.flatMap fun e => e.args.map fun v => (v,((b:Int),(x.instrs.length:Int)))
def usesAll (bs:List Blk):List (Int × (Int × Int)):=bs.zipIdx.flatMap fun p => usesBlk p.2 p.1
def madeM (bs:List Blk) (idom:Nat → Int):Bool:=(usesAll bs).all fun p => aheadM idom bs.length (spotOf (spotsM bs) p.1.toNat) p.2
def enterM (pred:Nat → List Int):Nat → Nat → (Nat → Bool) → Nat → Bool
 | 0,_,s => s
 | k + 1,b,s => if s b then s else (pred b).foldl (fun s p => enterM pred k p.toNat s) (upB s b true)
def loopM (pred:Nat → List Int) (idom:Nat → Int) (n:Nat) (head:Nat):Nat → Bool :=
 (pred head).foldl (fun s p => if domM idom (n + 1) head p then enterM pred (n + 1) p.toNat (upB s head true) else s) fun _ => false
def depthM (pred:Nat → List Int) (idom:Nat → Int) (n:Nat) (b:Nat):Int:=((List.range n).countP fun h => loopM pred idom n h b:Nat)
def flowErr (f:Fn) (m0 m1:Int) (k:Nat):Int :=
 if shapeErr f m0 m1 ≠ 0 then shapeErr f m0 m1
 else if (orderM f.blocks).length < f.blocks.length then 16
 else if manyM f.blocks then 11
 else if madeM f.blocks (idomM f.blocks k) then 0 else 10
structure TSt (w:World) (Pr Pi Rr Ri n:Nat) (rank idom:Nat → Int):Prop where
 pr:w.rowIs Pr 27 1 (fun _ => .slice (some ⟨Rr,0,none⟩) n n)
 pi:w.rowIs Pi 27 1 (fun _ => .slice (some ⟨Ri,0,none⟩) n n)
 rr:w.rowIs Rr 3 n (fun i => .int .i64 (rank i))
 ri:w.rowIs Ri 3 n (fun i => .int .i64 (idom i))
theorem TSt.below {w w':World} {Pr Pi Rr Ri n:Nat} {rank idom:Nat → Int} (h:TSt w Pr Pi Rr Ri n rank idom) (hb:Below w.heap.size w w'):TSt w' Pr Pi Rr Ri n rank idom :=
 ⟨h.pr.of_block (hb.block _ h.pr.lt),h.pi.of_block (hb.block _ h.pi.lt),h.rr.of_block (hb.block _ h.rr.lt),h.ri.of_block (hb.block _ h.ri.lt)⟩
def Kn (n:Nat) (root:Int) (idom:Nat → Int) (a:Int):Prop:=0 ≤ a∧a < n∧(a = root ∨ idom a.toNat ≠ -1)
structure KT (n:Nat) (root:Int) (rank idom:Nat → Int):Prop where
 up:∀ a,Kn n root idom a → a ≠ root → Kn n root idom (idom a.toNat)∧rank (idom a.toNat).toNat < rank a.toNat
 inj:∀ a b:Int,0 ≤ a → a < n → 0 ≤ b → b < n → rank a.toNat = rank b.toNat → a = b
 rt:0 ≤ root∧root < n
 low:∀ a:Int,0 ≤ a → a < n → rank root.toNat ≤ rank a.toNat
 rng:∀ a:Int,0 ≤ a → a < n → 0 ≤ rank a.toNat∧rank a.toNat < n
theorem row_at {w:World} {R t n:Nat} {f:Nat → Int} (h:w.rowIs R t n (fun i => .int .i64 (f i))) {a:Int} (h0:0 ≤ a) (h1:a < n):w.cell? ⟨R,a.toNat,none⟩ = some (.int .i64 (f a.toNat)):=h.cell (i:=a.toNat) (by omega)
set_option maxHeartbeats 2000000 in
theorem meetUp_any (Pr Pi Rr Ri n:Nat) (root:Int) (rank idom:Nat → Int) (a0 b0:Int) (w:World) (ht:TSt w Pr Pi Rr Ri n rank idom) (hk:KT n root rank idom) (ha:Kn n root idom a0) (hb:Kn n root idom b0) (hn:n ≤ 1000) :
  Calls Try.prog 50 #[.int .i64 a0,.int .i64 b0,.pointer (some ⟨Pr,0,none⟩),.pointer (some ⟨Pi,0,none⟩)] w fun e w' => e = .returned (.int .i64 (meetM rank idom (2 * n) a0 b0))∧Below w.heap.size w w':=by
 have HT:Hid (TSt w Pr Pi Rr Ri n rank idom):=ht
 have HK:Hid (KT n root rank idom):=hk
 have HA:Hid (Kn n root idom a0∧Kn n root idom b0):=⟨ha,hb⟩
 clear ht hk ha hb
 generalize hres:meetM rank idom (2 * n) a0 b0 = res
 have HR:Hid (meetM rank idom (2 * n) a0 b0 = res):=hres
 clear hres
 go_enter Try.func50,Try.ntmps50
 go_wp2
 go_loopw [0,1] (fun x y wr => ∃ (a b:Int) (k:Nat),x = .int .i64 a∧y = .int .i64 b∧Below w.heap.size w wr∧Hid (Kn n root idom a∧Kn n root idom b∧rank a.toNat + rank b.toNat < k∧meetM rank idom k a b = res)) (fun x y _ => (rank (intOf x).toNat).toNat + (rank (intOf y).toNat).toNat)
 case atStart =>
  refine ⟨a0,b0,2 * n,rfl,rfl,Below.refl _ _,HA.out.1,HA.out.2,?_,HR.out⟩
  have:=HK.out.rng _ HA.out.1.1 HA.out.1.2.1
  have:=HK.out.rng _ HA.out.2.1 HA.out.2.2.1
  omega
 case round =>
  obtain ⟨a,b,k,rfl,rfl,hbr,HI⟩:=hrel
  have hT:=HT.out.below hbr
  have hra:=HK.out.rng _ HI.out.1.1 HI.out.1.2.1
  have hrb:=HK.out.rng _ HI.out.2.1.1 HI.out.2.1.2.1
  obtain ⟨k,rfl⟩:∃ k',k = k' + 1:=⟨k - 1,by have:=HI.out.2.2.1; omega⟩
  have c1:=hT.pr.cell (i:=0) (by omega)
  have c2:=hT.pi.cell (i:=0) (by omega)
  have ia0:=HI.out.1.1
  have ia1:=HI.out.1.2.1
  have ib0:=HI.out.2.1.1
  have ib1:=HI.out.2.1.2.1
  have c3:=row_at hT.rr ia0 ia1
  have c4:=row_at hT.rr ib0 ib1
  have c5:=row_at hT.ri ia0 ia1
  have c6:=row_at hT.ri ib0 ib1
  clear hT
  by_cases hab:a = b
  ·have hne:(a != b) = false:=by simp [hab]
   have H:Hid (a = res):=by show _ = _; rw [← HI.out.2.2.2]; simp [meetM,hab]
   clear hab HI
   go_wp2
   go_ret
   exact ⟨ret_int H.out,hbr⟩
  ·have hne:(a != b) = true:=by simp [hab]
   by_cases hgt:rank a.toNat > rank b.toNat
   ·have hgt':(decide (rank b.toNat < rank a.toNat)) = true:=by simp; omega
    have har:a ≠ root:=by
     intro e
     have:=HK.out.low b ib0 ib1
     rw [← e] at this
     omega
    have hup:=HK.out.up a HI.out.1 har
    have HN:Hid (Kn n root idom (idom a.toNat)∧Kn n root idom b∧rank (idom a.toNat).toNat + rank b.toNat < k∧meetM rank idom k (idom a.toNat) b = res):=by
     refine ⟨hup.1,HI.out.2.1,by have:=HI.out.2.2.1; have:=hup.2; omega,?_⟩
     rw [← HI.out.2.2.2]
     simp only [meetM]
     rw [if_neg hab,if_pos hgt]
    have HM:Hid ((rank (idom a.toNat).toNat).toNat < (rank a.toNat).toNat):=by
     show _ < _
     have h1:=hup.2
     omega
    clear hab hup har
    go_wp2_with fail
    go_quiet (fail)
    go_wp2
    go_roundw
    case rel => exact ⟨_,_,k,rfl,rfl,below_drewN hbr _,HN⟩
    case measure => have:=HM.out; simp [intOf]; omega
   ·have hgt':(decide (rank b.toNat < rank a.toNat)) = false:=by simp; omega
    have hbr':b ≠ root:=by
     intro e
     have h1:=HK.out.low a ia0 ia1
     rw [← e] at h1
     exact hab (HK.out.inj a b ia0 ia1 ib0 ib1 (by omega))
    have hup:=HK.out.up b HI.out.2.1 hbr'
    have HN:Hid (Kn n root idom a∧Kn n root idom (idom b.toNat)∧rank a.toNat + rank (idom b.toNat).toNat < k∧meetM rank idom k a (idom b.toNat) = res):=by
     refine ⟨HI.out.1,hup.1,by have:=HI.out.2.2.1; have:=hup.2; omega,?_⟩
     rw [← HI.out.2.2.2]
     simp only [meetM]
     rw [if_neg hab,if_neg hgt]
    have HM:Hid ((rank (idom b.toNat).toNat).toNat < (rank b.toNat).toNat):=by
     show _ < _
     have h1:=hup.2
     have h2:=HK.out.rng _ hup.1.1 hup.1.2.1
     omega
    clear hab hup hbr'
    go_wp2_with fail
    go_quiet (fail)
    go_wp2
    go_roundw
    case rel => exact ⟨_,_,k,rfl,rfl,below_drewN hbr _,HN⟩
    case measure => have:=HM.out; simp [intOf]; omega
structure DomOk (n:Nat) (rank idom:Nat → Int):Prop where
 up:∀ a:Int,0 ≤ a → a < n → idom a.toNat = -1 ∨ (0 ≤ idom a.toNat∧idom a.toNat < n∧rank (idom a.toNat).toNat < rank a.toNat)
 rng:∀ a:Int,0 ≤ a → a < n → 0 ≤ rank a.toNat∧rank a.toNat < n
theorem ints_at {w:World} {a:Option Addr} {n cap:Nat} {l:List Int} (h:SlOf w 1 RInt (.slice a n cap) l) (i:Int) (h0:0 ≤ i) (h1:i < l.length):∃ b off,a = some ⟨b,off,none⟩∧b < w.heap.size∧w.cell? ⟨b,off + i.toNat,none⟩ = some (.int .i64 (l.getD i.toNat 0)):=by
 obtain ⟨b,off,cs,rfl,hl,hR,hc⟩:=h.at i.toNat (by omega)
 unfold RInt at hR
 subst hR
 have hc0:=hc 0 (by simp)
 simp only [Nat.mul_one,Nat.add_zero,List.getElem_cons_zero] at hc0
 refine ⟨b,off,rfl,block_lt hc0,?_⟩
 rw [hc0,List.getD_eq_getElem?_getD,List.getElem?_eq_getElem (by omega)]
 rfl
def fnL (n:Nat) (f:Nat → Int):List Int:=(List.range n).map f
theorem fnL_length (n:Nat) (f:Nat → Int):(fnL n f).length = n:=by simp [fnL]
theorem fnL_getD (n:Nat) (f:Nat → Int) (i:Nat) (h:i < n):(fnL n f).getD i 0 = f i:=by simp [fnL,List.getD,h]
def upZ (rank:Nat → Int) (b:Int):Nat:=if b = -1 then 0 else (rank b.toNat).toNat + 1
set_option maxHeartbeats 2000000 in
theorem dominates_any (n:Nat) (rank idom:Nat → Int) (vp vo:Value) (ad:Option Addr) (cd:Nat) (a b0:Int) (w:World) (hd:SlOf w 1 RInt (.slice ad n cd) (fnL n idom)) (hk:DomOk n rank idom) (hb0:-1 ≤ b0) (hb1:b0 < n) (hn:n ≤ 1000) :
  Calls Try.prog 60 #[.agg #[vp,vo,.slice ad n cd],.int .i64 a,.int .i64 b0] w fun e w' => e = .returned (.bool (domM idom (n + 1) a b0))∧Below w.heap.size w w':=by
 have HK:Hid (DomOk n rank idom):=hk
 have HD:Hid (SlOf w 1 RInt (.slice ad n cd) (fnL n idom)):=hd
 have HB:Hid (-1 ≤ b0∧b0 < n):=⟨hb0,hb1⟩
 clear hk hd hb0 hb1
 generalize hres:domM idom (n + 1) a b0 = res
 have HR:Hid (domM idom (n + 1) a b0 = res):=hres
 clear hres
 obtain ⟨W1,hW1⟩:∃ W1,W1 = w.alloc (.cells #[vp,vo,.slice ad n cd] 81):=⟨_,rfl⟩
 have hbw:Below w.heap.size w W1:=by rw [hW1]; exact (Below.refl _ _).alloc (Nat.le_refl _) _
 have d2:W1.cell? ⟨w.heap.size,2,none⟩ = some (.slice ad n cd):=by rw [hW1]; simp
 have hz:w.heap.size < W1.heap.size:=by rw [hW1]; simp
 have HW:Hid (W1 = w.alloc (.cells #[vp,vo,.slice ad n cd] 81)):=hW1
 clear hW1
 go_enter Try.func60,Try.ntmps60
 go_wp2_with fail
 rw [← HW.out]
 go_loopw [2] (fun x wr => ∃ (b:Int) (k:Nat),x = .int .i64 b∧Below W1.heap.size W1 wr∧Hid (-1 ≤ b∧b < n∧(0 ≤ b → rank b.toNat + 1 < k)∧0 < k∧domM idom k a b = res)) (fun x _ => upZ rank (intOf x))
 case atStart =>
  refine ⟨b0,n + 1,rfl,Below.refl _ _,HB.out.1,HB.out.2,?_,by omega,HR.out⟩
  intro h
  have:=HK.out.rng _ h HB.out.2
  omega
 case round =>
  obtain ⟨b,k,rfl,hbr,HI⟩:=hrel
  have f2:=(hbr.cell (p:=⟨w.heap.size,2,none⟩) hz).trans d2
  have hbw':Below w.heap.size w wr:=hbw.trans (hbr.mono (Nat.le_of_lt hz))
  obtain ⟨k,rfl⟩:∃ k',k = k' + 1:=⟨k - 1,by have:=HI.out.2.2.2.1; omega⟩
  by_cases hm:b = -1
  ·have hne:(b != -1) = false:=by simp [hm]
   have H:Hid ((b == a) = res):=by show _ = _; rw [← HI.out.2.2.2.2]; simp only [domM]; rw [if_pos (Or.inl hm)]; rfl
   clear hm HI
   go_wp2
   go_ret
   exact ⟨ret_bool H.out,hbw'⟩
  ·have hne:(b != -1) = true:=by simp [hm]
   by_cases he:b = a
   ·have hne2:(b != a) = false:=by simp [he]
    have H:Hid ((b == a) = res):=by show _ = _; rw [← HI.out.2.2.2.2]; simp only [domM]; rw [if_pos (Or.inr he)]; rfl
    clear hm HI he
    go_wp2
    go_ret
    exact ⟨ret_bool H.out,hbw'⟩
   ·have hne2:(b != a) = true:=by simp [he]
    have ib0:0 ≤ b:=by have:=HI.out.1; omega
    have ib1:=HI.out.2.1
    obtain ⟨bb,off,rfl,hbb,hc⟩:=ints_at HD.out b ib0 (by rw [fnL_length]; exact ib1)
    rw [fnL_getD _ _ _ (by omega)] at hc
    have c1:=(hbw'.cell (p:=⟨bb,off + b.toNat,none⟩) hbb).trans hc
    have hup:=HK.out.up b ib0 ib1
    have hrb:=HK.out.rng b ib0 ib1
    have HN:Hid (-1 ≤ idom b.toNat∧idom b.toNat < n∧(0 ≤ idom b.toNat → rank (idom b.toNat).toNat + 1 < k)∧0 < k∧domM idom k a (idom b.toNat) = res):=by
     have h3:=HI.out.2.2.1 ib0
     refine ⟨by omega,by omega,fun h => by rcases hup with h4 | h4 <;> omega,by omega,?_⟩
     rw [← HI.out.2.2.2.2]
     simp only [domM]
     rw [if_neg (by simp [hm,he])]
    have HM:Hid ((if idom b.toNat = -1 then 0 else (rank (idom b.toNat).toNat).toNat + 1) < (rank b.toNat).toNat + 1):=by
     show _ < _
     split
     ·omega
     ·rcases hup with h4 | h4
      ·contradiction
      ·have:=HK.out.rng _ h4.1 h4.2.1
       omega
    have hm':Hid (b ≠ -1):=hm
    clear hm he hup hc
    go_wp2
    go_roundw
    case rel => exact ⟨_,k,rfl,hbr,HN⟩
    case measure => show upZ rank (idom b.toNat) < upZ rank b; unfold upZ; rw [if_neg hm'.out]; exact HM.out
def RRow (w:World) (cs:List Value) (l:List Int):Prop:=∃ v,cs = [v]∧SlOf w 1 RInt v l
theorem RRow.below {w w':World} (hb:Below w.heap.size w w') (cs:List Value) (x:List Int) (h:RRow w cs x):RRow w' cs x:=by
 obtain ⟨v,h1,h2⟩:=h
 exact ⟨v,h1,h2.below hb fun _ _ h => h⟩
theorem rows_at {w:World} {a:Option Addr} {n cap:Nat} {l:List (List Int)} (h:SlOf w 1 (RRow w) (.slice a n cap) l) (i:Int) (h0:0 ≤ i) (h1:i < l.length):∃ b off a' c',a = some ⟨b,off,none⟩∧b < w.heap.size∧w.cell? ⟨b,off + i.toNat,none⟩ = some (.slice a' (l.getD i.toNat []).length c')∧SlOf w 1 RInt (.slice a' (l.getD i.toNat []).length c') (l.getD i.toNat [])∧(l.getD i.toNat []).length ≤ longest:=by
 obtain ⟨b,off,cs,rfl,hl,⟨v,rfl,hR⟩,hc⟩:=h.at i.toNat (by omega)
 have hc0:=hc 0 (by simp)
 simp only [Nat.mul_one,Nat.add_zero,List.getElem_cons_zero] at hc0
 have e:l.getD i.toNat [] = l[i.toNat]'(by omega):=by rw [List.getD_eq_getElem?_getD,List.getElem?_eq_getElem (by omega)]; rfl
 obtain ⟨a',c',rfl,hl'⟩:=hR.out
 rw [e]
 exact ⟨b,off,a',c',rfl,block_lt hc0,hc0,hR,hl'⟩
theorem meetM_kn {n:Nat} {root:Int} {rank idom:Nat → Int} (hk:KT n root rank idom):∀ (k:Nat) (a b:Int),Kn n root idom a → Kn n root idom b → rank a.toNat + rank b.toNat < k → Kn n root idom (meetM rank idom k a b)∧rank (meetM rank idom k a b).toNat ≤ rank a.toNat∧rank (meetM rank idom k a b).toNat ≤ rank b.toNat
 | 0,a,b,ha,hb,h => by
  have:=hk.rng a ha.1 ha.2.1
  have:=hk.rng b hb.1 hb.2.1
  omega
 | k + 1,a,b,ha,hb,h => by
  simp only [meetM]
  have ra:=hk.rng a ha.1 ha.2.1
  have rb:=hk.rng b hb.1 hb.2.1
  by_cases hab:a = b
  ·rw [if_pos hab]; exact ⟨ha,by omega,by rw [hab]; omega⟩
  ·rw [if_neg hab]
   by_cases hgt:rank a.toNat > rank b.toNat
   ·rw [if_pos hgt]
    have har:a ≠ root:=by
     intro e
     have:=hk.low b hb.1 hb.2.1
     rw [← e] at this
     omega
    have hup:=hk.up a ha har
    have:=meetM_kn hk k _ b hup.1 hb (by have:=hup.2; omega)
    exact ⟨this.1,by have:=hup.2; omega,this.2.2⟩
   ·rw [if_neg hgt]
    have hbr:b ≠ root:=by
     intro e
     have h1:=hk.low a ha.1 ha.2.1
     rw [← e] at h1
     exact hab (hk.inj a b ha.1 ha.2.1 hb.1 hb.2.1 (by omega))
    have hup:=hk.up b hb hbr
    have:=meetM_kn hk k a _ ha hup.1 (by have:=hup.2; omega)
    exact ⟨this.1,this.2.1,by have:=hup.2; omega⟩
theorem nearStep_kn {n:Nat} {root:Int} {rank idom:Nat → Int} (hk:KT n root rank idom) (next p:Int) (hn:next = -1 ∨ Kn n root idom next) (hp:0 ≤ p∧p < n) :
  nearStep root rank idom n next p = -1 ∨ Kn n root idom (nearStep root rank idom n next p):=by
 unfold nearStep
 by_cases h:p ≠ root∧idom p.toNat = -1
 ·rw [if_pos h]; exact hn
 ·rw [if_neg h]
  have kp:Kn n root idom p:=⟨hp.1,hp.2,by by_cases e:p = root; exact Or.inl e; exact Or.inr fun e2 => h ⟨e,e2⟩⟩
  by_cases h1:next = -1
  ·rw [if_pos h1]; exact Or.inr kp
  ·rw [if_neg h1]
   have hnx:=hn.resolve_left h1
   have r1:=hk.rng _ hnx.1 hnx.2.1
   have r2:=hk.rng _ kp.1 kp.2.1
   exact Or.inr (meetM_kn hk _ _ _ hnx kp (by omega)).1
theorem meetUp_is (Pr Pi Rr Ri n:Nat) (root:Int) (rank idom:Nat → Int) (a0 b0 res:Int) (h:meetM rank idom (2 * n) a0 b0 = res) (w:World) (ht:TSt w Pr Pi Rr Ri n rank idom) (hk:KT n root rank idom) (ha:Kn n root idom a0) (hb:Kn n root idom b0) (hn:n ≤ 1000) :
  Calls Try.prog 50 #[.int .i64 a0,.int .i64 b0,.pointer (some ⟨Pr,0,none⟩),.pointer (some ⟨Pi,0,none⟩)] w fun e w' => e = .returned (.int .i64 res)∧Below w.heap.size w w':=by
 rw [← h]; exact meetUp_any Pr Pi Rr Ri n root rank idom a0 b0 w ht hk ha hb hn
theorem take_step {α β:Type} (f:β → α → β) (z:β) (l:List α) (k:Nat) (h:k < l.length):(l.take (k + 1)).foldl f z = f ((l.take k).foldl f z) l[k]:=by
 rw [List.take_succ_eq_append_getElem h,List.foldl_append]
 rfl
set_option maxHeartbeats 4000000 in
theorem nearest_any (Pr Pi Rr Ri n:Nat) (root:Int) (rank idom:Nat → Int) (preds:List (List Int)) (order:List Int) (ap ao:Option Addr) (cp co:Nat) (vd:Value) (b:Int) (w:World)
  (hp:SlOf w 1 (RRow w) (.slice ap n cp) preds) (hpl:preds.length = n) (ho:SlOf w 1 RInt (.slice ao n co) order) (hol:order.length = n) (hroot:order.getD 0 0 = root)
  (ht:TSt w Pr Pi Rr Ri n rank idom) (hk:KT n root rank idom) (hb0:0 ≤ b) (hb1:b < n) (hin:∀ p ∈ preds.getD b.toNat [],0 ≤ p∧p < n) (hn:n ≤ 1000) :
  Calls Try.prog 51 #[.agg #[.slice ap n cp,.slice ao n co,vd],.int .i64 b,.slice (some ⟨Ri,0,none⟩) n n,.func (.func 50) #[] #[.pointer (some ⟨Pr,0,none⟩),.pointer (some ⟨Pi,0,none⟩)]] w fun e w' => e = .returned (.int .i64 (nearM root rank idom n (preds.getD b.toNat [])))∧Below w.heap.size w w':=by
 have HK:Hid (KT n root rank idom):=hk
 have hn0:0 < n:=by omega
 obtain ⟨bo,offo,rfl,hbo,hco⟩:=ints_at ho 0 (by omega) (by rw [hol]; omega)
 simp only [Int.toNat_zero,Nat.add_zero] at hco
 rw [hroot] at hco
 obtain ⟨bp,offp,al,cl,rfl,hbp,hcp,hl,hll⟩:=rows_at hp b hb0 (by rw [hpl]; omega)
 generalize preds.getD b.toNat [] = l at *
 unfold longest at hll
 have HIN:Hid (∀ p ∈ l,0 ≤ p∧p < (n:Int)):=hin
 have HL:Hid (SlOf w 1 RInt (.slice al l.length cl) l):=hl
 have HT:Hid (TSt w Pr Pi Rr Ri n rank idom):=ht
 clear hp ho hk hin hl ht hroot hpl hol
 obtain ⟨W1,hW1⟩:∃ W1,W1 = w.alloc (.cells #[.slice (some ⟨bp,offp,none⟩) n cp,.slice (some ⟨bo,offo,none⟩) n co,vd] 81):=⟨_,rfl⟩
 have hbw:Below w.heap.size w W1:=by rw [hW1]; exact (Below.refl _ _).alloc (Nat.le_refl _) _
 have d0:W1.cell? ⟨w.heap.size,0,none⟩ = some (.slice (some ⟨bp,offp,none⟩) n cp):=by rw [hW1]; simp
 have d1:W1.cell? ⟨w.heap.size,1,none⟩ = some (.slice (some ⟨bo,offo,none⟩) n co):=by rw [hW1]; simp
 have hz:w.heap.size < W1.heap.size:=by rw [hW1]; simp
 have HW:Hid (W1 = w.alloc (.cells #[.slice (some ⟨bp,offp,none⟩) n cp,.slice (some ⟨bo,offo,none⟩) n co,vd] 81)):=hW1
 have hcp1:=(hbw.cell (p:=⟨bp,offp + b.toNat,none⟩) hbp).trans hcp
 clear hW1 hcp
 go_enter Try.func51,Try.ntmps51
 go_upto_region 2 with fail
 rw [← HW.out]
 go_wp2_with fail
 go_loopw [18,9] (fun i x wr => ∃ (k:Nat) (next:Int),k ≤ l.length∧i = .int .i64 k∧x = .int .i64 next∧Below W1.heap.size W1 wr∧Hid (next = (l.take k).foldl (nearStep root rank idom n) (-1)∧(next = -1 ∨ Kn n root idom next))) (fun i _ _ => l.length - (intOf i).toNat)
 case atStart => exact ⟨0,-1,Nat.zero_le _,rfl,rfl,Below.refl _ _,rfl,Or.inl rfl⟩
 case round =>
  obtain ⟨k,next,hk,rfl,rfl,hbr,HI⟩:=hrel
  have f1:=(hbr.cell (p:=⟨w.heap.size,1,none⟩) hz).trans d1
  have hbw':Below w.heap.size w wr:=hbw.trans (hbr.mono (Nat.le_of_lt hz))
  have c0:=(hbw'.cell (p:=⟨bo,offo,none⟩) hbo).trans hco
  clear d1
  by_cases hlt:k < l.length
  ·obtain ⟨bl,offl,rfl,hbl,hcl⟩:=ints_at HL.out k (by omega) (by omega)
   have HS:Hid (nearStep root rank idom n next l[k] = (l.take (k + 1)).foldl (nearStep root rank idom n) (-1)):=by
    show _ = _
    rw [take_step _ _ _ _ hlt,HI.out.1]
   have hpi:=HIN.out l[k] (List.getElem_mem hlt)
   have HS2:=nearStep_kn HK.out next l[k] HI.out.2 hpi
   have e:l.getD (k:Int).toNat 0 = l[k]:=by simp [List.getD,hlt]
   rw [e] at hcl
   have c1:=(hbw'.cell (p:=⟨bl,offl + (k:Int).toNat,none⟩) hbl).trans hcl
   rw [Int.toNat_natCast] at c1
   have hT:=HT.out.below hbw'
   have HN:Hid (nearStep root rank idom n next l[k] = (l.take (k + 1)).foldl (nearStep root rank idom n) (-1)∧(nearStep root rank idom n next l[k] = -1 ∨ Kn n root idom (nearStep root rank idom n next l[k]))):=⟨HS.out,HS2⟩
   clear hcl e HS HS2
   obtain ⟨p,hpe⟩:∃ p,p = l[k]:=⟨_,rfl⟩
   rw [← hpe] at hpi HN c1
   clear hpe
   have ip0:=hpi.1
   have ip1:=hpi.2
   have c2:=row_at hT.ri ip0 ip1
   have HT':Hid (TSt wr Pr Pi Rr Ri n rank idom):=hT
   clear hT hpi
   by_cases hr:p = root
   ·have q1:(p != root) = false:=by simp [hr]
    have kp:Kn n root idom p:=⟨ip0,ip1,Or.inl hr⟩
    by_cases hx:next = -1
    ·have q2:(next == -1) = true:=by simp [hx]
     have e2:nearStep root rank idom n next p = p:=by unfold nearStep; rw [if_neg (by simp [hr]),if_pos hx]
     rw [e2] at HN
     clear hr hx e2 kp HI
     go_wp2
     go_roundw
     case rel => exact ⟨k + 1,p,by omega,by go_num,rfl,hbr,HN⟩
     case measure => simp [intOf]; omega
    ·have q2:(next == -1) = false:=by simp [hx]
     have e2:nearStep root rank idom n next p = meetM rank idom (2 * n) next p:=by unfold nearStep; rw [if_neg (by simp [hr]),if_neg hx]
     have kx:=HI.out.2.resolve_left hx
     rw [e2] at HN
     obtain ⟨res,hres⟩:∃ res,meetM rank idom (2 * n) next p = res:=⟨_,rfl⟩
     rw [hres] at HN
     have HC:=meetUp_is Pr Pi Rr Ri n root rank idom next p res hres wr HT'.out HK.out kx kp hn
     clear hr hx e2 kp HI kx hres
     go_wp2_with fail
     refine HC.mono ?_
     rintro e w2 ⟨rfl,hb2⟩
     go_wp2
     go_roundw
     case rel => exact ⟨k + 1,res,by omega,by go_num,rfl,hbr.trans (hb2.mono hbr.size),HN⟩
     case measure => simp [intOf]; omega
   ·have q1:(p != root) = true:=by simp [hr]
    by_cases hd:idom p.toNat = -1
    ·have q3:(idom p.toNat == -1) = true:=by simp [hd]
     have e2:nearStep root rank idom n next p = next:=by unfold nearStep; rw [if_pos ⟨hr,hd⟩]
     rw [e2] at HN
     clear hr hd e2 HI
     go_wp2
     go_roundw
     case rel => exact ⟨k + 1,next,by omega,by go_num,rfl,hbr,HN⟩
     case measure => simp [intOf]; omega
    ·have q3:(idom p.toNat == -1) = false:=by simp [hd]
     have kp:Kn n root idom p:=⟨ip0,ip1,Or.inr hd⟩
     by_cases hx:next = -1
     ·have q2:(next == -1) = true:=by simp [hx]
      have e2:nearStep root rank idom n next p = p:=by unfold nearStep; rw [if_neg (by simp [hd]),if_pos hx]
      rw [e2] at HN
      clear hr hx e2 kp HI hd
      go_wp2
      go_roundw
      case rel => exact ⟨k + 1,p,by omega,by go_num,rfl,hbr,HN⟩
      case measure => simp [intOf]; omega
     ·have q2:(next == -1) = false:=by simp [hx]
      have e2:nearStep root rank idom n next p = meetM rank idom (2 * n) next p:=by unfold nearStep; rw [if_neg (by simp [hd]),if_neg hx]
      have kx:=HI.out.2.resolve_left hx
      rw [e2] at HN
      obtain ⟨res,hres⟩:∃ res,meetM rank idom (2 * n) next p = res:=⟨_,rfl⟩
      rw [hres] at HN
      have HC:=meetUp_is Pr Pi Rr Ri n root rank idom next p res hres wr HT'.out HK.out kx kp hn
      clear hr hx e2 kp HI kx hres hd
      go_wp2_with fail
      refine HC.mono ?_
      rintro e w2 ⟨rfl,hb2⟩
      go_wp2
      go_roundw
      case rel => exact ⟨k + 1,res,by omega,by go_num,rfl,hbr.trans (hb2.mono hbr.size),HN⟩
      case measure => simp [intOf]; omega
  ·have H:Hid (next = nearM root rank idom n l):=by
    show _ = _
    rw [HI.out.1,List.take_of_length_le (by omega)]
    rfl
   clear HI
   go_wp2
   go_ret
   exact ⟨ret_int H.out,hbw'⟩
structure Gr (n:Nat) (preds:List (List Int)) (order:List Int):Prop where
 pos:0 < n
 len:preds.length = n
 olen:order.length = n
 nod:order.Nodup
 rng:∀ x ∈ order,0 ≤ x∧x < (n:Int)
 all:∀ a:Int,0 ≤ a → a < n → a ∈ order
 inn:∀ t:Nat,∀ p ∈ preds.getD t [],0 ≤ p∧p < (n:Int)
 fwd:∀ i,0 < i → i < n → ∃ p ∈ preds.getD (order.getD i 0).toNat [],rankM order p.toNat < i
theorem rank_mem {order:List Int} {a:Int} (h0:0 ≤ a):rankM order a.toNat = (order.idxOf a:Nat):=by
 unfold rankM
 rw [Int.toNat_of_nonneg h0]
theorem Gr.rank_at {n:Nat} {preds:List (List Int)} {order:List Int} (h:Gr n preds order) (i:Nat) (hi:i < n):rankM order (order.getD i 0).toNat = i:=by
 have hi':i < order.length:=by rw [h.olen]; exact hi
 have e:order.getD i 0 = order[i]:=by rw [List.getD_eq_getElem?_getD,List.getElem?_eq_getElem hi']; rfl
 have h0:=(h.rng _ (List.getElem_mem hi')).1
 rw [e,rank_mem h0,h.nod.idxOf_getElem i hi']
theorem Gr.root {n:Nat} {preds:List (List Int)} {order:List Int} (h:Gr n preds order):0 ≤ order.getD 0 0∧order.getD 0 0 < (n:Int):=by
 have hi':0 < order.length:=by rw [h.olen]; exact h.pos
 have e:order.getD 0 0 = order[0]:=by rw [List.getD_eq_getElem?_getD,List.getElem?_eq_getElem hi']; rfl
 rw [e]
 exact h.rng _ (List.getElem_mem hi')
theorem Gr.inj {n:Nat} {preds:List (List Int)} {order:List Int} (h:Gr n preds order) (a b:Int) (a0:0 ≤ a) (a1:a < n) (b0:0 ≤ b) (b1:b < n) (e:rankM order a.toNat = rankM order b.toNat):a = b:=by
 rw [rank_mem a0,rank_mem b0] at e
 have e':order.idxOf a = order.idxOf b:=by omega
 have ha:=List.idxOf_lt_length_of_mem (h.all a a0 a1)
 have hb:=List.idxOf_lt_length_of_mem (h.all b b0 b1)
 have h1:=List.getElem_idxOf ha
 have h2:=List.getElem_idxOf hb
 rw [← h1,← h2]
 congr 1
theorem Gr.kt0 {n:Nat} {preds:List (List Int)} {order:List Int} (h:Gr n preds order):KT n (order.getD 0 0) (rankM order) (fun _ => -1):=by
 refine ⟨fun a ha hne => ?_,fun a b a0 a1 b0 b1 e => h.inj a b a0 a1 b0 b1 e,h.root,fun a a0 a1 => ?_,fun a a0 a1 => ?_⟩
 ·rcases ha.2.2 with h1 | h1
  ·exact absurd h1 hne
  ·exact absurd rfl h1
 ·have:=h.rank_at 0 h.pos
  rw [this,rank_mem a0]
  omega
 ·rw [rank_mem a0]
  have:=List.idxOf_lt_length_of_mem (h.all a a0 a1)
  have:=h.olen
  omega
theorem near_fold {n:Nat} {root:Int} {rank idom:Nat → Int} (hk:KT n root rank idom):∀ (l:List Int) (next:Int),(∀ p ∈ l,0 ≤ p∧p < (n:Int)) → (next = -1 ∨ Kn n root idom next) →
  (l.foldl (nearStep root rank idom n) next = -1 ∨ Kn n root idom (l.foldl (nearStep root rank idom n) next)) ∧
  (next ≠ -1 → l.foldl (nearStep root rank idom n) next ≠ -1∧rank (l.foldl (nearStep root rank idom n) next).toNat ≤ rank next.toNat) ∧
  ∀ p ∈ l,Kn n root idom p → l.foldl (nearStep root rank idom n) next ≠ -1∧rank (l.foldl (nearStep root rank idom n) next).toNat ≤ rank p.toNat
 | [],next,_,hn => ⟨hn,fun h => ⟨h,Int.le_refl _⟩,fun p hp => by simp at hp⟩
 | p :: r,next,hin,hn => by
  have hp:=hin p List.mem_cons_self
  have hs:=nearStep_kn hk next p hn hp
  have ih:=near_fold hk r (nearStep root rank idom n next p) (fun q hq => hin q (List.mem_cons_of_mem _ hq)) hs
  have h1:next ≠ -1 → nearStep root rank idom n next p ≠ -1∧rank (nearStep root rank idom n next p).toNat ≤ rank next.toNat:=by
   intro hne
   have kx:=hn.resolve_left hne
   unfold nearStep
   by_cases h:p ≠ root∧idom p.toNat = -1
   ·rw [if_pos h]; exact ⟨hne,Int.le_refl _⟩
   ·rw [if_neg h,if_neg hne]
    have kp:Kn n root idom p:=⟨hp.1,hp.2,by by_cases e:p = root; exact Or.inl e; exact Or.inr fun e2 => h ⟨e,e2⟩⟩
    have r1:=hk.rng _ kx.1 kx.2.1
    have r2:=hk.rng _ kp.1 kp.2.1
    have m:=meetM_kn hk (2 * n) _ _ kx kp (by omega)
    exact ⟨by have:=m.1.1; omega,m.2.1⟩
  have h2:Kn n root idom p → nearStep root rank idom n next p ≠ -1∧rank (nearStep root rank idom n next p).toNat ≤ rank p.toNat:=by
   intro kp
   unfold nearStep
   rw [if_neg (by rintro ⟨h3,h4⟩; rcases kp.2.2 with h5 | h5; exact h3 h5; exact h5 h4)]
   by_cases hne:next = -1
   ·rw [if_pos hne]; exact ⟨by have:=kp.1; omega,Int.le_refl _⟩
   ·rw [if_neg hne]
    have kx:=hn.resolve_left hne
    have r1:=hk.rng _ kx.1 kx.2.1
    have r2:=hk.rng _ kp.1 kp.2.1
    have m:=meetM_kn hk (2 * n) _ _ kx kp (by omega)
    exact ⟨by have:=m.1.1; omega,m.2.2⟩
  refine ⟨ih.1,fun hne => ?_,fun q hq kq => ?_⟩
  ·have a:=h1 hne
   have b:=ih.2.1 a.1
   exact ⟨b.1,by have:=b.2; have:=a.2; simp only [List.foldl_cons]; omega⟩
  ·rcases List.mem_cons.1 hq with rfl | hq
   ·have a:=h2 kq
    have b:=ih.2.1 a.1
    exact ⟨b.1,by have:=b.2; have:=a.2; simp only [List.foldl_cons]; omega⟩
   ·exact ih.2.2 q hq kq
theorem KT.upd {n:Nat} {root:Int} {rank idom:Nat → Int} (hk:KT n root rank idom) (b next:Int) (b0:0 ≤ b) (b1:b < n) (hbr:b ≠ root) (hn:Kn n root idom next) (hl:rank next.toNat < rank b.toNat) :
  KT n root rank (upI idom b.toNat next)∧Kn n root (upI idom b.toNat next) b∧∀ a,Kn n root idom a → Kn n root (upI idom b.toNat next) a:=by
 have hne:next ≠ -1:=by have:=hn.1; omega
 have kb:Kn n root (upI idom b.toNat next) b:=⟨b0,b1,Or.inr (by simp [upI,hne])⟩
 have keep:∀ a,Kn n root idom a → Kn n root (upI idom b.toNat next) a:=by
  intro a ha
  refine ⟨ha.1,ha.2.1,?_⟩
  rcases ha.2.2 with h | h
  ·exact Or.inl h
  ·right
   unfold upI
   split
   ·exact hne
   ·exact h
 refine ⟨⟨fun a ha har => ?_,hk.inj,hk.rt,hk.low,hk.rng⟩,kb,keep⟩
 by_cases hab:a = b
 ·subst hab
  simp only [upI,if_true]
  exact ⟨keep _ hn,hl⟩
 ·have hn2:¬ a.toNat = b.toNat:=by have:=ha.1; omega
  have e:upI idom b.toNat next a.toNat = idom a.toNat:=by simp [upI,hn2]
  have ka:Kn n root idom a:=⟨ha.1,ha.2.1,ha.2.2.imp id fun h => by rw [e] at h; exact h⟩
  have:=hk.up a ka har
  rw [e]
  exact ⟨keep _ this.1,this.2⟩
def stepR (pred:Nat → List Int) (root:Int) (rank:Nat → Int) (n:Nat) (idom:Nat → Int) (b:Int):Nat → Int:=upI idom b.toNat (nearM root rank idom n (pred b.toNat))
theorem roundM_eq (pred:Nat → List Int) (root:Int) (rank:Nat → Int) (n:Nat) (bs:List Int) (idom:Nat → Int):roundM pred root rank n bs idom = bs.foldl (stepR pred root rank n) idom:=rfl
structure RI (n:Nat) (order:List Int) (idom:Nat → Int) (j:Nat):Prop where
 kt:KT n (order.getD 0 0) (rankM order) idom
 kn:∀ i,i < j + 1 → i < n → Kn n (order.getD 0 0) idom (order.getD i 0)
 rt:idom (order.getD 0 0).toNat = -1
 out:∀ i,n ≤ i → idom i = -1
def predL (preds:List (List Int)) (t:Nat):List Int:=preds.getD t []
theorem Gr.getD_ne {n:Nat} {preds:List (List Int)} {order:List Int} (h:Gr n preds order) (i j:Nat) (hi:i < n) (hj:j < n) (hij:i ≠ j):order.getD i 0 ≠ order.getD j 0:=by
 intro e
 have h1:=h.rank_at i hi
 have h2:=h.rank_at j hj
 rw [e,h2] at h1
 omega
theorem Gr.getD_rng {n:Nat} {preds:List (List Int)} {order:List Int} (h:Gr n preds order) (i:Nat) (hi:i < n):0 ≤ order.getD i 0∧order.getD i 0 < (n:Int):=by
 have hi':i < order.length:=by rw [h.olen]; exact hi
 have e:order.getD i 0 = order[i]:=by rw [List.getD_eq_getElem?_getD,List.getElem?_eq_getElem hi']; rfl
 rw [e]
 exact h.rng _ (List.getElem_mem hi')
theorem RI.start {n:Nat} {preds:List (List Int)} {order:List Int} (h:Gr n preds order):RI n order (fun _ => -1) 0:=by
 refine ⟨h.kt0,fun i hi _ => ?_,rfl,fun _ _ => rfl⟩
 have:i = 0:=by omega
 subst this
 exact ⟨h.root.1,h.root.2,Or.inl rfl⟩
theorem RI.again {n j:Nat} {order:List Int} {idom:Nat → Int} (h:RI n order idom j):RI n order idom 0:=⟨h.kt,fun i hi hn => h.kn i (by omega) hn,h.rt,h.out⟩
theorem RI.step {n j:Nat} {preds:List (List Int)} {order:List Int} {idom:Nat → Int} (h:RI n order idom j) (g:Gr n preds order) (hj:j + 1 < n):RI n order (stepR (predL preds) (order.getD 0 0) (rankM order) n idom (order.getD (j + 1) 0)) (j + 1):=by
 obtain ⟨p,hp,hr⟩:=g.fwd (j + 1) (by omega) hj
 have hpi:=g.inn _ p hp
 have hpo:order.getD (order.idxOf p) 0 = p:=by
  have hm:=List.idxOf_lt_length_of_mem (g.all p hpi.1 hpi.2)
  rw [List.getD_eq_getElem?_getD,List.getElem?_eq_getElem hm]
  exact List.getElem_idxOf hm
 have hlt:order.idxOf p < j + 1:=by rw [rank_mem hpi.1] at hr; omega
 have kp:Kn n (order.getD 0 0) idom p:=by rw [← hpo]; exact h.kn _ hlt (by omega)
 have nf:=near_fold h.kt (preds.getD (order.getD (j + 1) 0).toNat []) (-1) (g.inn _) (Or.inl rfl)
 have np:=nf.2.2 p hp kp
 have kx:=nf.1.resolve_left np.1
 have hb:=g.getD_rng (j + 1) hj
 have hbr:=g.getD_ne (j + 1) 0 hj (by omega) (by omega)
 have hrk:=g.rank_at (j + 1) hj
 have u:=h.kt.upd (order.getD (j + 1) 0) _ hb.1 hb.2 hbr kx (by rw [hrk]; have:=np.2; omega)
 have r0:=g.root
 refine ⟨u.1,fun i hi hn => ?_,?_,fun i hi => ?_⟩
 ·by_cases e:i = j + 1
  ·subst e; exact u.2.1
  ·exact u.2.2 _ (h.kn i (by omega) hn)
 ·show upI _ _ _ _ = _
  have hne:¬ (order.getD 0 0).toNat = (order.getD (j + 1) 0).toNat:=by omega
  unfold upI
  rw [if_neg hne]
  exact h.rt
 ·show upI _ _ _ _ = _
  have hne:¬ i = (order.getD (j + 1) 0).toNat:=by omega
  unfold upI
  rw [if_neg hne]
  exact h.out i hi
theorem RI.domOk {n j:Nat} {preds:List (List Int)} {order:List Int} {idom:Nat → Int} (h:RI n order idom j) (g:Gr n preds order) (hj:n ≤ j + 1):DomOk n (rankM order) idom:=by
 refine ⟨fun a a0 a1 => ?_,h.kt.rng⟩
 by_cases e:a = order.getD 0 0
 ·left; rw [e]; exact h.rt
 ·right
  have hm:=List.idxOf_lt_length_of_mem (g.all a a0 a1)
  have hol:=g.olen
  have ho:order.getD (order.idxOf a) 0 = a:=by
   rw [List.getD_eq_getElem?_getD,List.getElem?_eq_getElem hm]
   exact List.getElem_idxOf hm
  have ka:=h.kn (order.idxOf a) (by omega) (by omega)
  rw [ho] at ka
  have:=h.kt.up a ka e
  exact ⟨this.1.1,this.1.2.1,this.2⟩
structure ISt (w:World) (N:Nat) (vp vo vd:Value) (n:Nat) (rank idom:Nat → Int):Prop where
 g:w.rowIs N 81 3 (fun i => if i = 0 then vp else if i = 1 then vo else vd)
 t:TSt w (N + 1 + 1) (N + 1 + 1 + 1 + 1) (N + 1) (N + 1 + 1 + 1) n rank idom
theorem ISt.below {w w':World} {N n:Nat} {vp vo vd:Value} {rank idom:Nat → Int} (h:ISt w N vp vo vd n rank idom) (hb:Below w.heap.size w w'):ISt w' N vp vo vd n rank idom :=
 ⟨h.g.of_block (hb.block _ h.g.lt),h.t.below hb⟩
theorem ISt.drew {w:World} {N n:Nat} {vp vo vd:Value} {rank idom:Nat → Int} (h:ISt w N vp vo vd n rank idom):ISt w.drew N vp vo vd n rank idom:=⟨h.g,⟨h.t.pr,h.t.pi,h.t.rr,h.t.ri⟩⟩
theorem ISt.rank {w:World} {N n:Nat} {vp vo vd:Value} {rank idom:Nat → Int} (h:ISt w N vp vo vd n rank idom) (i:Nat) (v:Int):ISt (w.setCell ⟨N + 1,i,none⟩ (.int .i64 v)) N vp vo vd n (upI rank i v) idom:=by
 refine ⟨h.g.setOther (by simp; try omega) _,⟨h.t.pr.setOther (by simp; try omega) _,h.t.pi.setOther (by simp; try omega) _,(h.t.rr.set i _).congr fun j hj => ?_,h.t.ri.setOther (by simp; try omega) _⟩⟩
 unfold upI
 split <;> rfl
theorem ISt.idom {w:World} {N n:Nat} {vp vo vd:Value} {rank idom:Nat → Int} (h:ISt w N vp vo vd n rank idom) (i:Nat) (v:Int):ISt (w.setCell ⟨N + 1 + 1 + 1,i,none⟩ (.int .i64 v)) N vp vo vd n rank (upI idom i v):=by
 refine ⟨h.g.setOther (by simp; try omega) _,⟨h.t.pr.setOther (by simp; try omega) _,h.t.pi.setOther (by simp; try omega) _,h.t.rr.setOther (by simp; try omega) _,(h.t.ri.set i _).congr fun j hj => ?_⟩⟩
 unfold upI
 split <;> rfl
theorem ISt.congr {w:World} {N n:Nat} {vp vo vd:Value} {rank idom rank' idom':Nat → Int} (h:ISt w N vp vo vd n rank idom) (h1:∀ i,i < n → rank i = rank' i) (h2:∀ i,i < n → idom i = idom' i):ISt w N vp vo vd n rank' idom' :=
 ⟨h.g,⟨h.t.pr,h.t.pi,h.t.rr.congr fun i hi => by rw [h1 i hi],h.t.ri.congr fun i hi => by rw [h2 i hi]⟩⟩
def rkU (order:List Int) (k:Nat):Nat → Int:=(List.range k).foldl (fun f i => upI f (order.getD i 0).toNat i) (fun _ => 0)
def idU (order:List Int) (k:Nat):Nat → Int:=(List.range k).foldl (fun f i => upI f (order.getD i 0).toNat (-1)) (fun _ => 0)
theorem rkU_succ (order:List Int) (k:Nat):rkU order (k + 1) = upI (rkU order k) (order.getD k 0).toNat k:=by simp [rkU,List.range_succ]
theorem idU_succ (order:List Int) (k:Nat):idU order (k + 1) = upI (idU order k) (order.getD k 0).toNat (-1):=by simp [idU,List.range_succ]
theorem rkU_at {n:Nat} {preds:List (List Int)} {order:List Int} (g:Gr n preds order):∀ (k:Nat),k ≤ n → ∀ i,i < n → rankM order i < k → rkU order k i = rankM order i∧idU order k i = -1
 | 0,_,i,_,h => by unfold rankM at h; omega
 | k + 1,hk,i,hi,h => by
  rw [rkU_succ,idU_succ]
  unfold upI
  have hr:=g.rank_at k (by omega)
  have hb:=g.getD_rng k (by omega)
  by_cases e:i = (order.getD k 0).toNat
  ·rw [if_pos e,if_pos e,e,hr]
   exact ⟨rfl,rfl⟩
  ·rw [if_neg e,if_neg e]
   refine rkU_at g k (by omega) i hi ?_
   have hne:rankM order i ≠ k:=by
    intro h2
    have:=g.inj (i:Int) (order.getD k 0) (by omega) (by omega) hb.1 hb.2 (by rw [Int.toNat_natCast,h2,hr])
    omega
   omega
theorem rkU_all {n:Nat} {preds:List (List Int)} {order:List Int} (g:Gr n preds order) (i:Nat) (hi:i < n):rkU order n i = rankM order i∧idU order n i = -1:=by
 refine rkU_at g n (Nat.le_refl _) i hi ?_
 have:=g.kt0.rng (i:Int) (by omega) (by omega)
 rw [Int.toNat_natCast] at this
 exact this.2
def FixAt (preds:List (List Int)) (order:List Int) (n K:Nat):Prop:=∀ i,i < n → roundsM (predL preds) order n (K + 1) i = roundsM (predL preds) order n K i
theorem RI.steps {n:Nat} {preds:List (List Int)} {order:List Int} (g:Gr n preds order):∀ (j:Nat) (idom:Nat → Int),j < n → RI n order idom 0 → RI n order ((order.tail.take j).foldl (stepR (predL preds) (order.getD 0 0) (rankM order) n) idom) j
 | 0,idom,_,h => by simpa using h
 | j + 1,idom,hj,h => by
  have ih:=RI.steps g j idom (by omega) h
  have hl:j < order.tail.length:=by rw [List.length_tail,g.olen]; omega
  rw [take_step _ _ _ _ hl]
  have e:order.tail[j] = order.getD (j + 1) 0:=by
   rw [List.getElem_tail,List.getD_eq_getElem?_getD,List.getElem?_eq_getElem (by rw [g.olen]; omega)]; rfl
  rw [e]
  exact ih.step g hj
theorem RI.rounds {n:Nat} {preds:List (List Int)} {order:List Int} (g:Gr n preds order):∀ t,RI n order (roundsM (predL preds) order n t) 0∧(0 < t → RI n order (roundsM (predL preds) order n t) (n - 1))
 | 0 => ⟨RI.start g,fun h => absurd h (by omega)⟩
 | t + 1 => by
  have ih:=(RI.rounds g t).1
  have h:=RI.steps g (n - 1) _ (by have:=g.pos; omega) ih
  have e:order.tail.take (n - 1) = order.tail:=List.take_of_length_le (by rw [List.length_tail,g.olen]; omega)
  rw [e] at h
  exact ⟨h.again,fun _ => h⟩
theorem fix_all {n K:Nat} {preds:List (List Int)} {order:List Int} (g:Gr n preds order) (h:FixAt preds order n K):roundsM (predL preds) order n (K + 1) = roundsM (predL preds) order n K:=by
 funext i
 by_cases hi:i < n
 ·exact h i hi
 ·rw [(RI.rounds g (K + 1)).1.out i (by omega),(RI.rounds g K).1.out i (by omega)]
theorem fix_on {n t:Nat} {preds:List (List Int)} {order:List Int} (h:roundsM (predL preds) order n (t + 1) = roundsM (predL preds) order n t):∀ d,roundsM (predL preds) order n (t + d) = roundsM (predL preds) order n t
 | 0 => rfl
 | d + 1 => by
  show roundM _ _ _ _ _ (roundsM (predL preds) order n (t + d)) = _
  rw [fix_on h d]
  exact h
theorem steps_other (pred:Nat → List Int) (root:Int) (rank:Nat → Int) (n:Nat):∀ (l:List Int) (idom:Nat → Int) (b:Nat),(∀ x ∈ l,x.toNat ≠ b) → l.foldl (stepR pred root rank n) idom b = idom b
 | [],_,_,_ => rfl
 | x :: r,idom,b,h => by
  rw [List.foldl_cons,steps_other pred root rank n r _ b fun y hy => h y (List.mem_cons_of_mem _ hy)]
  show upI _ _ _ _ = _
  unfold upI
  rw [if_neg (fun e => h x List.mem_cons_self e.symm)]
theorem upI_same (f:Nat → Int) (i:Nat):upI f i (f i) = f:=by
 funext j
 unfold upI
 split
 ·rename_i e; rw [e]
 ·rfl
def idJ (preds:List (List Int)) (order:List Int) (n t j:Nat):Nat → Int:=(order.tail.take j).foldl (stepR (predL preds) (order.getD 0 0) (rankM order) n) (roundsM (predL preds) order n t)
def nextJ (preds:List (List Int)) (order:List Int) (n t j:Nat):Int:=nearM (order.getD 0 0) (rankM order) (idJ preds order n t j) n (predL preds (order.getD (j + 1) 0).toNat)
def ChOk (preds:List (List Int)) (order:List Int) (n t j:Nat) (cb:Bool):Prop:=(cb = false → idJ preds order n t j = roundsM (predL preds) order n t)∧(cb = true → ∃ b:Nat,(∀ x ∈ order.tail.drop j,x.toNat ≠ b)∧idJ preds order n t j b ≠ roundsM (predL preds) order n t b)
theorem Gr.tail_at {n:Nat} {preds:List (List Int)} {order:List Int} (g:Gr n preds order) (j:Nat) (hj:j < order.tail.length):order.tail[j] = order.getD (j + 1) 0:=by
 rw [List.length_tail,g.olen] at hj
 rw [List.getElem_tail,List.getD_eq_getElem?_getD,List.getElem?_eq_getElem (by rw [g.olen]; omega)]
 rfl
theorem idJ_succ {n:Nat} {preds:List (List Int)} {order:List Int} (g:Gr n preds order) (t j:Nat) (hj:j + 1 < n):idJ preds order n t (j + 1) = upI (idJ preds order n t j) (order.getD (j + 1) 0).toNat (nextJ preds order n t j):=by
 have hl:j < order.tail.length:=by rw [List.length_tail,g.olen]; omega
 unfold idJ
 rw [take_step _ _ _ _ hl,g.tail_at j hl]
 rfl
theorem idJ_old {n:Nat} {preds:List (List Int)} {order:List Int} (g:Gr n preds order) (t j:Nat) (hj:j + 1 < n):idJ preds order n t j (order.getD (j + 1) 0).toNat = roundsM (predL preds) order n t (order.getD (j + 1) 0).toNat:=by
 refine steps_other _ _ _ _ _ _ _ fun x hx e => ?_
 obtain ⟨i,hi,rfl⟩:=List.getElem_of_mem hx
 have hi':i < j:=by rw [List.length_take] at hi; omega
 rw [List.getElem_take,g.tail_at] at e
 have h1:=g.getD_rng (i + 1) (by omega)
 have h2:=g.getD_rng (j + 1) hj
 exact g.getD_ne (i + 1) (j + 1) (by omega) hj (by omega) (by omega)
theorem drop_ne {n:Nat} {preds:List (List Int)} {order:List Int} (g:Gr n preds order) (j:Nat) (hj:j + 1 < n):∀ x ∈ order.tail.drop (j + 1),x.toNat ≠ (order.getD (j + 1) 0).toNat:=by
 intro x hx e
 obtain ⟨i,hi,rfl⟩:=List.getElem_of_mem hx
 have hi':i + (j + 1) < n - 1:=by rw [List.length_drop,List.length_tail,g.olen] at hi; omega
 rw [List.getElem_drop,g.tail_at] at e
 have h1:=g.getD_rng (j + 1 + i + 1) (by omega)
 have h2:=g.getD_rng (j + 1) hj
 exact g.getD_ne (j + 1 + i + 1) (j + 1) (by omega) hj (by omega) (by omega)
theorem ch_keep {n t j:Nat} {cb:Bool} {preds:List (List Int)} {order:List Int} (g:Gr n preds order) (hj:j + 1 < n) (h:ChOk preds order n t j cb) (he:nextJ preds order n t j = idJ preds order n t j (order.getD (j + 1) 0).toNat):idJ preds order n t (j + 1) = idJ preds order n t j∧ChOk preds order n t (j + 1) cb:=by
 have e:idJ preds order n t (j + 1) = idJ preds order n t j:=by rw [idJ_succ g t j hj,he,upI_same]
 refine ⟨e,fun hc => by rw [e]; exact h.1 hc,fun hc => ?_⟩
 obtain ⟨b,h1,h2⟩:=h.2 hc
 refine ⟨b,fun x hx => h1 x ?_,by rw [e]; exact h2⟩
 have hl:j < order.tail.length:=by rw [List.length_tail,g.olen]; omega
 rw [List.drop_eq_getElem_cons hl]
 exact List.mem_cons_of_mem _ hx
theorem ch_new {n t j:Nat} {preds:List (List Int)} {order:List Int} (g:Gr n preds order) (hj:j + 1 < n) (he:nextJ preds order n t j ≠ idJ preds order n t j (order.getD (j + 1) 0).toNat):ChOk preds order n t (j + 1) true:=by
 refine ⟨fun hc => by simp at hc,fun _ => ⟨(order.getD (j + 1) 0).toNat,drop_ne g j hj,?_⟩⟩
 rw [idJ_succ g t j hj,← idJ_old g t j hj]
 unfold upI
 rw [if_pos rfl]
 exact he
theorem idJ_end {n:Nat} {preds:List (List Int)} {order:List Int} (g:Gr n preds order) (t j:Nat) (hj:n - 1 ≤ j):idJ preds order n t j = roundsM (predL preds) order n (t + 1):=by
 unfold idJ
 rw [List.take_of_length_le (by rw [List.length_tail,g.olen]; omega)]
 rfl
theorem ch_end {n t j K m:Nat} {cb:Bool} {preds:List (List Int)} {order:List Int} (g:Gr n preds order) (hF:roundsM (predL preds) order n (K + 1) = roundsM (predL preds) order n K) (hj:n - 1 ≤ j) (h:ChOk preds order n t j cb) (ht:t ≤ K) (hm:K + 1 - t ≤ m) :
  (cb = true → t + 1 ≤ K∧K + 1 - (t + 1) ≤ m - 1)∧(cb = false → roundsM (predL preds) order n (t + 1) = roundsM (predL preds) order n K):=by
 refine ⟨fun hc => ?_,fun hc => ?_⟩
 ·obtain ⟨b,_,hb⟩:=h.2 hc
  rw [idJ_end g t j hj] at hb
  have:t ≠ K:=by
   intro e
   rw [e,hF] at hb
   exact hb rfl
  omega
 ·have h5:=h.1 hc
  rw [idJ_end g t j hj] at h5
  have h6:=fix_on h5 (K - t)
  rw [show t + (K - t) = K by omega] at h6
  rw [h5,h6]
theorem idJ_kt {n:Nat} {preds:List (List Int)} {order:List Int} (g:Gr n preds order) (t j:Nat) (hj:j < n):KT n (order.getD 0 0) (rankM order) (idJ preds order n t j):=(RI.steps g j _ hj (RI.rounds g t).1).kt
theorem nearest_is (Pr Pi Rr Ri n:Nat) (root:Int) (rank idom:Nat → Int) (preds:List (List Int)) (order:List Int) (ap ao:Option Addr) (cp co:Nat) (vd:Value) (b res:Int) (w:World) (hres:nearM root rank idom n (predL preds b.toNat) = res)
  (hp:SlOf w 1 (RRow w) (.slice ap n cp) preds) (hpl:preds.length = n) (ho:SlOf w 1 RInt (.slice ao n co) order) (hol:order.length = n) (hroot:order.getD 0 0 = root)
  (ht:TSt w Pr Pi Rr Ri n rank idom) (hk:KT n root rank idom) (hb0:0 ≤ b) (hb1:b < n) (hin:∀ p ∈ preds.getD b.toNat [],0 ≤ p∧p < n) (hn:n ≤ 1000) :
  Calls Try.prog 51 #[.agg #[.slice ap n cp,.slice ao n co,vd],.int .i64 b,.slice (some ⟨Ri,0,none⟩) n n,.func (.func 50) #[] #[.pointer (some ⟨Pr,0,none⟩),.pointer (some ⟨Pi,0,none⟩)]] w fun e w' => e = .returned (.int .i64 res)∧Below w.heap.size w w':=by
 rw [← hres]; exact nearest_any Pr Pi Rr Ri n root rank idom preds order ap ao cp co vd b w hp hpl ho hol hroot ht hk hb0 hb1 hin hn
set_option maxRecDepth 4000 in
set_option maxHeartbeats 4000000 in
theorem idoms_any (n K:Nat) (preds:List (List Int)) (order:List Int) (ap ao:Option Addr) (cp co:Nat) (vd:Value) (w:World)
  (hp:SlOf w 1 (RRow w) (.slice ap n cp) preds) (ho:SlOf w 1 RInt (.slice ao n co) order) (hco:n ≤ co) (hg:Gr n preds order) (hfix:FixAt preds order n K) (hn:n ≤ 1000) :
  Calls Try.prog 39 #[.agg #[.slice ap n cp,.slice ao n co,vd]] w fun e w' => e = .returned (.slice (some ⟨w.heap.size + 1 + 1 + 1,0,none⟩) n n)∧w'.rowIs (w.heap.size + 1 + 1 + 1) 3 n (fun i => .int .i64 (roundsM (predL preds) order n K i))∧Below w.heap.size w w':=by
 have mixed:Try.prog.follows .mixedOrders = true:=by kernel_rfl
 have hmk:=run_make_row' (P:=Try.prog) 27 3 (.int .i64 0) 8 Try.underlying27 (by kernel_rfl) rfl .i64 .i64 n (by omega) (by omega)
 have hpos:=hg.pos
 have HG:Hid (Gr n preds order):=hg
 have HF:=fix_all hg hfix
 have HF:Hid (roundsM (predL preds) order n (K + 1) = roundsM (predL preds) order n K):=HF
 obtain ⟨bo,offo,rfl,hbo,_⟩:=ints_at ho 0 (by omega) (by rw [hg.olen]; omega)
 have HP:Hid (SlOf w 1 (RRow w) (.slice ap n cp) preds):=hp
 have HO:Hid (SlOf w 1 RInt (.slice (some ⟨bo,offo,none⟩) n co) order):=ho
 obtain ⟨W,hW⟩:∃ W,W = ((((w.alloc (.cells #[.slice ap n cp,.slice (some ⟨bo,offo,none⟩) n co,vd] 81)).alloc (.cells (madeCells #[.int .i64 0] n) 3)).alloc (.cells #[.slice (some ⟨w.heap.size + 1,0,none⟩) n n] 27)).alloc (.cells (madeCells #[.int .i64 0] n) 3)).alloc (.cells #[.slice (some ⟨w.heap.size + 1 + 1 + 1,0,none⟩) n n] 27):=⟨_,rfl⟩
 have hz:W.heap.size = w.heap.size + 1 + 1 + 1 + 1 + 1:=by rw [hW]; simp
 have hbw:Below w.heap.size w W:=by
  rw [hW]
  repeat (first | exact Below.refl _ _ | refine Below.alloc ?_ (by simp; try omega) _)
 have hst:ISt W w.heap.size (.slice ap n cp) (.slice (some ⟨bo,offo,none⟩) n co) vd n (fun _ => 0) (fun _ => 0):=by
  rw [hW]
  have r0:(w.alloc (.cells #[.slice ap n cp,.slice (some ⟨bo,offo,none⟩) n co,vd] 81)).rowIs w.heap.size 81 3 (fun i => if i = 0 then .slice ap n cp else if i = 1 then .slice (some ⟨bo,offo,none⟩) n co else vd) :=
   World.rowIs_alloc _ _ _ _ fun i hi => by
    simp at hi
    match i,hi with | 0,_ => rfl | 1,_ => rfl | 2,_ => rfl
  obtain ⟨V1,hV1⟩:∃ V1,V1 = w.alloc (.cells #[.slice ap n cp,.slice (some ⟨bo,offo,none⟩) n co,vd] 81):=⟨_,rfl⟩
  have z1:V1.heap.size = w.heap.size + 1:=by rw [hV1]; simp
  rw [← hV1] at r0 ⊢
  have r1:=World.rowIs_made V1 (.int .i64 0) n 3
  rw [z1] at r1
  obtain ⟨V2,hV2⟩:∃ V2,V2 = V1.alloc (.cells (madeCells #[.int .i64 0] n) 3):=⟨_,rfl⟩
  have z2:V2.heap.size = w.heap.size + 1 + 1:=by rw [hV2]; simp [z1]
  replace r0:=r0.alloc (.cells (madeCells #[.int .i64 0] n) 3)
  rw [← hV2] at r0 r1 ⊢
  have r2:=World.rowIs_alloc V2 #[.slice (some ⟨w.heap.size + 1,0,none⟩) n n] 27 (fun _ => .slice (some ⟨w.heap.size + 1,0,none⟩) n n) (fun i hi => by simp at hi; subst hi; rfl)
  rw [z2] at r2
  obtain ⟨V3,hV3⟩:∃ V3,V3 = V2.alloc (.cells #[.slice (some ⟨w.heap.size + 1,0,none⟩) n n] 27):=⟨_,rfl⟩
  have z3:V3.heap.size = w.heap.size + 1 + 1 + 1:=by rw [hV3]; simp [z2]
  replace r0:=r0.alloc (.cells #[.slice (some ⟨w.heap.size + 1,0,none⟩) n n] 27)
  replace r1:=r1.alloc (.cells #[.slice (some ⟨w.heap.size + 1,0,none⟩) n n] 27)
  rw [← hV3] at r0 r1 r2 ⊢
  have r3:=World.rowIs_made V3 (.int .i64 0) n 3
  rw [z3] at r3
  obtain ⟨V4,hV4⟩:∃ V4,V4 = V3.alloc (.cells (madeCells #[.int .i64 0] n) 3):=⟨_,rfl⟩
  have z4:V4.heap.size = w.heap.size + 1 + 1 + 1 + 1:=by rw [hV4]; simp [z3]
  replace r0:=r0.alloc (.cells (madeCells #[.int .i64 0] n) 3)
  replace r1:=r1.alloc (.cells (madeCells #[.int .i64 0] n) 3)
  replace r2:=r2.alloc (.cells (madeCells #[.int .i64 0] n) 3)
  rw [← hV4] at r0 r1 r2 r3 ⊢
  have r4:=World.rowIs_alloc V4 #[.slice (some ⟨w.heap.size + 1 + 1 + 1,0,none⟩) n n] 27 (fun _ => .slice (some ⟨w.heap.size + 1 + 1 + 1,0,none⟩) n n) (fun i hi => by simp at hi; subst hi; rfl)
  rw [z4] at r4
  exact ⟨r0.alloc _,r2.alloc _,r4,r1.alloc _,r3.alloc _⟩
 have HW:Hid (W = ((((w.alloc (.cells #[.slice ap n cp,.slice (some ⟨bo,offo,none⟩) n co,vd] 81)).alloc (.cells (madeCells #[.int .i64 0] n) 3)).alloc (.cells #[.slice (some ⟨w.heap.size + 1,0,none⟩) n n] 27)).alloc (.cells (madeCells #[.int .i64 0] n) 3)).alloc (.cells #[.slice (some ⟨w.heap.size + 1 + 1 + 1,0,none⟩) n n] 27)):=hW
 have HZ:Hid (W.heap.size = w.heap.size + 1 + 1 + 1 + 1 + 1):=hz
 have HI0:Hid (ISt W w.heap.size (.slice ap n cp) (.slice (some ⟨bo,offo,none⟩) n co) vd n (fun _ => 0) (fun _ => 0)):=hst
 have HB:Hid (Below w.heap.size w W):=hbw
 clear hW hz hst hbw hp ho hg hfix
 go_enter Try.func39,Try.ntmps39
 go_upto_region 3 with fail
 rw [← HW.out]
 have g1:W.cell? ⟨w.heap.size,1,none⟩ = some (.slice (some ⟨bo,offo,none⟩) n co):=HI0.out.g.cell (i:=1) (by omega)
 go_wp2_with fail
 go_loopw [23] (fun i wr => ∃ k:Nat,k ≤ n∧i = .int .i64 k∧Hid (Below w.heap.size w wr∧ISt wr w.heap.size (.slice ap n cp) (.slice (some ⟨bo,offo,none⟩) n co) vd n (rkU order k) (idU order k))) (fun i _ => n - (intOf i).toNat)
 case atStart => exact ⟨0,Nat.zero_le _,rfl,HB.out,HI0.out⟩
 case round =>
  obtain ⟨k,hk,rfl,HS⟩:=hrel
  by_cases hlt:k < n
  ·obtain ⟨_,_,he,_,hcl⟩:=ints_at HO.out k (by omega) (by rw [HG.out.olen]; omega)
   injection he with he
   injection he with he1 he2
   subst he1
   subst he2
   rw [Int.toNat_natCast] at hcl
   have c1:=(HS.out.1.cell (p:=⟨bo,offo + k,none⟩) hbo).trans hcl
   have hrg:=HG.out.getD_rng k hlt
   have hS:=HS.out.2.drew
   have s1:=hS.t.pr.cell (i:=0) (by omega)
   have s2:=hS.t.pi.cell (i:=0) (by omega)
   have z1:=hS.t.rr.frozen (order.getD k 0).toNat
   have z2:=hS.t.ri.frozen (order.getD k 0).toNat
   have s3:=hS.t.rr.cell (i:=(order.getD k 0).toNat) (by omega)
   have s4:=hS.t.ri.cell (i:=(order.getD k 0).toNat) (by omega)
   have s5:=(HS.out.2.rank (order.getD k 0).toNat k).t.ri.cell (i:=(order.getD k 0).toNat) (by omega)
   have z5:=(HS.out.2.rank (order.getD k 0).toNat k).t.ri.frozen (order.getD k 0).toNat
   have s6:=(HS.out.2.rank (order.getD k 0).toNat k).t.pi.cell (i:=0) (by omega)
   have HN:Hid (Below w.heap.size w ((wr.drew.setCell ⟨w.heap.size + 1,(order.getD k 0).toNat,none⟩ (.int .i64 k)).setCell ⟨w.heap.size + 1 + 1 + 1,(order.getD k 0).toNat,none⟩ (.int .i64 (-1)))∧ISt ((wr.drew.setCell ⟨w.heap.size + 1,(order.getD k 0).toNat,none⟩ (.int .i64 k)).setCell ⟨w.heap.size + 1 + 1 + 1,(order.getD k 0).toNat,none⟩ (.int .i64 (-1))) w.heap.size (.slice ap n cp) (.slice (some ⟨bo,offo,none⟩) n co) vd n (rkU order (k + 1)) (idU order (k + 1))):=by
    refine ⟨(HS.out.1.drew.setCell (by simp; try omega) _).setCell (by simp; try omega) _,?_⟩
    rw [rkU_succ,idU_succ]
    exact (hS.rank _ _).idom _ _
   clear hS HS hcl
   generalize order.getD k 0 = b at *
   have hb0:=hrg.1
   have hb1:=hrg.2
   have hbn:b.toNat < n:=by omega
   clear hrg
   go_wp2_with fail
   go_region_o
   go_wp2
   go_roundw
   case rel => exact ⟨k + 1,by omega,by go_num,HN⟩
   case measure => simp [intOf]; omega
  ·obtain rfl:n = k:=by omega
   have HS':Hid (Below w.heap.size w wr∧ISt wr w.heap.size (.slice ap n cp) (.slice (some ⟨bo,offo,none⟩) n co) vd n (rankM order) (roundsM (predL preds) order n 0)):=⟨HS.out.1,HS.out.2.congr (fun i hi => (rkU_all HG.out i hi).1) (fun i hi => (rkU_all HG.out i hi).2)⟩
   clear HS HI0 HB HW g1 hmk
   go_wp2_with fail
   go_loopg [8] (K + 1) (fun m0 c w2 => ∃ (m t:Nat) (cb:Bool),m = m0∧c = .bool cb∧Hid (Below w.heap.size w w2∧ISt w2 w.heap.size (.slice ap n cp) (.slice (some ⟨bo,offo,none⟩) n co) vd n (rankM order) (roundsM (predL preds) order n t))∧Hid ((cb = true → t ≤ K∧K + 1 - t ≤ m)∧(cb = false → roundsM (predL preds) order n t = roundsM (predL preds) order n K)))
   case atStart => exact ⟨K + 1,0,true,rfl,rfl,HS',fun _ => ⟨Nat.zero_le _,Nat.le_refl _⟩,fun h => by simp at h⟩
   case round =>
    obtain ⟨m,t,cb,hmm,rfl,HQ,HM⟩:=hrel
    cases cb
    ·have hrow:=HQ.out.2.t.ri
     rw [HM.out.2 rfl] at hrow
     have s1:=HQ.out.2.t.pi.cell (i:=0) (by omega)
     have HR:Hid (_∧_):=⟨hrow,HQ.out.1⟩
     clear hrow
     go_wp2
     go_ret
     exact ⟨rfl,HR.out.1,HR.out.2⟩
    ·have g1:_ = some _:=HQ.out.2.g.cell (i:=1) (by omega)
     have hle:(1:Int) ≤ n:=by omega
     have hln:1 ≤ n:=by omega
     have hlc:1 ≤ co:=by omega
     have hmt:=HM.out.1 rfl
     have hm0:0 < m:=by omega
     have HMT:Hid (t ≤ K∧K + 1 - t ≤ m):=hmt
     have HJ0:Hid (ChOk preds order n t 0 false):=⟨fun _ => rfl,fun h => by simp at h⟩
     clear hmt HM
     by_cases hc1:co = 1
     ·subst hc1
      have hn1:n - 1 ≤ 0:=by omega
      have hq:¬ (0:Int) < ((n - 1:Nat):Int):=by omega
      have HE':Hid ((false = true → t + 1 ≤ K∧K + 1 - (t + 1) ≤ m - 1)∧(false = false → roundsM (predL preds) order n (t + 1) = roundsM (predL preds) order n K)):=ch_end HG.out HF.out hn1 HJ0.out HMT.out.1 HMT.out.2
      have HQ2:Hid (Below w.heap.size w wr∧ISt wr w.heap.size (.slice ap n cp) (.slice (some ⟨bo,offo,none⟩) n 1) vd n (rankM order) (roundsM (predL preds) order n (t + 1))):=by
       refine ⟨HQ.out.1,?_⟩
       rw [← idJ_end HG.out t 0 hn1]
       exact HQ.out.2
      go_wp2_with fail
      go_loopw [42,8] (fun i c w3 => i = .int .i64 0∧c = .bool false∧Hid (Below w.heap.size w w3∧ISt w3 w.heap.size (.slice ap n cp) (.slice (some ⟨bo,offo,none⟩) n 1) vd n (rankM order) (roundsM (predL preds) order n (t + 1)))) (fun _ _ _ => 0)
      case atStart => exact ⟨rfl,rfl,HQ2⟩
      case round =>
       obtain ⟨rfl,rfl,HQ3⟩:=hrel
       go_wp2
       go_roundg (m - 1)
       case measure => omega
       case rel => exact ⟨m - 1,t + 1,false,rfl,rfl,HQ3,fun h => by simp at h,fun _ => HE'.out.2 (by first | trivial | rfl)⟩
     ·go_wp2_with fail
      go_loopw [42,8] (fun i c w3 => ∃ (j:Nat) (cb:Bool),j ≤ n - 1∧i = .int .i64 j∧c = .bool cb∧Hid (Below w.heap.size w w3∧ISt w3 w.heap.size (.slice ap n cp) (.slice (some ⟨bo,offo,none⟩) n co) vd n (rankM order) (idJ preds order n t j))∧Hid (ChOk preds order n t j cb)) (fun i _ _ => n - 1 - (intOf i).toNat)
      case atStart => exact ⟨0,false,Nat.zero_le _,rfl,rfl,HQ,HJ0⟩
      case round =>
       obtain ⟨j,cb,hj,rfl,rfl,HQ3,HC⟩:=hrel
       by_cases hjl:j < n - 1
       ·obtain ⟨_,_,he,_,hcl⟩:=ints_at HO.out ((j:Int) + 1) (by omega) (by rw [HG.out.olen]; omega)
        injection he with he
        injection he with he1 he2
        subst he1
        subst he2
        have ej:((j:Int) + 1).toNat = j + 1:=by omega
        rw [ej] at hcl
        have c1:=(HQ3.out.1.cell (p:=⟨bo,offo + (j + 1),none⟩) hbo).trans hcl
        have c1':wr.cell? ⟨bo,offo + 1 + j,none⟩ = some (.int .i64 (order.getD (j + 1) 0)):=by rw [← c1]; congr 2; omega
        have hjl':j + 1 < n:=by omega
        have hrg:=HG.out.getD_rng (j + 1) hjl'
        have hkt:=idJ_kt HG.out t j (by omega)
        have hp3:SlOf wr 1 (RRow wr) (.slice ap n cp) preds:=HP.out.below HQ3.out.1 (RRow.below HQ3.out.1)
        have ho3:SlOf wr 1 RInt (.slice (some ⟨bo,offo,none⟩) n co) order:=HO.out.below HQ3.out.1 fun _ _ h => h
        have HCALL:=nearest_is _ _ _ _ n (order.getD 0 0) _ _ preds order ap (some ⟨bo,offo,none⟩) cp co vd (order.getD (j + 1) 0) (nextJ preds order n t j) wr rfl hp3 HG.out.len ho3 HG.out.olen rfl HQ3.out.2.t hkt hrg.1 hrg.2 (HG.out.inn _) hn
        have HKEEP:Hid (nextJ preds order n t j = idJ preds order n t j (order.getD (j + 1) 0).toNat → idJ preds order n t (j + 1) = idJ preds order n t j∧ChOk preds order n t (j + 1) cb):=fun h => ch_keep HG.out hjl' HC.out h
        have HNEW:Hid (nextJ preds order n t j ≠ idJ preds order n t j (order.getD (j + 1) 0).toNat → idJ preds order n t (j + 1) = upI (idJ preds order n t j) (order.getD (j + 1) 0).toNat (nextJ preds order n t j)∧ChOk preds order n t (j + 1) true):=fun h => ⟨idJ_succ HG.out t j hjl',ch_new HG.out hjl' h⟩
        clear hcl c1 hkt hp3 ho3 HC
        generalize nextJ preds order n t j = next at *
        generalize hidj:idJ preds order n t j = idj at *
        clear hidj
        generalize order.getD (j + 1) 0 = b at *
        have hb0:=hrg.1
        have hb1:=hrg.2
        have hbn:b.toNat < n:=by omega
        have g0:_ = some _:=HQ3.out.2.g.cell (i:=0) (by omega)
        have g1':_ = some _:=HQ3.out.2.g.cell (i:=1) (by omega)
        have g2:_ = some _:=HQ3.out.2.g.cell (i:=2) (by omega)
        have s1:=HQ3.out.2.t.pi.cell (i:=0) (by omega)
        clear hrg g1
        go_wp2_with fail
        refine HCALL.mono ?_
        clear HCALL
        rintro e w4 ⟨rfl,hb4⟩
        have hb4':Below w.heap.size w w4:=HQ3.out.1.trans (hb4.mono HQ3.out.1.size)
        have hS4:=HQ3.out.2.below hb4
        have s2:=hS4.t.pi.cell (i:=0) (by omega)
        have s3:=hS4.t.ri.cell (i:=b.toNat) hbn
        have z3:=hS4.t.ri.frozen b.toNat
        have HQ4:Hid (_∧_):=⟨hb4',hS4⟩
        clear hb4' hS4 hb4 HQ3 g0 g1' g2 s1
        by_cases hch:next = idj b.toNat
        ·have q1:(next != idj b.toNat) = false:=by simp [hch]
         have HR:=HKEEP.out hch
         clear HKEEP HNEW hch
         go_wp2
         go_roundw
         case rel =>
          refine ⟨j + 1,cb,by omega,by go_num,rfl,?_,HR.2⟩
          rw [HR.1]
          exact HQ4
         case measure => simp [intOf]; omega
        ·have q1:(next != idj b.toNat) = true:=by simp [hch]
         have HR:=HNEW.out hch
         clear HKEEP HNEW hch
         go_wp2
         go_roundw
         case rel =>
          refine ⟨j + 1,true,by omega,by go_num,rfl,?_,HR.2⟩
          rw [HR.1]
          exact ⟨HQ4.out.1.setCell (by simp; try omega) _,HQ4.out.2.idom _ _⟩
         case measure => simp [intOf]; omega
       ·have HE':Hid ((cb = true → t + 1 ≤ K∧K + 1 - (t + 1) ≤ m - 1)∧(cb = false → roundsM (predL preds) order n (t + 1) = roundsM (predL preds) order n K)):=ch_end HG.out HF.out (by omega) HC.out HMT.out.1 HMT.out.2
        have HQ2:Hid (Below w.heap.size w wr∧ISt wr w.heap.size (.slice ap n cp) (.slice (some ⟨bo,offo,none⟩) n co) vd n (rankM order) (roundsM (predL preds) order n (t + 1))):=by
         refine ⟨HQ3.out.1,?_⟩
         rw [← idJ_end HG.out t j (by omega)]
         exact HQ3.out.2
        clear HQ3 HC
        go_wp2
        go_roundg (m - 1)
        case measure => omega
        case rel => exact ⟨m - 1,t + 1,cb,rfl,rfl,HQ2,HE'⟩
end Go.Proofs.Ytglfpnnfcpnmoaa
