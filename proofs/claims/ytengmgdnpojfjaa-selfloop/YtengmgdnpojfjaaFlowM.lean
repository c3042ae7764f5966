/-
  The blocks' graph in plain terms: who leads to whom, the order, the dominators, the loops (P2). No Go in here.
-/
import Derived.Test.YtengmgdnpojfjaaCheck
namespace Go.Proofs.Ytengmgdnpojfjaa
open Go.RowKit
set_option linter.unusedVariables false

/-- Where block b's edges lead to. -/
def succM (bs : List Blk) (b : Nat) : List Nat := (bs.getD b ⟨[], [], []⟩).edges.map fun e => e.block.toNat
/-- Edges (from, to) in their order: of the first k blocks. -/
def pairsUpto (bs : List Blk) (k : Nat) : List (Nat × Nat) := (List.range k).flatMap fun b => (succM bs b).map fun t => (b, t)
def pairsM (bs : List Blk) : List (Nat × Nat) := pairsUpto bs bs.length
def intoM (L : List (Nat × Nat)) (t : Nat) : List Int := (L.filter fun p => p.2 == t).map fun p => (p.1 : Int)
def predM (bs : List Blk) (t : Nat) : List Int := intoM (pairsM bs) t

def upB (f : Nat → Bool) (i : Nat) (v : Bool) : Nat → Bool := fun j => if j = i then v else f j
def upI (f : Nat → Int) (i : Nat) (v : Int) : Nat → Int := fun j => if j = i then v else f j

/-- Depth first; the blocks in the order in which they are left. -/
def visitM (sc : Nat → List Nat) : Nat → Nat → (Nat → Bool) × List Int → (Nat → Bool) × List Int
  | 0, _, s => s
  | k + 1, b, s =>
    let r := (sc b).foldl (fun s t => if s.1 t then s else visitM sc k t s) (upB s.1 b true, s.2)
    (r.1, r.2 ++ [(b : Int)])
def postM (bs : List Blk) : List Int := (visitM (succM bs) bs.length 0 (fun _ => false, [])).2
def orderM (bs : List Blk) : List Int := (postM bs).reverse

/-- Does an edge lead from many to many? -/
def manyM (bs : List Blk) : Bool := bs.any fun b => decide (2 ≤ b.edges.length) && b.edges.any fun e => decide (1 < (predM bs e.block.toNat).length)

/-- Where the ways of a and b up meet: the one of higher rank goes up. -/
def meetM (rank idom : Nat → Int) : Nat → Int → Int → Int
  | 0, a, _ => a
  | k + 1, a, b => if a = b then a else if rank a.toNat > rank b.toNat then meetM rank idom k (idom a.toNat) b else meetM rank idom k a (idom b.toNat)
/-- The nearest block at which all ways meet, as far as is known. -/
def nearStep (root : Int) (rank idom : Nat → Int) (n : Nat) (next : Int) (p : Int) : Int :=
  if p ≠ root ∧ idom p.toNat = -1 then next else if next = -1 then p else meetM rank idom (2 * n) next p
def nearM (root : Int) (rank idom : Nat → Int) (n : Nat) (preds : List Int) : Int := preds.foldl (nearStep root rank idom n) (-1)
/-- One round through the order. -/
def roundM (pred : Nat → List Int) (root : Int) (rank : Nat → Int) (n : Nat) (bs : List Int) (idom : Nat → Int) : Nat → Int :=
  bs.foldl (fun idom b => upI idom b.toNat (nearM root rank idom n (pred b.toNat))) idom
def rankM (order : List Int) (b : Nat) : Int := ((order.idxOf (b : Int) : Nat) : Int)
def roundsM (pred : Nat → List Int) (order : List Int) (n : Nat) : Nat → Nat → Int
  | 0 => fun _ => -1
  | k + 1 => roundM pred (order.getD 0 0) (rankM order) n order.tail (roundsM pred order n k)
def idomM (bs : List Blk) (k : Nat) : Nat → Int := roundsM (predM bs) (orderM bs) bs.length k

/-- Does a dominate b, by a tree of dominators? -/
def domM (idom : Nat → Int) : Nat → Int → Int → Bool
  | 0, a, b => decide (b = a)
  | k + 1, a, b => if b = -1 ∨ b = a then decide (b = a) else domM idom k a (idom b.toNat)

/-- Where each value is made: block and place. -/
def spotsBlk (b : Nat) (x : Blk) : List (Int × (Int × Int)) := x.params.map (fun v => (v, ((b : Int), -1))) ++ x.instrs.zipIdx.flatMap fun p => (oprM p.1.operands).map fun v => (v, ((b : Int), (p.2 : Int)))
def spotsM (bs : List Blk) : List (Int × (Int × Int)) := bs.zipIdx.flatMap fun p => spotsBlk p.2 p.1
/-- The last one that says where. -/
def spotOf (L : List (Int × (Int × Int))) (v : Nat) : Int × Int := L.foldl (fun s p => if p.1 = (v : Int) then p.2 else s) (0, 0)
def aheadM (idom : Nat → Int) (n : Nat) (made used : Int × Int) : Bool := if made.1 = used.1 then decide (made.2 < used.2) else domM idom (n + 1) made.1 used.1
/-- What is used, and where. -/
def usesBlk (b : Nat) (x : Blk) : List (Int × (Int × Int)) := (x.instrs.zipIdx.flatMap fun p => (p.1.operands.filter fun o => o.kind == 1).map fun o => (o.value, ((b : Int), (p.2 : Int)))) ++ x.edges.flatMap fun e => e.args.map fun v => (v, ((b : Int), (x.instrs.length : Int)))
def usesAll (bs : List Blk) : List (Int × (Int × Int)) := bs.zipIdx.flatMap fun p => usesBlk p.2 p.1
def madeM (bs : List Blk) (idom : Nat → Int) : Bool := (usesAll bs).all fun p => aheadM idom bs.length (spotOf (spotsM bs) p.1.toNat) p.2

/-- A block that is entered, and all that leads to it. -/
def enterM (pred : Nat → List Int) : Nat → Nat → (Nat → Bool) → Nat → Bool
  | 0, _, s => s
  | k + 1, b, s => if s b then s else (pred b).foldl (fun s p => enterM pred k p.toNat s) (upB s b true)
def loopM (pred : Nat → List Int) (idom : Nat → Int) (n : Nat) (head : Nat) : Nat → Bool :=
  (pred head).foldl (fun s p => if domM idom (n + 1) head p then enterM pred (n + 1) p.toNat (upB s head true) else s) fun _ => false
def depthM (pred : Nat → List Int) (idom : Nat → Int) (n : Nat) (b : Nat) : Int := ((List.range n).countP fun h => loopM pred idom n h b : Nat)

def flowErr (f : Fn) (m0 m1 : Int) (k : Nat) : Int :=
  if shapeErr f m0 m1 ≠ 0 then shapeErr f m0 m1
  else if (orderM f.blocks).length < f.blocks.length then 16
  else if manyM f.blocks then 11
  else if madeM f.blocks (idomM f.blocks k) then 0 else 10
end Go.Proofs.Ytengmgdnpojfjaa
