/-
  Outputs as plain data (Pl, Mv, Ed), what it says that a Go value reads as such data in a world, and which of them may be (P5.1, P5.2). No Go in here but how values are read.
-/
import Derived.Test.YtjbjnndmpheedaaF5
namespace Go.Proofs.Ytjbjnndmpheedaa
open Go.RowKit
set_option linter.unusedVariables false

structure Pl where
  kind : Int
  cls : Int
  n : Int
structure Mv where
  src : Pl
  dst : Pl
structure Ed where
  block : Int
  pos : Int
  moves : List Mv

def plV (p : Pl) : List Value := [.int .i64 p.kind, .int .i64 p.cls, .int .i64 p.n]
def RPl (cs : List Value) (p : Pl) : Prop := cs = [.int .i64 p.kind, .int .i64 p.cls, .int .i64 p.n]
def RMv (cs : List Value) (m : Mv) : Prop := cs = [.int .i64 m.src.kind, .int .i64 m.src.cls, .int .i64 m.src.n, .int .i64 m.dst.kind, .int .i64 m.dst.cls, .int .i64 m.dst.n]
def REd (w : World) (cs : List Value) (e : Ed) : Prop := ∃ vm, cs = [.int .i64 e.block, .int .i64 e.pos, vm] ∧ SlOf w 6 RMv vm e.moves
def RPs (w : World) (cs : List Value) (l : List Pl) : Prop := ∃ v, cs = [v] ∧ SlOf w 3 RPl v l
def RPss (w : World) (cs : List Value) (l : List (List Pl)) : Prop := ∃ v, cs = [v] ∧ SlOf w 1 (RPs w) v l
theorem REd.below {w w' : World} (hb : Below w.heap.size w w') (cs : List Value) (x : Ed) (h : REd w cs x) : REd w' cs x := by
  obtain ⟨va, h1, h2⟩ := h
  exact ⟨va, h1, h2.below hb fun _ _ h => h⟩
theorem RPs.below {w w' : World} (hb : Below w.heap.size w w') (cs : List Value) (x : List Pl) (h : RPs w cs x) : RPs w' cs x := by
  obtain ⟨va, h1, h2⟩ := h
  exact ⟨va, h1, h2.below hb fun _ _ h => h⟩
theorem RPss.below {w w' : World} (hb : Below w.heap.size w w') (cs : List Value) (x : List (List Pl)) (h : RPss w cs x) : RPss w' cs x := by
  obtain ⟨va, h1, h2⟩ := h
  exact ⟨va, h1, h2.below hb (RPs.below hb)⟩

def isRegB (p : Pl) (r0 r1 : Int) : Bool := decide (p.kind = 1) && isClassB p.cls && decide (0 ≤ p.n) && decide (p.n < regsOf r0 r1 p.cls)
def isSlotB (p : Pl) (fr : Int) : Bool := decide (p.kind = 2) && decide (p.cls = 0) && decide (0 ≤ p.n) && decide (p.n < fr)
def holdB (m0 m1 fr : Int) (p : Pl) : Bool := isRegB p m0 m1 || isSlotB p fr
def moveB (m0 m1 fr : Int) (p : Pl) : Bool := isRegB p (m0 + 1) (m1 + 1) || isSlotB p fr
def mvErr (m0 m1 fr : Int) (v : Mv) : Int :=
  if (moveB m0 m1 fr v.src && moveB m0 m1 fr v.dst) = true then (if v.src.kind ≠ v.dst.kind then 0 else if v.src.kind = 2 then 13 else if v.src.cls ≠ v.dst.cls then 17 else 0) else 2
def insPlErr (m0 m1 fr : Int) (p : Ins × List Pl) : Int := if p.2.length ≠ p.1.operands.length then 4 else if p.2.all (holdB m0 m1 fr) = true then 0 else 2
def blkPlErr (m0 m1 fr : Int) (p : Blk × List (List Pl)) : Int := if p.2.length ≠ p.1.instrs.length then 4 else firstE (insPlErr m0 m1 fr) (p.1.instrs.zip p.2)
def placesErr (m0 m1 fr : Int) (bs : List Blk) (pl : List (List (List Pl))) : Int := if pl.length ≠ bs.length then 4 else firstE (blkPlErr m0 m1 fr) (bs.zip pl)
def isSpotB (bs : List Blk) (e : Ed) : Bool := decide (0 ≤ e.block ∧ e.block < (bs.length : Int)) && decide (0 ≤ e.pos ∧ e.pos ≤ ((bs.getD e.block.toNat ⟨[], [], []⟩).instrs.length : Int))
def behindB (e p : Ed) : Bool := if e.block = p.block then decide (p.pos < e.pos) else decide (p.block < e.block)
def prevOf (l : List Ed) (i : Nat) : Option Ed := if i = 0 then none else l[i - 1]?
def nextB (prev : Option Ed) (e : Ed) : Bool := match prev with | none => true | some p => behindB e p
def edErr (m0 m1 fr : Int) (bs : List Blk) (prev : Option Ed) (tot : Int) (e : Ed) : Int :=
  if isSpotB bs e = false then 2
  else if nextB prev e = false then 4
  else if 20000 < tot + (e.moves.length : Int) then 1
  else firstE (mvErr m0 m1 fr) e.moves
def editsGo (m0 m1 fr : Int) (bs : List Blk) : Option Ed → Int → List Ed → Int
  | _, _, [] => 0
  | prev, tot, e :: r => if edErr m0 m1 fr bs prev tot e = 0 then editsGo m0 m1 fr bs (some e) (tot + (e.moves.length : Int)) r else edErr m0 m1 fr bs prev tot e
def editsErr (m0 m1 fr : Int) (bs : List Blk) (l : List Ed) : Int := editsGo m0 m1 fr bs none 0 l
theorem editsGo_at {m0 m1 fr : Int} {bs : List Blk} {l : List Ed} {i : Nat} {tot : Int} (h : i < l.length) :
    editsGo m0 m1 fr bs (prevOf l i) tot (l.drop i) = if edErr m0 m1 fr bs (prevOf l i) tot l[i] = 0 then editsGo m0 m1 fr bs (prevOf l (i + 1)) (tot + (l[i].moves.length : Int)) (l.drop (i + 1)) else edErr m0 m1 fr bs (prevOf l i) tot l[i] := by
  have e : prevOf l (i + 1) = some l[i] := by
    unfold prevOf
    rw [if_neg (by omega)]
    simp [h]
  rw [List.drop_eq_getElem_cons h, editsGo, e]
theorem prevOf_pos {l : List Ed} {i : Nat} (h : 0 < i) (hi : i - 1 < l.length) : prevOf l i = some l[i - 1] := by
  unfold prevOf
  rw [if_neg (by omega)]
  simp [hi]
def machE (f : Fn) (m0 m1 : Int) (pl : List (List (List Pl))) (eds : List Ed) (fr : Int) (K : Nat) : Int :=
  if flowE f m0 m1 K ≠ 0 then flowE f m0 m1 K
  else if ¬ (0 ≤ fr ∧ fr ≤ 1000) then 1
  else if placesErr m0 m1 fr f.blocks pl ≠ 0 then placesErr m0 m1 fr f.blocks pl
  else editsErr m0 m1 fr f.blocks eds
end Go.Proofs.Ytjbjnndmpheedaa
