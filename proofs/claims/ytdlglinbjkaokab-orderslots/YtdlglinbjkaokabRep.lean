/-
  Functions as plain data (Fn, Blk, Ins, Opr, Rg, Edg), and what it says that a Go value reads as such data in a world: slices by their cells.
-/
import Derived.Test.YtdlglinbjkaokabRows
import Derived.WalkKit
import Derived.Below
namespace Go.Proofs.Ytdlglinbjkaokab
open Go.RowKit
set_option linter.unusedVariables false

structure Opr where
  kind : Int
  value : Int
  late : Bool
  limit : Int
  n : Int
structure Rg where
  cls : Int
  n : Int
structure Ins where
  op : Int
  operands : List Opr
  spoils : List Rg
structure Edg where
  block : Int
  args : List Int
structure Blk where
  params : List Int
  instrs : List Ins
  edges : List Edg
structure Fn where
  values : List Int
  blocks : List Blk

/-- No slice of a program is longer than this. -/
def longest : Nat := 140737488355328

/-- The slice value v has the elements l, of k cells each; R says which cells an element has. -/
def SlOf {α : Type} (w : World) (k : Nat) (R : List Value → α → Prop) (v : Value) (l : List α) : Prop :=
  ∃ a cap, v = .slice a l.length cap ∧ l.length ≤ longest ∧
    (l = [] ∨ ∃ b off, a = some ⟨b, off, none⟩ ∧ ∀ i (h : i < l.length), ∃ cs : List Value, cs.length = k ∧ R cs l[i] ∧ ∀ j (hj : j < cs.length), w.cell? ⟨b, off + i * k + j, none⟩ = some cs[j])

def RInt (cs : List Value) (x : Int) : Prop := cs = [.int .i64 x]
def ROpr (cs : List Value) (o : Opr) : Prop := cs = [.int .i64 o.kind, .int .i64 o.value, .bool o.late, .int .i64 o.limit, .int .i64 o.n]
def RRg (cs : List Value) (r : Rg) : Prop := cs = [.int .i64 r.cls, .int .i64 r.n]
def RIns (w : World) (cs : List Value) (x : Ins) : Prop := ∃ vo vs, cs = [.int .i64 x.op, vo, vs] ∧ SlOf w 5 ROpr vo x.operands ∧ SlOf w 2 RRg vs x.spoils
def REdg (w : World) (cs : List Value) (e : Edg) : Prop := ∃ va, cs = [.int .i64 e.block, va] ∧ SlOf w 1 RInt va e.args
def RBlk (w : World) (cs : List Value) (b : Blk) : Prop := ∃ vp vi ve, cs = [vp, vi, ve] ∧ SlOf w 1 RInt vp b.params ∧ SlOf w 3 (RIns w) vi b.instrs ∧ SlOf w 2 (REdg w) ve b.edges
def RFn (w : World) (cs : List Value) (f : Fn) : Prop := ∃ vv vb, cs = [vv, vb] ∧ SlOf w 1 RInt vv f.values ∧ SlOf w 3 (RBlk w) vb f.blocks

theorem block_lt {w : World} {b o : Nat} {c : Value} (h : w.cell? ⟨b, o, none⟩ = some c) : b < w.heap.size := by
  rcases Nat.lt_or_ge b w.heap.size with h1 | h1
  · exact h1
  · simp [World.cell?, h1] at h

/-- What a slice reads as does not turn where old blocks don't. -/
theorem SlOf.below {α : Type} {w w' : World} {k : Nat} {R R' : List Value → α → Prop} {v : Value} {l : List α} (h : SlOf w k R v l) (hb : Below w.heap.size w w') (hR : ∀ cs x, R cs x → R' cs x) : SlOf w' k R' v l := by
  obtain ⟨a, cap, hv, hl, h⟩ := h
  refine ⟨a, cap, hv, hl, h.imp id ?_⟩
  rintro ⟨b, off, ha, h⟩
  refine ⟨b, off, ha, fun i hi => ?_⟩
  obtain ⟨cs, h1, h2, h3⟩ := h i hi
  refine ⟨cs, h1, hR _ _ h2, fun j hj => ?_⟩
  have := h3 j hj
  rw [hb.cell (p := ⟨b, off + i * k + j, none⟩) (block_lt this)]
  exact this

theorem RIns.below {w w' : World} (hb : Below w.heap.size w w') (cs : List Value) (x : Ins) (h : RIns w cs x) : RIns w' cs x := by
  obtain ⟨vo, vs, h1, h2, h3⟩ := h
  exact ⟨vo, vs, h1, h2.below hb fun _ _ h => h, h3.below hb fun _ _ h => h⟩
theorem REdg.below {w w' : World} (hb : Below w.heap.size w w') (cs : List Value) (x : Edg) (h : REdg w cs x) : REdg w' cs x := by
  obtain ⟨va, h1, h2⟩ := h
  exact ⟨va, h1, h2.below hb fun _ _ h => h⟩
theorem RBlk.below {w w' : World} (hb : Below w.heap.size w w') (cs : List Value) (x : Blk) (h : RBlk w cs x) : RBlk w' cs x := by
  obtain ⟨vp, vi, ve, h1, h2, h3, h4⟩ := h
  exact ⟨vp, vi, ve, h1, h2.below hb fun _ _ h => h, h3.below hb (RIns.below hb), h4.below hb (REdg.below hb)⟩
theorem RFn.below {w w' : World} (hb : Below w.heap.size w w') (cs : List Value) (x : Fn) (h : RFn w cs x) : RFn w' cs x := by
  obtain ⟨vv, vb, h1, h2, h3⟩ := h
  exact ⟨vv, vb, h1, h2.below hb fun _ _ h => h, h3.below hb (RBlk.below hb)⟩

/-- A slice value, written out; and its elements' cells. -/
theorem SlOf.out {α : Type} {w : World} {k : Nat} {R : List Value → α → Prop} {v : Value} {l : List α} (h : SlOf w k R v l) :
    ∃ a cap, v = .slice a l.length cap ∧ l.length ≤ longest := by
  obtain ⟨a, cap, hv, hl, _⟩ := h
  exact ⟨a, cap, hv, hl⟩

theorem SlOf.at {α : Type} {w : World} {k : Nat} {R : List Value → α → Prop} {a : Option Addr} {n cap : Nat} {l : List α} (h : SlOf w k R (.slice a n cap) l) (i : Nat) (hi : i < l.length) :
    ∃ b off cs, a = some ⟨b, off, none⟩ ∧ cs.length = k ∧ R cs l[i] ∧ ∀ j (hj : j < cs.length), w.cell? ⟨b, off + i * k + j, none⟩ = some cs[j] := by
  obtain ⟨a', cap', hv, hl, h⟩ := h
  rcases h with rfl | ⟨b, off, ha, h⟩
  · simp at hi
  · obtain ⟨cs, h1, h2, h3⟩ := h i hi
    simp only [Value.slice.injEq] at hv
    exact ⟨b, off, cs, hv.1.trans ha, h1, h2, h3⟩

/-- The operand o lies in block b. -/
def OprAt (w : World) (b : Nat) (o : Opr) : Prop :=
  b < w.heap.size ∧ w.cell? ⟨b, 0, none⟩ = some (.int .i64 o.kind) ∧ w.cell? ⟨b, 1, none⟩ = some (.int .i64 o.value) ∧ w.cell? ⟨b, 2, none⟩ = some (.bool o.late) ∧ w.cell? ⟨b, 3, none⟩ = some (.int .i64 o.limit) ∧ w.cell? ⟨b, 4, none⟩ = some (.int .i64 o.n)
theorem OprAt.below {w w' : World} {b B : Nat} {o : Opr} (h : OprAt w b o) (hb : Below B w w') (hB : b < B) : OprAt w' b o := by
  obtain ⟨h0, h1, h2, h3, h4, h5⟩ := h
  exact ⟨Nat.lt_of_lt_of_le h0 hb.size, (hb.cell hB).trans h1, (hb.cell hB).trans h2, (hb.cell hB).trans h3, (hb.cell hB).trans h4, (hb.cell hB).trans h5⟩
/-- A checker lies in block b. -/
def ChkAt (w : World) (b : Nat) (vv vb : Value) (m0 m1 : Int) : Prop :=
  b < w.heap.size ∧ w.cell? ⟨b, 0, none⟩ = some vv ∧ w.cell? ⟨b, 1, none⟩ = some vb ∧ w.cell? ⟨b, 2, none⟩ = some (.int .i64 m0) ∧ w.cell? ⟨b, 3, none⟩ = some (.int .i64 m1)
theorem ChkAt.below {w w' : World} {b B : Nat} {vv vb : Value} {m0 m1 : Int} (h : ChkAt w b vv vb m0 m1) (hb : Below B w w') (hB : b < B) : ChkAt w' b vv vb m0 m1 := by
  obtain ⟨h0, h1, h2, h3, h4⟩ := h
  exact ⟨Nat.lt_of_lt_of_le h0 hb.size, (hb.cell hB).trans h1, (hb.cell hB).trans h2, (hb.cell hB).trans h3, (hb.cell hB).trans h4⟩
/-- A register lies in block b. -/
def RegAt (w : World) (b : Nat) (c n : Int) : Prop :=
  b < w.heap.size ∧ w.cell? ⟨b, 0, none⟩ = some (.int .i64 c) ∧ w.cell? ⟨b, 1, none⟩ = some (.int .i64 n)
theorem RegAt.below {w w' : World} {b B : Nat} {c n : Int} (h : RegAt w b c n) (hb : Below B w w') (hB : b < B) : RegAt w' b c n := by
  obtain ⟨h0, h1, h2⟩ := h
  exact ⟨Nat.lt_of_lt_of_le h0 hb.size, (hb.cell hB).trans h1, (hb.cell hB).trans h2⟩
/-- An instruction lies in block b. -/
def InsAt (w : World) (b : Nat) (op : Int) (vo vs : Value) : Prop :=
  b < w.heap.size ∧ w.cell? ⟨b, 0, none⟩ = some (.int .i64 op) ∧ w.cell? ⟨b, 1, none⟩ = some vo ∧ w.cell? ⟨b, 2, none⟩ = some vs
theorem InsAt.below {w w' : World} {b B : Nat} {op : Int} {vo vs : Value} (h : InsAt w b op vo vs) (hb : Below B w w') (hB : b < B) : InsAt w' b op vo vs := by
  obtain ⟨h0, h1, h2, h3⟩ := h
  exact ⟨Nat.lt_of_lt_of_le h0 hb.size, (hb.cell hB).trans h1, (hb.cell hB).trans h2, (hb.cell hB).trans h3⟩
/-- Three values lie in block b. -/
def BlkAt (w : World) (b : Nat) (v0 v1 v2 : Value) : Prop :=
  b < w.heap.size ∧ w.cell? ⟨b, 0, none⟩ = some v0 ∧ w.cell? ⟨b, 1, none⟩ = some v1 ∧ w.cell? ⟨b, 2, none⟩ = some v2
theorem BlkAt.below {w w' : World} {b B : Nat} {v0 v1 v2 : Value} (h : BlkAt w b v0 v1 v2) (hb : Below B w w') (hB : b < B) : BlkAt w' b v0 v1 v2 := by
  obtain ⟨h0, h1, h2, h3⟩ := h
  exact ⟨Nat.lt_of_lt_of_le h0 hb.size, (hb.cell hB).trans h1, (hb.cell hB).trans h2, (hb.cell hB).trans h3⟩
/-- Two values lie in block b. -/
def TwoAt (w : World) (b : Nat) (v0 v1 : Value) : Prop :=
  b < w.heap.size ∧ w.cell? ⟨b, 0, none⟩ = some v0 ∧ w.cell? ⟨b, 1, none⟩ = some v1
theorem TwoAt.below {w w' : World} {b B : Nat} {v0 v1 : Value} (h : TwoAt w b v0 v1) (hb : Below B w w') (hB : b < B) : TwoAt w' b v0 v1 := by
  obtain ⟨h0, h1, h2⟩ := h
  exact ⟨Nat.lt_of_lt_of_le h0 hb.size, (hb.cell hB).trans h1, (hb.cell hB).trans h2⟩

theorem old_cell (b : Nat) : ∀ (W : World) (ob : Obj) (off : Nat), b < W.heap.size → (W.alloc ob).cell? ⟨b, off, none⟩ = W.cell? ⟨b, off, none⟩ := fun _ _ _ h => World.cell?_alloc_lt _ _ _ h
end Go.Proofs.Ytdlglinbjkaokab
