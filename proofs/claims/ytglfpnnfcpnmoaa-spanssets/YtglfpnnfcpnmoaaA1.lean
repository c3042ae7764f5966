/-
  Functions as plain data (Fn, Blk, Ins, Opr, Rg, Edg), and what it says that a Go value reads as such data in a world: slices by their cells.
  The contracts of 'picked', 'CheckMachine', 'In' and 'MachineFault': what each answers, for all arguments that are given; none writes to what was there.
  The contracts of 'Meet' and of the statement's own 'operand': what each answers, for all arguments; none writes to what was there.
  The contracts of 'isClass', 'isValue', 'givable', 'behind' and 'reuses': what each answers; none writes to what was there.
  The contracts of 'blockFits' and 'sizesFit': what each answers of whatever block or function; neither writes to what was there.
  The contract of 'checker.operand': which error an operand by itself has (P1.4), for whatever values, machine and operand.
  The contract of 'checker.reuse': which error a Reuse has by what it names (P1.4), where all operands' values are there.
  The contract of 'checker.spoils': which error a list of spoils has (P1.5), for whatever machine and list.
  The contract of 'checker.fixed': the fixed register of an operand (P1.6), and whether it has one.
  The contracts of 'slices.Index' and 'slices.Contains' at registers: whether a list has one.
-/
import Derived.Test.YtglfpnnfcpnmoaaRows
import Derived.WalkKit
import Derived.Below
import Derived.WalkSpells
import Derived.WalkLawsBesides
import Derived.Deep.RegionHeld3
import Derived.Deep.QuietTactic
import Derived.BigQuiet
import Derived.BigRegion
namespace Go.Proofs.Ytglfpnnfcpnmoaa
open Go.RowKit
set_option linter.unusedVariables false

structure Opr where
  kind : Int
  value : Int
  late : Bool
  limit : Int
  n : Int
structure Rg where
  cls : Int
  n : Int
structure Ins where
  op : Int
  operands : List Opr
  spoils : List Rg
structure Edg where
  block : Int
  args : List Int
structure Blk where
  params : List Int
  instrs : List Ins
  edges : List Edg
structure Fn where
  values : List Int
  blocks : List Blk

/-- No slice of a program is longer than this. -/
def longest : Nat := 140737488355328

/-- The slice value v has the elements l, of k cells each; R says which cells an element has. -/
def SlOf {α : Type} (w : World) (k : Nat) (R : List Value → α → Prop) (v : Value) (l : List α) : Prop :=
  ∃ a cap, v = .slice a l.length cap ∧ l.length ≤ longest ∧
    (l = [] ∨ ∃ b off, a = some ⟨b, off, none⟩ ∧ ∀ i (h : i < l.length), ∃ cs : List Value, cs.length = k ∧ R cs l[i] ∧ ∀ j (hj : j < cs.length), w.cell? ⟨b, off + i * k + j, none⟩ = some cs[j])

def RInt (cs : List Value) (x : Int) : Prop := cs = [.int .i64 x]
def ROpr (cs : List Value) (o : Opr) : Prop := cs = [.int .i64 o.kind, .int .i64 o.value, .bool o.late, .int .i64 o.limit, .int .i64 o.n]
def RRg (cs : List Value) (r : Rg) : Prop := cs = [.int .i64 r.cls, .int .i64 r.n]
def RIns (w : World) (cs : List Value) (x : Ins) : Prop := ∃ vo vs, cs = [.int .i64 x.op, vo, vs] ∧ SlOf w 5 ROpr vo x.operands ∧ SlOf w 2 RRg vs x.spoils
def REdg (w : World) (cs : List Value) (e : Edg) : Prop := ∃ va, cs = [.int .i64 e.block, va] ∧ SlOf w 1 RInt va e.args
def RBlk (w : World) (cs : List Value) (b : Blk) : Prop := ∃ vp vi ve, cs = [vp, vi, ve] ∧ SlOf w 1 RInt vp b.params ∧ SlOf w 3 (RIns w) vi b.instrs ∧ SlOf w 2 (REdg w) ve b.edges
def RFn (w : World) (cs : List Value) (f : Fn) : Prop := ∃ vv vb, cs = [vv, vb] ∧ SlOf w 1 RInt vv f.values ∧ SlOf w 3 (RBlk w) vb f.blocks

theorem block_lt {w : World} {b o : Nat} {c : Value} (h : w.cell? ⟨b, o, none⟩ = some c) : b < w.heap.size := by
  rcases Nat.lt_or_ge b w.heap.size with h1 | h1
  · exact h1
  · simp [World.cell?, h1] at h

/-- What a slice reads as does not turn where old blocks don't. -/
theorem SlOf.below {α : Type} {w w' : World} {k : Nat} {R R' : List Value → α → Prop} {v : Value} {l : List α} (h : SlOf w k R v l) (hb : Below w.heap.size w w') (hR : ∀ cs x, R cs x → R' cs x) : SlOf w' k R' v l := by
  obtain ⟨a, cap, hv, hl, h⟩ := h
  refine ⟨a, cap, hv, hl, h.imp id ?_⟩
  rintro ⟨b, off, ha, h⟩
  refine ⟨b, off, ha, fun i hi => ?_⟩
  obtain ⟨cs, h1, h2, h3⟩ := h i hi
  refine ⟨cs, h1, hR _ _ h2, fun j hj => ?_⟩
  have := h3 j hj
  rw [hb.cell (p := ⟨b, off + i * k + j, none⟩) (block_lt this)]
  exact this

theorem RIns.below {w w' : World} (hb : Below w.heap.size w w') (cs : List Value) (x : Ins) (h : RIns w cs x) : RIns w' cs x := by
  obtain ⟨vo, vs, h1, h2, h3⟩ := h
  exact ⟨vo, vs, h1, h2.below hb fun _ _ h => h, h3.below hb fun _ _ h => h⟩
theorem REdg.below {w w' : World} (hb : Below w.heap.size w w') (cs : List Value) (x : Edg) (h : REdg w cs x) : REdg w' cs x := by
  obtain ⟨va, h1, h2⟩ := h
  exact ⟨va, h1, h2.below hb fun _ _ h => h⟩
theorem RBlk.below {w w' : World} (hb : Below w.heap.size w w') (cs : List Value) (x : Blk) (h : RBlk w cs x) : RBlk w' cs x := by
  obtain ⟨vp, vi, ve, h1, h2, h3, h4⟩ := h
  exact ⟨vp, vi, ve, h1, h2.below hb fun _ _ h => h, h3.below hb (RIns.below hb), h4.below hb (REdg.below hb)⟩
theorem RFn.below {w w' : World} (hb : Below w.heap.size w w') (cs : List Value) (x : Fn) (h : RFn w cs x) : RFn w' cs x := by
  obtain ⟨vv, vb, h1, h2, h3⟩ := h
  exact ⟨vv, vb, h1, h2.below hb fun _ _ h => h, h3.below hb (RBlk.below hb)⟩

/-- A slice value, written out; and its elements' cells. -/
theorem SlOf.out {α : Type} {w : World} {k : Nat} {R : List Value → α → Prop} {v : Value} {l : List α} (h : SlOf w k R v l) :
    ∃ a cap, v = .slice a l.length cap ∧ l.length ≤ longest := by
  obtain ⟨a, cap, hv, hl, _⟩ := h
  exact ⟨a, cap, hv, hl⟩

theorem SlOf.at {α : Type} {w : World} {k : Nat} {R : List Value → α → Prop} {a : Option Addr} {n cap : Nat} {l : List α} (h : SlOf w k R (.slice a n cap) l) (i : Nat) (hi : i < l.length) :
    ∃ b off cs, a = some ⟨b, off, none⟩ ∧ cs.length = k ∧ R cs l[i] ∧ ∀ j (hj : j < cs.length), w.cell? ⟨b, off + i * k + j, none⟩ = some cs[j] := by
  obtain ⟨a', cap', hv, hl, h⟩ := h
  rcases h with rfl | ⟨b, off, ha, h⟩
  · simp at hi
  · obtain ⟨cs, h1, h2, h3⟩ := h i hi
    simp only [Value.slice.injEq] at hv
    exact ⟨b, off, cs, hv.1.trans ha, h1, h2, h3⟩

/-- The operand o lies in block b. -/
def OprAt (w : World) (b : Nat) (o : Opr) : Prop :=
  b < w.heap.size ∧ w.cell? ⟨b, 0, none⟩ = some (.int .i64 o.kind) ∧ w.cell? ⟨b, 1, none⟩ = some (.int .i64 o.value) ∧ w.cell? ⟨b, 2, none⟩ = some (.bool o.late) ∧ w.cell? ⟨b, 3, none⟩ = some (.int .i64 o.limit) ∧ w.cell? ⟨b, 4, none⟩ = some (.int .i64 o.n)
theorem OprAt.below {w w' : World} {b B : Nat} {o : Opr} (h : OprAt w b o) (hb : Below B w w') (hB : b < B) : OprAt w' b o := by
  obtain ⟨h0, h1, h2, h3, h4, h5⟩ := h
  exact ⟨Nat.lt_of_lt_of_le h0 hb.size, (hb.cell hB).trans h1, (hb.cell hB).trans h2, (hb.cell hB).trans h3, (hb.cell hB).trans h4, (hb.cell hB).trans h5⟩
/-- A checker lies in block b. -/
def ChkAt (w : World) (b : Nat) (vv vb : Value) (m0 m1 : Int) : Prop :=
  b < w.heap.size ∧ w.cell? ⟨b, 0, none⟩ = some vv ∧ w.cell? ⟨b, 1, none⟩ = some vb ∧ w.cell? ⟨b, 2, none⟩ = some (.int .i64 m0) ∧ w.cell? ⟨b, 3, none⟩ = some (.int .i64 m1)
theorem ChkAt.below {w w' : World} {b B : Nat} {vv vb : Value} {m0 m1 : Int} (h : ChkAt w b vv vb m0 m1) (hb : Below B w w') (hB : b < B) : ChkAt w' b vv vb m0 m1 := by
  obtain ⟨h0, h1, h2, h3, h4⟩ := h
  exact ⟨Nat.lt_of_lt_of_le h0 hb.size, (hb.cell hB).trans h1, (hb.cell hB).trans h2, (hb.cell hB).trans h3, (hb.cell hB).trans h4⟩
/-- A register lies in block b. -/
def RegAt (w : World) (b : Nat) (c n : Int) : Prop :=
  b < w.heap.size ∧ w.cell? ⟨b, 0, none⟩ = some (.int .i64 c) ∧ w.cell? ⟨b, 1, none⟩ = some (.int .i64 n)
theorem RegAt.below {w w' : World} {b B : Nat} {c n : Int} (h : RegAt w b c n) (hb : Below B w w') (hB : b < B) : RegAt w' b c n := by
  obtain ⟨h0, h1, h2⟩ := h
  exact ⟨Nat.lt_of_lt_of_le h0 hb.size, (hb.cell hB).trans h1, (hb.cell hB).trans h2⟩
/-- An instruction lies in block b. -/
def InsAt (w : World) (b : Nat) (op : Int) (vo vs : Value) : Prop :=
  b < w.heap.size ∧ w.cell? ⟨b, 0, none⟩ = some (.int .i64 op) ∧ w.cell? ⟨b, 1, none⟩ = some vo ∧ w.cell? ⟨b, 2, none⟩ = some vs
theorem InsAt.below {w w' : World} {b B : Nat} {op : Int} {vo vs : Value} (h : InsAt w b op vo vs) (hb : Below B w w') (hB : b < B) : InsAt w' b op vo vs := by
  obtain ⟨h0, h1, h2, h3⟩ := h
  exact ⟨Nat.lt_of_lt_of_le h0 hb.size, (hb.cell hB).trans h1, (hb.cell hB).trans h2, (hb.cell hB).trans h3⟩
/-- Three values lie in block b. -/
def BlkAt (w : World) (b : Nat) (v0 v1 v2 : Value) : Prop :=
  b < w.heap.size ∧ w.cell? ⟨b, 0, none⟩ = some v0 ∧ w.cell? ⟨b, 1, none⟩ = some v1 ∧ w.cell? ⟨b, 2, none⟩ = some v2
theorem BlkAt.below {w w' : World} {b B : Nat} {v0 v1 v2 : Value} (h : BlkAt w b v0 v1 v2) (hb : Below B w w') (hB : b < B) : BlkAt w' b v0 v1 v2 := by
  obtain ⟨h0, h1, h2, h3⟩ := h
  exact ⟨Nat.lt_of_lt_of_le h0 hb.size, (hb.cell hB).trans h1, (hb.cell hB).trans h2, (hb.cell hB).trans h3⟩
/-- Two values lie in block b. -/
def TwoAt (w : World) (b : Nat) (v0 v1 : Value) : Prop :=
  b < w.heap.size ∧ w.cell? ⟨b, 0, none⟩ = some v0 ∧ w.cell? ⟨b, 1, none⟩ = some v1
theorem TwoAt.below {w w' : World} {b B : Nat} {v0 v1 : Value} (h : TwoAt w b v0 v1) (hb : Below B w w') (hB : b < B) : TwoAt w' b v0 v1 := by
  obtain ⟨h0, h1, h2⟩ := h
  exact ⟨Nat.lt_of_lt_of_le h0 hb.size, (hb.cell hB).trans h1, (hb.cell hB).trans h2⟩

theorem old_cell (b : Nat) : ∀ (W : World) (ob : Obj) (off : Nat), b < W.heap.size → (W.alloc ob).cell? ⟨b, off, none⟩ = W.cell? ⟨b, off, none⟩ := fun _ _ _ h => World.cell?_alloc_lt _ _ _ h
end Go.Proofs.Ytglfpnnfcpnmoaa
namespace Go.Proofs.Ytglfpnnfcpnmoaa
open Go.RowKit
set_option linter.unusedVariables false

def machErr (x y : Int) : Int := if 2 ≤ x ∧ x ≤ 10 ∧ 2 ≤ y ∧ y ≤ 10 then 0 else 2

def pickedOf (n many : Int) : Int := if n < 0 then (-(n + 1)) % many else n % many

theorem pickedOf_bd (n many : Int) (h0 : 0 < many) : 0 ≤ pickedOf n many ∧ pickedOf n many < many := by
  unfold pickedOf
  split
  · exact ⟨Int.emod_nonneg _ (by omega), Int.emod_lt_of_pos _ h0⟩
  · exact ⟨Int.emod_nonneg _ (by omega), Int.emod_lt_of_pos _ h0⟩

theorem ret_int {k : IntKind} {a b : Int} (h : a = b) : Ending.returned (.int k a) = .returned (.int k b) := by rw [h]

theorem ret_bool {a b : Bool} (h : a = b) : Ending.returned (.bool a) = .returned (.bool b) := by rw [h]

theorem picked_any (n many : Int) (w : World) (hn : -9223372036854775808 ≤ n) (hn' : n ≤ 9223372036854775807) (h0 : 0 < many) (h1 : many ≤ 4611686018427387904) :
    Calls Try.prog 12 #[.int .i64 n, .int .i64 many] w fun e w' => e = .returned (.int .i64 (pickedOf n many)) ∧ w' = w := by
  by_cases h : n < 0
  · have e : pickedOf n many = -(n + 1).tmod many := by
      unfold pickedOf
      rw [if_pos h]
      rw [← Int.neg_tmod]
      exact (Int.tmod_eq_emod_of_nonneg (by omega)).symm
    have E : Hid (pickedOf n many = -(n + 1).tmod many) := e
    clear e
    go_enter Try.func12, Try.ntmps12
    go_wp2
    go_ret
    exact ⟨ret_int E.out.symm, rfl⟩
  · have e : pickedOf n many = n % many := by unfold pickedOf; rw [if_neg h]
    have E : Hid (pickedOf n many = n % many) := e
    clear e
    go_enter Try.func12, Try.ntmps12
    go_wp2
    go_ret
    exact ⟨ret_int E.out.symm, rfl⟩

theorem checkMachine_any (x y : Int) (w : World) :
    Calls Try.prog 43 #[.agg #[.int .i64 x, .int .i64 y]] w fun e w' => e = .returned (.int .i64 (machErr x y)) ∧ Below w.heap.size w w' := by
  have i0 : ∀ w : World, (Instr.index 23 (.agg #[.int .i64 x, .int .i64 y]) (.int .i64 0)).run Try.prog w = .ok (.int .i64 x) w := fun _ => by kernel_rfl
  have i1 : ∀ w : World, (Instr.index 23 (.agg #[.int .i64 x, .int .i64 y]) (.int .i64 1)).run Try.prog w = .ok (.int .i64 y) w := fun _ => by kernel_rfl
  have hx : x < 2 ∨ 10 < x ∨ (2 ≤ x ∧ x ≤ 10) := by omega
  have hy : y < 2 ∨ 10 < y ∨ (2 ≤ y ∧ y ≤ 10) := by omega
  have hb : Below w.heap.size w (w.alloc (.cells #[.int .i64 x, .int .i64 y] 25)) := (Below.refl _ _).alloc (Nat.le_refl _) _
  rcases hx with hx | hx | ⟨hx, hx'⟩
  · have E : Hid (2 = machErr x y) := by show 2 = machErr x y; unfold machErr; rw [if_neg (by omega)]
    clear hy
    go_enter Try.func43, Try.ntmps43
    go_wp2
    refine wp_loop_rounds 3 ?_
    rw [rounds_succ]
    go_wp2
    go_ret
    exact ⟨ret_int E.out, hb⟩
  · have E : Hid (2 = machErr x y) := by show 2 = machErr x y; unfold machErr; rw [if_neg (by omega)]
    clear hy
    go_enter Try.func43, Try.ntmps43
    go_wp2
    refine wp_loop_rounds 3 ?_
    rw [rounds_succ]
    go_wp2
    go_ret
    exact ⟨ret_int E.out, hb⟩
  · rcases hy with hy | hy | ⟨hy, hy'⟩
    · have E : Hid (2 = machErr x y) := by show 2 = machErr x y; unfold machErr; rw [if_neg (by omega)]
      go_enter Try.func43, Try.ntmps43
      go_wp2
      refine wp_loop_rounds 3 ?_
      rw [rounds_succ]
      go_wp2
      rw [rounds_succ]
      go_wp2
      go_ret
      exact ⟨ret_int E.out, hb⟩
    · have E : Hid (2 = machErr x y) := by show 2 = machErr x y; unfold machErr; rw [if_neg (by omega)]
      go_enter Try.func43, Try.ntmps43
      go_wp2
      refine wp_loop_rounds 3 ?_
      rw [rounds_succ]
      go_wp2
      rw [rounds_succ]
      go_wp2
      go_ret
      exact ⟨ret_int E.out, hb⟩
    · have E : Hid (0 = machErr x y) := by show 0 = machErr x y; unfold machErr; rw [if_pos (by omega)]
      go_enter Try.func43, Try.ntmps43
      go_wp2
      refine wp_loop_rounds 3 ?_
      rw [rounds_succ]
      go_wp2
      rw [rounds_succ]
      go_wp2
      rw [rounds_succ]
      go_wp2
      go_ret
      exact ⟨ret_int E.out, hb⟩

end Go.Proofs.Ytglfpnnfcpnmoaa
namespace Go.Proofs.Ytglfpnnfcpnmoaa
open Go.RowKit
set_option linter.unusedVariables false

def meetB (k1 v1 : Int) (l1 : Bool) (k2 v2 : Int) (l2 : Bool) : Bool :=
  if k1 = 1 ∧ k2 = 1 then v1 != v2 else if k1 = 2 ∧ k2 = 2 then true else if k1 = 1 ∧ k2 = 2 then l1 || !l2 else if k1 = 2 ∧ k2 = 1 then l2 || !l1 else false

theorem meetB_comm (k1 v1 : Int) (l1 : Bool) (k2 v2 : Int) (l2 : Bool) : meetB k1 v1 l1 k2 v2 l2 = meetB k2 v2 l2 k1 v1 l1 := by
  unfold meetB
  by_cases a : k1 = 1
  · subst a
    by_cases b : k2 = 1
    · subst b
      rw [Bool.eq_iff_iff]
      simp
      omega
    · by_cases c : k2 = 2
      · subst c; simp
      · simp [b, c]
  · by_cases b : k1 = 2
    · subst b
      by_cases c : k2 = 1
      · subst c; simp
      · by_cases d : k2 = 2
        · subst d; simp
        · simp [c, d]
    · simp [a, b]

abbrev operV (k v : Int) (l : Bool) (lim n : Int) : Value := .agg #[.int .i64 k, .int .i64 v, .bool l, .int .i64 lim, .int .i64 n]
abbrev operCells (k v : Int) (l : Bool) (lim n : Int) : Array Value := #[.int .i64 k, .int .i64 v, .bool l, .int .i64 lim, .int .i64 n]


theorem meet_exact (k1 v1 : Int) (l1 : Bool) (m1 n1 k2 v2 : Int) (l2 : Bool) (m2 n2 : Int) (w : World) :
    Calls Try.prog 72 #[operV k1 v1 l1 m1 n1, operV k2 v2 l2 m2 n2] w fun e w' => e = .returned (.bool (meetB k1 v1 l1 k2 v2 l2)) ∧ w' = (w.alloc (.cells (operCells k1 v1 l1 m1 n1) 46)).alloc (.cells (operCells k2 v2 l2 m2 n2) 46) := by
  by_cases a : k1 = 1
  · subst a
    by_cases b : k2 = 1
    · subst b
      have E : Hid ((v1 != v2) = meetB 1 v1 l1 1 v2 l2) := by show _ = _; simp [meetB]
      go_enter Try.func72, Try.ntmps72
      go_wp2
      go_ret
      exact ⟨ret_bool E.out, rfl⟩
    · by_cases c : k2 = 2
      · subst c
        have E : Hid ((l1 || !l2) = meetB 1 v1 l1 2 v2 l2) := by show _ = _; simp [meetB]
        cases l1
        · go_enter Try.func72, Try.ntmps72
          go_wp2
          go_ret
          exact ⟨ret_bool (by rw [← E.out]; simp), rfl⟩
        · go_enter Try.func72, Try.ntmps72
          go_wp2
          go_ret
          exact ⟨ret_bool (by rw [← E.out]; simp), rfl⟩
      · have E : Hid (false = meetB 1 v1 l1 k2 v2 l2) := by show _ = _; simp [meetB, b, c]
        have b' : (k2 == 1) = false := by simpa using b
        have c' : (k2 == 2) = false := by simpa using c
        clear b c
        go_enter Try.func72, Try.ntmps72
        go_wp2
        go_ret
        exact ⟨ret_bool E.out, rfl⟩
  · by_cases b : k1 = 2
    · subst b
      by_cases c : k2 = 2
      · subst c
        have E : Hid (true = meetB 2 v1 l1 2 v2 l2) := by show _ = _; simp [meetB]
        go_enter Try.func72, Try.ntmps72
        go_wp2
        go_ret
        exact ⟨ret_bool E.out, rfl⟩
      · by_cases d : k2 = 1
        · subst d
          have E : Hid ((l2 || !l1) = meetB 2 v1 l1 1 v2 l2) := by show _ = _; simp [meetB]
          cases l2
          · go_enter Try.func72, Try.ntmps72
            go_wp2
            go_ret
            exact ⟨ret_bool (by rw [← E.out]; simp), rfl⟩
          · go_enter Try.func72, Try.ntmps72
            go_wp2
            go_ret
            exact ⟨ret_bool (by rw [← E.out]; simp), rfl⟩
        · have E : Hid (false = meetB 2 v1 l1 k2 v2 l2) := by show _ = _; simp [meetB, c, d]
          have b' : (k2 == 1) = false := by simpa using d
          have c' : (k2 == 2) = false := by simpa using c
          clear c d
          go_enter Try.func72, Try.ntmps72
          go_wp2
          go_ret
          exact ⟨ret_bool E.out, rfl⟩
    · have E : Hid (false = meetB k1 v1 l1 k2 v2 l2) := by show _ = _; simp [meetB, a, b]
      have a' : (k1 == 1) = false := by simpa using a
      have b' : (k1 == 2) = false := by simpa using b
      clear a b
      go_enter Try.func72, Try.ntmps72
      go_wp2
      go_ret
      exact ⟨ret_bool E.out, rfl⟩
theorem meet_any (k1 v1 : Int) (l1 : Bool) (m1 n1 k2 v2 : Int) (l2 : Bool) (m2 n2 : Int) (w : World) :
    Calls Try.prog 72 #[operV k1 v1 l1 m1 n1, operV k2 v2 l2 m2 n2] w fun e w' => e = .returned (.bool (meetB k1 v1 l1 k2 v2 l2)) ∧ Below w.heap.size w w' := by
  refine (meet_exact k1 v1 l1 m1 n1 k2 v2 l2 m2 n2 w).mono ?_
  rintro e w' ⟨rfl, rfl⟩
  exact ⟨rfl, ((Below.refl _ _).alloc (Nat.le_refl _) _).alloc (by simp) _⟩
end Go.Proofs.Ytglfpnnfcpnmoaa
namespace Go.Proofs.Ytglfpnnfcpnmoaa
open Go.RowKit
set_option linter.unusedVariables false

def isClassB (c : Int) : Bool := decide (0 ≤ c ∧ c < 2)
def isValueB (n : Nat) (v : Int) : Bool := decide (0 ≤ v ∧ v < (n : Int))
def regsOf (m0 m1 c : Int) : Int := if c = 0 then m0 else m1
def givB (m0 m1 c n : Int) : Bool := isClassB c && decide (0 ≤ n ∧ n < regsOf m0 m1 c)

theorem isClass_any (c : Int) (w : World) : Calls Try.prog 45 #[.int .i64 c] w fun e w' => e = .returned (.bool (isClassB c)) ∧ w' = w := by
  by_cases h : 0 ≤ c
  · by_cases h' : c < 2
    · have H : Hid (true = isClassB c) := by show _ = _; simp [isClassB, h, h']
      go_enter Try.func45, Try.ntmps45
      go_wp2
      go_ret
      exact ⟨ret_bool H.out, rfl⟩
    · have H : Hid (false = isClassB c) := by show _ = _; simp [isClassB]; omega
      go_enter Try.func45, Try.ntmps45
      go_wp2
      go_ret
      exact ⟨ret_bool (by rw [← H.out]), rfl⟩
  · have H : Hid (false = isClassB c) := by show _ = _; simp [isClassB]; omega
    go_enter Try.func45, Try.ntmps45
    go_wp2
    go_ret
    exact ⟨ret_bool H.out, rfl⟩

theorem isClass_is (c : Int) (b : Bool) (h : isClassB c = b) (w : World) : Calls Try.prog 45 #[.int .i64 c] w fun e w' => e = .returned (.bool b) ∧ w' = w := by
  rw [← h]; exact isClass_any c w

theorem isValue_any (av : Option Addr) (n cv : Nat) (vb : Value) (m0 m1 v : Int) (w : World) :
    Calls Try.prog 58 #[.agg #[.slice av n cv, vb, .int .i64 m0, .int .i64 m1], .int .i64 v] w fun e w' => e = .returned (.bool (isValueB n v)) ∧ w' = w.alloc (.cells #[.slice av n cv, vb, .int .i64 m0, .int .i64 m1] 106) := by
  by_cases h : 0 ≤ v
  · by_cases h' : v < (n : Int)
    · have H : Hid (true = isValueB n v) := by show _ = _; simp [isValueB, h, h']
      go_enter Try.func58, Try.ntmps58
      go_wp2
      go_ret
      exact ⟨ret_bool H.out, rfl⟩
    · have H : Hid (false = isValueB n v) := by show _ = _; simp [isValueB]; omega
      go_enter Try.func58, Try.ntmps58
      go_wp2
      go_ret
      exact ⟨ret_bool (by rw [← H.out]), rfl⟩
  · have H : Hid (false = isValueB n v) := by show _ = _; simp [isValueB]; omega
    go_enter Try.func58, Try.ntmps58
    go_wp2
    go_ret
    exact ⟨ret_bool H.out, rfl⟩

def behB (c1 n1 c2 n2 : Int) : Bool := decide (c2 < c1 ∨ c1 = c2 ∧ n2 < n1)

theorem behind_any (c1 n1 c2 n2 : Int) (w : World) :
    Calls Try.prog 67 #[.agg #[.int .i64 c1, .int .i64 n1], .agg #[.int .i64 c2, .int .i64 n2]] w fun e w' => e = .returned (.bool (behB c1 n1 c2 n2)) ∧ Below w.heap.size w w' := by
  have hb : Below w.heap.size w ((w.alloc (.cells #[.int .i64 c1, .int .i64 n1] 97)).alloc (.cells #[.int .i64 c2, .int .i64 n2] 97)) := ((Below.refl _ _).alloc (Nat.le_refl _) _).alloc (by simp) _
  by_cases h : c2 < c1
  · have H : Hid (true = behB c1 n1 c2 n2) := by show _ = _; simp [behB, h]
    go_enter Try.func67, Try.ntmps67
    go_wp2
    go_ret
    exact ⟨ret_bool H.out, hb⟩
  · by_cases h' : c1 = c2
    · subst h'
      have H : Hid (decide (n2 < n1) = behB c1 n1 c1 n2) := by show _ = _; simp [behB]
      have g : (c1 == c1) = true := by simp
      go_enter Try.func67, Try.ntmps67
      go_wp2
      all_goals go_ret
      all_goals exact ⟨ret_bool (by rw [← H.out]), hb⟩
    · have H : Hid (false = behB c1 n1 c2 n2) := by show _ = _; simp [behB]; omega
      have g : (c1 == c2) = false := by simpa using h'
      clear h'
      go_enter Try.func67, Try.ntmps67
      go_wp2
      go_ret
      exact ⟨ret_bool H.out, hb⟩

def reusesB (limit n place : Int) : Bool := decide (limit = 5 ∧ n = place)

theorem reuses_any (k v : Int) (l : Bool) (lim n place : Int) (w : World) :
    Calls Try.prog 73 #[.agg #[.int .i64 k, .int .i64 v, .bool l, .int .i64 lim, .int .i64 n], .int .i64 place] w fun e w' => e = .returned (.bool (reusesB lim n place)) ∧ w' = w.alloc (.cells #[.int .i64 k, .int .i64 v, .bool l, .int .i64 lim, .int .i64 n] 46) := by
  by_cases h : lim = 5
  · subst h
    have H : Hid ((n == place) = reusesB 5 n place) := by show _ = _; rw [Bool.eq_iff_iff]; simp [reusesB]
    go_enter Try.func73, Try.ntmps73
    go_wp2
    go_ret
    exact ⟨ret_bool H.out, rfl⟩
  · have g : (lim == 5) = false := by simpa using h
    have H : Hid (false = reusesB lim n place) := by show _ = _; simp [reusesB, h]
    clear h
    go_enter Try.func73, Try.ntmps73
    go_wp2
    go_ret
    exact ⟨ret_bool H.out, rfl⟩

theorem below_drewN {B : Nat} {a w : World} (h : Below B a w) (n : Nat) : Below B a (w.drewN n) := ⟨h.os, h.tape, h.output, h.size, h.block⟩

theorem givable_any (vv vb : Value) (m0 m1 c n : Int) (w : World) :
    Calls Try.prog 66 #[.agg #[vv, vb, .int .i64 m0, .int .i64 m1], .agg #[.int .i64 c, .int .i64 n]] w fun e w' => e = .returned (.bool (givB m0 m1 c n)) ∧ Below w.heap.size w w' := by
  have hb : Below w.heap.size w ((w.alloc (.cells #[vv, vb, .int .i64 m0, .int .i64 m1] 106)).alloc (.cells #[.int .i64 c, .int .i64 n] 97)) := ((Below.refl _ _).alloc (Nat.le_refl _) _).alloc (by simp) _
  cases hc : isClassB c
  · have H : Hid (false = givB m0 m1 c n) := by show _ = _; simp [givB, hc]
    go_enter Try.func66, Try.ntmps66
    go_wp2_with fail
    go_quiet ((go_at_call 45; exact Calls.quiet_of_same (isClass_is c false hc _)))
    go_wp2
    go_ret
    exact ⟨ret_bool H.out, below_drewN hb _⟩
  · have hc' : 0 ≤ c ∧ c < 2 := by simpa [isClassB] using hc
    obtain ⟨hc0, hc2⟩ := hc'
    by_cases h1 : 0 ≤ n
    · have hd : decide (0 ≤ n) = true := by simpa using h1
      have H : Hid (decide (n < regsOf m0 m1 c) = givB m0 m1 c n) := by show _ = _; simp [givB, hc, h1]
      have hcc : c = 0 ∨ c = 1 := by omega
      rcases hcc with rfl | rfl
      · have H' : Hid (decide (n < m0) = givB m0 m1 0 n) := H
        clear H
        go_enter Try.func66, Try.ntmps66
        go_wp2_with fail
        go_quiet ((go_at_call 45; exact Calls.quiet_of_same (isClass_is _ true hc _)))
        go_wp2
        go_ret
        exact ⟨ret_bool H'.out, below_drewN hb _⟩
      · have H' : Hid (decide (n < m1) = givB m0 m1 1 n) := H
        clear H
        go_enter Try.func66, Try.ntmps66
        go_wp2_with fail
        go_quiet ((go_at_call 45; exact Calls.quiet_of_same (isClass_is _ true hc _)))
        go_wp2
        go_ret
        exact ⟨ret_bool H'.out, below_drewN hb _⟩
    · have hd : decide (0 ≤ n) = false := by simpa using h1
      have H : Hid (false = givB m0 m1 c n) := by show _ = _; simp [givB]; omega
      go_enter Try.func66, Try.ntmps66
      go_wp2_with fail
      go_quiet ((go_at_call 45; exact Calls.quiet_of_same (isClass_is _ true hc _)))
      go_wp2
      go_ret
      exact ⟨ret_bool H.out, below_drewN hb _⟩
end Go.Proofs.Ytglfpnnfcpnmoaa
namespace Go.Proofs.Ytglfpnnfcpnmoaa
open Go.RowKit
set_option linter.unusedVariables false

def insFits (x : Ins) : Bool := decide (x.operands.length ≤ 6 ∧ x.spoils.length ≤ 20)
def blkFits (b : Blk) : Bool := decide (b.params.length ≤ 5 ∧ b.instrs.length ≤ 40 ∧ b.edges.length ≤ 3) && b.instrs.all insFits

theorem all_snoc {α : Type} (l : List α) (p : α → Bool) (k : Nat) (h : k < l.length) (h1 : (l.take k).all p = true) (h2 : p l[k] = true) : (l.take (k + 1)).all p = true := by
  rw [List.take_succ_eq_append_getElem h, List.all_append, h1]
  simp [h2]
theorem all_not {α : Type} (l : List α) (p : α → Bool) (k : Nat) (h : k < l.length) (h2 : p l[k] = false) : l.all p = false := by
  rw [List.all_eq_false]
  exact ⟨l[k], List.getElem_mem h, by simp [h2]⟩
theorem all_done {α : Type} (l : List α) (p : α → Bool) (k : Nat) (h : l.length ≤ k) (h1 : (l.take k).all p = true) : l.all p = true := by
  rwa [List.take_of_length_le h] at h1

theorem blkFits_false {b : Blk} (h : 5 < b.params.length ∨ 40 < b.instrs.length ∨ 3 < b.edges.length ∨ b.instrs.all insFits = false) : blkFits b = false := by
  unfold blkFits
  rcases h with h | h | h | h
  · simp; omega
  · simp; omega
  · simp; omega
  · rw [h]; simp
theorem blkFits_true {b : Blk} (h1 : b.params.length ≤ 5) (h2 : b.instrs.length ≤ 40) (h3 : b.edges.length ≤ 3) (h : b.instrs.all insFits = true) : blkFits b = true := by
  unfold blkFits
  rw [h]
  simp [h1, h2, h3]

set_option maxHeartbeats 1000000 in
theorem blockFits_any (b : Blk) (vp vi ve : Value) (w : World) (hp : SlOf w 1 RInt vp b.params) (hi : SlOf w 3 (RIns w) vi b.instrs) (he : SlOf w 2 (REdg w) ve b.edges) :
    Calls Try.prog 54 #[.agg #[vp, vi, ve]] w fun e w' => e = .returned (.bool (blkFits b)) ∧ Below w.heap.size w w' := by
  obtain ⟨ap, cp, rfl, lp⟩ := hp.out
  obtain ⟨ai, ci, rfl, li⟩ := hi.out
  obtain ⟨ae, ce, rfl, le⟩ := he.out
  by_cases h1 : b.params.length ≤ 5
  · by_cases h2 : b.instrs.length ≤ 40
    · by_cases h3 : b.edges.length ≤ 3
      · have g1 : ¬ (5 : Int) < (b.params.length : Int) := by omega
        have g2 : ¬ (40 : Int) < (b.instrs.length : Int) := by omega
        have g3 : ¬ (3 : Int) < (b.edges.length : Int) := by omega
        go_enter Try.func54, Try.ntmps54
        go_wp2
        go_loopw [24] (fun i wr => ∃ k : Nat, k ≤ b.instrs.length ∧ i = .int .i64 k ∧ Below w.heap.size w wr ∧ w.heap.size < wr.heap.size ∧ (b.instrs.take k).all insFits = true) (fun i _ => b.instrs.length - (intOf i).toNat)
        case atStart => exact ⟨0, Nat.zero_le _, rfl, (Below.refl _ _).alloc (Nat.le_refl _) _, by simp, by simp⟩
        case round =>
          obtain ⟨k, hk, rfl, hb, hs, hall⟩ := hrel
          by_cases hlt : k < b.instrs.length
          · obtain ⟨bb, off, cs, rfl, hcl, ⟨vo, vs, rfl, ho, hsp⟩, hc⟩ := (hi.below hb fun _ _ h => h).at k hlt
            obtain ⟨ao, co, rfl, lo⟩ := ho.out
            obtain ⟨asp, csp, rfl, lsp⟩ := hsp.out
            have c0 := hc 0 (by simp)
            have c1 := hc 1 (by simp)
            have c2 := hc 2 (by simp)
            simp at c0 c1 c2
            clear hc
            by_cases hf : b.instrs[k].operands.length ≤ 6
            · by_cases hg : b.instrs[k].spoils.length ≤ 20
              · have g4 : ¬ (6 : Int) < (b.instrs[k].operands.length : Int) := by omega
                have g5 : ¬ (20 : Int) < (b.instrs[k].spoils.length : Int) := by omega
                have hif : insFits b.instrs[k] = true := by simp [insFits, hf, hg]
                have H : Hid ((b.instrs.take (k + 1)).all insFits = true) := all_snoc _ _ _ hlt hall hif
                clear hif hall
                go_wp2
                go_roundw
                case rel => exact ⟨k + 1, by omega, by go_num, hb.alloc (by omega) _, by simp; omega, H.out⟩
                case measure => simp [intOf]; omega
              · have g4 : ¬ (6 : Int) < (b.instrs[k].operands.length : Int) := by omega
                have g5 : (20 : Int) < (b.instrs[k].spoils.length : Int) := by omega
                have hif : insFits b.instrs[k] = false := by simp [insFits]; omega
                have H : Hid (false = blkFits b) := (blkFits_false (.inr (.inr (.inr (all_not _ _ _ hlt hif))))).symm
                clear hif hall
                go_wp2
                go_ret
                exact ⟨ret_bool H.out, hb.alloc (by omega) _⟩
            · have g4 : (6 : Int) < (b.instrs[k].operands.length : Int) := by omega
              have hif : insFits b.instrs[k] = false := by simp [insFits]; omega
              have H : Hid (false = blkFits b) := (blkFits_false (.inr (.inr (.inr (all_not _ _ _ hlt hif))))).symm
              clear hif hall
              go_wp2
              go_ret
              exact ⟨ret_bool H.out, hb.alloc (by omega) _⟩
          · have H : Hid (true = blkFits b) := (blkFits_true h1 h2 h3 (all_done _ _ k (by omega) hall)).symm
            clear hall
            go_wp2
            go_ret
            exact ⟨ret_bool H.out, hb⟩
      · have g1 : ¬ (5 : Int) < (b.params.length : Int) := by omega
        have g2 : ¬ (40 : Int) < (b.instrs.length : Int) := by omega
        have g3 : (3 : Int) < (b.edges.length : Int) := by omega
        have H : Hid (false = blkFits b) := (blkFits_false (by omega)).symm
        go_enter Try.func54, Try.ntmps54
        go_wp2
        go_ret
        exact ⟨ret_bool H.out, (Below.refl _ _).alloc (Nat.le_refl _) _⟩
    · have g1 : ¬ (5 : Int) < (b.params.length : Int) := by omega
      have g2 : (40 : Int) < (b.instrs.length : Int) := by omega
      have H : Hid (false = blkFits b) := (blkFits_false (by omega)).symm
      go_enter Try.func54, Try.ntmps54
      go_wp2
      go_ret
      exact ⟨ret_bool H.out, (Below.refl _ _).alloc (Nat.le_refl _) _⟩
  · have g1 : (5 : Int) < (b.params.length : Int) := by omega
    have H : Hid (false = blkFits b) := (blkFits_false (by omega)).symm
    go_enter Try.func54, Try.ntmps54
    go_wp2
    go_ret
    exact ⟨ret_bool H.out, (Below.refl _ _).alloc (Nat.le_refl _) _⟩

def sizesGo : Nat → List Blk → Bool
  | _, [] => true
  | all, b :: r => if 160 < all + b.instrs.length then false else if blkFits b then sizesGo (all + b.instrs.length) r else false
def sizesB (f : Fn) : Bool := if f.blocks.length = 0 ∨ 16 < f.blocks.length ∨ 160 < f.values.length then false else sizesGo 0 f.blocks

theorem drop_at {α : Type} (l : List α) (k : Nat) (h : k < l.length) : l.drop k = l[k] :: l.drop (k + 1) := List.drop_eq_getElem_cons h

set_option maxHeartbeats 1000000 in
theorem sizesFit_any (f : Fn) (vv vb : Value) (w : World) (hv : SlOf w 1 RInt vv f.values) (hb : SlOf w 3 (RBlk w) vb f.blocks) :
    Calls Try.prog 44 #[.agg #[vv, vb]] w fun e w' => e = .returned (.bool (sizesB f)) ∧ Below w.heap.size w w' := by
  obtain ⟨av, cv, rfl, lv⟩ := hv.out
  obtain ⟨ab, cb, rfl, lb⟩ := hb.out
  unfold longest at lv lb
  by_cases h1 : f.blocks.length = 0
  · have H : Hid (false = sizesB f) := by show _ = _; simp [sizesB, h1]
    have g1 : ((f.blocks.length : Int) == 0) = true := by simp [h1]
    clear h1
    go_enter Try.func44, Try.ntmps44
    go_wp2
    go_ret
    exact ⟨ret_bool H.out, (Below.refl _ _).alloc (Nat.le_refl _) _⟩
  · have g1 : ((f.blocks.length : Int) == 0) = false := by rw [beq_eq_false_iff_ne]; omega
    by_cases h2 : 16 < f.blocks.length
    · have H : Hid (false = sizesB f) := by show _ = _; simp [sizesB, h2]
      have g2 : (16 : Int) < (f.blocks.length : Int) := by omega
      go_enter Try.func44, Try.ntmps44
      go_wp2
      go_ret
      exact ⟨ret_bool H.out, (Below.refl _ _).alloc (Nat.le_refl _) _⟩
    · have g2 : ¬ (16 : Int) < (f.blocks.length : Int) := by omega
      by_cases h3 : 160 < f.values.length
      · have H : Hid (false = sizesB f) := by show _ = _; simp [sizesB, h3]
        have g3 : (160 : Int) < (f.values.length : Int) := by omega
        go_enter Try.func44, Try.ntmps44
        go_wp2
        go_ret
        exact ⟨ret_bool H.out, (Below.refl _ _).alloc (Nat.le_refl _) _⟩
      · have g3 : ¬ (160 : Int) < (f.values.length : Int) := by omega
        have H : Hid (sizesGo 0 f.blocks = sizesB f) := by show _ = _; unfold sizesB; rw [if_neg (by omega)]
        go_enter Try.func44, Try.ntmps44
        go_wp2
        go_loopw [3, 25] (fun t i wr => ∃ k A : Nat, k ≤ f.blocks.length ∧ A ≤ 160 ∧ i = .int .i64 k ∧ t = .int .i64 A ∧ Below w.heap.size w wr ∧ w.heap.size < wr.heap.size ∧ Hid (sizesGo A (f.blocks.drop k) = sizesB f)) (fun _ i _ => f.blocks.length - (intOf i).toNat)
        case atStart => exact ⟨0, 0, Nat.zero_le _, by omega, rfl, rfl, (Below.refl _ _).alloc (Nat.le_refl _) _, by simp, H⟩
        case round =>
          obtain ⟨k, A, hk, hA, rfl, rfl, hbw, hs, HK⟩ := hrel
          clear H
          by_cases hlt : k < f.blocks.length
          · have HK' : Hid (sizesGo A (f.blocks[k] :: f.blocks.drop (k + 1)) = sizesB f) := by rw [← drop_at _ _ hlt]; exact HK
            clear HK
            obtain ⟨bb, off, cs, rfl, hcl, ⟨vp, vi, ve, rfl, hp, hi, he⟩, hc⟩ := (hb.below hbw (RBlk.below hbw)).at k hlt
            obtain ⟨ap, cp, rfl, lp⟩ := hp.out
            obtain ⟨ai, ci, rfl, li⟩ := hi.out
            obtain ⟨ae, ce, rfl, le⟩ := he.out
            unfold longest at lp li le
            have c0 := hc 0 (by simp)
            have c1 := hc 1 (by simp)
            have c2 := hc 2 (by simp)
            simp at c0 c1 c2
            clear hc
            generalize f.blocks[k] = b at *
            have hba : Below wr.heap.size wr (wr.alloc (.cells #[.slice ap b.params.length cp, .slice ai b.instrs.length ci, .slice ae b.edges.length ce] 40)) := (Below.refl _ _).alloc (Nat.le_refl _) _
            have hp' := hp.below hba fun _ _ h => h
            have hi' := hi.below hba (RIns.below hba)
            have he' := he.below hba (REdg.below hba)
            clear hp hi he
            by_cases h4 : 160 < A + b.instrs.length
            · have g4 : (160 : Int) < (A : Int) + (b.instrs.length : Int) := by omega
              have H : Hid (false = sizesB f) := by
                show _ = _
                rw [← HK'.out]
                unfold sizesGo
                rw [if_pos h4]
              clear HK'
              go_wp2
              go_ret
              exact ⟨ret_bool H.out, hbw.alloc (by omega) _⟩
            · have g4 : ¬ (160 : Int) < (A : Int) + (b.instrs.length : Int) := by omega
              cases h5 : blkFits b
              · have H : Hid (false = sizesB f) := by
                  show _ = _
                  rw [← HK'.out]
                  unfold sizesGo
                  rw [if_neg h4, h5]
                  simp
                clear HK'
                go_wp2_with (go_at_call 54; refine (blockFits_any b _ _ _ _ hp' hi' he').mono ?_; rintro e w1 ⟨rfl, hb1⟩)
                go_ret
                exact ⟨ret_bool H.out, (hbw.alloc (by omega) _).trans (hb1.mono (by simp; omega))⟩
              · have H : Hid (sizesGo (A + b.instrs.length) (f.blocks.drop (k + 1)) = sizesB f) := by
                  show _ = _
                  rw [← HK'.out]
                  conv => rhs; unfold sizesGo
                  rw [if_neg h4, h5]
                  simp
                clear HK'
                go_wp2_with (go_at_call 54; refine (blockFits_any b _ _ _ _ hp' hi' he').mono ?_; rintro e w1 ⟨rfl, hb1⟩)
                have hz := hb1.size
                simp at hz
                go_roundw
                case rel => exact ⟨k + 1, A + b.instrs.length, by omega, by omega, by go_num, by go_num, (hbw.alloc (by omega) _).trans (hb1.mono (by simp; omega)), by omega, H⟩
                case measure => simp [intOf]; omega
          · have H : Hid (true = sizesB f) := by
              show _ = _
              rw [← HK.out, List.drop_of_length_le (by omega)]
              rfl
            clear HK
            go_wp2
            go_ret
            exact ⟨ret_bool H.out, hbw⟩
end Go.Proofs.Ytglfpnnfcpnmoaa
namespace Go.Proofs.Ytglfpnnfcpnmoaa
open Go.RowKit
set_option linter.unusedVariables false

def classAt (values : List Int) (v : Int) : Int := values.getD v.toNat 0

def oprErr (values : List Int) (m0 m1 : Int) (o : Opr) : Int :=
  if ¬ (o.kind = 1 ∨ o.kind = 2) then 3
  else if o.limit < 1 ∨ 5 < o.limit then 3
  else if isValueB values.length o.value = false then 2
  else if o.limit = 4 then (if givB m0 m1 (classAt values o.value) o.n = true then 0 else 2)
  else if o.limit = 5 then (if o.kind = 2 ∧ o.late = true then 0 else 4)
  else if o.n = 0 then 0 else 4

theorem isValue_is (av : Option Addr) (n cv : Nat) (vb : Value) (m0 m1 v : Int) (b : Bool) (h : isValueB n v = b) (w : World) :
    Calls Try.prog 58 #[.agg #[.slice av n cv, vb, .int .i64 m0, .int .i64 m1], .int .i64 v] w fun e w' => e = .returned (.bool b) ∧ w' = w.alloc (.cells #[.slice av n cv, vb, .int .i64 m0, .int .i64 m1] 106) := by
  rw [← h]; exact isValue_any av n cv vb m0 m1 v w

theorem givable_is (vv vb : Value) (m0 m1 c n : Int) (b : Bool) (h : givB m0 m1 c n = b) (w : World) :
    Calls Try.prog 66 #[.agg #[vv, vb, .int .i64 m0, .int .i64 m1], .agg #[.int .i64 c, .int .i64 n]] w fun e w' => e = .returned (.bool b) ∧ Below w.heap.size w w' := by
  rw [← h]; exact givable_any vv vb m0 m1 c n w

theorem classAt_cell {w : World} {av : Option Addr} {cv : Nat} {values : List Int} (hv : SlOf w 1 RInt (.slice av values.length cv) values) (v : Int) (h : isValueB values.length v = true) :
    ∃ bb off, av = some ⟨bb, off, none⟩ ∧ w.cell? ⟨bb, off + v.toNat, none⟩ = some (.int .i64 (classAt values v)) ∧ bb < w.heap.size ∧ 0 ≤ v ∧ v < (values.length : Int) := by
  have hh : 0 ≤ v ∧ v < (values.length : Int) := by simpa [isValueB] using h
  obtain ⟨bb, off, cs, h1, h2, h3, h4⟩ := hv.at v.toNat (by omega)
  unfold RInt at h3
  subst h3
  have h5 := h4 0 (by simp)
  simp at h5
  refine ⟨bb, off, h1, ?_, block_lt h5, hh.1, hh.2⟩
  rw [h5, classAt]
  simp [List.getD, List.getElem?_eq_getElem (show v.toNat < values.length by omega)]

set_option maxHeartbeats 1000000 in
theorem operand_any' (values : List Int) (av : Option Addr) (cv : Nat) (vb : Value) (m0 m1 : Int) (o : Opr) (w : World) (hv : SlOf w 1 RInt (.slice av values.length cv) values) :
    Calls Try.prog 61 #[.agg #[.slice av values.length cv, vb, .int .i64 m0, .int .i64 m1], .agg #[.int .i64 o.kind, .int .i64 o.value, .bool o.late, .int .i64 o.limit, .int .i64 o.n]] w fun e w' => e = .returned (.int .i64 (oprErr values m0 m1 o)) ∧ Below w.heap.size w w' := by
  obtain ⟨_, _, _, lv⟩ := hv.out
  unfold longest at lv
  have hb2 : Below w.heap.size w ((w.alloc (.cells #[.slice av values.length cv, vb, .int .i64 m0, .int .i64 m1] 106)).alloc (.cells #[.int .i64 o.kind, .int .i64 o.value, .bool o.late, .int .i64 o.limit, .int .i64 o.n] 46)) := ((Below.refl _ _).alloc (Nat.le_refl _) _).alloc (by simp) _
  have hbW : Below w.heap.size w (((w.alloc (.cells #[.slice av values.length cv, vb, .int .i64 m0, .int .i64 m1] 106)).alloc (.cells #[.int .i64 o.kind, .int .i64 o.value, .bool o.late, .int .i64 o.limit, .int .i64 o.n] 46)).alloc (.cells #[.slice av values.length cv, vb, .int .i64 m0, .int .i64 m1] 106)) := hb2.alloc (by simp; omega) _
  by_cases hk : o.kind = 1 ∨ o.kind = 2
  · by_cases hl : o.limit < 1 ∨ 5 < o.limit
    · have H : Hid (3 = oprErr values m0 m1 o) := by show _ = _; unfold oprErr; rw [if_neg (by omega), if_pos hl]
      have hk' : (o.kind != 1) = false ∨ ((o.kind != 1) = true ∧ (o.kind != 2) = false) := by rcases hk with h | h <;> simp [h]
      clear hbW
      rcases hk' with k1 | ⟨k1, k2⟩
      all_goals
        clear hk
        rcases hl with l1 | l1
        all_goals
          go_enter Try.func61, Try.ntmps61
          go_wp2
          go_ret
          exact ⟨ret_int H.out, hb2⟩
    · have l1 : ¬ o.limit < 1 := by omega
      have l2 : ¬ 5 < o.limit := by omega
      cases hval : isValueB values.length o.value
      · have H : Hid (2 = oprErr values m0 m1 o) := by show _ = _; unfold oprErr; rw [if_neg (by omega), if_neg hl, if_pos hval]
        have hk' : (o.kind != 1) = false ∨ ((o.kind != 1) = true ∧ (o.kind != 2) = false) := by rcases hk with h | h <;> simp [h]
        clear hl
        rcases hk' with k1 | ⟨k1, k2⟩
        all_goals
          clear hk
          go_enter Try.func61, Try.ntmps61
          go_wp2_with (go_at_call 58; refine (isValue_is _ _ _ _ _ _ _ false hval _).mono ?_; rintro e w' ⟨rfl, rfl⟩)
          go_ret
          exact ⟨ret_int H.out, hbW⟩
      · by_cases h4 : o.limit = 4
        · obtain ⟨bb, off, rfl, hcell, hbb, v0, v1⟩ := classAt_cell hv o.value hval
          have q4 : (o.limit == 4) = true := by simp [h4]
          have hne : bb ≠ w.heap.size := by omega
          have hne1 : bb ≠ w.heap.size + 1 := by omega
          have hne2 : bb ≠ w.heap.size + 1 + 1 := by omega
          have hs1 : bb < w.heap.size + 1 + 1 + 1 := by omega
          have hs2 : w.heap.size < w.heap.size + 1 + 1 + 1 := by omega
          have hk' : (o.kind != 1) = false ∨ ((o.kind != 1) = true ∧ (o.kind != 2) = false) := by rcases hk with h | h <;> simp [h]
          cases hg : givB m0 m1 (classAt values o.value) o.n
          · have H : Hid (2 = oprErr values m0 m1 o) := by show _ = _; unfold oprErr; rw [if_neg (by omega), if_neg hl, if_neg (by simp [hval]), if_pos h4, if_neg (by simp [hg])]
            rcases hk' with k1 | ⟨k1, k2⟩
            all_goals
              clear hk hl h4
              go_enter Try.func61, Try.ntmps61
              go_wp2_with (go_at_call 58; refine (isValue_is _ _ _ _ _ _ _ true hval _).mono ?_; rintro e w' ⟨rfl, rfl⟩)
              go_region_held3 (fun wx => wx.cell? ⟨w.heap.size, 0, none⟩ = some (.slice (some ⟨bb, off, none⟩) values.length cv) ∧ wx.cell? ⟨w.heap.size, 1, none⟩ = some (vb) ∧ wx.cell? ⟨w.heap.size, 2, none⟩ = some (.int .i64 m0) ∧ wx.cell? ⟨w.heap.size, 3, none⟩ = some (.int .i64 m1) ∧ wx.cell? ⟨w.heap.size + 1, 0, none⟩ = some (.int .i64 o.kind) ∧ wx.cell? ⟨w.heap.size + 1, 1, none⟩ = some (.int .i64 o.value) ∧ wx.cell? ⟨w.heap.size + 1, 2, none⟩ = some (.bool o.late) ∧ wx.cell? ⟨w.heap.size + 1, 3, none⟩ = some (.int .i64 o.limit) ∧ wx.cell? ⟨w.heap.size + 1, 4, none⟩ = some (.int .i64 o.n) ∧ wx.cell? ⟨bb, off + o.value.toNat, none⟩ = some (.int .i64 (classAt values o.value)) ∧ w.heap.size < wx.heap.size ∧ w.heap.size + 1 < wx.heap.size ∧ bb < wx.heap.size ∧ Below w.heap.size w wx) (((try (dsimp only at *)); (try go_split_ands); (repeat' apply And.intro); all_goals (first | assumption | (simp [*, World.cell?_alloc_some]; done) | (go_simp; done) | (simp; omega) | (exact hbW.drew) | (exact (hbW.drew.cell (p := ⟨_, _, none⟩) (by assumption)).trans (by assumption)) | (exact (hb.cell (p := ⟨_, _, none⟩) (by assumption)).trans (by assumption)) | (exact Nat.lt_of_lt_of_le (by assumption) hb.size) | (exact (‹Below w.heap.size w _›).trans (hb.mono (‹Below w.heap.size w _›).size)))))
                (first | (go_at_call 66; refine (givable_is _ _ _ _ _ _ false hg _).mono ?_; rintro e w' ⟨rfl, hb⟩))
              go_split_ands
              go_wp2
              go_ret
              exact ⟨ret_int H.out, by assumption⟩
          · have H : Hid (0 = oprErr values m0 m1 o) := by show _ = _; unfold oprErr; rw [if_neg (by omega), if_neg hl, if_neg (by simp [hval]), if_pos h4, if_pos hg]
            rcases hk' with k1 | ⟨k1, k2⟩
            all_goals
              clear hk hl h4
              go_enter Try.func61, Try.ntmps61
              go_wp2_with (go_at_call 58; refine (isValue_is _ _ _ _ _ _ _ true hval _).mono ?_; rintro e w' ⟨rfl, rfl⟩)
              go_region_held3 (fun wx => wx.cell? ⟨w.heap.size, 0, none⟩ = some (.slice (some ⟨bb, off, none⟩) values.length cv) ∧ wx.cell? ⟨w.heap.size, 1, none⟩ = some (vb) ∧ wx.cell? ⟨w.heap.size, 2, none⟩ = some (.int .i64 m0) ∧ wx.cell? ⟨w.heap.size, 3, none⟩ = some (.int .i64 m1) ∧ wx.cell? ⟨w.heap.size + 1, 0, none⟩ = some (.int .i64 o.kind) ∧ wx.cell? ⟨w.heap.size + 1, 1, none⟩ = some (.int .i64 o.value) ∧ wx.cell? ⟨w.heap.size + 1, 2, none⟩ = some (.bool o.late) ∧ wx.cell? ⟨w.heap.size + 1, 3, none⟩ = some (.int .i64 o.limit) ∧ wx.cell? ⟨w.heap.size + 1, 4, none⟩ = some (.int .i64 o.n) ∧ wx.cell? ⟨bb, off + o.value.toNat, none⟩ = some (.int .i64 (classAt values o.value)) ∧ w.heap.size < wx.heap.size ∧ w.heap.size + 1 < wx.heap.size ∧ bb < wx.heap.size ∧ Below w.heap.size w wx) (((try (dsimp only at *)); (try go_split_ands); (repeat' apply And.intro); all_goals (first | assumption | (simp [*, World.cell?_alloc_some]; done) | (go_simp; done) | (simp; omega) | (exact hbW.drew) | (exact (hbW.drew.cell (p := ⟨_, _, none⟩) (by assumption)).trans (by assumption)) | (exact (hb.cell (p := ⟨_, _, none⟩) (by assumption)).trans (by assumption)) | (exact Nat.lt_of_lt_of_le (by assumption) hb.size) | (exact (‹Below w.heap.size w _›).trans (hb.mono (‹Below w.heap.size w _›).size)))))
                (first | (go_at_call 66; refine (givable_is _ _ _ _ _ _ true hg _).mono ?_; rintro e w' ⟨rfl, hb⟩))
              go_split_ands
              go_wp2
              go_ret
              exact ⟨ret_int H.out, by assumption⟩
        · have q4 : (o.limit == 4) = false := by simpa using h4
          by_cases h5 : o.limit = 5
          · have q5 : (o.limit == 5) = true := by simp [h5]
            by_cases k2 : o.kind = 2
            · have n1 : (o.kind != 1) = true := by simp [k2]
              have n2 : (o.kind != 2) = false := by simp [k2]
              cases hlate : o.late
              · have H : Hid (4 = oprErr values m0 m1 o) := by show _ = _; unfold oprErr; rw [if_neg (by omega), if_neg hl, if_neg (by simp [hval]), if_neg h4, if_pos h5, if_neg (by simp [hlate])]
                clear hk hl h4 h5 k2
                rw [hlate] at hbW hb2
                go_enter Try.func61, Try.ntmps61
                go_wp2_with (go_at_call 58; refine (isValue_is _ _ _ _ _ _ _ true hval _).mono ?_; rintro e w' ⟨rfl, rfl⟩)
                go_ret
                exact ⟨ret_int H.out, hbW⟩
              · have H : Hid (0 = oprErr values m0 m1 o) := by show _ = _; unfold oprErr; rw [if_neg (by omega), if_neg hl, if_neg (by simp [hval]), if_neg h4, if_pos h5, if_pos ⟨k2, hlate⟩]
                clear hk hl h4 h5 k2
                rw [hlate] at hbW hb2
                go_enter Try.func61, Try.ntmps61
                go_wp2_with (go_at_call 58; refine (isValue_is _ _ _ _ _ _ _ true hval _).mono ?_; rintro e w' ⟨rfl, rfl⟩)
                go_ret
                exact ⟨ret_int H.out, hbW⟩
            · have k1 : o.kind = 1 := by omega
              have n1 : (o.kind != 1) = false := by simp [k1]
              have n2 : (o.kind != 2) = true := by simp [k1]
              have H : Hid (4 = oprErr values m0 m1 o) := by show _ = _; unfold oprErr; rw [if_neg (by omega), if_neg hl, if_neg (by simp [hval]), if_neg h4, if_pos h5, if_neg (by omega)]
              clear hk hl h4 h5 k2 k1
              go_enter Try.func61, Try.ntmps61
              go_wp2_with (go_at_call 58; refine (isValue_is _ _ _ _ _ _ _ true hval _).mono ?_; rintro e w' ⟨rfl, rfl⟩)
              go_ret
              exact ⟨ret_int H.out, hbW⟩
          · have q5 : (o.limit == 5) = false := by simpa using h5
            have hk' : (o.kind != 1) = false ∨ ((o.kind != 1) = true ∧ (o.kind != 2) = false) := by rcases hk with h | h <;> simp [h]
            by_cases hn : o.n = 0
            · have qn : (o.n != 0) = false := by simp [hn]
              have H : Hid (0 = oprErr values m0 m1 o) := by show _ = _; unfold oprErr; rw [if_neg (by omega), if_neg hl, if_neg (by simp [hval]), if_neg h4, if_neg h5, if_pos hn]
              rcases hk' with k1 | ⟨k1, k2⟩
              all_goals
                clear hk hl h4 h5 hn
                go_enter Try.func61, Try.ntmps61
                go_wp2_with (go_at_call 58; refine (isValue_is _ _ _ _ _ _ _ true hval _).mono ?_; rintro e w' ⟨rfl, rfl⟩)
                go_ret
                exact ⟨ret_int H.out, hbW⟩
            · have qn : (o.n != 0) = true := by simpa using hn
              have H : Hid (4 = oprErr values m0 m1 o) := by show _ = _; unfold oprErr; rw [if_neg (by omega), if_neg hl, if_neg (by simp [hval]), if_neg h4, if_neg h5, if_neg hn]
              rcases hk' with k1 | ⟨k1, k2⟩
              all_goals
                clear hk hl h4 h5 hn
                go_enter Try.func61, Try.ntmps61
                go_wp2_with (go_at_call 58; refine (isValue_is _ _ _ _ _ _ _ true hval _).mono ?_; rintro e w' ⟨rfl, rfl⟩)
                go_ret
                exact ⟨ret_int H.out, hbW⟩
  · have n1 : (o.kind != 1) = true := by simp; omega
    have n2 : (o.kind != 2) = true := by simp; omega
    have H : Hid (3 = oprErr values m0 m1 o) := by show _ = _; unfold oprErr; rw [if_pos hk]
    clear hk
    go_enter Try.func61, Try.ntmps61
    go_wp2
    go_ret
    exact ⟨ret_int H.out, hb2⟩
end Go.Proofs.Ytglfpnnfcpnmoaa
namespace Go.Proofs.Ytglfpnnfcpnmoaa
open Go.RowKit
set_option linter.unusedVariables false

def reuseErr (values : List Int) (o : Opr) (all : List Opr) : Int :=
  if o.n < 0 ∨ (all.length : Int) ≤ o.n then 6
  else match all[o.n.toNat]? with
    | none => 6
    | some u => if u.kind = 1 ∧ u.late = false then (if classAt values u.value = classAt values o.value then 0 else 17) else 4

theorem opr_cells {w : World} {aa : Option Addr} {ca n : Nat} {all : List Opr} (ha : SlOf w 5 ROpr (.slice aa n ca) all) (i : Nat) (hi : i < all.length) :
    ∃ b off, aa = some ⟨b, off, none⟩ ∧ b < w.heap.size ∧ w.cell? ⟨b, off + i * 5, none⟩ = some (.int .i64 all[i].kind) ∧ w.cell? ⟨b, off + i * 5 + 1, none⟩ = some (.int .i64 all[i].value) ∧ w.cell? ⟨b, off + i * 5 + 2, none⟩ = some (.bool all[i].late) ∧ w.cell? ⟨b, off + i * 5 + 3, none⟩ = some (.int .i64 all[i].limit) ∧ w.cell? ⟨b, off + i * 5 + 4, none⟩ = some (.int .i64 all[i].n) := by
  obtain ⟨b, off, cs, h1, h2, h3, h4⟩ := ha.at i hi
  unfold ROpr at h3
  subst h3
  have c0 := h4 0 (by simp)
  have c1 := h4 1 (by simp)
  have c2 := h4 2 (by simp)
  have c3 := h4 3 (by simp)
  have c4 := h4 4 (by simp)
  simp at c0 c1 c2 c3 c4
  exact ⟨b, off, h1, block_lt c0, c0, c1, c2, c3, c4⟩

set_option maxHeartbeats 1000000 in
theorem reuse_any (values : List Int) (av : Option Addr) (cv : Nat) (vb : Value) (m0 m1 : Int) (o : Opr) (all : List Opr) (aa : Option Addr) (ca : Nat) (w : World) (hv : SlOf w 1 RInt (.slice av values.length cv) values)
    (ha : SlOf w 5 ROpr (.slice aa all.length ca) all) (hov : isValueB values.length o.value = true) (hall : ∀ u ∈ all, isValueB values.length u.value = true) :
    Calls Try.prog 62 #[.agg #[.slice av values.length cv, vb, .int .i64 m0, .int .i64 m1], .agg #[.int .i64 o.kind, .int .i64 o.value, .bool o.late, .int .i64 o.limit, .int .i64 o.n], .slice aa all.length ca] w fun e w' => e = .returned (.int .i64 (reuseErr values o all)) ∧ Below w.heap.size w w' := by
  obtain ⟨_, _, _, lv⟩ := hv.out
  obtain ⟨_, _, _, la⟩ := ha.out
  unfold longest at lv la
  have hb2 : Below w.heap.size w ((w.alloc (.cells #[.slice av values.length cv, vb, .int .i64 m0, .int .i64 m1] 106)).alloc (.cells #[.int .i64 o.kind, .int .i64 o.value, .bool o.late, .int .i64 o.limit, .int .i64 o.n] 46)) := ((Below.refl _ _).alloc (Nat.le_refl _) _).alloc (by simp) _
  by_cases hn : o.n < 0
  · have H : Hid (6 = reuseErr values o all) := by show _ = _; unfold reuseErr; rw [if_pos (by omega)]
    go_enter Try.func62, Try.ntmps62
    go_wp2
    go_ret
    exact ⟨ret_int H.out, hb2⟩
  · by_cases hm : (all.length : Int) ≤ o.n
    · have H : Hid (6 = reuseErr values o all) := by show _ = _; unfold reuseErr; rw [if_pos (by omega)]
      go_enter Try.func62, Try.ntmps62
      go_wp2
      go_ret
      exact ⟨ret_int H.out, hb2⟩
    · have hi : o.n.toNat < all.length := by omega
      have hg : all[o.n.toNat]? = some all[o.n.toNat] := List.getElem?_eq_getElem hi
      have hu := hall _ (List.getElem_mem hi)
      obtain ⟨b5, off5, rfl, hb5, c0, c1, c2, c3, c4⟩ := opr_cells ha o.n.toNat hi
      generalize all[o.n.toNat] = u at *
      have n0 : 0 ≤ o.n := by omega
      have n1 : o.n < (all.length : Int) := by omega
      have e5 : b5 ≠ w.heap.size := by omega
      have e51 : b5 ≠ w.heap.size + 1 := by omega
      have hb3 := hb2.alloc (by simp; omega) (.cells #[.int .i64 u.kind, .int .i64 u.value, .bool u.late, .int .i64 u.limit, .int .i64 u.n] 46)
      by_cases hk : u.kind = 1
      · have k1 : (u.kind != 1) = false := by simp [hk]
        cases hlate : u.late
        · rw [hlate] at hb3
          obtain ⟨bb, off, rfl, hcell, hbb, v0, v1⟩ := classAt_cell hv o.value hov
          obtain ⟨bb', off', hav, hcell', hbb', v0', v1'⟩ := classAt_cell hv u.value hu
          simp only [Option.some.injEq, Addr.mk.injEq] at hav
          obtain ⟨rfl, rfl, _⟩ := hav
          have hbW := hb3
          have hs1 : bb < w.heap.size + 1 + 1 + 1 := by omega
          have hs2 : w.heap.size < w.heap.size + 1 + 1 + 1 := by omega
          rw [hlate] at c2
          by_cases hcl : classAt values u.value = classAt values o.value
          · have q : (classAt values u.value != classAt values o.value) = false := by simpa using hcl
            have H : Hid (0 = reuseErr values o all) := by show _ = _; unfold reuseErr; rw [if_neg (by omega), hg]; simp [hk, hlate, hcl]
            clear hk hcl hg
            go_enter Try.func62, Try.ntmps62
            go_wp2
            go_region_held3 (fun wx => wx.cell? ⟨w.heap.size, 0, none⟩ = some (.slice (some ⟨bb, off, none⟩) values.length cv) ∧ wx.cell? ⟨w.heap.size, 1, none⟩ = some (vb) ∧ wx.cell? ⟨w.heap.size, 2, none⟩ = some (.int .i64 m0) ∧ wx.cell? ⟨w.heap.size, 3, none⟩ = some (.int .i64 m1) ∧ wx.cell? ⟨w.heap.size + 1, 0, none⟩ = some (.int .i64 o.kind) ∧ wx.cell? ⟨w.heap.size + 1, 1, none⟩ = some (.int .i64 o.value) ∧ wx.cell? ⟨w.heap.size + 1, 2, none⟩ = some (.bool o.late) ∧ wx.cell? ⟨w.heap.size + 1, 3, none⟩ = some (.int .i64 o.limit) ∧ wx.cell? ⟨w.heap.size + 1, 4, none⟩ = some (.int .i64 o.n) ∧ wx.cell? ⟨w.heap.size + 1 + 1, 0, none⟩ = some (.int .i64 u.kind) ∧ wx.cell? ⟨w.heap.size + 1 + 1, 1, none⟩ = some (.int .i64 u.value) ∧ wx.cell? ⟨w.heap.size + 1 + 1, 2, none⟩ = some (.bool false) ∧ wx.cell? ⟨w.heap.size + 1 + 1, 3, none⟩ = some (.int .i64 u.limit) ∧ wx.cell? ⟨w.heap.size + 1 + 1, 4, none⟩ = some (.int .i64 u.n) ∧ wx.cell? ⟨bb, off + o.value.toNat, none⟩ = some (.int .i64 (classAt values o.value)) ∧ wx.cell? ⟨bb, off + u.value.toNat, none⟩ = some (.int .i64 (classAt values u.value)) ∧ w.heap.size < wx.heap.size ∧ w.heap.size + 1 < wx.heap.size ∧ w.heap.size + 1 + 1 < wx.heap.size ∧ bb < wx.heap.size ∧ Below w.heap.size w wx) (((try (dsimp only at *)); (try go_split_ands); (repeat' apply And.intro); all_goals (first | assumption | (simp [*, World.cell?_alloc_some]; done) | (go_simp; done) | (simp; omega) | (exact hbW.drew) | (exact (hbW.drew.cell (p := ⟨_, _, none⟩) (by assumption)).trans (by assumption)) | (exact (hb.cell (p := ⟨_, _, none⟩) (by assumption)).trans (by assumption)) | (exact Nat.lt_of_lt_of_le (by assumption) hb.size) | (exact (‹Below w.heap.size w _›).trans (hb.mono (‹Below w.heap.size w _›).size))))) (fail)
            go_split_ands
            go_wp2
            go_ret
            exact ⟨ret_int H.out, by assumption⟩
          · have q : (classAt values u.value != classAt values o.value) = true := by simpa using hcl
            have H : Hid (17 = reuseErr values o all) := by show _ = _; unfold reuseErr; rw [if_neg (by omega), hg]; simp [hk, hlate, hcl]
            clear hk hcl hg
            go_enter Try.func62, Try.ntmps62
            go_wp2
            go_region_held3 (fun wx => wx.cell? ⟨w.heap.size, 0, none⟩ = some (.slice (some ⟨bb, off, none⟩) values.length cv) ∧ wx.cell? ⟨w.heap.size, 1, none⟩ = some (vb) ∧ wx.cell? ⟨w.heap.size, 2, none⟩ = some (.int .i64 m0) ∧ wx.cell? ⟨w.heap.size, 3, none⟩ = some (.int .i64 m1) ∧ wx.cell? ⟨w.heap.size + 1, 0, none⟩ = some (.int .i64 o.kind) ∧ wx.cell? ⟨w.heap.size + 1, 1, none⟩ = some (.int .i64 o.value) ∧ wx.cell? ⟨w.heap.size + 1, 2, none⟩ = some (.bool o.late) ∧ wx.cell? ⟨w.heap.size + 1, 3, none⟩ = some (.int .i64 o.limit) ∧ wx.cell? ⟨w.heap.size + 1, 4, none⟩ = some (.int .i64 o.n) ∧ wx.cell? ⟨w.heap.size + 1 + 1, 0, none⟩ = some (.int .i64 u.kind) ∧ wx.cell? ⟨w.heap.size + 1 + 1, 1, none⟩ = some (.int .i64 u.value) ∧ wx.cell? ⟨w.heap.size + 1 + 1, 2, none⟩ = some (.bool false) ∧ wx.cell? ⟨w.heap.size + 1 + 1, 3, none⟩ = some (.int .i64 u.limit) ∧ wx.cell? ⟨w.heap.size + 1 + 1, 4, none⟩ = some (.int .i64 u.n) ∧ wx.cell? ⟨bb, off + o.value.toNat, none⟩ = some (.int .i64 (classAt values o.value)) ∧ wx.cell? ⟨bb, off + u.value.toNat, none⟩ = some (.int .i64 (classAt values u.value)) ∧ w.heap.size < wx.heap.size ∧ w.heap.size + 1 < wx.heap.size ∧ w.heap.size + 1 + 1 < wx.heap.size ∧ bb < wx.heap.size ∧ Below w.heap.size w wx) (((try (dsimp only at *)); (try go_split_ands); (repeat' apply And.intro); all_goals (first | assumption | (simp [*, World.cell?_alloc_some]; done) | (go_simp; done) | (simp; omega) | (exact hbW.drew) | (exact (hbW.drew.cell (p := ⟨_, _, none⟩) (by assumption)).trans (by assumption)) | (exact (hb.cell (p := ⟨_, _, none⟩) (by assumption)).trans (by assumption)) | (exact Nat.lt_of_lt_of_le (by assumption) hb.size) | (exact (‹Below w.heap.size w _›).trans (hb.mono (‹Below w.heap.size w _›).size))))) (fail)
            go_split_ands
            go_wp2
            go_ret
            exact ⟨ret_int H.out, by assumption⟩
        · rw [hlate] at hb3 c2
          have H : Hid (4 = reuseErr values o all) := by show _ = _; unfold reuseErr; rw [if_neg (by omega), hg]; simp [hlate]
          clear hk hg
          go_enter Try.func62, Try.ntmps62
          go_wp2
          go_ret
          exact ⟨ret_int H.out, hb3⟩
      · have k1 : (u.kind != 1) = true := by simpa using hk
        have H : Hid (4 = reuseErr values o all) := by show _ = _; unfold reuseErr; rw [if_neg (by omega), hg]; simp [hk]
        clear hk hg
        go_enter Try.func62, Try.ntmps62
        go_wp2
        go_ret
        exact ⟨ret_int H.out, hb3⟩
end Go.Proofs.Ytglfpnnfcpnmoaa
namespace Go.Proofs.Ytglfpnnfcpnmoaa
open Go.RowKit
set_option linter.unusedVariables false

def spErr (m0 m1 : Int) : Option Rg → List Rg → Int
  | _, [] => 0
  | p, r :: l => if givB m0 m1 r.cls r.n = false then 2 else match p with
    | some q => if behB r.cls r.n q.cls q.n = false then 4 else spErr m0 m1 (some r) l
    | none => spErr m0 m1 (some r) l

theorem rg_cells {w : World} {aa : Option Addr} {ca n : Nat} {l : List Rg} (ha : SlOf w 2 RRg (.slice aa n ca) l) (i : Nat) (hi : i < l.length) :
    ∃ b off, aa = some ⟨b, off, none⟩ ∧ b < w.heap.size ∧ w.cell? ⟨b, off + i * 2, none⟩ = some (.int .i64 l[i].cls) ∧ w.cell? ⟨b, off + i * 2 + 1, none⟩ = some (.int .i64 l[i].n) := by
  obtain ⟨b, off, cs, h1, h2, h3, h4⟩ := ha.at i hi
  unfold RRg at h3
  subst h3
  have c0 := h4 0 (by simp)
  have c1 := h4 1 (by simp)
  simp at c0 c1
  exact ⟨b, off, h1, block_lt c0, c0, c1⟩

theorem behind_is (c1 n1 c2 n2 : Int) (b : Bool) (h : behB c1 n1 c2 n2 = b) (w : World) :
    Calls Try.prog 67 #[.agg #[.int .i64 c1, .int .i64 n1], .agg #[.int .i64 c2, .int .i64 n2]] w fun e w' => e = .returned (.bool b) ∧ Below w.heap.size w w' := by
  rw [← h]; exact behind_any c1 n1 c2 n2 w

/-- What stands ahead of place k. -/
def ahead {α : Type} (l : List α) : Nat → Option α
  | 0 => none
  | k + 1 => l[k]?

theorem ahead_of {α : Type} (l : List α) (k : Nat) (h : k < l.length) (h0 : 0 < k) : ahead l k = some (l[(k - 1)]'(by omega)) := by
  cases k with
  | zero => omega
  | succ k =>
    exact List.getElem?_eq_getElem (by omega)

set_option maxHeartbeats 1000000 in
theorem spoils_any (vv vb : Value) (m0 m1 : Int) (l : List Rg) (al : Option Addr) (cl : Nat) (w : World) (hl : SlOf w 2 RRg (.slice al l.length cl) l) :
    Calls Try.prog 63 #[.agg #[vv, vb, .int .i64 m0, .int .i64 m1], .slice al l.length cl] w fun e w' => e = .returned (.int .i64 (spErr m0 m1 none l)) ∧ Below w.heap.size w w' := by
  obtain ⟨_, _, _, la⟩ := hl.out
  unfold longest at la
  obtain ⟨W1, hW1⟩ : ∃ W1, W1 = w.alloc (.cells #[vv, vb, .int .i64 m0, .int .i64 m1] 106) := ⟨_, rfl⟩
  have hbw1 : Below w.heap.size w W1 := by rw [hW1]; exact (Below.refl _ _).alloc (Nat.le_refl _) _
  have hz1 : W1.heap.size = w.heap.size + 1 := by rw [hW1]; simp
  have d0 : W1.cell? ⟨w.heap.size, 0, none⟩ = some vv := by rw [hW1]; simp
  have d1 : W1.cell? ⟨w.heap.size, 1, none⟩ = some vb := by rw [hW1]; simp
  have d2 : W1.cell? ⟨w.heap.size, 2, none⟩ = some (.int .i64 m0) := by rw [hW1]; simp
  have d3 : W1.cell? ⟨w.heap.size, 3, none⟩ = some (.int .i64 m1) := by rw [hW1]; simp
  have HW : Hid (W1 = w.alloc (.cells #[vv, vb, .int .i64 m0, .int .i64 m1] 106)) := hW1
  have HZ : Hid (W1.heap.size = w.heap.size + 1) := hz1
  clear hW1 hz1
  go_enter Try.func63, Try.ntmps63
  go_wp2
  go_loopw [9] (fun i wr => ∃ k : Nat, k ≤ l.length ∧ i = .int .i64 k ∧ Below (w.heap.size + 1) W1 wr ∧ w.heap.size < wr.heap.size ∧ Hid (spErr m0 m1 (ahead l k) (l.drop k) = spErr m0 m1 none l)) (fun i _ => l.length - (intOf i).toNat)
  case atStart => exact ⟨0, Nat.zero_le _, rfl, by rw [HW.out]; exact Below.refl _ _, by simp, rfl⟩
  case round =>
    obtain ⟨k, hk, rfl, hbr, hs, HK⟩ := hrel
    have hbwr : Below w.heap.size w wr := hbw1.trans (hbr.mono (by omega))
    have f0 := (hbr.cell (p := ⟨w.heap.size, 0, none⟩) (by simp)).trans d0
    have f1 := (hbr.cell (p := ⟨w.heap.size, 1, none⟩) (by simp)).trans d1
    have f2 := (hbr.cell (p := ⟨w.heap.size, 2, none⟩) (by simp)).trans d2
    have f3 := (hbr.cell (p := ⟨w.heap.size, 3, none⟩) (by simp)).trans d3
    have hwne : w.heap.size ≠ wr.heap.size := by omega
    clear d0 d1 d2 d3
    by_cases hlt : k < l.length
    · have HK' : Hid (spErr m0 m1 (ahead l k) (l[k] :: l.drop (k + 1)) = spErr m0 m1 none l) := by rw [← List.drop_eq_getElem_cons hlt]; exact HK
      have HN : Hid (ahead l (k + 1) = some l[k]) := List.getElem?_eq_getElem hlt
      clear HK
      obtain ⟨b2, off2, rfl, hb2, c0, c1⟩ := rg_cells (hl.below hbwr fun _ _ h => h) k hlt
      generalize l[k] = r at *
      cases hg : givB m0 m1 r.cls r.n
      · have H : Hid (2 = spErr m0 m1 none l) := by
          show _ = _
          rw [← HK'.out]
          unfold spErr
          rw [if_pos hg]
        clear HK' HN
        go_wp2_with (go_at_call 66; refine (givable_is _ _ _ _ _ _ false hg _).mono ?_; rintro e w1 ⟨rfl, hb1⟩)
        go_ret
        exact ⟨ret_int H.out, (hbwr.alloc (by omega) _).trans (hb1.mono (by simp; omega))⟩
      · have hne2 : b2 ≠ wr.heap.size := by omega
        by_cases hk0 : k = 0
        · subst hk0
          have H : Hid (spErr m0 m1 (ahead l (0 + 1)) (l.drop (0 + 1)) = spErr m0 m1 none l) := by
            show _ = _
            rw [← HK'.out, HN.out]
            conv => rhs; unfold spErr
            rw [if_neg (by simp [hg])]
            rfl
          clear HK' HN
          simp only [Nat.zero_mul, Nat.add_zero] at c0 c1
          go_wp2_with (go_at_call 66; refine (givable_is _ _ _ _ _ _ true hg _).mono ?_; rintro e w1 ⟨rfl, hb1⟩)
          have hz1 := hb1.size
          simp at hz1
          go_quiet (fail)
          go_wp2
          go_roundw
          case rel => exact ⟨0 + 1, by omega, by go_num, below_drewN (hbr.alloc (by omega) _ |>.trans (hb1.mono (by simp; omega))) _, by simp; omega, H⟩
          case measure => simp [intOf]; omega
        · have HA : Hid (ahead l k = some (l[(k - 1)]'(by omega))) := ahead_of l k (by omega) (by omega)
          obtain ⟨b2', off2', hal, hb2', q0, q1⟩ := rg_cells (hl.below hbwr fun _ _ h => h) (k - 1) (by omega)
          simp only [Option.some.injEq, Addr.mk.injEq] at hal
          obtain ⟨rfl, rfl, _⟩ := hal
          generalize l[(k - 1)]'(by omega) = q at *
          have i0 : (0 : Int) ≤ (k : Int) - 1 := by omega
          have i1 : (k : Int) - 1 < (l.length : Int) := by omega
          have i2 : (0 : Int) < (k : Int) := by omega
          have i3 : (k : Int) < (l.length : Int) := by omega
          have i4 : 0 < k := by omega
          have i6 : 1 ≤ k := by omega
          have i7 : (1 : Int) ≤ (k : Int) := by omega
          have i8 : (k : Int) < (l.length : Int) + 1 := by omega
          have i9 : k - 1 < l.length := by omega
          have i10 : k < l.length + 1 := by omega
          have j1 : IntKind.i64.wrap ((k : Int) - 1) = (k : Int) - 1 := by rw [IntKind.wrap_i64]; omega
          have i5 : decide ((0 : Int) < (k : Int)) = true := by simp; omega
          cases hq : behB r.cls r.n q.cls q.n
          · have H : Hid (4 = spErr m0 m1 none l) := by
              show _ = _
              rw [← HK'.out, HA.out]
              unfold spErr
              rw [if_neg (by simp [hg])]
              simp [hq]
            clear HK' HN HA
            go_wp2_with (go_at_call 66; refine (givable_is _ _ _ _ _ _ true hg _).mono ?_; rintro e w1 ⟨rfl, hb1⟩)
            have hz1 := hb1.size
            simp at hz1
            have s0 : w1.cell? ⟨wr.heap.size, 0, none⟩ = some (.int .i64 r.cls) := by rw [hb1.cell (by simp)]; simp
            have s1 : w1.cell? ⟨wr.heap.size, 1, none⟩ = some (.int .i64 r.n) := by rw [hb1.cell (by simp)]; simp
            have s2 : w1.cell? ⟨b2, off2 + (k - 1) * 2, none⟩ = some (.int .i64 q.cls) := by rw [hb1.cell (by simp; omega), World.cell?_alloc_some _ _ _ (by rw [q0]; rfl)]; exact q0
            have s3 : w1.cell? ⟨b2, off2 + (k - 1) * 2 + 1, none⟩ = some (.int .i64 q.n) := by rw [hb1.cell (by simp; omega), World.cell?_alloc_some _ _ _ (by rw [q1]; rfl)]; exact q1
            have hbW : Below (w.heap.size + 1) W1 w1 := (hbr.alloc (by omega) _).trans (hb1.mono (by simp; omega))
            have t1 : wr.heap.size < w1.heap.size := by omega
            have t2 : b2 < w1.heap.size := by omega
            clear hb1
            go_region_held3 (fun wx => wx.cell? ⟨wr.heap.size, 0, none⟩ = some (.int .i64 r.cls) ∧ wx.cell? ⟨wr.heap.size, 1, none⟩ = some (.int .i64 r.n) ∧ wx.cell? ⟨b2, off2 + (k - 1) * 2, none⟩ = some (.int .i64 q.cls) ∧ wx.cell? ⟨b2, off2 + (k - 1) * 2 + 1, none⟩ = some (.int .i64 q.n) ∧ wr.heap.size < wx.heap.size ∧ b2 < wx.heap.size ∧ Below (w.heap.size + 1) W1 wx) (((try (dsimp only at *)); (try go_split_ands); (repeat' apply And.intro); all_goals (first | assumption | (simp [*, World.cell?_alloc_some]; done) | (go_simp; done) | (simp; omega) | (exact hbW.drew) | (exact (hbW.drew.cell (p := ⟨_, _, none⟩) (by assumption)).trans (by assumption)) | (exact (hb.cell (p := ⟨_, _, none⟩) (by assumption)).trans (by assumption)) | (exact Nat.lt_of_lt_of_le (by assumption) hb.size) | (exact (‹Below (w.heap.size + 1) W1 _›).trans (hb.mono (by first | omega | (simp; omega)))))))
              (first | (go_at_call 67; refine (behind_is _ _ _ _ false hq _).mono ?_; rintro e w' ⟨rfl, hb⟩))
            go_split_ands
            go_wp2
            go_ret
            exact ⟨ret_int H.out, hbw1.trans ((‹Below (w.heap.size + 1) W1 _›).mono (by omega))⟩
          · have H : Hid (spErr m0 m1 (ahead l (k + 1)) (l.drop (k + 1)) = spErr m0 m1 none l) := by
              show _ = _
              rw [← HK'.out, HA.out, HN.out]
              conv => rhs; unfold spErr
              rw [if_neg (by simp [hg])]
              simp [hq]
            clear HK' HN HA
            go_wp2_with (go_at_call 66; refine (givable_is _ _ _ _ _ _ true hg _).mono ?_; rintro e w1 ⟨rfl, hb1⟩)
            have hz1 := hb1.size
            simp at hz1
            have s0 : w1.cell? ⟨wr.heap.size, 0, none⟩ = some (.int .i64 r.cls) := by rw [hb1.cell (by simp)]; simp
            have s1 : w1.cell? ⟨wr.heap.size, 1, none⟩ = some (.int .i64 r.n) := by rw [hb1.cell (by simp)]; simp
            have s2 : w1.cell? ⟨b2, off2 + (k - 1) * 2, none⟩ = some (.int .i64 q.cls) := by rw [hb1.cell (by simp; omega), World.cell?_alloc_some _ _ _ (by rw [q0]; rfl)]; exact q0
            have s3 : w1.cell? ⟨b2, off2 + (k - 1) * 2 + 1, none⟩ = some (.int .i64 q.n) := by rw [hb1.cell (by simp; omega), World.cell?_alloc_some _ _ _ (by rw [q1]; rfl)]; exact q1
            have hbW : Below (w.heap.size + 1) W1 w1 := (hbr.alloc (by omega) _).trans (hb1.mono (by simp; omega))
            have t1 : wr.heap.size < w1.heap.size := by omega
            have t2 : b2 < w1.heap.size := by omega
            clear hb1
            go_region_held3 (fun wx => wx.cell? ⟨wr.heap.size, 0, none⟩ = some (.int .i64 r.cls) ∧ wx.cell? ⟨wr.heap.size, 1, none⟩ = some (.int .i64 r.n) ∧ wx.cell? ⟨b2, off2 + (k - 1) * 2, none⟩ = some (.int .i64 q.cls) ∧ wx.cell? ⟨b2, off2 + (k - 1) * 2 + 1, none⟩ = some (.int .i64 q.n) ∧ wr.heap.size < wx.heap.size ∧ b2 < wx.heap.size ∧ Below (w.heap.size + 1) W1 wx) (((try (dsimp only at *)); (try go_split_ands); (repeat' apply And.intro); all_goals (first | assumption | (simp [*, World.cell?_alloc_some]; done) | (go_simp; done) | (simp; omega) | (exact hbW.drew) | (exact (hbW.drew.cell (p := ⟨_, _, none⟩) (by assumption)).trans (by assumption)) | (exact (hb.cell (p := ⟨_, _, none⟩) (by assumption)).trans (by assumption)) | (exact Nat.lt_of_lt_of_le (by assumption) hb.size) | (exact (‹Below (w.heap.size + 1) W1 _›).trans (hb.mono (by first | omega | (simp; omega)))))))
              (first | (go_at_call 67; refine (behind_is _ _ _ _ true hq _).mono ?_; rintro e w' ⟨rfl, hb⟩))
            go_split_ands
            go_wp2
            go_roundw
            case rel => exact ⟨k + 1, by omega, by go_num, by assumption, by omega, H⟩
            case measure => simp [intOf]; omega
    · have H : Hid (0 = spErr m0 m1 none l) := by
        show _ = _
        rw [← HK.out, List.drop_of_length_le (by omega)]
        cases (ahead l k) <;> rfl
      clear HK
      go_wp2
      go_ret
      exact ⟨ret_int H.out, hbwr⟩
end Go.Proofs.Ytglfpnnfcpnmoaa
namespace Go.Proofs.Ytglfpnnfcpnmoaa
open Go.RowKit
set_option linter.unusedVariables false

def named (all : List Opr) (o : Opr) : Opr := if o.limit = 5 then all.getD o.n.toNat ⟨0, 0, false, 0, 0⟩ else o
def fixedOf (values : List Int) (all : List Opr) (o : Opr) : Option (Int × Int) := if (named all o).limit = 4 then some (classAt values (named all o).value, (named all o).n) else none
def fixRes (p : Option (Int × Int)) : Value := .tuple #[.agg #[.int .i64 (p.getD (0, 0)).1, .int .i64 (p.getD (0, 0)).2], .bool p.isSome]

theorem ret_val {a b : Value} (h : a = b) : Ending.returned a = .returned b := by rw [h]

set_option maxHeartbeats 1000000 in
theorem fixed_any (values : List Int) (av : Option Addr) (cv : Nat) (vb : Value) (m0 m1 : Int) (o : Opr) (all : List Opr) (aa : Option Addr) (ca : Nat) (w : World) (hv : SlOf w 1 RInt (.slice av values.length cv) values)
    (ha : SlOf w 5 ROpr (.slice aa all.length ca) all) (hN : o.limit = 5 → 0 ≤ o.n ∧ o.n < (all.length : Int)) (hV : isValueB values.length (named all o).value = true) :
    Calls Try.prog 68 #[.agg #[.slice av values.length cv, vb, .int .i64 m0, .int .i64 m1], .agg #[.int .i64 o.kind, .int .i64 o.value, .bool o.late, .int .i64 o.limit, .int .i64 o.n], .slice aa all.length ca] w fun e w' => e = .returned (fixRes (fixedOf values all o)) ∧ Below w.heap.size w w' := by
  obtain ⟨_, _, _, lv⟩ := hv.out
  obtain ⟨_, _, _, la⟩ := ha.out
  unfold longest at lv la
  by_cases h5 : o.limit = 5
  · obtain ⟨n0, n1⟩ := hN h5
    have q5 : (o.limit == 5) = true := by simp [h5]
    have hi : o.n.toNat < all.length := by omega
    obtain ⟨b5, off5, rfl, hb5, c0, c1, c2, c3, c4⟩ := opr_cells ha o.n.toNat hi
    have hu : named all o = all[o.n.toNat] := by simp [named, h5, List.getD, List.getElem?_eq_getElem hi]
    generalize all[o.n.toNat] = u at *
    rw [hu] at hV
    have L5 := old_cell b5
    have e51 : b5 < w.heap.size + 1 := by omega
    have e52 : b5 < w.heap.size + 1 + 1 := by omega
    by_cases h4 : u.limit = 4
    · obtain ⟨bb, off, rfl, hcell, hbb, v0, v1⟩ := classAt_cell hv u.value hV
      have q4 : (u.limit != 4) = false := by simp [h4]
      have H : Hid (fixRes (some (classAt values u.value, u.n)) = fixRes (fixedOf values all o)) := by show _ = _; simp [fixedOf, hu, h4]
      have L6 := old_cell bb
      have f51 : bb < w.heap.size + 1 := by omega
      have f52 : bb < w.heap.size + 1 + 1 := by omega
      have f53 : bb < w.heap.size + 1 + 1 + 1 := by omega
      clear hu h4 h5
      go_enter Try.func68, Try.ntmps68
      go_wp2
      go_region
      all_goals go_wp2
      all_goals refine bodyPost_ret (v := fixRes (some (classAt values u.value, u.n))) (by simp [results, Try.results68, go_sem, fixRes]) rfl ⟨ret_val H.out, ?_⟩
      all_goals repeat (first | exact Below.refl _ _ | refine Below.drew ?_ | refine Below.alloc ?_ (by simp; try omega) _ | refine Below.setCell ?_ (by simp; try omega) _)
    · have q4 : (u.limit != 4) = true := by simpa using h4
      have H : Hid (fixRes none = fixRes (fixedOf values all o)) := by show _ = _; simp [fixedOf, hu, h4]
      clear hu h4 h5
      go_enter Try.func68, Try.ntmps68
      go_wp2
      refine bodyPost_ret (v := fixRes none) (by simp [results, Try.results68, go_sem, fixRes]) rfl ⟨ret_val H.out, ?_⟩
      repeat (first | exact Below.refl _ _ | refine Below.drew ?_ | refine Below.alloc ?_ (by simp; try omega) _ | refine Below.setCell ?_ (by simp; try omega) _)
  · have hu : named all o = o := by simp [named, h5]
    rw [hu] at hV
    have q5 : (o.limit == 5) = false := by simpa using h5
    by_cases h4 : o.limit = 4
    · obtain ⟨bb, off, rfl, hcell, hbb, v0, v1⟩ := classAt_cell hv o.value hV
      have q4 : (o.limit != 4) = false := by simp [h4]
      have H : Hid (fixRes (some (classAt values o.value, o.n)) = fixRes (fixedOf values all o)) := by show _ = _; simp [fixedOf, hu, h4]
      have L6 := old_cell bb
      have f51 : bb < w.heap.size + 1 := by omega
      have f52 : bb < w.heap.size + 1 + 1 := by omega
      have f53 : bb < w.heap.size + 1 + 1 + 1 := by omega
      clear hu h4 h5
      go_enter Try.func68, Try.ntmps68
      go_wp2
      go_region
      all_goals go_wp2
      all_goals refine bodyPost_ret (v := fixRes (some (classAt values o.value, o.n))) (by simp [results, Try.results68, go_sem, fixRes]) rfl ⟨ret_val H.out, ?_⟩
      all_goals repeat (first | exact Below.refl _ _ | refine Below.drew ?_ | refine Below.alloc ?_ (by simp; try omega) _ | refine Below.setCell ?_ (by simp; try omega) _)
    · have q4 : (o.limit != 4) = true := by simpa using h4
      have H : Hid (fixRes none = fixRes (fixedOf values all o)) := by show _ = _; simp [fixedOf, hu, h4]
      clear hu h4 h5
      go_enter Try.func68, Try.ntmps68
      go_wp2
      refine bodyPost_ret (v := fixRes none) (by simp [results, Try.results68, go_sem, fixRes]) rfl ⟨ret_val H.out, ?_⟩
      repeat (first | exact Below.refl _ _ | refine Below.drew ?_ | refine Below.alloc ?_ (by simp; try omega) _ | refine Below.setCell ?_ (by simp; try omega) _)
end Go.Proofs.Ytglfpnnfcpnmoaa
namespace Go.Proofs.Ytglfpnnfcpnmoaa
open Go.RowKit
set_option linter.unusedVariables false

def rgIs (c n : Int) (r : Rg) : Bool := decide (c = r.cls ∧ n = r.n)
def hasRg (l : List Rg) (c n : Int) : Bool := l.any (rgIs c n)

theorem eqReg (c1 n1 c2 n2 : Int) (w : World) : (binOp .eql 97 (.agg #[.int .i64 c1, .int .i64 n1]) (.agg #[.int .i64 c2, .int .i64 n2])).run Try.prog w = .ok (.bool (c1 == c2 && n1 == n2)) w := by
  have u3 := Try.underlying3
  have a3 := Try.isAgg3
  have z3 := Try.sizeOf3
  have hS : Try.prog.underlying 97 = some (.struct (Try.prog.fieldsOf 97)) := by kernel_rfl
  have hp : Try.prog.stoodInHeld 97 = false := by kernel_rfl
  rw [run_eql_struct, show (10000 : Nat) = 9999 + 1 from rfl, run_equalIn_agg w 9999 97 _ _ hS hp]
  simp only [Program.fieldsOf, Try.underlying97]
  go_simp
  by_cases h1 : c1 = c2 <;> by_cases h2 : n1 = n2 <;> simp [h1, h2]
theorem eqRegG : Try.prog.eqGuardType Try.prog.depth 97 = false := by kernel_rfl

theorem any_none {α : Type} (l : List α) (p : α → Bool) (k : Nat) (h : l.length ≤ k) (h1 : (l.take k).any p = false) : l.any p = false := by
  rwa [List.take_of_length_le h] at h1
theorem any_snoc {α : Type} (l : List α) (p : α → Bool) (k : Nat) (h : k < l.length) (h1 : (l.take k).any p = false) (h2 : p l[k] = false) : (l.take (k + 1)).any p = false := by
  rw [List.take_succ_eq_append_getElem h, List.any_append, h1]
  simp [h2]
theorem any_at {α : Type} (l : List α) (p : α → Bool) (k : Nat) (h : k < l.length) (h2 : p l[k] = true) : l.any p = true :=
  List.any_eq_true.2 ⟨l[k], List.getElem_mem h, h2⟩

set_option maxHeartbeats 1000000 in
theorem index_any (l : List Rg) (al : Option Addr) (cl : Nat) (c n : Int) (w : World) (hl : SlOf w 2 RRg (.slice al l.length cl) l) :
    Calls Try.prog 71 #[.slice al l.length cl, .agg #[.int .i64 c, .int .i64 n]] w fun e w' => ∃ i : Int, e = .returned (.int .i64 i) ∧ hasRg l c n = decide (0 ≤ i) ∧ Below w.heap.size w w' := by
  obtain ⟨_, _, _, la⟩ := hl.out
  unfold longest at la
  obtain ⟨W1, hW1⟩ : ∃ W1, W1 = w.alloc (.cells #[.int .i64 c, .int .i64 n] 97) := ⟨_, rfl⟩
  have hbw1 : Below w.heap.size w W1 := by rw [hW1]; exact (Below.refl _ _).alloc (Nat.le_refl _) _
  have d0 : W1.cell? ⟨w.heap.size, 0, none⟩ = some (.int .i64 c) := by rw [hW1]; simp
  have d1 : W1.cell? ⟨w.heap.size, 1, none⟩ = some (.int .i64 n) := by rw [hW1]; simp
  have HW : Hid (W1 = w.alloc (.cells #[.int .i64 c, .int .i64 n] 97)) := hW1
  clear hW1
  have eqr := eqReg
  have eqg := eqRegG
  go_enter Try.func71, Try.ntmps71
  go_wp2
  go_loopw [8] (fun i wr => ∃ k : Nat, k ≤ l.length ∧ i = .int .i64 k ∧ Below (w.heap.size + 1) W1 wr ∧ w.heap.size < wr.heap.size ∧ Hid ((l.take k).any (rgIs c n) = false)) (fun i _ => l.length - (intOf i).toNat)
  case atStart => exact ⟨0, Nat.zero_le _, rfl, by rw [HW.out]; exact Below.refl _ _, by simp, by simp [Hid]⟩
  case round =>
    obtain ⟨k, hk, rfl, hbr, hs, HK⟩ := hrel
    have hbwr : Below w.heap.size w wr := hbw1.trans (hbr.mono (by omega))
    have f0 := (hbr.cell (p := ⟨w.heap.size, 0, none⟩) (by simp)).trans d0
    have f1 := (hbr.cell (p := ⟨w.heap.size, 1, none⟩) (by simp)).trans d1
    clear d0 d1
    by_cases hlt : k < l.length
    · obtain ⟨b2, off2, rfl, hb2, c0, c1⟩ := rg_cells (hl.below hbwr fun _ _ h => h) k hlt
      have i0 : (0 : Int) ≤ (k : Int) := by omega
      have i1 : (k : Int) < (l.length : Int) := by omega
      cases hr : rgIs c n l[k]
      · have H : Hid ((l.take (k + 1)).any (rgIs c n) = false) := any_snoc _ _ _ hlt HK.out hr
        have hne : (c == l[k].cls && n == l[k].n) = false := by simpa [rgIs] using hr
        clear HK
        generalize l[k] = r at *
        clear hr
        go_wp2_with fail
        go_quiet (fail)
        go_wp2
        go_roundw
        case rel => exact ⟨k + 1, by omega, by go_num, below_drewN hbr _, by simpa using hs, H⟩
        case measure => simp [intOf]; omega
      · have H : Hid (hasRg l c n = decide ((0 : Int) ≤ (k : Int))) := by show _ = _; rw [hasRg, any_at _ _ _ hlt hr]; simp
        have hne : (c == l[k].cls && n == l[k].n) = true := by simpa [rgIs] using hr
        clear HK
        generalize l[k] = r at *
        clear hr
        go_wp2_with fail
        go_quiet (fail)
        go_wp2
        go_ret
        exact ⟨k, rfl, H.out, below_drewN hbwr _⟩
    · have H : Hid (hasRg l c n = decide ((0 : Int) ≤ -1)) := by show _ = _; rw [hasRg, any_none _ _ k (by omega) HK.out]; simp
      clear HK
      go_wp2
      go_ret
      exact ⟨-1, rfl, H.out, hbwr⟩

theorem contains_is (l : List Rg) (al : Option Addr) (cl : Nat) (c n : Int) (b : Bool) (h : hasRg l c n = b) (w : World) (hl : SlOf w 2 RRg (.slice al l.length cl) l) :
    Calls Try.prog 69 #[.slice al l.length cl, .agg #[.int .i64 c, .int .i64 n]] w fun e w' => e = .returned (.bool b) ∧ Below w.heap.size w w' := by
  have hb1 : Below w.heap.size w (w.alloc (.cells #[.int .i64 c, .int .i64 n] 97)) := (Below.refl _ _).alloc (Nat.le_refl _) _
  have hl1 := hl.below hb1 fun _ _ h => h
  go_enter Try.func69, Try.ntmps69
  go_wp2_with fail
  refine (index_any l al cl c n _ hl1).mono ?_
  rintro e w1 ⟨i, rfl, hi, hb⟩
  rw [h] at hi
  have Hi : Hid (b = decide (0 ≤ i)) := hi
  clear hi
  go_wp2
  go_ret
  exact ⟨ret_bool Hi.out.symm, hb1.trans (hb.mono (by simp))⟩
end Go.Proofs.Ytglfpnnfcpnmoaa
