/-
  The statements' own mason, as plain data: what value, limit, instr, lay, block, edge, newest, fork, loop and Func build.
  What may be stays so where values are added: operands, instructions.
  The mason's instruction, operand by operand: what holds of those laid so far.
  The mason's instruction: its defs, its spoils, and that it may be.
  The mason's instruction may be: no clash, a register to spare, spoils in their order.
  The mason's instruction, whole: it may be, and makes one or two new values.
  What is made, and edges, where a block is changed or values and blocks are added.
  What holds of the mason, and that laying an instruction, a block or an edge keeps it.
-/
import Derived.Test.YtglfpnnfcpnmoaaA1
import Derived.Test.YtglfpnnfcpnmoaaA2
import Derived.Test.YtglfpnnfcpnmoaaA4
import Derived.Test.YtglfpnnfcpnmoaaA3
namespace Go.Proofs.Ytglfpnnfcpnmoaa
open Go.RowKit
set_option linter.unusedVariables false

structure Pc where
  kind : Int
  op : Int
  a : Int
  b : Int
  c : Int
  limits : Int
  flags : Int
/-- The mason: the machine's registers, the function, the block that is being laid, the values that are known there. -/
structure Ms where
  m0 : Int
  m1 : Int
  f : Fn
  cur : Nat
  known : List Int

def get2 (p : Int × Int) (c : Int) : Int := if c = 0 then p.1 else p.2
def inc2 (p : Int × Int) (c : Int) : Int × Int := if c = 0 then (p.1 + 1, p.2) else (p.1, p.2 + 1)

def limitM (m0 m1 wish c : Int) (need fixed : Int × Int) : Int × Int × (Int × Int) × (Int × Int) :=
  if wish = 1 ∨ wish = 3 ∨ regsOf m0 m1 c ≤ get2 need c + 1 then (if wish = 3 then (3, 0, need, fixed) else (1, 0, need, fixed))
  else if wish = 4 then (4, get2 fixed c, inc2 need c, inc2 fixed c) else (2, 0, inc2 need c, fixed)

/-- What an instruction's walk holds: its operands, what is needed and fixed of each class, the limits that are left. -/
structure Wk where
  ops : List Opr
  need : Int × Int
  fixed : Int × Int
  limits : Int

def usesM (s : Ms) (p : Pc) (flags : Int) : Nat → Nat → Wk → Wk
  | 0, _, x => x
  | n + 1, i, x =>
    if (i : Int) < flags % 4 ∧ s.known ≠ [] then
      let v := s.known.getD (pickedOf (Int.tdiv p.a ((i : Int) + 1)) s.known.length).toNat 0
      let r := limitM s.m0 s.m1 (1 + x.limits % 4) (classAt s.f.values v) x.need x.fixed
      usesM s p flags n (i + 1) ⟨x.ops ++ [⟨1, v, decide (flags / 2 ^ (4 + i) % 2 = 1), r.1, r.2.1⟩], r.2.2.1, r.2.2.2, x.limits / 4⟩
    else x

/-- One def: the values that there are, what was reused so far, the walk. -/
def defM (m0 m1 : Int) (p : Pc) (flags : Int) (uses : Nat) (i : Nat) (values : List Int) (reused : Int) (x : Wk) : List Int × Int × Wk :=
  let c := p.c / 2 ^ i % 2
  let late := decide (flags / 2 ^ (9 + i) % 2 = 1)
  let wish := 1 + x.limits % 5
  let l := x.limits / 5
  let k := pickedOf p.b ((uses : Int) + 1)
  let o := x.ops.getD k.toNat ⟨0, 0, false, 0, 0⟩
  if wish = 5 ∧ k < uses ∧ k ≠ reused ∧ o.late = false ∧ get2 x.need c + 1 < regsOf m0 m1 c ∧ classAt values o.value = c then
    (values ++ [c], k, ⟨x.ops ++ [⟨2, values.length, true, 5, k⟩], inc2 x.need c, x.fixed, l⟩)
  else
    let r := limitM m0 m1 (if wish = 5 then 1 else wish) c x.need x.fixed
    (values ++ [c], reused, ⟨x.ops ++ [⟨2, values.length, late, r.1, r.2.1⟩], r.2.2.1, r.2.2.2, l⟩)

def spoilsM (c n reg : Int) : List Rg := (List.range n.toNat).map fun (j : Nat) => ⟨c, reg - (n - j)⟩

/-- An instruction of a piece, and the values that there are then. -/
def instrM (s : Ms) (p : Pc) : Ins × List Int :=
  let flags := pickedOf p.flags (2 ^ 30)
  let x0 := usesM s p flags 3 0 ⟨[], (0, 0), (0, 0), pickedOf p.limits (2 ^ 40)⟩
  let uses := x0.ops.length
  let d0 := defM s.m0 s.m1 p flags uses 0 s.f.values (-1) x0
  let d1 := if flags / 2 ^ 8 % 2 = 1 then defM s.m0 s.m1 p flags uses 1 d0.1 d0.2.1 d0.2.2 else d0
  let x := d1.2.2
  let sp := if flags / 2 ^ 12 % 3 = 0 then spoilsM 0 (min (pickedOf p.b 4) (s.m0 - 1 - x.need.1)) s.m0 ++ spoilsM 1 (min (pickedOf p.b 4) (s.m1 - 1 - x.need.2)) s.m1 else []
  (⟨pickedOf p.op 256, x.ops, sp⟩, d1.1)

def setBlk (l : List Blk) (i : Nat) (g : Blk → Blk) : List Blk := l.set i (g (l.getD i ⟨[], [], []⟩))

def addI (x : Ins) (b : Blk) : Blk := { b with instrs := b.instrs ++ [x] }
def addE (e : Edg) (b : Blk) : Blk := { b with edges := b.edges ++ [e] }
def layM (s : Ms) (p : Pc) : Ms :=
  let r := instrM s p
  { s with f := ⟨r.2, setBlk s.f.blocks s.cur (addI r.1)⟩, known := s.known ++ (r.1.operands.filter fun o => decide (o.kind = 2)).map (·.value) }

/-- A new block, and its place. -/
def blockM (s : Ms) (classes : List Int) : Ms × Nat :=
  ({ s with f := ⟨s.f.values ++ classes, s.f.blocks ++ [⟨(List.range classes.length).map fun j => ((s.f.values.length + j : Nat) : Int), [], []⟩]⟩ }, s.f.blocks.length)

def edgeM (s : Ms) (src dst : Nat) (args : List Int) : Ms :=
  { s with f := ⟨s.f.values, setBlk s.f.blocks src (addE ⟨dst, args⟩)⟩ }

/-- The newest value of a class among the first n known ones. -/
def seekM (s : Ms) (c : Int) : Nat → Option Int
  | 0 => none
  | n + 1 => let v := s.known.getD n 0; if classAt s.f.values v = c then some v else seekM s c n
def newestM (s : Ms) (c : Int) (p : Pc) : Ms × Int :=
  match seekM s c ((s.known.length : Int) - pickedOf p.b 3).toNat with
  | some v => (s, v)
  | none => let s' := layM s { p with c := 3 * c }; (s', s'.known.getLastD 0)

def up (n : Int) : Int := wrap64 (n + 1)

def forkM (s : Ms) (p : Pc) : Ms :=
  let c := pickedOf p.c 2
  let s1 := layM s p
  let src := s1.cur
  let kn := s1.known
  let ra := blockM s1 []
  let rb := blockM ra.1 []
  let re := blockM rb.1 [c, 0]
  let s2 := edgeM (edgeM re.1 src ra.2 []) src rb.2 []
  let way (s : Ms) (p : Pc) (k : Nat) (more : Bool) : Ms × Pc :=
    let p1 : Pc := { p with a := up p.a }
    let t0 : Ms := { s with cur := k }
    let p2 : Pc := if more then { p1 with op := up p1.op } else p1
    let t1 := if more then layM t0 p2 else t0
    let rv := newestM t1 c p2
    let rz := newestM rv.1 0 p2
    ({ edgeM rz.1 k re.2 [rv.2, rz.2] with known := kn }, p2)
  let w1 := way s2 p ra.2 true
  let w2 := way w1.1 w1.2 rb.2 (decide (pickedOf p.flags 2 = 1))
  { w2.1 with cur := re.2, known := kn ++ (w2.1.f.blocks.getD re.2 ⟨[], [], []⟩).params }

def ringM (s : Ms) (p : Pc) : Ms :=
  let c := pickedOf p.c 2
  let rv := newestM s c p
  let ru := newestM rv.1 0 p
  let rh := blockM ru.1 [c, 0]
  let s1 := edgeM rh.1 rh.1.cur rh.2 [rv.2, ru.2]
  let s2 : Ms := { s1 with cur := rh.2, known := s1.known ++ (s1.f.blocks.getD rh.2 ⟨[], [], []⟩).params }
  let p1 : Pc := { p with flags := if p.flags % 2 = 0 then p.flags + 1 else p.flags }
  let s3 := layM s2 p1
  let kn := s3.known
  let rb := blockM s3 []
  let ro := blockM rb.1 []
  let s4 := edgeM (edgeM ro.1 rh.2 rb.2 []) rh.2 ro.2 []
  let p2 : Pc := { p1 with a := up p1.a, op := up p1.op }
  let s5 := layM { s4 with cur := rb.2 } p2
  let rx := newestM s5 c p2
  let ry := newestM rx.1 0 p2
  { edgeM ry.1 rb.2 rh.2 [rx.2, ry.2] with cur := ro.2, known := kn }

def curI (s : Ms) : Nat := (s.f.blocks.getD s.cur ⟨[], [], []⟩).instrs.length
def stepM (s : Ms) (p : Pc) : Ms :=
  let room := s.f.blocks.length + 3 ≤ 16 ∧ curI s < 20 ∧ s.f.values.length < 110
  let k := pickedOf p.kind 6
  if k = 0 ∧ room then forkM s p else if k = 1 ∧ room then ringM s p else if curI s < 20 ∧ s.f.values.length < 120 then layM s p else s
def masonM (m0 m1 : Int) (l : List Pc) : Fn :=
  let s0 := (blockM ⟨m0, m1, ⟨[], []⟩, 0, []⟩ []).1
  (layM ((l.take 24).foldl stepM s0) ⟨0, 0, 1, 0, 0, 0, 3⟩).f
end Go.Proofs.Ytglfpnnfcpnmoaa
namespace Go.Proofs.Ytglfpnnfcpnmoaa
open Go.RowKit
set_option linter.unusedVariables false

theorem isValue_app {values l : List Int} {v : Int} (h : isValueB values.length v = true) : isValueB (values ++ l).length v = true := by
  simp only [isValueB, decide_eq_true_eq, List.length_append] at h ⊢
  omega
theorem classAt_app {values : List Int} (l : List Int) {v : Int} (h : isValueB values.length v = true) : classAt (values ++ l) v = classAt values v := by
  simp only [isValueB, decide_eq_true_eq] at h
  have hi : v.toNat < values.length := by omega
  simp [classAt, List.getD, List.getElem?_append_left hi]
theorem oprErr_app {values : List Int} (l : List Int) {m0 m1 : Int} {o : Opr} (h : oprErr values m0 m1 o = 0) : oprErr (values ++ l) m0 m1 o = 0 := by
  have hv := oprErr_value h
  have e : oprErr (values ++ l) m0 m1 o = oprErr values m0 m1 o := by
    unfold oprErr
    rw [classAt_app l hv, isValue_app hv, hv]
  rw [e, h]
theorem oprErr_kind' {values : List Int} {m0 m1 : Int} {o : Opr} (h : oprErr values m0 m1 o = 0) : o.kind = 1 ∨ o.kind = 2 := by
  unfold oprErr at h
  by_cases hk : o.kind = 1 ∨ o.kind = 2
  · exact hk
  · rw [if_pos hk] at h; simp at h
theorem firstE_all {α : Type} (f : α → Int) : ∀ (l : List α), (∀ a ∈ l, f a = 0) → firstE f l = 0
  | [], _ => rfl
  | b :: r, h => by
    rw [firstE, if_pos (h b List.mem_cons_self)]
    exact firstE_all f r fun a ha => h a (List.mem_cons_of_mem _ ha)
theorem reE_app {values : List Int} (l : List Int) {x : Ins} {o : Opr} (ho : isValueB values.length o.value = true) (hall : ∀ u ∈ x.operands, isValueB values.length u.value = true) (h : reE values x o = 0) : reE (values ++ l) x o = 0 := by
  have e : reE (values ++ l) x o = reE values x o := by
    unfold reE reuseErr
    split
    · split
      · rfl
      · cases hu : x.operands[o.n.toNat]? with
        | none => rfl
        | some u =>
          simp only
          rw [classAt_app l (hall u (List.mem_of_getElem? hu)), classAt_app l ho]
    · rfl
  rw [e, h]
theorem fixedOf_app {values : List Int} (l : List Int) {all : List Opr} {o : Opr} (h : isValueB values.length (named all o).value = true) : fixedOf (values ++ l) all o = fixedOf values all o := by
  unfold fixedOf
  rw [classAt_app l h]
theorem any_congr' {α : Type} {p q : α → Bool} : ∀ (l : List α), (∀ a ∈ l, p a = q a) → l.any p = l.any q
  | [], _ => rfl
  | b :: r, h => by rw [List.any_cons, List.any_cons, h b List.mem_cons_self, any_congr' r fun a ha => h a (List.mem_cons_of_mem _ ha)]
theorem opAt_mem {l : List Opr} {i : Nat} (h : i < l.length) : opAt l i ∈ l := by rw [opAt_eq l i h]; exact List.getElem_mem h
theorem clashB_app {values : List Int} (l : List Int) {x : Ins} (h : ∀ o ∈ x.operands, isValueB values.length (named x.operands o).value = true) : clashB (values ++ l) x = clashB values x := by
  unfold clashB
  refine any_congr' _ fun i hi => ?_
  have hi' := List.mem_range.1 hi
  unfold clashAt spoilAt
  rw [fixedOf_app l (h _ (opAt_mem hi'))]
  congr 1
  refine any_congr' _ fun j hj => ?_
  have hj' := List.mem_range.1 hj
  unfold pairAt pairB
  rw [fixedOf_app l (h _ (opAt_mem hi')), fixedOf_app l (h _ (opAt_mem (show j < x.operands.length by omega)))]
theorem fullB_app {values : List Int} (l : List Int) {m0 m1 : Int} {x : Ins} (h : ∀ o ∈ x.operands, isValueB values.length o.value = true) : fullB (values ++ l) m0 m1 x = fullB values m0 m1 x := by
  have e : ∀ c, fullN (values ++ l) x c = fullN values x c := fun c => by
    unfold fullN
    congr 1
    refine List.countP_congr fun o ho => ?_
    unfold opIn
    rw [classAt_app l (h o ho)]
  unfold fullB
  rw [e, e]
theorem instrErr_app {values : List Int} (l : List Int) {m0 m1 : Int} {x : Ins} (h : instrErr values m0 m1 x = 0) : instrErr (values ++ l) m0 m1 x = 0 := by
  have hop : ¬ (x.op < 0 ∨ 255 < x.op) := fun hb => by unfold instrErr at h; rw [if_pos hb] at h; simp at h
  have h1 : firstE (oprErr values m0 m1) x.operands = 0 := by
    by_cases he : firstE (oprErr values m0 m1) x.operands = 0
    · exact he
    · exact absurd ((instrErr_opr values m0 m1 x _ hop rfl he).symm.trans h) he
  have h2 : firstE (reE values x) x.operands = 0 := by
    by_cases he : firstE (reE values x) x.operands = 0
    · exact he
    · exact absurd ((instrErr_re values m0 m1 x _ hop h1 rfl he).symm.trans h) he
  have a1 := firstE_zero _ _ h1
  have a2 := firstE_zero _ _ h2
  have hv : ∀ o ∈ x.operands, isValueB values.length o.value = true := fun o ho => oprErr_value (a1 o ho)
  have hN : ∀ o ∈ x.operands, o.limit = 5 → 0 ≤ o.n ∧ o.n < (x.operands.length : Int) := fun o ho h5 => reE_bound (a2 o ho) h5
  have b1 : firstE (oprErr (values ++ l) m0 m1) x.operands = 0 := firstE_all _ _ fun o ho => oprErr_app l (a1 o ho)
  have b2 : firstE (reE (values ++ l) x) x.operands = 0 := firstE_all _ _ fun o ho => reE_app l (hv o ho) hv (a2 o ho)
  have e : instrErr (values ++ l) m0 m1 x = instrErr values m0 m1 x := by
    unfold instrErr
    rw [b1, b2, h1, h2, clashB_app l fun o ho => named_value x.operands o ho hN hv, fullB_app l hv]
  rw [e, h]
end Go.Proofs.Ytglfpnnfcpnmoaa
namespace Go.Proofs.Ytglfpnnfcpnmoaa
open Go.RowKit
set_option linter.unusedVariables false

/-- What holds of the operands laid so far: each may be by itself, what is needed and fixed is counted, fixed registers are apart. -/
structure WkOk (values : List Int) (m0 m1 : Int) (x : Wk) : Prop where
  opr : ∀ o ∈ x.ops, oprErr values m0 m1 o = 0
  cnt : ∀ c, c = 0 ∨ c = 1 → (x.ops.countP (opIn values c) : Int) = get2 x.need c
  fixlt : ∀ o ∈ x.ops, o.limit = 4 → o.n < get2 x.fixed (classAt values o.value)
  fixle : ∀ c, c = 0 ∨ c = 1 → 0 ≤ get2 x.fixed c ∧ get2 x.fixed c ≤ get2 x.need c
  needlt : ∀ c, c = 0 ∨ c = 1 → get2 x.need c + 1 ≤ regsOf m0 m1 c
  dist : ∀ p q (hp : p < x.ops.length) (hq : q < x.ops.length), p < q → x.ops[p].limit = 4 → x.ops[q].limit = 4 → classAt values x.ops[p].value = classAt values x.ops[q].value → x.ops[p].n ≠ x.ops[q].n

theorem get2_inc2 (p : Int × Int) (c d : Int) (hc : c = 0 ∨ c = 1) (hd : d = 0 ∨ d = 1) : get2 (inc2 p c) d = get2 p d + if c = d then 1 else 0 := by
  rcases hc with rfl | rfl <;> rcases hd with rfl | rfl <;> simp [get2, inc2]

/-- The ways in which an operand is added. -/
inductive Adds (m0 m1 : Int) (c : Int) (need fixed : Int × Int) (o : Opr) : Int × Int → Int × Int → Prop
  | free : (o.limit = 1 ∨ o.limit = 3) → o.n = 0 → Adds m0 m1 c need fixed o need fixed
  | reg : o.limit = 2 → o.n = 0 → get2 need c + 1 < regsOf m0 m1 c → Adds m0 m1 c need fixed o (inc2 need c) fixed
  | fix : o.limit = 4 → o.n = get2 fixed c → get2 need c + 1 < regsOf m0 m1 c → Adds m0 m1 c need fixed o (inc2 need c) (inc2 fixed c)
  | again : o.limit = 5 → o.kind = 2 → o.late = true → get2 need c + 1 < regsOf m0 m1 c → Adds m0 m1 c need fixed o (inc2 need c) fixed

theorem limit_adds (m0 m1 wish c : Int) (need fixed : Int × Int) (hw : 1 ≤ wish ∧ wish ≤ 4) (kd v : Int) (late : Bool) :
    Adds m0 m1 c need fixed ⟨kd, v, late, (limitM m0 m1 wish c need fixed).1, (limitM m0 m1 wish c need fixed).2.1⟩ (limitM m0 m1 wish c need fixed).2.2.1 (limitM m0 m1 wish c need fixed).2.2.2 := by
  unfold limitM
  by_cases h1 : wish = 1 ∨ wish = 3 ∨ regsOf m0 m1 c ≤ get2 need c + 1
  · rw [if_pos h1]
    by_cases h3 : wish = 3
    · rw [if_pos h3]; exact .free (Or.inr rfl) rfl
    · rw [if_neg h3]; exact .free (Or.inl rfl) rfl
  · rw [if_neg h1]
    by_cases h4 : wish = 4
    · rw [if_pos h4]; exact .fix rfl rfl (by omega)
    · rw [if_neg h4]; exact .reg rfl rfl (by omega)

theorem WkOk.push {values : List Int} {m0 m1 : Int} {x : Wk} (h : WkOk values m0 m1 x) (l : List Int) (o : Opr) {c : Int} {need' fixed' : Int × Int} (lim : Int) (hval : isValueB (values ++ l).length o.value = true) (hcl : classAt (values ++ l) o.value = c) (hc : c = 0 ∨ c = 1)
    (hk : o.kind = 1 ∨ o.kind = 2) (ha : Adds m0 m1 c x.need x.fixed o need' fixed') : WkOk (values ++ l) m0 m1 ⟨x.ops ++ [o], need', fixed', lim⟩ := by
  have hv : ∀ u ∈ x.ops, isValueB values.length u.value = true := fun u hu => oprErr_value (h.opr u hu)
  have hcl' : ∀ u ∈ x.ops, classAt (values ++ l) u.value = classAt values u.value := fun u hu => classAt_app l (hv u hu)
  have hf := h.fixle c hc
  have hn := h.needlt c hc
  have hcnt : ∀ d, ((x.ops ++ [o]).countP (opIn (values ++ l) d) : Int) = (x.ops.countP (opIn values d) : Int) + if (o.limit = 2 ∨ o.limit = 4 ∨ o.limit = 5) ∧ c = d then 1 else 0 := fun d => by
    rw [List.countP_append]
    have e : x.ops.countP (opIn (values ++ l) d) = x.ops.countP (opIn values d) := List.countP_congr fun u hu => by unfold opIn; rw [hcl' u hu]
    rw [e]
    by_cases hh : (o.limit = 2 ∨ o.limit = 4 ∨ o.limit = 5) ∧ c = d
    · simp [opIn, hcl, hh]
    · rw [if_neg hh]; simp [opIn, hcl, hh]
  have hopr : oprErr (values ++ l) m0 m1 o = 0 := by
    unfold oprErr
    rw [if_neg (fun h => h hk), hval, hcl]
    cases ha with
    | free h1 h2 => rw [if_neg (by omega), if_neg (by simp), if_neg (by omega), if_neg (by omega), if_pos h2]
    | reg h1 h2 h3 => rw [if_neg (by omega), if_neg (by simp), if_neg (by omega), if_neg (by omega), if_pos h2]
    | fix h1 h2 h3 =>
      rw [if_neg (by omega), if_neg (by simp), if_pos h1, if_pos]
      simp only [givB, isClassB, Bool.and_eq_true, decide_eq_true_eq]
      omega
    | again h1 h2 h3 h4 => rw [if_neg (by omega), if_neg (by simp), if_neg (by omega), if_pos h1, if_pos ⟨h2, h3⟩]
  have hmono : ∀ d, d = 0 ∨ d = 1 → get2 x.fixed d ≤ get2 fixed' d := fun d hd => by
    cases ha with
    | free => exact Int.le_refl _
    | reg => exact Int.le_refl _
    | fix => rw [get2_inc2 _ _ _ hc hd]; split <;> omega
    | again => exact Int.le_refl _
  have hclv : ∀ u ∈ x.ops, classAt values u.value = 0 ∨ classAt values u.value = 1 ∨ u.limit ≠ 4 := fun u hu => by
    by_cases h4 : u.limit = 4
    · have h0 := h.opr u hu
      have hku := oprErr_kind' h0
      unfold oprErr at h0
      rw [if_neg (fun h => h hku), if_neg (by omega), hv u hu, if_neg (by simp), if_pos h4] at h0
      by_cases hg : givB m0 m1 (classAt values u.value) u.n = true
      · simp only [givB, isClassB, Bool.and_eq_true, decide_eq_true_eq] at hg
        omega
      · rw [if_neg hg] at h0; simp at h0
    · exact Or.inr (Or.inr h4)
  refine ⟨?_, ?_, ?_, ?_, ?_, ?_⟩
  · intro u hu
    rcases List.mem_append.1 hu with hu | hu
    · exact oprErr_app l (h.opr u hu)
    · rw [List.mem_singleton.1 hu]; exact hopr
  · intro d hd
    have h1 := h.cnt d hd
    rw [hcnt d, h1]
    cases ha with
    | free h1 h2 => rw [if_neg (by omega)]; simp
    | reg h1 h2 h3 => rw [get2_inc2 _ _ _ hc hd]; by_cases e : c = d <;> simp [e, h1]
    | fix h1 h2 h3 => rw [get2_inc2 _ _ _ hc hd]; by_cases e : c = d <;> simp [e, h1]
    | again h1 h2 h3 h4 => rw [get2_inc2 _ _ _ hc hd]; by_cases e : c = d <;> simp [e, h1]
  · intro u hu h4
    rcases List.mem_append.1 hu with hu | hu
    · rw [hcl' u hu]
      have h1 := h.fixlt u hu h4
      rcases hclv u hu with h2 | h2 | h2
      · exact Int.lt_of_lt_of_le h1 (hmono _ (Or.inl h2))
      · exact Int.lt_of_lt_of_le h1 (hmono _ (Or.inr h2))
      · exact absurd h4 h2
    · have e := List.mem_singleton.1 hu
      subst e
      rw [hcl]
      cases ha with
      | free h1 h2 => omega
      | reg h1 h2 h3 => omega
      | fix h1 h2 h3 => rw [get2_inc2 _ _ _ hc hc, if_pos rfl]; omega
      | again h1 h2 h3 => omega
  · intro d hd
    have h1 := h.fixle d hd
    show 0 ≤ get2 fixed' d ∧ get2 fixed' d ≤ get2 need' d
    cases ha with
    | free => exact h1
    | reg => rw [get2_inc2 _ _ _ hc hd]; split <;> omega
    | fix => rw [get2_inc2 _ _ _ hc hd, get2_inc2 _ _ _ hc hd]; split <;> omega
    | again => rw [get2_inc2 _ _ _ hc hd]; split <;> omega
  · intro d hd
    have h1 := h.needlt d hd
    cases ha with
    | free => exact h1
    | reg h2 h3 h4 => rw [get2_inc2 _ _ _ hc hd]; split; (rename_i e; subst e; omega); omega
    | fix h2 h3 h4 => rw [get2_inc2 _ _ _ hc hd]; split; (rename_i e; subst e; omega); omega
    | again h2 h3 h4 h5 => rw [get2_inc2 _ _ _ hc hd]; split; (rename_i e; subst e; omega); omega
  · intro p q hp hq hpq h4 h4' hcc
    have hp' : p < x.ops.length := by simp at hq; omega
    by_cases hqx : q < x.ops.length
    · simp only [List.getElem_append_left hp', List.getElem_append_left hqx] at h4 h4' hcc ⊢
      rw [hcl' _ (List.getElem_mem hp'), hcl' _ (List.getElem_mem hqx)] at hcc
      exact h.dist p q hp' hqx hpq h4 h4' hcc
    · have hq2 : q = x.ops.length := by simp at hq; omega
      subst hq2
      simp only [List.getElem_append_left hp', List.getElem_concat_length] at h4 h4' hcc ⊢
      rw [hcl' _ (List.getElem_mem hp'), hcl] at hcc
      have h1 := h.fixlt _ (List.getElem_mem hp') h4
      rw [hcc] at h1
      cases ha with
      | free h1 h2 => omega
      | reg h1 h2 h3 => omega
      | fix h5 h6 h7 => omega
      | again h5 => omega
theorem picked_mem (l : List Int) (n : Int) (h : l ≠ []) : l.getD (pickedOf n l.length).toNat 0 ∈ l := by
  have hl : 0 < l.length := List.length_pos_iff.2 h
  obtain ⟨h0, h1⟩ := pickedOf_bd n l.length (by omega)
  have hi : (pickedOf n l.length).toNat < l.length := by omega
  simp only [List.getD, List.getElem?_eq_getElem hi, Option.getD_some]
  exact List.getElem_mem hi

theorem WkOk.nil (values : List Int) (m0 m1 lim : Int) (h0 : 2 ≤ m0) (h1 : 2 ≤ m1) : WkOk values m0 m1 ⟨[], (0, 0), (0, 0), lim⟩ := by
  refine ⟨fun o ho => by simp at ho, fun c hc => ?_, fun o ho => by simp at ho, fun c hc => ?_, fun c hc => ?_, fun p q hp => by simp at hp⟩
  · rcases hc with rfl | rfl <;> simp [get2]
  · rcases hc with rfl | rfl <;> simp [get2]
  · rcases hc with rfl | rfl
    · show (0 : Int) + 1 ≤ m0; omega
    · show (0 : Int) + 1 ≤ m1; omega

/-- The uses of an instruction. -/
theorem usesM_ok (s : Ms) (p : Pc) (flags : Int) (hkn : ∀ v ∈ s.known, isValueB s.f.values.length v = true) (hcl : ∀ v, isValueB s.f.values.length v = true → classAt s.f.values v = 0 ∨ classAt s.f.values v = 1) :
    ∀ (n i : Nat) (x : Wk), WkOk s.f.values s.m0 s.m1 x → (∀ o ∈ x.ops, o.kind = 1 ∧ o.limit ≠ 5) → 0 ≤ x.limits →
      WkOk s.f.values s.m0 s.m1 (usesM s p flags n i x) ∧ (∀ o ∈ (usesM s p flags n i x).ops, o.kind = 1 ∧ o.limit ≠ 5) ∧ 0 ≤ (usesM s p flags n i x).limits ∧ (usesM s p flags n i x).ops.length ≤ x.ops.length + n
  | 0, i, x, h1, h2, h3 => ⟨h1, h2, h3, Nat.le_refl _⟩
  | n + 1, i, x, h1, h2, h3 => by
    unfold usesM
    by_cases hc : (i : Int) < flags % 4 ∧ s.known ≠ []
    · rw [if_pos hc]
      simp only
      have hm := hkn _ (picked_mem s.known (Int.tdiv p.a ((i : Int) + 1)) hc.2)
      generalize s.known.getD (pickedOf (Int.tdiv p.a ((i : Int) + 1)) s.known.length).toNat 0 = v at *
      have hw : 1 ≤ 1 + x.limits % 4 ∧ 1 + x.limits % 4 ≤ 4 := by omega
      have ha := limit_adds s.m0 s.m1 (1 + x.limits % 4) (classAt s.f.values v) x.need x.fixed hw 1 v (decide (flags / 2 ^ (4 + i) % 2 = 1))
      have hl5 : (limitM s.m0 s.m1 (1 + x.limits % 4) (classAt s.f.values v) x.need x.fixed).1 ≠ 5 := by unfold limitM; split; split <;> simp; split <;> simp
      generalize limitM s.m0 s.m1 (1 + x.limits % 4) (classAt s.f.values v) x.need x.fixed = r at *
      have hp := h1.push [] ⟨1, v, decide (flags / 2 ^ (4 + i) % 2 = 1), r.1, r.2.1⟩ (x.limits / 4) (by rw [List.append_nil]; exact hm) (by rw [List.append_nil]) (hcl v hm) (Or.inl rfl) ha
      rw [List.append_nil] at hp
      have h2' : ∀ o ∈ x.ops ++ [(⟨1, v, decide (flags / 2 ^ (4 + i) % 2 = 1), r.1, r.2.1⟩ : Opr)], o.kind = 1 ∧ o.limit ≠ 5 := fun o ho => by
        rcases List.mem_append.1 ho with ho | ho
        · exact h2 o ho
        · rw [List.mem_singleton.1 ho]; exact ⟨rfl, hl5⟩
      obtain ⟨g1, g2, g3, g4⟩ := usesM_ok s p flags hkn hcl n (i + 1) ⟨x.ops ++ [⟨1, v, decide (flags / 2 ^ (4 + i) % 2 = 1), r.1, r.2.1⟩], r.2.2.1, r.2.2.2, x.limits / 4⟩ hp h2' (by show 0 ≤ x.limits / 4; omega)
      refine ⟨g1, g2, g3, ?_⟩
      simp at g4
      omega
    · rw [if_neg hc]
      exact ⟨h1, h2, h3, by omega⟩
end Go.Proofs.Ytglfpnnfcpnmoaa
namespace Go.Proofs.Ytglfpnnfcpnmoaa
open Go.RowKit
set_option linter.unusedVariables false

/-- Uses stand ahead of defs; what is reused is a use that is read early, of the class, each once. -/
structure RuOk (values : List Int) (uses : Nat) (ops : List Opr) : Prop where
  ge : uses ≤ ops.length
  u1 : ∀ j (hj : j < ops.length), j < uses → ops[j].kind = 1 ∧ ops[j].limit ≠ 5
  u2 : ∀ j (hj : j < ops.length), uses ≤ j → ops[j].kind = 2
  u3 : ∀ o ∈ ops, o.limit = 5 → 0 ≤ o.n ∧ o.n < uses ∧ ∃ u, ops[o.n.toNat]? = some u ∧ u.late = false ∧ classAt values u.value = classAt values o.value
  u4 : ∀ p q (hp : p < ops.length) (hq : q < ops.length), p < q → ops[p].limit = 5 → ops[q].limit = 5 → ops[p].n ≠ ops[q].n

theorem RuOk.push {values : List Int} {uses : Nat} {ops : List Opr} (h : RuOk values uses ops) (hv : ∀ o ∈ ops, isValueB values.length o.value = true) (l : List Int) (o : Opr) (hk : o.kind = 2) (h5 : o.limit = 5 → (0 ≤ o.n ∧ o.n < uses ∧ ∃ u, ops[o.n.toNat]? = some u ∧ u.late = false ∧ classAt values u.value = classAt (values ++ l) o.value) ∧ ∀ u ∈ ops, u.limit = 5 → u.n ≠ o.n) :
    RuOk (values ++ l) uses (ops ++ [o]) := by
  have hg := h.ge
  refine ⟨by simp; omega, ?_, ?_, ?_, ?_⟩
  · intro j hj hju
    have hj' : j < ops.length := by omega
    rw [List.getElem_append_left hj']
    exact h.u1 j hj' hju
  · intro j hj hju
    by_cases hj' : j < ops.length
    · rw [List.getElem_append_left hj']
      exact h.u2 j hj' hju
    · have e : j = ops.length := by simp at hj; omega
      subst e
      simpa using hk
  · intro u hu hu5
    rcases List.mem_append.1 hu with hu | hu
    · obtain ⟨g1, g2, x, g3, g4, g5⟩ := h.u3 u hu hu5
      have hi : u.n.toNat < ops.length := by omega
      refine ⟨g1, g2, x, by rw [List.getElem?_append_left hi]; exact g3, g4, ?_⟩
      rw [classAt_app l (hv x (List.mem_of_getElem? g3)), classAt_app l (hv u hu)]
      exact g5
    · have e := List.mem_singleton.1 hu
      subst e
      obtain ⟨⟨g1, g2, x, g3, g4, g5⟩, _⟩ := h5 hu5
      have hi : u.n.toNat < ops.length := by omega
      refine ⟨g1, g2, x, by rw [List.getElem?_append_left hi]; exact g3, g4, ?_⟩
      rw [classAt_app l (hv x (List.mem_of_getElem? g3))]
      exact g5
  · intro p q hp hq hpq h1 h2
    have hp' : p < ops.length := by simp at hq; omega
    by_cases hq' : q < ops.length
    · simp only [List.getElem_append_left hp', List.getElem_append_left hq'] at h1 h2 ⊢
      exact h.u4 p q hp' hq' hpq h1 h2
    · have e : q = ops.length := by simp at hq; omega
      subst e
      simp only [List.getElem_append_left hp', List.getElem_concat_length] at h1 h2 ⊢
      exact (h5 h2).2 _ (List.getElem_mem hp') h1

theorem bit_bd (n : Int) (i : Nat) : n / 2 ^ i % 2 = 0 ∨ n / 2 ^ i % 2 = 1 := by omega

/-- A def more. -/
theorem defM_ok {m0 m1 : Int} {p : Pc} {flags : Int} {uses i : Nat} {values : List Int} {reused : Int} {x : Wk} (h : WkOk values m0 m1 x) (hr : RuOk values uses x.ops) (hR : ∀ o ∈ x.ops, o.limit = 5 → o.n = reused) (hl : 0 ≤ x.limits) :
    ∃ (o : Opr) (c : Int), c = p.c / 2 ^ i % 2 ∧ (c = 0 ∨ c = 1) ∧ (defM m0 m1 p flags uses i values reused x).1 = values ++ [c] ∧ (defM m0 m1 p flags uses i values reused x).2.2.ops = x.ops ++ [o] ∧ o.kind = 2 ∧ o.value = (values.length : Int) ∧
      WkOk (values ++ [c]) m0 m1 (defM m0 m1 p flags uses i values reused x).2.2 ∧ RuOk (values ++ [c]) uses (x.ops ++ [o]) ∧ 0 ≤ (defM m0 m1 p flags uses i values reused x).2.2.limits ∧
      ((∀ u ∈ x.ops, u.limit ≠ 5) → ∀ u ∈ x.ops ++ [o], u.limit = 5 → u.n = (defM m0 m1 p flags uses i values reused x).2.1) := by
  have hv : ∀ u ∈ x.ops, isValueB values.length u.value = true := fun u hu => oprErr_value (h.opr u hu)
  have hc := bit_bd p.c i
  have hval : ∀ c : Int, isValueB (values ++ [c]).length (values.length : Int) = true := fun c => by simp [isValueB]; omega
  have hcv : ∀ c : Int, classAt (values ++ [c]) (values.length : Int) = c := fun c => by simp [classAt, List.getD]
  unfold defM
  simp only
  generalize p.c / 2 ^ i % 2 = c at *
  obtain ⟨hk0, hk1⟩ := pickedOf_bd p.b ((uses : Int) + 1) (by omega)
  generalize pickedOf p.b ((uses : Int) + 1) = k at *
  by_cases hb : 1 + x.limits % 5 = 5 ∧ k < uses ∧ k ≠ reused ∧ (x.ops.getD k.toNat ⟨0, 0, false, 0, 0⟩).late = false ∧ get2 x.need c + 1 < regsOf m0 m1 c ∧ classAt values (x.ops.getD k.toNat ⟨0, 0, false, 0, 0⟩).value = c
  · rw [if_pos hb]
    obtain ⟨b1, b2, b3, b4, b5, b6⟩ := hb
    have hge := hr.ge
    have hi : k.toNat < x.ops.length := by omega
    have eg : x.ops.getD k.toNat ⟨0, 0, false, 0, 0⟩ = x.ops[k.toNat] := by simp [List.getD, List.getElem?_eq_getElem hi]
    rw [eg] at b4 b6
    refine ⟨⟨2, values.length, true, 5, k⟩, c, rfl, hc, rfl, rfl, rfl, rfl, ?_, ?_, by show 0 ≤ x.limits / 5; omega, ?_⟩
    · exact h.push [c] _ _ (hval c) (hcv c) hc (Or.inr rfl) (.again rfl rfl rfl b5)
    · refine hr.push hv [c] _ rfl fun _ => ⟨⟨hk0, b2, x.ops[k.toNat], List.getElem?_eq_getElem hi, b4, by rw [b6, hcv]⟩, fun u hu hu5 => ?_⟩
      have := hR u hu hu5
      show u.n ≠ k
      omega
    · intro hno u hu hu5
      rcases List.mem_append.1 hu with hu | hu
      · exact absurd hu5 (hno u hu)
      · rw [List.mem_singleton.1 hu]
  · rw [if_neg hb]
    simp only
    have hw : 1 ≤ (if 1 + x.limits % 5 = 5 then 1 else 1 + x.limits % 5) ∧ (if 1 + x.limits % 5 = 5 then 1 else 1 + x.limits % 5) ≤ 4 := by split <;> omega
    generalize (if 1 + x.limits % 5 = 5 then (1 : Int) else 1 + x.limits % 5) = wish at *
    have ha := limit_adds m0 m1 wish c x.need x.fixed hw 2 values.length (decide (flags / 2 ^ (9 + i) % 2 = 1))
    have hl5 : (limitM m0 m1 wish c x.need x.fixed).1 ≠ 5 := by unfold limitM; split; split <;> simp; split <;> simp
    generalize limitM m0 m1 wish c x.need x.fixed = r at *
    refine ⟨⟨2, values.length, decide (flags / 2 ^ (9 + i) % 2 = 1), r.1, r.2.1⟩, c, rfl, hc, rfl, rfl, rfl, rfl, ?_, ?_, by show 0 ≤ x.limits / 5; omega, ?_⟩
    · exact h.push [c] _ _ (hval c) (hcv c) hc (Or.inr rfl) ha
    · exact hr.push hv [c] _ rfl fun h5 => absurd h5 hl5
    · intro hno u hu hu5
      rcases List.mem_append.1 hu with hu | hu
      · exact absurd hu5 (hno u hu)
      · rw [List.mem_singleton.1 hu] at hu5; exact absurd hu5 hl5
end Go.Proofs.Ytglfpnnfcpnmoaa
namespace Go.Proofs.Ytglfpnnfcpnmoaa
open Go.RowKit
set_option linter.unusedVariables false

theorem spErr_of (m0 m1 : Int) : ∀ (l : List Rg) (p : Option Rg), (∀ r ∈ l, givB m0 m1 r.cls r.n = true) → (p.toList ++ l).Pairwise (fun q r => behB r.cls r.n q.cls q.n = true) → spErr m0 m1 p l = 0
  | [], p, _, _ => by cases p <;> rfl
  | b :: r, p, hg, hp => by
    have h1 := hg b List.mem_cons_self
    have h2 : spErr m0 m1 (some b) r = 0 := spErr_of m0 m1 r (some b) (fun x hx => hg x (List.mem_cons_of_mem _ hx)) ((List.pairwise_append.1 hp).2.1)
    unfold spErr
    rw [if_neg (by simp [h1])]
    cases p with
    | none => exact h2
    | some q =>
      have h3 := (List.pairwise_append.1 hp).2.2 q (by simp) b List.mem_cons_self
      simp only
      rw [if_neg (by simp [h3])]
      exact h2

theorem named_at {ops : List Opr} {uses : Nat} {values : List Int} (hr : RuOk values uses ops) (j : Nat) (hj : j < ops.length) :
    ∃ r, ∃ h : r < ops.length, named ops ops[j] = ops[r] ∧ ((ops[j].limit = 5 ∧ (r : Int) = ops[j].n ∧ r < uses ∧ uses ≤ j) ∨ (ops[j].limit ≠ 5 ∧ r = j)) := by
  have hg := hr.ge
  by_cases h5 : ops[j].limit = 5
  · obtain ⟨g1, g2, u, g3, _⟩ := hr.u3 _ (List.getElem_mem hj) h5
    have hi : (ops[j].n).toNat < ops.length := by omega
    refine ⟨(ops[j].n).toNat, hi, ?_, Or.inl ⟨h5, by omega, by omega, ?_⟩⟩
    · unfold named
      rw [if_pos h5]
      simp [List.getD, List.getElem?_eq_getElem hi]
    · rcases Nat.lt_or_ge j uses with h | h
      · exact absurd h5 (hr.u1 j hj h).2
      · exact h
  · exact ⟨j, hj, by unfold named; rw [if_neg h5], Or.inr ⟨h5, rfl⟩⟩

theorem WkOk.apart {values : List Int} {m0 m1 : Int} {x : Wk} (h : WkOk values m0 m1 x) (p q : Nat) (hp : p < x.ops.length) (hq : q < x.ops.length) (hne : p ≠ q) (h1 : x.ops[p].limit = 4) (h2 : x.ops[q].limit = 4) (hc : classAt values x.ops[p].value = classAt values x.ops[q].value) : x.ops[p].n ≠ x.ops[q].n := by
  rcases Nat.lt_or_ge p q with hlt | hge
  · exact h.dist p q hp hq hlt h1 h2 hc
  · exact fun e => h.dist q p hq hp (by omega) h2 h1 hc.symm e.symm

theorem WkOk.instr {values : List Int} {m0 m1 : Int} {x : Wk} {uses : Nat} (h : WkOk values m0 m1 x) (hr : RuOk values uses x.ops) (hcls : ∀ v, isValueB values.length v = true → classAt values v = 0 ∨ classAt values v = 1)
    (op : Int) (hop : 0 ≤ op ∧ op ≤ 255) (sp : List Rg) (hsp : spErr m0 m1 none sp = 0) (hsc : ∀ r ∈ sp, get2 x.need r.cls < r.n) (hcnt : ∀ c, c = 0 ∨ c = 1 → (sp.countP (spIn c) : Int) + get2 x.need c + 1 ≤ regsOf m0 m1 c) : instrErr values m0 m1 ⟨op, x.ops, sp⟩ = 0 := by
  have hv : ∀ u ∈ x.ops, isValueB values.length u.value = true := fun u hu => oprErr_value (h.opr u hu)
  have h1 : firstE (oprErr values m0 m1) x.ops = 0 := firstE_all _ _ h.opr
  have h2 : firstE (reE values ⟨op, x.ops, sp⟩) x.ops = 0 := firstE_all _ _ fun o ho => by
    unfold reE
    by_cases h5 : o.limit = 5
    · rw [if_pos h5]
      obtain ⟨g1, g2, u, g3, g4, g5⟩ := hr.u3 o ho h5
      have hg := hr.ge
      have hi : o.n.toNat < x.ops.length := by omega
      unfold reuseErr
      rw [if_neg (by simp only; omega)]
      simp only [g3]
      have hu : u = x.ops[o.n.toNat] := by rw [List.getElem?_eq_getElem hi] at g3; exact (Option.some.inj g3).symm
      have hk := (hr.u1 _ hi (by omega)).1
      rw [← hu] at hk
      rw [if_pos ⟨hk, g4⟩, if_pos g5]
    · rw [if_neg h5]
  have h3 : clashB values ⟨op, x.ops, sp⟩ = false := by
    unfold clashB
    rw [List.any_eq_false]
    intro i hi
    have hi' : i < x.ops.length := List.mem_range.1 hi
    have hs : spoilAt values ⟨op, x.ops, sp⟩ i = false := by
      rw [spoilAt_eq values ⟨op, x.ops, sp⟩ i hi']
      obtain ⟨r, hrl, en, _⟩ := named_at hr i hi'
      show (match fixedOf values x.ops x.ops[i] with | some p => (x.ops[i].late || decide (x.ops[i].kind = 2)) && hasRg sp p.1 p.2 | none => false) = false
      unfold fixedOf
      rw [en]
      by_cases h4 : x.ops[r].limit = 4
      · rw [if_pos h4]
        have hcc := hcls _ (hv _ (List.getElem_mem hrl))
        have f1 := h.fixlt _ (List.getElem_mem hrl) h4
        have f2 := h.fixle _ hcc
        have hh : hasRg sp (classAt values x.ops[r].value) x.ops[r].n = false := by
          unfold hasRg
          rw [List.any_eq_false]
          intro g hg
          have f3 := hsc g hg
          simp only [rgIs, decide_eq_true_eq]
          rintro ⟨e1, e2⟩
          rw [← e1] at f3
          omega
        simp only [hh, Bool.and_false]
      · rw [if_neg h4]
    have hp : (List.range i).any (pairAt values ⟨op, x.ops, sp⟩ i) = false := by
      rw [List.any_eq_false]
      intro j hj
      have hji := List.mem_range.1 hj
      have hj' : j < x.ops.length := by omega
      rw [pairAt_eq values ⟨op, x.ops, sp⟩ i j hj' hi']
      show ¬ pairB values x.ops x.ops[j] x.ops[i] j i = true
      obtain ⟨rj, hrj, ej, cj⟩ := named_at hr j hj'
      obtain ⟨ri, hri, ei, ci⟩ := named_at hr i hi'
      unfold pairB fixedOf
      rw [ej, ei]
      by_cases c1 : x.ops[j].limit = 5 ∧ x.ops[i].limit = 5 ∧ x.ops[j].n = x.ops[i].n
      · exact absurd c1.2.2 (hr.u4 j i hj' hi' hji c1.1 c1.2.1)
      · rw [if_neg c1]
        split
        · simp
        · rename_i hno
          by_cases a4 : x.ops[rj].limit = 4
          · by_cases b4 : x.ops[ri].limit = 4
            · rw [if_pos a4, if_pos b4]
              simp only [decide_eq_true_eq, Prod.mk.injEq]
              rintro ⟨e1, e2⟩
              have hne : rj ≠ ri := by
                intro e
                rcases cj with ⟨k1, k2, k3, k4⟩ | ⟨k1, k2⟩
                · rcases ci with ⟨l1, l2, l3, l4⟩ | ⟨l1, l2⟩
                  · exact c1 ⟨k1, l1, by omega⟩
                  · omega
                · rcases ci with ⟨l1, l2, l3, l4⟩ | ⟨l1, l2⟩
                  · refine hno (Or.inr (Or.inr ?_))
                    simp only [reusesB, decide_eq_true_eq]
                    exact ⟨l1, by omega⟩
                  · omega
              exact h.apart rj ri hrj hri hne a4 b4 e1 e2
            · rw [if_pos a4, if_neg b4]; simp
          · rw [if_neg a4]; simp
    unfold clashAt
    rw [hs, hp]
    simp
  have h4 : fullB values m0 m1 ⟨op, x.ops, sp⟩ = false := by
    have c0 := h.cnt 0 (Or.inl rfl)
    have c1 := h.cnt 1 (Or.inr rfl)
    have d0 := hcnt 0 (Or.inl rfl)
    have d1 := hcnt 1 (Or.inr rfl)
    have r0 : regsOf m0 m1 0 = m0 := rfl
    have r1 : regsOf m0 m1 1 = m1 := rfl
    unfold fullB fullN
    simp only [decide_eq_false_iff_not]
    omega
  unfold instrErr
  rw [if_neg (by simp only; omega)]
  simp only [h1, h2, hsp, h3, h4]
  simp

/-- The spoils of a class, and how many there are. -/
theorem spoils_mem {c n reg : Int} {r : Rg} (h : r ∈ spoilsM c n reg) : r.cls = c ∧ reg - n ≤ r.n ∧ r.n ≤ reg - 1 ∧ 0 ≤ n := by
  unfold spoilsM at h
  obtain ⟨j, hj, rfl⟩ := List.mem_map.1 h
  have hj2 := List.mem_range.1 hj
  refine ⟨rfl, ?_, ?_, by omega⟩
  · show reg - n ≤ reg - (n - (j : Int)); omega
  · show reg - (n - (j : Int)) ≤ reg - 1; omega
theorem spoils_pair (c n reg : Int) : (spoilsM c n reg).Pairwise (fun q r => behB r.cls r.n q.cls q.n = true) := by
  unfold spoilsM
  rw [List.pairwise_map]
  refine List.Pairwise.imp ?_ List.pairwise_lt_range
  intro a b hab
  show decide (c < c ∨ c = c ∧ reg - (n - (a : Int)) < reg - (n - (b : Int))) = true
  rw [decide_eq_true_eq]
  omega
theorem spoils_len (c n reg : Int) : (spoilsM c n reg).length = n.toNat := by simp [spoilsM]
end Go.Proofs.Ytglfpnnfcpnmoaa
namespace Go.Proofs.Ytglfpnnfcpnmoaa
open Go.RowKit
set_option linter.unusedVariables false

/-- The spoils of a piece. -/
theorem sp_ok (m0 m1 b : Int) (need : Int × Int) (h0 : 2 ≤ m0) (h1 : 2 ≤ m1) (hn : ∀ c, c = 0 ∨ c = 1 → 0 ≤ get2 need c ∧ get2 need c + 1 ≤ regsOf m0 m1 c) (hb : 0 ≤ b) :
    spErr m0 m1 none (spoilsM 0 (min b (m0 - 1 - need.1)) m0 ++ spoilsM 1 (min b (m1 - 1 - need.2)) m1) = 0 ∧
    (∀ r ∈ spoilsM 0 (min b (m0 - 1 - need.1)) m0 ++ spoilsM 1 (min b (m1 - 1 - need.2)) m1, get2 need r.cls < r.n) ∧
    (∀ c, c = 0 ∨ c = 1 → ((spoilsM 0 (min b (m0 - 1 - need.1)) m0 ++ spoilsM 1 (min b (m1 - 1 - need.2)) m1).countP (spIn c) : Int) + get2 need c + 1 ≤ regsOf m0 m1 c) ∧
    ((spoilsM 0 (min b (m0 - 1 - need.1)) m0 ++ spoilsM 1 (min b (m1 - 1 - need.2)) m1).length : Int) ≤ 2 * b := by
  have n0 := hn 0 (Or.inl rfl)
  have n1 := hn 1 (Or.inr rfl)
  have r0 : regsOf m0 m1 0 = m0 := rfl
  have r1 : regsOf m0 m1 1 = m1 := rfl
  have g0 : get2 need 0 = need.1 := rfl
  have g1 : get2 need 1 = need.2 := rfl
  rw [r0, g0] at n0
  rw [r1, g1] at n1
  obtain ⟨a0, ha0⟩ : ∃ a0, min b (m0 - 1 - need.1) = a0 := ⟨_, rfl⟩
  obtain ⟨a1, ha1⟩ : ∃ a1, min b (m1 - 1 - need.2) = a1 := ⟨_, rfl⟩
  rw [ha0, ha1]
  have l0 := spoils_len 0 a0 m0
  have l1 := spoils_len 1 a1 m1
  refine ⟨spErr_of m0 m1 _ none ?_ ?_, ?_, ?_, ?_⟩
  · intro r hr
    simp only [givB, isClassB, Bool.and_eq_true, decide_eq_true_eq]
    rcases List.mem_append.1 hr with h | h
    · obtain ⟨e1, e2, e3, e4⟩ := spoils_mem h
      rw [e1, r0]; omega
    · obtain ⟨e1, e2, e3, e4⟩ := spoils_mem h
      rw [e1, r1]; omega
  · show (spoilsM 0 a0 m0 ++ spoilsM 1 a1 m1).Pairwise _
    rw [List.pairwise_append]
    refine ⟨spoils_pair _ _ _, spoils_pair _ _ _, fun q hq r hr => ?_⟩
    have e1 := (spoils_mem hq).1
    have e2 := (spoils_mem hr).1
    simp only [behB, decide_eq_true_eq]
    omega
  · intro r hr
    rcases List.mem_append.1 hr with h | h
    · obtain ⟨e1, e2, e3, e4⟩ := spoils_mem h
      rw [e1, g0]; omega
    · obtain ⟨e1, e2, e3, e4⟩ := spoils_mem h
      rw [e1, g1]; omega
  · intro c hc
    rw [List.countP_append]
    rcases hc with rfl | rfl
    · have z : (spoilsM 1 a1 m1).countP (spIn 0) = 0 := List.countP_eq_zero.2 fun r hr => by have e1 := (spoils_mem hr).1; simp [spIn, e1]
      have k : (spoilsM 0 a0 m0).countP (spIn 0) ≤ (spoilsM 0 a0 m0).length := List.countP_le_length
      rw [z, r0, g0]; omega
    · have z : (spoilsM 0 a0 m0).countP (spIn 1) = 0 := List.countP_eq_zero.2 fun r hr => by have e1 := (spoils_mem hr).1; simp [spIn, e1]
      have k : (spoilsM 1 a1 m1).countP (spIn 1) ≤ (spoilsM 1 a1 m1).length := List.countP_le_length
      rw [z, r1, g1]; omega
  · rw [List.length_append]; omega

theorem oprM_uses (l : List Opr) (h : ∀ o ∈ l, o.kind = 1 ∧ o.limit ≠ 5) : oprM l = [] := by
  unfold oprM
  rw [List.filter_eq_nil_iff.2 fun o ho => by simp [(h o ho).1]]
  rfl
theorem oprM_app (l r : List Opr) : oprM (l ++ r) = oprM l ++ oprM r := by simp [oprM]
theorem cls_app {values l : List Int} (h : ∀ v, isValueB values.length v = true → classAt values v = 0 ∨ classAt values v = 1) (hl : ∀ c ∈ l, c = 0 ∨ c = 1) : ∀ v, isValueB (values ++ l).length v = true → classAt (values ++ l) v = 0 ∨ classAt (values ++ l) v = 1 := fun v hv => by
  by_cases hv' : isValueB values.length v = true
  · rw [classAt_app l hv']; exact h v hv'
  · simp only [isValueB, decide_eq_true_eq, List.length_append] at hv hv'
    have hi : v.toNat < (values ++ l).length := by simp; omega
    have e : classAt (values ++ l) v = (values ++ l)[v.toNat] := by simp [classAt, List.getD, List.getElem?_eq_getElem hi]
    rw [e, List.getElem_append_right (by omega)]
    exact hl _ (List.getElem_mem _)

/-- An instruction of a piece may be, and makes one or two values, those that come next. -/
theorem instrM_ok (s : Ms) (p : Pc) (h0 : 2 ≤ s.m0) (h1 : 2 ≤ s.m1) (hkn : ∀ v ∈ s.known, isValueB s.f.values.length v = true) (hcl : ∀ v, isValueB s.f.values.length v = true → classAt s.f.values v = 0 ∨ classAt s.f.values v = 1) :
    ∃ l : List Int, (l = [p.c / 2 ^ 0 % 2] ∨ l = [p.c / 2 ^ 0 % 2, p.c / 2 ^ 1 % 2]) ∧ (instrM s p).2 = s.f.values ++ l ∧ 1 ≤ l.length ∧ l.length ≤ 2 ∧ (∀ c ∈ l, c = 0 ∨ c = 1) ∧ instrErr (s.f.values ++ l) s.m0 s.m1 (instrM s p).1 = 0 ∧
      (instrM s p).1.operands.length ≤ 5 ∧ (instrM s p).1.spoils.length ≤ 6 ∧ oprM (instrM s p).1.operands = (List.range l.length).map fun j => ((s.f.values.length + j : Nat) : Int) := by
  have hfl := (pickedOf_bd p.flags (2 ^ 30) (by decide)).1
  have hlm := (pickedOf_bd p.limits (2 ^ 40) (by decide)).1
  have hopb := pickedOf_bd p.op 256 (by omega)
  have hpb := pickedOf_bd p.b 4 (by omega)
  unfold instrM
  simp only
  generalize pickedOf p.flags (2 ^ 30) = flags at *
  generalize pickedOf p.limits (2 ^ 40) = lims at *
  generalize pickedOf p.op 256 = op at *
  obtain ⟨w0, k0, lim0, len0⟩ := usesM_ok s p flags hkn hcl 3 0 ⟨[], (0, 0), (0, 0), lims⟩ (WkOk.nil _ _ _ _ h0 h1) (by simp) hlm
  generalize usesM s p flags 3 0 ⟨[], (0, 0), (0, 0), lims⟩ = x0 at *
  simp at len0
  have ru0 : RuOk s.f.values x0.ops.length x0.ops := ⟨Nat.le_refl _, fun j hj _ => k0 _ (List.getElem_mem hj), fun j hj h => absurd hj (by omega), fun o ho h5 => absurd h5 (k0 o ho).2, fun p q hp hq _ h5 => absurd h5 (k0 _ (List.getElem_mem hp)).2⟩
  obtain ⟨o0, c0, hb0, hc0, e1, e2, e3, e4, w1, ru1, lim1, hR1⟩ := defM_ok (p := p) (flags := flags) (i := 0) (reused := -1) w0 ru0 (fun o ho h5 => absurd h5 (k0 o ho).2) lim0
  have hR := hR1 fun u hu => (k0 u hu).2
  generalize defM s.m0 s.m1 p flags x0.ops.length 0 s.f.values (-1) x0 = d0 at *
  have hcl1 := cls_app (l := [c0]) hcl (by simpa using hc0)
  have om0 : oprM (x0.ops ++ [o0]) = [((s.f.values.length : Nat) : Int)] := by rw [oprM_app, oprM_uses _ k0]; simp [oprM, e3, e4]
  by_cases hb : flags / 2 ^ 8 % 2 = 1
  · rw [if_pos hb]
    rw [← e2] at ru1
    obtain ⟨o1, c1, hb1, hc1, f1, f2, f3, f4, w2, ru2, lim2, _⟩ := defM_ok (p := p) (flags := flags) (i := 1) (reused := d0.2.1) w1 ru1 (by rw [e2]; exact hR) lim1
    rw [e1]
    generalize defM s.m0 s.m1 p flags x0.ops.length 1 (s.f.values ++ [c0]) d0.2.1 d0.2.2 = d1 at *
    have hcl2 := cls_app (l := [c1]) hcl1 (by simpa using hc1)
    rw [← f2] at ru2
    have hn : ∀ c, c = 0 ∨ c = 1 → 0 ≤ get2 d1.2.2.need c ∧ get2 d1.2.2.need c + 1 ≤ regsOf s.m0 s.m1 c := fun c hc => ⟨by have := w2.fixle c hc; omega, w2.needlt c hc⟩
    obtain ⟨s1, s2, s3, s4⟩ := sp_ok s.m0 s.m1 (pickedOf p.b 4) d1.2.2.need h0 h1 hn hpb.1
    have hops : d1.2.2.ops = x0.ops ++ [o0] ++ [o1] := by rw [f2, e2]
    refine ⟨[c0, c1], Or.inr (by rw [hb0, hb1]), by rw [f1]; simp, by simp, by simp, by simp [hc0, hc1], ?_, by rw [hops]; simp; omega, ?_, ?_⟩
    · have ev : s.f.values ++ [c0, c1] = s.f.values ++ [c0] ++ [c1] := by simp
      rw [ev]
      split
      · exact w2.instr ru2 hcl2 op ⟨hopb.1, by omega⟩ _ s1 s2 s3
      · exact w2.instr ru2 hcl2 op ⟨hopb.1, by omega⟩ _ rfl (by simp) (fun c hc => by have := hn c hc; simp; omega)
    · split
      · omega
      · simp
    · rw [hops, oprM_app, om0]
      simp [oprM, f3, f4, List.range_succ]
  · rw [if_neg hb]
    rw [← e2] at ru1
    have hn : ∀ c, c = 0 ∨ c = 1 → 0 ≤ get2 d0.2.2.need c ∧ get2 d0.2.2.need c + 1 ≤ regsOf s.m0 s.m1 c := fun c hc => ⟨by have := w1.fixle c hc; omega, w1.needlt c hc⟩
    obtain ⟨s1, s2, s3, s4⟩ := sp_ok s.m0 s.m1 (pickedOf p.b 4) d0.2.2.need h0 h1 hn hpb.1
    refine ⟨[c0], Or.inl (by rw [hb0]), e1, by simp, by simp, by simpa using hc0, ?_, by rw [e2]; simp; omega, ?_, ?_⟩
    · split
      · exact w1.instr ru1 hcl1 op ⟨hopb.1, by omega⟩ _ s1 s2 s3
      · exact w1.instr ru1 hcl1 op ⟨hopb.1, by omega⟩ _ rfl (by simp) (fun c hc => by have := hn c hc; simp; omega)
    · split
      · omega
      · simp
    · rw [e2, om0]
      simp [List.range_succ]
end Go.Proofs.Ytglfpnnfcpnmoaa
namespace Go.Proofs.Ytglfpnnfcpnmoaa
open Go.RowKit
set_option linter.unusedVariables false

theorem allM_cons (b : Blk) (r : List Blk) : allM (b :: r) = makersOf b ++ allM r := by simp [allM]
theorem allM_append (l r : List Blk) : allM (l ++ r) = allM l ++ allM r := by simp [allM]
/-- One block makes more: so do all. -/
theorem allM_set : ∀ (bs : List Blk) (i : Nat) (h : i < bs.length) (b' : Blk) (w : List Int), (makersOf b').Perm (makersOf bs[i] ++ w) → (allM (bs.set i b')).Perm (allM bs ++ w)
  | b :: r, 0, h, b', w, hb => by
    rw [List.set_cons_zero, allM_cons, allM_cons]
    refine (hb.append_right _).trans ?_
    rw [List.append_assoc, List.append_assoc]
    exact List.Perm.append_left _ List.perm_append_comm
  | b :: r, i + 1, h, b', w, hb => by
    rw [List.set_cons_succ, allM_cons, allM_cons, List.append_assoc]
    exact List.Perm.append_left _ (allM_set r i (by simpa using h) b' w (by simpa using hb))

theorem argsErr_app {values : List Int} (l : List Int) : ∀ (a p : List Int), argsErr values a p = 0 → argsErr (values ++ l) a p = 0
  | [], _, _ => by simp [argsErr]
  | _ :: _, [], _ => by simp [argsErr]
  | x :: a, y :: p, h => by
    unfold argsErr at h ⊢
    cases hx : isValueB values.length x
    · rw [if_pos hx] at h; simp at h
    · rw [if_neg (by simp [hx])] at h
      by_cases hy : isValueB values.length y = false ∨ ¬ classAt values x = classAt values y
      · rw [if_pos hy] at h; simp at h
      · rw [if_neg hy] at h
        have hy1 : isValueB values.length y = true := by cases e : isValueB values.length y; exact absurd (Or.inl e) hy; rfl
        have hy2 : classAt values x = classAt values y := by by_cases e : classAt values x = classAt values y; exact e; exact absurd (Or.inr e) hy
        rw [if_neg (by rw [isValue_app hx]; simp), if_neg]
        · exact argsErr_app l a p h
        · rw [isValue_app hy1, classAt_app l hx, classAt_app l hy1]
          simp [hy2]

/-- An edge that may be stays so where values and blocks are added, and blocks keep their params. -/
theorem edgeErr_mono {values : List Int} (l : List Int) {bs bs' : List Blk} {e : Edg} (hlen : bs.length ≤ bs'.length) (hp : ∀ (i : Nat) (b : Blk), bs[i]? = some b → ∃ b' : Blk, bs'[i]? = some b' ∧ b'.params = b.params) (h : edgeErr values bs e = 0) : edgeErr (values ++ l) bs' e = 0 := by
  unfold edgeErr at h ⊢
  by_cases hb : e.block ≤ 0 ∨ (bs.length : Int) ≤ e.block
  · rw [if_pos hb] at h; simp at h
  · rw [if_neg hb] at h
    rw [if_neg (by omega)]
    have hi : e.block.toNat < bs.length := by omega
    rw [List.getElem?_eq_getElem hi] at h
    obtain ⟨b', h1, h2⟩ := hp _ _ (List.getElem?_eq_getElem hi)
    rw [h1]
    simp only at h ⊢
    rw [h2]
    by_cases hl : e.args.length = (bs[e.block.toNat]).params.length
    · rw [if_pos hl] at h ⊢
      exact argsErr_app l _ _ h
    · rw [if_neg hl] at h; simp at h

theorem setBlk_len (bs : List Blk) (i : Nat) (g : Blk → Blk) : (setBlk bs i g).length = bs.length := by simp [setBlk]
theorem setBlk_eq (bs : List Blk) (i : Nat) (g : Blk → Blk) (h : i < bs.length) : setBlk bs i g = bs.set i (g bs[i]) := by simp [setBlk, List.getD, List.getElem?_eq_getElem h]
theorem setBlk_mem {bs : List Blk} {i : Nat} {g : Blk → Blk} (h : i < bs.length) {b : Blk} (hb : b ∈ setBlk bs i g) : b ∈ bs ∨ b = g bs[i] := by
  rw [setBlk_eq bs i g h] at hb
  exact List.mem_or_eq_of_mem_set hb
theorem setBlk_params {bs : List Blk} {i : Nat} {g : Blk → Blk} (hi : i < bs.length) (hg : ∀ b, (g b).params = b.params) (j : Nat) (b : Blk) (h : bs[j]? = some b) : ∃ b', (setBlk bs i g)[j]? = some b' ∧ b'.params = b.params := by
  rw [setBlk_eq bs i g hi]
  have hj : j < bs.length := (List.getElem?_eq_some_iff.1 h).1
  by_cases e : i = j
  · subst e
    rw [List.getElem?_set_self hj]
    rw [List.getElem?_eq_getElem hj] at h
    exact ⟨_, rfl, by rw [hg, ← Option.some.inj h]⟩
  · exact ⟨b, by rw [List.getElem?_set_ne e]; exact h, rfl⟩
end Go.Proofs.Ytglfpnnfcpnmoaa
namespace Go.Proofs.Ytglfpnnfcpnmoaa
open Go.RowKit
set_option linter.unusedVariables false

structure MsOk (s : Ms) : Prop where
  m0 : 2 ≤ s.m0 ∧ s.m0 ≤ 10
  m1 : 2 ≤ s.m1 ∧ s.m1 ≤ 10
  cls : ∀ c ∈ s.f.values, c = 0 ∨ c = 1
  kn : ∀ v ∈ s.known, isValueB s.f.values.length v = true
  cur : s.cur < s.f.blocks.length
  ins : ∀ b ∈ s.f.blocks, ∀ x ∈ b.instrs, instrErr s.f.values s.m0 s.m1 x = 0 ∧ x.operands.length ≤ 5 ∧ x.spoils.length ≤ 6 ∧ 1 ≤ (oprM x.operands).length
  made : (allM s.f.blocks).Perm ((List.range s.f.values.length).map fun j => ((j : Nat) : Int))
  edg : ∀ b ∈ s.f.blocks, ∀ e ∈ b.edges, edgeErr s.f.values s.f.blocks e = 0
  par : ∀ b ∈ s.f.blocks, b.params.length ≤ 2
  two : ∀ b ∈ s.f.blocks, b.edges.length ≤ 2 ∧ (1 < b.edges.length → 0 < b.instrs.length)
  ent : ∀ b : Blk, s.f.blocks[0]? = some b → b.params = []

theorem cls_at {values : List Int} (h : ∀ c ∈ values, c = 0 ∨ c = 1) (v : Int) (hv : isValueB values.length v = true) : classAt values v = 0 ∨ classAt values v = 1 := by
  simp only [isValueB, decide_eq_true_eq] at hv
  have hi : v.toNat < values.length := by omega
  have e : classAt values v = values[v.toNat] := by simp [classAt, List.getD, List.getElem?_eq_getElem hi]
  rw [e]
  exact h _ (List.getElem_mem hi)
theorem insM_snoc (l : List Ins) (x : Ins) : insM (l ++ [x]) = insM l ++ oprM x.operands := by simp [insM]
theorem range_more (n k : Nat) : ((List.range n).map fun j => ((j : Nat) : Int)) ++ ((List.range k).map fun j => ((n + j : Nat) : Int)) = (List.range (n + k)).map fun j => ((j : Nat) : Int) := by
  rw [List.range_add, List.map_append, List.map_map]
  rfl

/-- An instruction is laid. -/
theorem layM_ok (s : Ms) (p : Pc) (h : MsOk s) : MsOk (layM s p) ∧ (layM s p).cur = s.cur ∧ (layM s p).f.blocks.length = s.f.blocks.length ∧ (∃ l : List Int, (l = [p.c / 2 ^ 0 % 2] ∨ l = [p.c / 2 ^ 0 % 2, p.c / 2 ^ 1 % 2]) ∧ (layM s p).f.values = s.f.values ++ l ∧ (layM s p).known = s.known ++ (List.range l.length).map fun j => ((s.f.values.length + j : Nat) : Int)) ∧ ∃ x : Ins, (layM s p).f.blocks = setBlk s.f.blocks s.cur (addI x) := by
  obtain ⟨l, hbits, e1, l1, l2, hl, hi, ho, hsp, hm⟩ := instrM_ok s p h.m0.1 h.m1.1 h.kn (cls_at h.cls)
  unfold layM
  dsimp only
  generalize instrM s p = r at *
  have hmade : (r.1.operands.filter fun o => decide (o.kind = 2)).map (·.value) = (List.range l.length).map fun j => ((s.f.values.length + j : Nat) : Int) := hm
  rw [hmade, e1]
  have hpar : ∀ (j : Nat) (b : Blk), s.f.blocks[j]? = some b → ∃ b' : Blk, (setBlk s.f.blocks s.cur (addI r.1))[j]? = some b' ∧ b'.params = b.params := fun j b hb => setBlk_params (g := addI r.1) h.cur (fun _ => rfl) j b hb
  refine ⟨⟨h.m0, h.m1, ?_, ?_, ?_, ?_, ?_, ?_, ?_, ?_, ?_⟩, rfl, setBlk_len _ _ _, ⟨l, hbits, rfl, rfl⟩, _, rfl⟩
  · intro c hc
    rcases List.mem_append.1 hc with hc | hc
    · exact h.cls c hc
    · exact hl c hc
  · intro v hv
    rcases List.mem_append.1 hv with hv | hv
    · exact isValue_app (h.kn v hv)
    · obtain ⟨j, hj, rfl⟩ := List.mem_map.1 hv
      have := List.mem_range.1 hj
      simp only [isValueB, decide_eq_true_eq, List.length_append]
      omega
  · simpa [setBlk_len] using h.cur
  · intro b hb x hx
    rcases setBlk_mem h.cur hb with hb | rfl
    · obtain ⟨g1, g2, g3⟩ := h.ins b hb x hx
      exact ⟨instrErr_app l g1, g2, g3⟩
    · rcases List.mem_append.1 hx with hx | hx
      · obtain ⟨g1, g2, g3⟩ := h.ins _ (List.getElem_mem h.cur) x hx
        exact ⟨instrErr_app l g1, g2, g3⟩
      · rw [List.mem_singleton.1 hx]
        exact ⟨hi, ho, hsp, by rw [hm]; simpa using l1⟩
  · rw [setBlk_eq _ _ _ h.cur]
    refine (allM_set s.f.blocks s.cur h.cur _ (oprM r.1.operands) ?_).trans ?_
    · simp only [makersOf, addI, insM_snoc, List.append_assoc]
      exact List.Perm.refl _
    · rw [hm, List.length_append, ← range_more]
      exact h.made.append_right _
  · intro b hb e he
    have hlen : s.f.blocks.length ≤ (setBlk s.f.blocks s.cur (addI r.1)).length := by rw [setBlk_len]; exact Nat.le_refl _
    rcases setBlk_mem h.cur hb with hb | rfl
    · exact edgeErr_mono l hlen hpar (h.edg b hb e he)
    · exact edgeErr_mono l hlen hpar (h.edg _ (List.getElem_mem h.cur) e he)
  · intro b hb
    rcases setBlk_mem h.cur hb with hb | rfl
    · exact h.par b hb
    · have g := h.par _ (List.getElem_mem h.cur)
      exact g
  · intro b hb
    rcases setBlk_mem h.cur hb with hb | rfl
    · exact h.two b hb
    · exact ⟨(h.two _ (List.getElem_mem h.cur)).1, fun _ => by simp [addI]⟩
  · intro b hb
    have h0 : 0 < s.f.blocks.length := by have := h.cur; omega
    obtain ⟨b', hb1, hb2⟩ := hpar 0 _ (List.getElem?_eq_getElem h0)
    rw [hb] at hb1
    have e2 := Option.some.inj hb1
    rw [e2, hb2]
    exact h.ent _ (List.getElem?_eq_getElem h0)

/-- A block is added. -/
theorem blockM_ok (s : Ms) (classes : List Int) (h : MsOk s) (hc : ∀ c ∈ classes, c = 0 ∨ c = 1) (hn : classes.length ≤ 2) :
    MsOk (blockM s classes).1 ∧ (blockM s classes).2 = s.f.blocks.length ∧ (blockM s classes).1.cur = s.cur ∧ (blockM s classes).1.known = s.known ∧ (blockM s classes).1.f.values = s.f.values ++ classes ∧
      (blockM s classes).1.f.blocks = s.f.blocks ++ [⟨(List.range classes.length).map fun j => ((s.f.values.length + j : Nat) : Int), [], []⟩] := by
  unfold blockM
  dsimp only
  have hp : ∀ (j : Nat) (b : Blk), s.f.blocks[j]? = some b → ∃ b' : Blk, (s.f.blocks ++ [(⟨(List.range classes.length).map fun j => ((s.f.values.length + j : Nat) : Int), [], []⟩ : Blk)])[j]? = some b' ∧ b'.params = b.params := fun j b hb => by
    have hj : j < s.f.blocks.length := (List.getElem?_eq_some_iff.1 hb).1
    exact ⟨b, by rw [List.getElem?_append_left hj]; exact hb, rfl⟩
  refine ⟨⟨h.m0, h.m1, ?_, ?_, ?_, ?_, ?_, ?_, ?_, ?_, ?_⟩, rfl, rfl, rfl, rfl, rfl⟩
  · intro c hc'
    rcases List.mem_append.1 hc' with hc' | hc'
    · exact h.cls c hc'
    · exact hc c hc'
  · intro v hv
    exact isValue_app (h.kn v hv)
  · have := h.cur
    show s.cur < (s.f.blocks ++ _).length
    rw [List.length_append]
    omega
  · intro b hb x hx
    rcases List.mem_append.1 hb with hb | hb
    · obtain ⟨g1, g2, g3⟩ := h.ins b hb x hx
      exact ⟨instrErr_app classes g1, g2, g3⟩
    · rw [List.mem_singleton.1 hb] at hx
      simp at hx
  · show (allM (s.f.blocks ++ _)).Perm _
    rw [allM_append, List.length_append, ← range_more]
    have e : allM [(⟨(List.range classes.length).map fun j => ((s.f.values.length + j : Nat) : Int), [], []⟩ : Blk)] = (List.range classes.length).map fun j => ((s.f.values.length + j : Nat) : Int) := by simp [allM, makersOf, insM]
    rw [e]
    exact h.made.append_right _
  · intro b hb e he
    rcases List.mem_append.1 hb with hb | hb
    · exact edgeErr_mono classes (by rw [List.length_append]; omega) hp (h.edg b hb e he)
    · rw [List.mem_singleton.1 hb] at he
      simp at he
  · intro b hb
    rcases List.mem_append.1 hb with hb | hb
    · exact h.par b hb
    · rw [List.mem_singleton.1 hb]
      simpa using hn
  · intro b hb
    rcases List.mem_append.1 hb with hb | hb
    · exact h.two b hb
    · rw [List.mem_singleton.1 hb]
      simp
  · intro b hb
    have h0 : 0 < s.f.blocks.length := by have := h.cur; omega
    have hb' : (s.f.blocks ++ [(⟨(List.range classes.length).map fun j => ((s.f.values.length + j : Nat) : Int), [], []⟩ : Blk)])[0]? = some b := hb
    rw [List.getElem?_append_left h0] at hb'
    exact h.ent b hb'

/-- An edge is added. -/
theorem edgeM_ok (s : Ms) (src dst : Nat) (args : List Int) (h : MsOk s) (hs : src < s.f.blocks.length) (he : edgeErr s.f.values s.f.blocks ⟨dst, args⟩ = 0) (h1 : s.f.blocks[src].edges.length ≤ 1) (h2 : s.f.blocks[src].edges.length = 1 → 0 < s.f.blocks[src].instrs.length) :
    MsOk (edgeM s src dst args) := by
  unfold edgeM
  have hp : ∀ (j : Nat) (b : Blk), s.f.blocks[j]? = some b → ∃ b' : Blk, (setBlk s.f.blocks src (addE ⟨dst, args⟩))[j]? = some b' ∧ b'.params = b.params := fun j b hb => setBlk_params (g := addE ⟨dst, args⟩) hs (fun _ => rfl) j b hb
  have hlen : s.f.blocks.length ≤ (setBlk s.f.blocks src (addE ⟨dst, args⟩)).length := by rw [setBlk_len]; exact Nat.le_refl _
  have mono : ∀ e, edgeErr s.f.values s.f.blocks e = 0 → edgeErr s.f.values (setBlk s.f.blocks src (addE ⟨dst, args⟩)) e = 0 := fun e hh => by
    have := edgeErr_mono [] hlen hp hh
    rwa [List.append_nil] at this
  refine ⟨h.m0, h.m1, h.cls, h.kn, ?_, ?_, ?_, ?_, ?_, ?_, ?_⟩
  · show s.cur < (setBlk _ _ _).length
    rw [setBlk_len]
    exact h.cur
  · intro b hb x hx
    rcases setBlk_mem hs hb with hb | rfl
    · exact h.ins b hb x hx
    · exact h.ins _ (List.getElem_mem hs) x hx
  · show (allM (setBlk _ _ _)).Perm _
    rw [setBlk_eq _ _ _ hs]
    refine (allM_set s.f.blocks src hs _ [] (by simp [makersOf, addE])).trans ?_
    rw [List.append_nil]
    exact h.made
  · intro b hb e he'
    rcases setBlk_mem hs hb with hb | rfl
    · exact mono e (h.edg b hb e he')
    · rcases List.mem_append.1 he' with he' | he'
      · exact mono e (h.edg _ (List.getElem_mem hs) e he')
      · rw [List.mem_singleton.1 he']; exact mono _ he
  · intro b hb
    rcases setBlk_mem hs hb with hb | rfl
    · exact h.par b hb
    · have g := h.par _ (List.getElem_mem hs)
      exact g
  · intro b hb
    rcases setBlk_mem hs hb with hb | rfl
    · exact h.two b hb
    · simp only [addE, List.length_append, List.length_singleton]
      exact ⟨by omega, fun hh => h2 (by omega)⟩
  · intro b hb
    have h0 : 0 < s.f.blocks.length := by omega
    obtain ⟨b', hb1, hb2⟩ := hp 0 _ (List.getElem?_eq_getElem h0)
    have hb' : (setBlk s.f.blocks src (addE ⟨dst, args⟩))[0]? = some b := hb
    rw [hb'] at hb1
    rw [Option.some.inj hb1, hb2]
    exact h.ent _ (List.getElem?_eq_getElem h0)
end Go.Proofs.Ytglfpnnfcpnmoaa
