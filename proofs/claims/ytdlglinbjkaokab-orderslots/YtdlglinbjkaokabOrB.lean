/-
  The state of 'work': its box, its maps, the moves that are done (WoS); what a call leaves as it was (Kq).
-/
import Derived.Test.YtdlglinbjkaokabOrA
import Derived.Test.YtdlglinbjkaokabOwn
import Derived.Deep.OwnRows
namespace Go.Proofs.Ytdlglinbjkaokab
open Go.RowKit
set_option linter.unusedVariables false

def cMv (m : Mv) : List Value := [.int .i64 m.src.kind, .int .i64 m.src.cls, .int .i64 m.src.n, .int .i64 m.dst.kind, .int .i64 m.dst.cls, .int .i64 m.dst.n]
def RMv (cs : List Value) (m : Mv) : Prop := cs = [.int .i64 m.src.kind, .int .i64 m.src.cls, .int .i64 m.src.n, .int .i64 m.dst.kind, .int .i64 m.dst.cls, .int .i64 m.dst.n]
/-- All but the box, two maps and the row of done moves is as it was. -/
structure Kq (X bl br : Nat) (vd vd' : Value) (w w' : World) : Prop where
  os : w'.os = w.os
  tape : w'.tape = w.tape
  output : w'.output = w.output
  size : w.heap.size ≤ w'.heap.size
  block : ∀ q, q < w.heap.size → q ≠ X → q ≠ bl → q ≠ br → vd.ownBlock ≠ some q → w'.heap[q]? = w.heap[q]?
  own : ∀ g, vd'.ownBlock = some g → vd.ownBlock = some g ∨ w.heap.size ≤ g
theorem Kq.refl (X bl br : Nat) (vd : Value) (w : World) : Kq X bl br vd vd w w := ⟨rfl, rfl, rfl, Nat.le_refl _, fun _ _ _ _ _ _ => rfl, fun _ h => Or.inl h⟩
theorem Kq.trans {X bl br : Nat} {va vb vc : Value} {w w1 w2 : World} (h : Kq X bl br va vb w w1) (k : Kq X bl br vb vc w1 w2) : Kq X bl br va vc w w2 := by
  refine ⟨k.os.trans h.os, k.tape.trans h.tape, k.output.trans h.output, Nat.le_trans h.size k.size, fun q hq h1 h2 h3 h4 => ?_, fun g hg => ?_⟩
  · refine (k.block q (Nat.lt_of_lt_of_le hq h.size) h1 h2 h3 fun e => ?_).trans (h.block q hq h1 h2 h3 h4)
    rcases h.own q e with e | e
    · exact h4 e
    · omega
  · rcases k.own g hg with e | e
    · exact h.own g e
    · exact Or.inr (Nat.le_trans h.size e)
theorem Kq.of_below {X bl br : Nat} {vd : Value} {w w' : World} (h : Below w.heap.size w w') : Kq X bl br vd vd w w' := ⟨h.os, h.tape, h.output, h.size, fun q hq _ _ _ _ => h.block q hq, fun _ h => Or.inl h⟩
theorem Kq.row {X bl br : Nat} {vd vd' : Value} {w w' : World} (h : Kq X bl br vd vd' w w') {Z T n : Nat} {f : Nat → Value} (r : w.rowIs Z T n f) (h1 : Z ≠ X) (h2 : Z ≠ bl) (h3 : Z ≠ br) (h4 : vd.ownBlock ≠ some Z) : w'.rowIs Z T n f := r.of_block (h.block Z r.lt h1 h2 h3 h4)
theorem Kq.off {X bl br : Nat} {vd vd' : Value} {w w' : World} (h : Kq X bl br vd vd' w w') {Z : Nat} (hZ : Z < w.heap.size) (h4 : vd.ownBlock ≠ some Z) : vd'.ownBlock ≠ some Z := fun e => by
  rcases h.own Z e with e | e
  · exact h4 e
  · omega
/-- A slice is as it was, if it lies below the box and the maps. -/
theorem Kq.below {X bl br B : Nat} {vd vd' : Value} {w w' : World} (h : Kq X bl br vd vd' w w') (hB : B ≤ w.heap.size) (h1 : B ≤ X) (h2 : B ≤ bl) (h3 : B ≤ br) (h4 : ∀ g, vd.ownBlock = some g → B ≤ g) : Below B w w' :=
  ⟨h.os, h.tape, h.output, h.size, fun q hq => h.block q (by omega) (by omega) (by omega) (by omega) fun e => by have := h4 q e; omega⟩

def woF (r0 r1 fr : Int) (bc bl br : Nat) (vd : Value) (i : Nat) : Value :=
  if i = 0 then .int .i64 r0 else if i = 1 then .int .i64 r1 else if i = 2 then .int .i64 fr else if i = 3 then .map (some bc) else if i = 4 then .map (some bl) else if i = 5 then .map (some br) else vd
def leftV (left : Pl → Option Pl) (p : Pl) : Option Value := (left p).map plVal
structure WoS (X bc bl br B : Nat) (r0 r1 fr : Int) (nC : Nat) (fC : Pl → Option Value) (nL nR : Nat) (left : Pl → Option Pl) (rd : Pl → Int) (vd : Value) (done : List Mv) (w : World) : Prop where
  bx : w.rowIs X 45 7 (woF r0 r1 fr bc bl br vd)
  mc : MapF w bc nC fC
  ml : MapF w bl nL (leftV left)
  mr : ∃ fR, MapF w br nR fR ∧ ∀ p, (fR p).getD (.int .i64 0) = .int .i64 (rd p)
  own : w.ownsRow B 29 6 vd done.length (done.flatMap cMv)
  l1 : bc < bl
  l2 : bl < br
  l3 : br < X
  l4 : X < B
  lB : B ≤ w.heap.size
section
variable {X bc bl br B : Nat} {r0 r1 fr : Int} {nC : Nat} {fC : Pl → Option Value} {nL nR : Nat} {left : Pl → Option Pl} {rd : Pl → Int} {vd : Value} {done : List Mv} {w w' : World}
theorem WoS.below (k : WoS X bc bl br B r0 r1 fr nC fC nL nR left rd vd done w) (hb : Below w.heap.size w w') : WoS X bc bl br B r0 r1 fr nC fC nL nR left rd vd done w' := by
  obtain ⟨fR, hR, hR2⟩ := k.mr
  exact ⟨k.bx.of_block (hb.block _ k.bx.lt), k.mc.below hb k.mc.lt, k.ml.below hb k.ml.lt, ⟨fR, hR.below hb hR.lt, hR2⟩, own_keep k.own fun g _ _ hg => hb.block g hg, k.l1, k.l2, k.l3, k.l4, Nat.le_trans k.lB hb.size⟩
theorem WoS.nown (k : WoS X bc bl br B r0 r1 fr nC fC nL nR left rd vd done w) {q : Nat} (hq : q < B) : vd.ownBlock ≠ some q := fun e => by
  have := (own_base k.own e).1
  omega
theorem WoS.noff (k : WoS X bc bl br B r0 r1 fr nC fC nL nR left rd vd done w) {q : Nat} (hq : w.heap.size ≤ q) : vd.ownBlock ≠ some q := fun e => by
  have := (own_base k.own e).2
  omega
theorem WoS.form (k : WoS X bc bl br B r0 r1 fr nC fC nL nR left rd vd done w) : ∃ a c, vd = .slice a done.length c := by
  rcases k.own.2 with ⟨h1, h2⟩ | ⟨g, cap, cur, h1, _⟩
  · exact ⟨none, 0, by rw [h1, h2]⟩
  · exact ⟨_, _, h1⟩
/-- Moves are done. -/
theorem WoS.push {a : Option Addr} {c g cap m : Nat} {l : List Mv} {wa w1 : World} (k : WoS X bc bl br B r0 r1 fr nC fC nL nR left rd (.slice a done.length c) done w) (hwa : Below w.heap.size w wa) (hgrow : wa.grownBy w1 (Value.slice a done.length c).ownBlock) (hm : l.length = m) (hown : w1.ownsRow B 29 6 (.slice (some ⟨g, 0, none⟩) (done.length + m) cap) (done.length + m) (done.flatMap cMv ++ l.flatMap cMv)) (hat : (Value.slice a done.length c).ownBlock = some g ∨ w.heap.size ≤ g) :
    WoS X bc bl br B r0 r1 fr nC fC nL nR left rd (.slice (some ⟨g, 0, none⟩) (done.length + m) cap) (done ++ l) (w1.setCell ⟨X, 6, none⟩ (.slice (some ⟨g, 0, none⟩) (done.length + m) cap)) ∧
    Kq X bl br (.slice a done.length c) (.slice (some ⟨g, 0, none⟩) (done.length + m) cap) w (w1.setCell ⟨X, 6, none⟩ (.slice (some ⟨g, 0, none⟩) (done.length + m) cap)) := by
  have l1 := k.l1
  have l2 := k.l2
  have l3 := k.l3
  have l4 := k.l4
  have lB := k.lB
  have hz := hwa.size
  have hgz := hgrow.size
  have old : ∀ p, p < w.heap.size → (Value.slice a done.length c).ownBlock ≠ some p → w1.heap[p]? = w.heap[p]? := fun p hp hn => (hgrow.block p (by omega) (fun e => hn e.symm)).trans (hwa.block p hp)
  have es1 : (w1.setCell ⟨X, 6, none⟩ (.slice (some ⟨g, 0, none⟩) (done.length + m) cap)).heap.size = w1.heap.size := by simp [World.setCell]
  have off : ∀ p, p ≠ X → (w1.setCell ⟨X, 6, none⟩ (.slice (some ⟨g, 0, none⟩) (done.length + m) cap)).heap[p]? = w1.heap[p]? := fun p hp => Below.heap_setCell _ _ _ _ (by show p ≠ X; exact hp)
  have keep : ∀ p, p < B → p ≠ X → (w1.setCell ⟨X, 6, none⟩ (.slice (some ⟨g, 0, none⟩) (done.length + m) cap)).heap[p]? = w.heap[p]? := fun p hp hX => (off p hX).trans (old p (by omega) (k.nown hp))
  obtain ⟨fR, hR, hR2⟩ := k.mr
  refine ⟨⟨?_, k.mc.of_block (keep _ (by omega) (by omega)), k.ml.of_block (keep _ (by omega) (by omega)), ⟨fR, hR.of_block (keep _ (by omega) (by omega)), hR2⟩, ?_, l1, l2, l3, l4, by omega⟩, ⟨?_, ?_, ?_, by omega, fun q hq h1 _ _ h4 => (off q h1).trans (old q hq h4), fun q hq => ?_⟩⟩
  · refine ((k.bx.of_block (old X (by omega) (k.nown l4))).set 6 _).congr fun i hi => ?_
    unfold woF
    by_cases e : i = 6
    · subst e
      simp
    · rw [if_neg e]
      have : i = 0 ∨ i = 1 ∨ i = 2 ∨ i = 3 ∨ i = 4 ∨ i = 5 := by omega
      rcases this with rfl | rfl | rfl | rfl | rfl | rfl <;> simp
  · rw [List.length_append, hm, List.flatMap_append]
    exact own_keep hown fun p hp hB _ => off p (by omega)
  · exact hgrow.os.trans hwa.os
  · exact hgrow.tape.trans hwa.tape
  · exact hgrow.output.trans hwa.output
  · have e : q = g := by simpa [Value.ownBlock] using hq.symm
    rw [e]
    exact hat
end
theorem movInfo : (Try.prog.info? 29).map (fun i => (i.zero, i.size, i.bytes)) = some (some (.agg #[.int .i64 0, .int .i64 0, .int .i64 0, .int .i64 0, .int .i64 0, .int .i64 0]), 6, 48) := by kernel_rfl
theorem mov_parts : ∃ i, Try.prog.info? 29 = some i ∧ i.zero = some (.agg #[.int .i64 0, .int .i64 0, .int .i64 0, .int .i64 0, .int .i64 0, .int .i64 0]) ∧ i.size = 6 ∧ i.bytes = 48 := by
  obtain ⟨i, hi, hz⟩ := Option.map_eq_some_iff.1 movInfo
  simp only [Prod.mk.injEq] at hz
  exact ⟨i, hi, hz.1, hz.2.1, hz.2.2⟩
theorem newsO {w : World} {cs : Array Value} {t : Nat} : ∀ j u, cs.toList[j]? = some u → (w.alloc (.cells cs t)).cell? ((⟨w.heap.size, 0, none⟩ : Addr).add j) = some u :=
  World.news_of_block (cs := cs) (t := t) (fr := (0, 0)) (heap_alloc_new w _)
theorem mv_len : ∀ l : List Mv, (l.flatMap cMv).length = l.length * 6 := flat_length cMv 6 fun _ => rfl
theorem mv_one (l : List Mv) : ∀ u ∈ l.flatMap cMv, u.oneCell' = true := fun u hu => by
  obtain ⟨x, _, hx⟩ := List.mem_flatMap.1 hu
  simp [cMv] at hx
  rcases hx with h | h | h | h | h | h <;> (rw [h]; rfl)
/-- Moves that were just laid are appended to those that are owned. -/
theorem app_moves {B n : Nat} {w : World} {v : Value} {xs : List Value} (hown : w.ownsRow B 29 6 v n xs) (hB : B ≤ w.heap.size) (l : List Mv) (cs : Array Value) (hcs : cs.toList = l.flatMap cMv) (m : Nat) (hm : l.length = m) (h0 : 0 < m) (hn : n + m ≤ 1000000) (c ty : Nat) :
    ∃ g cap w', (Builtin.append_ #[23, 23] ty #[v, .slice (some ⟨w.heap.size, 0, none⟩) m c]).run Try.prog (w.alloc (.cells cs 29)) = .ok (.slice (some ⟨g, 0, none⟩) (n + m) cap) w' ∧
      w'.ownsRow B 29 6 (.slice (some ⟨g, 0, none⟩) (n + m) cap) (n + m) (xs ++ l.flatMap cMv) ∧ (w.alloc (.cells cs 29)).grownBy w' v.ownBlock ∧ (v.ownBlock = some g ∨ w.heap.size ≤ g) := by
  obtain ⟨i, hi, hz, h6, h48⟩ := mov_parts
  have hown' : (w.alloc (.cells cs 29)).ownsRow B 29 6 v n xs := own_keep hown fun g _ _ hg => ((Below.refl w.heap.size w).alloc (Nat.le_refl _) _).block g hg
  obtain ⟨g, cap, w', h1, h2, h3, h4, _⟩ := run_append_lies (P := Try.prog) (w.alloc (.cells cs 29)) 23 ty B 29 i _ 6 48 Try.underlying23 hi hz h6 h48 rfl (by decide) v n xs hown' ⟨w.heap.size, 0, none⟩ m c (l.flatMap cMv) (by rw [mv_len, hm]) (fun j u hu => newsO j u (by rw [hcs]; exact hu)) (mv_one l) h0 (by unfold maxLen; omega) (by omega) (by simp; omega) _ rfl
  exact ⟨g, cap, w', h1, h2, h3, h4.imp id fun e => by rw [e]; simp⟩
/-- Where a move lies. -/
theorem mv_at {w : World} {a : Option Addr} {n c : Nat} {l : List Mv} (h : SlOf w 6 RMv (.slice a n c) l) (j : Nat) (hj : j < l.length) : ∃ b off, a = some ⟨b, off, none⟩ ∧ b < w.heap.size ∧ w.cell? ⟨b, off + j * 6, none⟩ = some (.int .i64 l[j].src.kind) ∧ w.cell? ⟨b, off + j * 6 + 1, none⟩ = some (.int .i64 l[j].src.cls) ∧ w.cell? ⟨b, off + j * 6 + 2, none⟩ = some (.int .i64 l[j].src.n) ∧ w.cell? ⟨b, off + j * 6 + 3, none⟩ = some (.int .i64 l[j].dst.kind) ∧ w.cell? ⟨b, off + j * 6 + 4, none⟩ = some (.int .i64 l[j].dst.cls) ∧ w.cell? ⟨b, off + j * 6 + 5, none⟩ = some (.int .i64 l[j].dst.n) := by
  obtain ⟨b, off, cs, h1, h2, h3, h4⟩ := h.at j hj
  unfold RMv at h3
  subst h3
  have c0 := h4 0 (by simp)
  have c1 := h4 1 (by simp)
  have c2 := h4 2 (by simp)
  have c3 := h4 3 (by simp)
  have c4 := h4 4 (by simp)
  have c5 := h4 5 (by simp)
  simp at c0 c1 c2 c3 c4 c5
  exact ⟨b, off, h1, block_lt c0, c0, c1, c2, c3, c4, c5⟩
theorem part3 (a b c : Value) (w : World) : (part 3 #[a, b, c] 0).run Try.prog w = .ok a w ∧ (part 3 #[a, b, c] 1).run Try.prog w = .ok b w ∧ (part 3 #[a, b, c] 2).run Try.prog w = .ok c w := ⟨by kernel_rfl, by kernel_rfl, by kernel_rfl⟩
theorem eqI (d : Nat) (a b : Int) (w : World) : (Op.equalIn (d + 1) 3 (.int .i64 a) (.int .i64 b)).run Try.prog w = .ok (a == b) w := by
  unfold Op.equalIn
  simp [run_underlying underI, Result.andThen]
theorem eq_pl (p q : Pl) (w : World) : (Op.equal 26 (plVal p) (plVal q)).run Try.prog w = .ok (decide (p = q)) w := by
  have he : p = q ↔ (p.kind = q.kind ∧ p.cls = q.cls ∧ p.n = q.n) := by
    cases p; cases q; simp
  unfold Op.equal plVal
  have hm : ∃ d, Op.maxDepth = d + 1 + 1 := ⟨Op.maxDepth - 2, by unfold Op.maxDepth; omega⟩
  obtain ⟨d, hd⟩ := hm
  rw [hd]
  unfold Op.equalIn
  by_cases h1 : p.kind = q.kind
  · by_cases h2 : p.cls = q.cls
    · by_cases h3 : p.n = q.n
      · simp [run_underlying underPl, Result.andThen, part3, eqI, he, h1, h2, h3]
      · simp [run_underlying underPl, Result.andThen, part3, eqI, he, h1, h2, h3]
    · simp [run_underlying underPl, Result.andThen, part3, eqI, he, h1, h2]
  · simp [run_underlying underPl, Result.andThen, part3, eqI, he, h1]
theorem guard_pl (op : BinOp) (x y : Operand) (p q : Pl) (w : World) : (eqGuard op 26 x y (plVal p) (plVal q)).run Try.prog w = .ok () w := by
  have h : Try.prog.eqGuardType Try.prog.depth 26 = false := by kernel_rfl
  have hp : ∀ w : World, (program).run Try.prog w = .ok Try.prog w := fun _ => rfl
  unfold eqGuard plVal
  cases op <;> simp [h, hp, Result.andThen]
theorem neq_pl (p q : Pl) (w : World) : (binOp .neq 26 (plVal p) (plVal q)).run Try.prog w = .ok (.bool (decide (p ≠ q))) w := by
  have h := eq_pl p q w
  unfold plVal at *
  unfold binOp
  simp [h, Result.andThen]
theorem eql_pl (p q : Pl) (w : World) : (binOp .eql 26 (plVal p) (plVal q)).run Try.prog w = .ok (.bool (decide (p = q))) w := by
  have h := eq_pl p q w
  unfold plVal at *
  unfold binOp
  simp [h, Result.andThen]
/-! ### operations whose run is known -/
section
variable {P : Program} {o : Oper} {a : Act} {w w' : World} {K : Act → World → Prop} {Q : Exit → Act → World → Prop}
theorem wpO_append (s x : Operand) (t : TypeId) (ho : o.op = .call { callee := .builtin .append, args := #[s, x], argTypes := #[t, t] }) {v1 v2 v : Value} (h1 : a.eval s = v1) (h2 : a.eval x = v2) (hr : (Builtin.append_ #[t, t] o.type #[v1, v2]).run P w = .ok v w') (hK : K (a.put o.dst v) w') : Oper.wp P o a w K Q := by
  unfold Oper.wp execOp
  simp only [ho, resolve, invoke, builtin, Sem.run_bind, Sem.run_pure, Result.andThen_ok, List.map_toArray, List.map_cons, List.map_nil, h1, h2, hr]
  exact hK
theorem wpO_delete (m x : Operand) (t k : TypeId) (ho : o.op = .call { callee := .builtin .delete, args := #[m, x], argTypes := #[t, k] }) {v1 v2 v : Value} (h1 : a.eval m = v1) (h2 : a.eval x = v2) (hr : (Builtin.delete_ #[t, k] o.type #[v1, v2]).run P w = .ok v w') (hK : K (a.put o.dst v) w') : Oper.wp P o a w K Q := by
  unfold Oper.wp execOp
  simp only [ho, resolve, invoke, builtin, Sem.run_bind, Sem.run_pure, Result.andThen_ok, List.map_toArray, List.map_cons, List.map_nil, h1, h2, hr]
  exact hK
theorem wpO_mapUpdate (m x y : Operand) (t : TypeId) (ho : o.op = .mapUpdate t m x y) {v1 v2 v3 : Value} (h1 : a.eval m = v1) (h2 : a.eval x = v2) (h3 : a.eval y = v3) (hr : (Instr.mapUpdate t v1 v2 v3).run P w = .ok () w') (hK : K (a.put o.dst undef) w') : Oper.wp P o a w K Q := by
  unfold Oper.wp execOp
  simp [ho, h1, h2, h3, hr, Result.andThen]
  exact hK
theorem wpO_mapEntry (m x : Operand) (t : TypeId) (ho : o.op = .mapEntry t m x) {v1 v2 v : Value} (h1 : a.eval m = v1) (h2 : a.eval x = v2) (hr : (Instr.mapEntry t v1 v2).run P w = .ok v w') (hK : K (a.put o.dst v) w') : Oper.wp P o a w K Q := by
  unfold Oper.wp execOp
  simp [ho, h1, h2, hr, Result.andThen]
  exact hK
theorem wpO_entryStore (m x y : Operand) (t : TypeId) (ho : o.op = .entryStore t m x y) {v1 v2 v3 : Value} (h1 : a.eval m = v1) (h2 : a.eval x = v2) (h3 : a.eval y = v3) (hr : (Instr.entryStore t v1 v2 v3).run P w = .ok () w') (hK : K (a.put o.dst undef) w') : Oper.wp P o a w K Q := by
  unfold Oper.wp execOp
  simp [ho, h1, h2, h3, hr, Result.andThen]
  exact hK
theorem execO_lookup (m x : Operand) (t : TypeId) (c : Bool) (ho : o.op = .lookup t m x c) {v1 v2 v : Value} (h1 : a.eval m = v1) (h2 : a.eval x = v2) (hr : (Instr.lookup t v1 v2 c).run P w = .ok v w) : (execOp a.eval o).run P w = .ok (.value v) w := by
  unfold execOp
  simp [ho, h1, h2, hr, Result.andThen]
theorem wpL_mapUpdate {ops : Array Oper} {rest : List Oper} (hgd : o.guard = none) (m x y : Operand) (t : TypeId) (ho : o.op = .mapUpdate t m x y) {v1 v2 v3 : Value} (h1 : a.eval m = v1) (h2 : a.eval x = v2) (h3 : a.eval y = v3) (hr : (Instr.mapUpdate t v1 v2 v3).run P w = .ok () w') (h : wpList P ops Q rest (a.put o.dst undef) w') : wpList P ops Q (o :: rest) a w :=
  wpList_plain hgd fun _ hK => wpO_mapUpdate m x y t ho h1 h2 h3 hr (hK _ _ h)
theorem wpL_neq {ops : Array Oper} {rest : List Oper} (hgd : o.guard = none) (x y : Operand) (ho : o.op = .binOp .neq 26 x y 26) {p q : Pl} (h1 : a.eval x = plVal p) (h2 : a.eval y = plVal q) {b : Bool} (hb : decide (p ≠ q) = b) (h : wpList Try.prog ops Q rest (a.put o.dst (.bool b)) w) : wpList Try.prog ops Q (o :: rest) a w :=
  wpList_plain hgd fun _ hK => by
    subst hb
    unfold Oper.wp execOp
    simp [ho, h1, h2, guard_pl, neq_pl, Result.andThen]
    exact hK _ _ (by simpa using h)
theorem wpL_eql {ops : Array Oper} {rest : List Oper} (hgd : o.guard = none) (x y : Operand) (ho : o.op = .binOp .eql 26 x y 26) {p q : Pl} (h1 : a.eval x = plVal p) (h2 : a.eval y = plVal q) {b : Bool} (hb : decide (p = q) = b) (h : wpList Try.prog ops Q rest (a.put o.dst (.bool b)) w) : wpList Try.prog ops Q (o :: rest) a w :=
  wpList_plain hgd fun _ hK => by
    subst hb
    unfold Oper.wp execOp
    simp [ho, h1, h2, guard_pl, eql_pl, Result.andThen]
    exact hK _ _ (by simpa using h)
end
end Go.Proofs.Ytdlglinbjkaokab
