/-
  Maps from places to whatever: what block b holds, as a function of places (MapF); looked up, written, deleted from, and written in two steps.
-/
import Derived.Test.YtdlglinbjkaokabOrP
import Derived.Maps.OwnSet
import Derived.DeepKeys4
import Derived.WideKeyEntry
namespace Go.Proofs.Ytdlglinbjkaokab
open Go.RowKit Go.Maps Go.WideMaps Go.WideElems
open Go.ChangeMaps (setBlock heap_setBlock_same heap_setBlock_other)
set_option linter.unusedVariables false

def plVal (p : Pl) : Value := .agg #[.int .i64 p.kind, .int .i64 p.cls, .int .i64 p.n]
def I64 (x : Int) : Prop := -9223372036854775808 ≤ x ∧ x ≤ 9223372036854775807
def PlWf (p : Pl) : Prop := I64 p.kind ∧ I64 p.cls ∧ I64 p.n
theorem underPl : Try.prog.underlying 26 = some (.struct #[⟨"Kind", 3, 0, false, "", "", 0⟩, ⟨"Class", 3, 1, false, "", "", 8⟩, ⟨"N", 3, 2, false, "", "", 16⟩]) := by kernel_rfl
theorem underI : Try.prog.underlying 3 = some (.int .i64) := by kernel_rfl
theorem cellsI : Try.prog.cellsOf 3 = 1 := by kernel_rfl
theorem cellsP3 : Try.prog.cellsOf 26 = 3 := by kernel_rfl
theorem laidOutO : laidOutB Try.prog = true := by kernel_rfl
theorem rowPl : (26 : TypeId) < Try.prog.types.size := of_decide_eq_true (by kernel_rfl)
theorem keyTyPl : Try.prog.keyType 26 = true := by kernel_rfl
theorem lawPl : KeyLaw Try.prog 26 := deep_law_laid laidOutO (m := 2) (by omega) rowPl (by kernel_rfl) (by kernel_rfl)
theorem wf64 {x : Int} (h : I64 x) : (Lit.int .i64 x).wf = true := by
  have h1 := h.1
  have h2 := h.2
  simp only [Lit.wf, IntKind.min, IntKind.max, IntKind.signed, IntKind.bits, Bool.and_eq_true, decide_eq_true_eq, if_true]
  exact ⟨by omega, by omega⟩
theorem keyLits_int {d : Nat} {x : Int} (h : I64 x) : Try.prog.keyLits (d + 1) 3 [.int .i64 x] = some [.int .i64 x] := by
  unfold Program.keyLits
  rw [underI]
  simp [wf64 h]
theorem key_of {p : Pl} (h : PlWf p) : ∃ kl, keyOf Try.prog 26 (plVal p) = some kl := by
  obtain ⟨h1, h2, h3⟩ := h
  have hs : ∃ d, Try.prog.types.size = d + 1 := ⟨Try.prog.types.size - 1, by have : 0 < Try.prog.types.size := of_decide_eq_true (by kernel_rfl); omega⟩
  obtain ⟨d, hd⟩ := hs
  refine ⟨.string (keyBytes [.int .i64 p.kind, .int .i64 p.cls, .int .i64 p.n]), ?_⟩
  have hf : (plVal p).formed Try.prog 26 = true := by simp [plVal, Value.formed, cellsP3]
  unfold keyOf
  rw [underPl]
  simp only [keyTyPl, hf, Bool.and_self, if_true]
  rw [hd]
  unfold Program.keyLits
  rw [underPl]
  simp [plVal, Value.cells, cellsP3, cellsI, keyLits_int h1, keyLits_int h2, keyLits_int h3]
theorem isKeyPl {v : Value} {l : Lit} (h : keyOf Try.prog 26 v = some l) : WideAt.IsKeyLit l := by
  obtain ⟨s, rfl⟩ := lawPl.str h
  trivial
/-- Each value is read as itself. -/
def RV (v : Value) : Option (DataW Value × List MemPlace) := some (.held v, [])
/-- Block b is a map of at most n entries, that holds what f says. -/
def MapF (w : World) (b n : Nat) (f : Pl → Option Value) : Prop :=
  ∃ D, w.ownsMap Try.prog 26 RV b n D ∧ ∀ p kl, keyOf Try.prog 26 (plVal p) = some kl → Maps.has D kl = (f p).isSome ∧ ∀ v, f p = some v → ∀ z, D.atKey kl z = .held v
theorem plVal_inj {p q : Pl} (h : plVal p = plVal q) : p = q := by
  cases p; cases q
  simpa [plVal] using h
theorem key_ne {p q : Pl} {kp kq : Lit} (hp : keyOf Try.prog 26 (plVal p) = some kp) (hq : keyOf Try.prog 26 (plVal q) = some kq) (h : p ≠ q) : kp ≠ kq := fun e => by
  subst e
  exact h (plVal_inj (lawPl.inj hp hq))
theorem MapF.lt {w : World} {b n : Nat} {f : Pl → Option Value} (h : MapF w b n f) : b < w.heap.size := by
  obtain ⟨D, h, _⟩ := h
  exact h.lt
theorem MapF.mono {w : World} {b n n' : Nat} {f : Pl → Option Value} (h : MapF w b n f) (hn : n ≤ n') : MapF w b n' f := by
  obtain ⟨D, h, h2⟩ := h
  exact ⟨D, h.mono hn, h2⟩
theorem MapF.of_block {w w' : World} {b n : Nat} {f : Pl → Option Value} (h : MapF w b n f) (hb : w'.heap[b]? = w.heap[b]?) : MapF w' b n f := by
  obtain ⟨D, ⟨es, clock, h1, h2⟩, h3⟩ := h
  exact ⟨D, ⟨es, clock, hb.trans h1, h2⟩, h3⟩
theorem MapF.below {w w' : World} {b n B : Nat} {f : Pl → Option Value} (h : MapF w b n f) (hb : Below B w w') (hB : b < B) : MapF w' b n f := h.of_block (hb.block b hB)
theorem MapF.made (w : World) : MapF (w.alloc (.map #[] 0)) w.heap.size 0 (fun _ => none) :=
  ⟨.map [], World.ownsMap_made w _ _ _, fun p kl h => ⟨by simp [Maps.has], fun v h => by cases h⟩⟩
theorem MapF.look_ok {w : World} {b n t e : Nat} {f : Pl → Option Value} (h : MapF w b n f) (ht : Try.prog.underlying t = some (.map 26 e)) {z : Value} (hz : (zeroValue e).run Try.prog w = .ok z w) {p : Pl} (hp : PlWf p) :
    (Instr.lookup t (.map (some b)) (plVal p) true).run Try.prog w = .ok (.tuple #[(f p).getD z, .bool (f p).isSome]) w := by
  obtain ⟨D, h1, h2⟩ := h
  obtain ⟨kl, hk⟩ := key_of hp
  obtain ⟨a, c⟩ := h2 p kl hk
  obtain ⟨v, ps, hr, hv⟩ := h1.look_ok (Keyed.of_law lawPl) ht hz (zd := .held z) (zp := []) rfl hk
  rw [hr, a]
  have hv2 : DataW.held v = D.atKey kl (.held z) := by
    have := Option.some.inj hv
    exact congrArg Prod.fst this
  cases hf : f p with
  | none =>
    rw [hf] at a
    rw [atKey_of_not_has a] at hv2
    cases hv2
    rfl
  | some v0 =>
    rw [c v0 hf] at hv2
    cases hv2
    rfl
theorem MapF.look {w : World} {b n t e : Nat} {f : Pl → Option Value} (h : MapF w b n f) (ht : Try.prog.underlying t = some (.map 26 e)) {z : Value} (hz : (zeroValue e).run Try.prog w = .ok z w) {p : Pl} (hp : PlWf p) :
    (Instr.lookup t (.map (some b)) (plVal p) false).run Try.prog w = .ok ((f p).getD z) w := by
  obtain ⟨D, h1, h2⟩ := h
  obtain ⟨kl, hk⟩ := key_of hp
  obtain ⟨a, c⟩ := h2 p kl hk
  obtain ⟨v, ps, hr, hv⟩ := h1.lookup (Keyed.of_law lawPl) ht hz (zd := .held z) (zp := []) rfl hk
  rw [hr]
  have hv2 : DataW.held v = D.atKey kl (.held z) := by
    have := Option.some.inj hv
    exact congrArg Prod.fst this
  cases hf : f p with
  | none =>
    rw [hf] at a
    rw [atKey_of_not_has a] at hv2
    cases hv2
    rfl
  | some v0 =>
    rw [c v0 hf] at hv2
    cases hv2
    rfl
theorem MapF.store {w : World} {b n t e : Nat} {f : Pl → Option Value} (h : MapF w b n f) (ht : Try.prog.underlying t = some (.map 26 e)) (hn : n < maxLen) {p : Pl} (hp : PlWf p) (v : Value) :
    ∃ w', (Instr.mapUpdate t (.map (some b)) (plVal p) v).run Try.prog w = .ok () w' ∧ MapF w' b (n + 1) (updP f p (some v)) ∧ w.mapTurned w' b := by
  obtain ⟨D, h1, h2⟩ := h
  obtain ⟨kl, hk⟩ := key_of hp
  have hI := h1.isMap
  obtain ⟨w', hr, h3, h4⟩ := h1.store (Keyed.of_law lawPl) ht hn (d := .held v) (ps := []) hk (val := v) rfl
  refine ⟨w', hr, ⟨_, h3, fun q kq hq => ?_⟩, h4⟩
  by_cases e : q = p
  · subst e
    rw [hk] at hq
    cases hq
    refine ⟨by rw [updP_same, has_put_same hI (isKeyPl hk)]; rfl, fun u hu z => ?_⟩
    rw [updP_same] at hu
    cases hu
    exact atKey_put_same hI (isKeyPl hk) _ _
  · have hne := key_ne hq hk e
    obtain ⟨a, c⟩ := h2 q kq hq
    refine ⟨by rw [updP_other e, has_put_other hne, a], fun u hu z => ?_⟩
    rw [updP_other e] at hu
    rw [atKey_put_other hne]
    exact c u hu z
theorem MapF.drop {w : World} {b n t e ty : Nat} {f : Pl → Option Value} (h : MapF w b n f) (ht : Try.prog.underlying t = some (.map 26 e)) {p : Pl} (hp : PlWf p) :
    ∃ w', (Builtin.delete_ #[t, 26] ty #[.map (some b), plVal p]).run Try.prog w = .ok (.tuple #[]) w' ∧ MapF w' b n (updP f p none) ∧ w.mapTurned w' b := by
  obtain ⟨D, h1, h2⟩ := h
  obtain ⟨kl, hk⟩ := key_of hp
  obtain ⟨w', hr, h3, h4⟩ := h1.drop (Keyed.of_law lawPl) ht hk ty
  refine ⟨w', hr, ⟨_, h3, fun q kq hq => ?_⟩, h4⟩
  by_cases e : q = p
  · subst e
    rw [hk] at hq
    cases hq
    refine ⟨by rw [updP_same, has_del_same]; rfl, fun u hu z => ?_⟩
    rw [updP_same] at hu
    cases hu
  · have hne := key_ne hq hk e
    obtain ⟨a, c⟩ := h2 q kq hq
    refine ⟨by rw [updP_other e, has_del_other hne, a], fun u hu z => ?_⟩
    rw [updP_other e] at hu
    rw [atKey_del_other hne]
    exact c u hu z
/-- 'm[k] += x', its first step: there is an entry; and its second. -/
theorem MapF.entry {w : World} {b n t e : Nat} {f : Pl → Option Value} (h : MapF w b n f) (ht : Try.prog.underlying t = some (.map 26 e)) {z : Value} (hz : ∀ u : World, (zeroValue e).run Try.prog u = .ok z u) (hn : n < maxLen) {p : Pl} (hp : PlWf p) :
    ∃ st es1 clock1, (Instr.mapEntry t (.map (some b)) (plVal p)).run Try.prog w = .ok (.tuple #[(f p).getD z, goInt st]) (setBlock w b (.map es1 clock1)) ∧ MapF (setBlock w b (.map es1 clock1)) b (n + 1) (updP f p (some ((f p).getD z))) ∧ w.mapTurned (setBlock w b (.map es1 clock1)) b ∧
      ∀ w2 : World, w2.heap[b]? = some (.map es1 clock1) → ∀ v, ∃ w3, (Instr.entryStore t (.map (some b)) (goInt st) v).run Try.prog w2 = .ok () w3 ∧ MapF w3 b (n + 1) (updP f p (some v)) ∧ w2.mapTurned w3 b := by
  have h0 := h
  obtain ⟨D, ⟨es0, clock0, hb, F, hs, hD⟩, hf⟩ := h0
  obtain ⟨kl, hk⟩ := key_of hp
  obtain ⟨v0, st, es1, clock1, r1, r2, r3⟩ := entry_then_store lawPl ht hz hb F hk
  have hkey : v0 = (f p).getD z ∧ MapF (setBlock w b (.map es1 clock1)) b (n + 1) (updP f p (some ((f p).getD z))) := by
    rcases lawPl.find w hk es0.toList F.keys with ⟨h1, h2⟩ | ⟨j, e0, h1, h2, h3⟩
    · have c1 : (Instr.mapEntry t (.map (some b)) (plVal p)).run Try.prog w = .ok (.tuple #[z, goInt clock0]) (setBlock w b (.map (es0.push ⟨plVal p, z, clock0⟩) (clock0 + 1))) := by
        simp [Instr.mapEntry, run_underlying ht, MapKept.run_getObj_map hb, lawPl.check w false hk, h1, hz, MapKept.run_setObj_map _ hb, Result.andThen, setBlock]
      have c2 : (Instr.mapUpdate t (.map (some b)) (plVal p) z).run Try.prog w = .ok () (setBlock w b (.map (es0.push ⟨plVal p, z, clock0⟩) (clock0 + 1))) := by
        simp [Instr.mapUpdate, run_underlying ht, MapKept.run_getObj_map hb, lawPl.check w false hk, h1, MapKept.run_setObj_map _ hb, Result.andThen, setBlock]
      have c3 : (Instr.lookup t (.map (some b)) (plVal p) false).run Try.prog w = .ok z w := by
        simp [Instr.lookup, run_underlying ht, MapKept.run_getObj_map hb, lawPl.check w _ hk, h1, hz, Result.andThen]
      rw [h.look ht (hz w) hp] at c3
      have e1 : (f p).getD z = z := by injection c3
      rw [r1] at c1
      injection c1 with e2 e3
      have e2 : v0 = z := by
        have := (Value.tuple.inj e2)
        simpa using congrArg (fun a => a.toList.head?) this
      rw [e1]
      refine ⟨e2, ?_⟩
      rw [e3]
      obtain ⟨w', s1, s2, _⟩ := h.store ht hn hp z
      rw [c2] at s1
      injection s1 with _ e4
      rw [e4]
      exact s2
    · have hj : es0[j]? = some e0 := by simpa using h2
      have hsame : es0.modify j (fun e => { e with key := plVal p }) = es0 := by
        apply Array.ext'
        rw [Array.toList_modify, ChangeMaps.modify_eq_set _ _ _ _ h2]
        have : ({ e0 with key := plVal p } : MapEntry) = e0 := by rw [← h3]
        rw [this]
        exact set_self _ _ _ h2
      have c1 : (Instr.mapEntry t (.map (some b)) (plVal p)).run Try.prog w = .ok (.tuple #[e0.val, goInt e0.born]) (setBlock w b (.map es0 clock0)) := by
        simp [Instr.mapEntry, run_underlying ht, MapKept.run_getObj_map hb, lawPl.check w false hk, h1, hj, h3, lawPl.stays w hk, hsame, MapKept.run_setObj_map _ hb, Result.andThen, setBlock]
      have c3 : (Instr.lookup t (.map (some b)) (plVal p) true).run Try.prog w = .ok (.tuple #[e0.val, .bool true]) w := by
        simp [Instr.lookup, run_underlying ht, MapKept.run_getObj_map hb, lawPl.check w _ hk, h1, Result.andThen]
      rw [h.look_ok ht (hz w) hp] at c3
      injection c3 with e1
      have e1 := Value.tuple.inj e1
      simp at e1
      rw [r1] at c1
      injection c1 with e2 e3
      have e2 : v0 = e0.val := by
        have := (Value.tuple.inj e2)
        simpa using congrArg (fun a => a.toList.head?) this
      refine ⟨e2.trans e1.1.symm, ?_⟩
      rw [e3]
      have e4 : updP f p (some ((f p).getD z)) = f := by
        funext q
        by_cases e : q = p
        · subst e
          rw [updP_same]
          cases hfq : f q with
          | none => rw [hfq] at e1; simp at e1
          | some u => rfl
        · exact updP_other e
      rw [e4]
      refine (h.mono (Nat.le_succ _)).of_block ?_
      rw [heap_setBlock_same hb, hb]
  obtain ⟨hv0, hmid⟩ := hkey
  subst hv0
  refine ⟨st, es1, clock1, r1, hmid, ⟨es0, clock0, es1, clock1, hb, rfl⟩, fun w2 hw2 v => ?_⟩
  obtain ⟨es', clock', q1, q2⟩ := r3 w2 v hw2
  obtain ⟨w', s1, s2, _⟩ := h.store ht hn hp v
  rw [q2] at s1
  cases s1
  refine ⟨_, q1, s2.of_block ?_, ⟨es1, clock1, es', clock', hw2, rfl⟩⟩
  rw [heap_setBlock_same hw2, heap_setBlock_same hb]
/-- What has turned: that map alone. -/
theorem turned_block {w w' : World} {b q : Nat} (h : w.mapTurned w' b) (hq : q ≠ b) : w'.heap[q]? = w.heap[q]? := by
  obtain ⟨es, clock, es', clock', hb, rfl⟩ := h
  exact heap_setBlock_other hb _ hq
theorem turned_rest {w w' : World} {b : Nat} (h : w.mapTurned w' b) : w'.os = w.os ∧ w'.tape = w.tape ∧ w'.output = w.output ∧ w'.heap.size = w.heap.size := by
  obtain ⟨es, clock, es', clock', hb, rfl⟩ := h
  exact ⟨rfl, rfl, rfl, by simp [setBlock]⟩
end Go.Proofs.Ytdlglinbjkaokab
