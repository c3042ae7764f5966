/-
  Numbers that are joined by append; a row of one's own that grows.
-/
import Derived.Test.YtoalfffecboahabRuA
namespace Go.Proofs.Ytoalfffecboahab
open Go.RowKit
set_option linter.unusedVariables false

theorem ruInfo : (Try.prog.info? 3).map (fun i => (i.zero, i.size, i.bytes)) = some (some (.int .i64 0), 1, 8) := by kernel_rfl
theorem ru_parts {o : Option TypeInfo} {z : Value} {k m : Nat} (h : o.map (fun i => (i.zero, i.size, i.bytes)) = some (some z, k, m)) : ∃ i, o = some i ∧ i.zero = some z ∧ i.size = k ∧ i.bytes = m := by
  obtain ⟨i, hi, hz⟩ := Option.map_eq_some_iff.1 h
  simp only [Prod.mk.injEq] at hz
  exact ⟨i, hi, hz.1, hz.2.1, hz.2.2⟩
theorem ru_news {w : World} {ob : Obj} {cs : Array Value} {t : Nat} (h : ob = .cells cs t) : ∀ j u, cs.toList[j]? = some u → (w.alloc ob).cell? ((⟨w.heap.size, 0, none⟩ : Addr).add j) = some u := by
  subst h
  exact World.news_of_block (cs := cs) (t := t) (fr := (0, 0)) (heap_alloc_new w _)
theorem ru_below {w w' : World} (h : w.grownBy w' none) : Below w.heap.size w w' := ⟨h.os, h.tape, h.output, h.size, fun b hb => h.block b hb (by simp)⟩
/-- What is grown is as it was below. -/
theorem ru_grown {w w' : World} {B : Nat} {v : Value} {e n : Nat} {xs : List Value} (h : w.grownBy w' v.ownBlock) (hown : w.ownsRow B e 1 v n xs) (hB : B ≤ w.heap.size) : Below B w w' :=
  (Below.refl _ _).grown h hB fun q hq => (own_base hown hq).1
section
variable {P : Program} (w : World)
/-- An append to what is owned, of what lies somewhere, or of nothing. -/
theorem ru_run_append (t ty : TypeId) (base : Nat) (e : TypeId) (i : TypeInfo) (z : Value) (bytes : Nat) (ht : P.underlying t = some (.slice e)) (hi : P.info? e = some i) (hz : i.zero = some z)
    (hsize : i.size = 1) (hby : i.bytes = bytes) (hzs : z.cells.size = 1)
    (v : Value) (n : Nat) (xs : List Value) (hown : w.ownsRow base e 1 v n xs)
    (ax : Option Addr) (m c : Nat) (news : List Value) (hl : news.length = m * 1) (hnews : m = 0 ∨ ∃ ad, ax = some ad ∧ ∀ j u, news[j]? = some u → w.cell? (ad.add j) = some u) (h1 : ∀ u ∈ news, u.oneCell' = true)
    (h63 : n + m ≤ maxLen) (hbytes : (n + m) * bytes ≤ 140737488355328) (hbase : base ≤ w.heap.size) :
    ∃ a' cap w', (Builtin.append_ #[t, t] ty #[v, .slice ax m c]).run P w = .ok (.slice a' (n + m) cap) w' ∧ w'.ownsRow base e 1 (.slice a' (n + m) cap) (n + m) (xs ++ news) ∧ w.grownBy w' v.ownBlock := by
  by_cases hm : m = 0
  · subst hm
    have hn : news = [] := List.length_eq_zero_iff.1 (by rw [hl])
    subst hn
    have hv : ∃ a' cap, v = .slice a' n cap ∧ n ≤ cap := by
      rcases hown.2 with ⟨rfl, rfl⟩ | ⟨g, cap, cur, rfl, _, _, hnc, _⟩
      · exact ⟨none, 0, rfl, Nat.le_refl _⟩
      · exact ⟨_, cap, rfl, hnc⟩
    obtain ⟨a', cap, rfl, hnc⟩ := hv
    refine ⟨a', cap, w, ?_, by simpa using hown, ⟨rfl, rfl, rfl, Nat.le_refl _, fun _ _ _ => rfl⟩⟩
    rw [Nat.add_zero]
    cases ax with
    | none => exact run_append_nothing w t t ty e i ht hi a' n cap hnc _ (Src.ofNil w ht c)
    | some ad => exact run_append_nothing w t t ty e i ht hi a' n cap hnc _ (Src.ofSlice w ht ad 0 c [] (by simp) (by simp) (by simp))
  · obtain ⟨ad, rfl, hc⟩ := hnews.resolve_left hm
    obtain ⟨g, cap, w', hr, h2, h3, h4, _⟩ := run_append_lies (P := P) w t ty base e i z 1 bytes ht hi hz hsize hby hzs (by decide) v n xs hown ad m c news hl hc h1 (by omega) (by omega) (by simpa using hbytes) hbase w.heap.size rfl
    exact ⟨_, _, _, hr, h2, h3⟩
theorem ru_append {ops : Array Oper} {rest : List Oper} {o : Oper} {a : Act} {Q : Exit → Act → World → Prop} (hgd : o.guard = none) (s x : Operand) (t : TypeId)
    (ho : o.op = .call { callee := .builtin .append, args := #[s, x], argTypes := #[t, t] })
    (base : Nat) (e : TypeId) (i : TypeInfo) (z : Value) (bytes : Nat) (ht : P.underlying t = some (.slice e)) (hi : P.info? e = some i) (hz : i.zero = some z)
    (hsize : i.size = 1) (hby : i.bytes = bytes) (hzs : z.cells.size = 1)
    (v : Value) (n : Nat) (xs : List Value) (hs : a.eval s = v) (hown : w.ownsRow base e 1 v n xs)
    (ax : Option Addr) (m c : Nat) (news : List Value) (hx : a.eval x = .slice ax m c) (hl : news.length = m * 1) (hnews : m = 0 ∨ ∃ ad, ax = some ad ∧ ∀ j u, news[j]? = some u → w.cell? (ad.add j) = some u) (h1 : ∀ u ∈ news, u.oneCell' = true)
    (h63 : n + m ≤ maxLen) (hbytes : (n + m) * bytes ≤ 140737488355328) (hbase : base ≤ w.heap.size)
    (h : ∀ a' cap w', w'.ownsRow base e 1 (.slice a' (n + m) cap) (n + m) (xs ++ news) → w.grownBy w' v.ownBlock → wpList P ops Q rest (a.put o.dst (.slice a' (n + m) cap)) w') : wpList P ops Q (o :: rest) a w :=
  wpList_plain hgd fun _ hK => by
    obtain ⟨a', cap, w', hr, h2, h3⟩ := ru_run_append (P := P) w t o.type base e i z bytes ht hi hz hsize hby hzs v n xs hown ax m c news hl hnews h1 h63 hbytes hbase
    unfold Oper.wp execOp
    simp only [ho, resolve, invoke, builtin, Sem.run_bind, Sem.run_pure, Result.andThen_ok, List.map_toArray, List.map_cons, List.map_nil, hs, hx, hr]
    exact hK _ _ (h a' cap w' h2 h3)
end
theorem ru_off (b off j : Nat) : (⟨b, off, none⟩ : Addr).add j = ⟨b, off + j, none⟩ := by unfold Addr.add; split <;> simp_all
/-- Numbers lie there in cells. -/
theorem ru_ints {w : World} {a : Option Addr} {n c : Nat} {l : List Int} (h : SlOf w 1 RInt (.slice a n c) l) : n = l.length ∧ (l.flatMap cI).length = n * 1 ∧ (n = 0 ∨ ∃ ad, a = some ad ∧ ∀ j u, (l.flatMap cI)[j]? = some u → w.cell? (ad.add j) = some u) := by
  obtain ⟨a', c', hv, _, h⟩ := h
  simp only [Value.slice.injEq] at hv
  obtain ⟨rfl, rfl, _⟩ := hv
  refine ⟨rfl, flat_length cI 1 (fun _ => rfl) l, ?_⟩
  rcases h with rfl | ⟨b, off, rfl, h⟩
  · exact Or.inl rfl
  · refine Or.inr ⟨_, rfl, fun j u hu => ?_⟩
    have hj : j < l.length := by
      have := (List.getElem?_eq_some_iff.1 hu).1
      rw [flat_length cI 1 (fun _ => rfl) l] at this
      omega
    obtain ⟨cs, h1, h2, h3⟩ := h j hj
    unfold RInt at h2
    subst h2
    have h4 := flat_at cI 1 (fun _ => rfl) l j 0 hj (by decide)
    rw [Nat.mul_one, Nat.add_zero, hu] at h4
    have h5 := h3 0 (by simp)
    rw [Nat.mul_one, Nat.add_zero] at h5
    rw [ru_off, h5, h4]
    rfl
theorem ru_one (l : List Int) : ∀ u ∈ l.flatMap cI, u.oneCell' = true := fun u hu => by
  obtain ⟨x, _, hx⟩ := List.mem_flatMap.1 hu
  simp [cI] at hx
  rw [hx]
  rfl
/-- A new row of numbers is owned. -/
theorem ru_own_new {w : World} (base : Nat) (l : List Int) (cs : Array Value) (hcs : cs.toList = l.flatMap cI) (hb : base ≤ w.heap.size) (hl : 0 < l.length) (hn : l.length ≤ maxLen) : (w.alloc (.cells cs 3)).ownsRow base 3 1 (.slice (some ⟨w.heap.size, 0, none⟩) l.length l.length) l.length (l.flatMap cI) := by
  refine ⟨flat_length cI 1 (fun _ => rfl) l, Or.inr ⟨w.heap.size, l.length, cs, rfl, hb, heap_alloc_new w _, Nat.le_refl _, hn, ?_, ?_⟩⟩
  · rw [← Array.length_toList, hcs, flat_length cI 1 (fun _ => rfl)]
  · rw [hcs]
    have : (l.flatMap cI).length = l.length * 1 := flat_length cI 1 (fun _ => rfl) l
    rw [← this, List.take_length]
/-- A row of one's own that grows: the numbers so far. -/
structure GrS (w0 : World) (N : Nat) (v : Value) (l : List Int) (w : World) : Prop where
  own : w.ownsRow N 3 1 v l.length (l.flatMap cI)
  low : Below N w0 w
  le : N ≤ w.heap.size
theorem GrS.below {w0 : World} {N : Nat} {v : Value} {l : List Int} {w w' : World} (h : GrS w0 N v l w) (hb : Below w.heap.size w w') : GrS w0 N v l w' :=
  ⟨own_keep h.own fun g _ _ hg => hb.block g hg, h.low.trans (hb.mono h.le), Nat.le_trans h.le hb.size⟩
theorem GrS.push {w0 : World} {N : Nat} {v v' : Value} {l l2 : List Int} {w w1 : World} {m : Nat} (h : GrS w0 N v l w) (hm : m = l.length + l2.length) (hgrow : w.grownBy w1 v.ownBlock) (hown : w1.ownsRow N 3 1 v' m (l.flatMap cI ++ l2.flatMap cI)) : GrS w0 N v' (l ++ l2) w1 := by
  refine ⟨?_, h.low.trans (ru_grown hgrow h.own h.le), Nat.le_trans h.le hgrow.size⟩
  rw [List.length_append, ← hm, List.flatMap_append]
  exact hown
theorem GrS.nil (w : World) : GrS w w.heap.size (.slice none 0 0) [] w := ⟨⟨rfl, Or.inl ⟨rfl, rfl⟩⟩, Below.refl _ _, Nat.le_refl _⟩
theorem GrS.sl {w0 : World} {N : Nat} {v : Value} {l : List Int} {w : World} (h : GrS w0 N v l w) (hn : l.length ≤ longest) : SlOf w 1 RInt v l := own_ints _ h.own hn

end Go.Proofs.Ytoalfffecboahab
