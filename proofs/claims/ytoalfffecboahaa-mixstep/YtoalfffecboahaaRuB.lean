/-
  The contracts of the reference's 'Mixed' and 'joinedInts'; numbers that are copied by append.
-/
import Derived.Test.YtoalfffecboahaaRuA
namespace Go.Proofs.Ytoalfffecboahaa
open Go.RowKit
set_option linter.unusedVariables false

set_option maxHeartbeats 2000000 in
theorem mixedR_any (l : List Int) (a : Option Addr) (n c : Nat) (r : Int) (w : World) (hn : l.length = n) (h1 : SlOf w 1 RInt (.slice a n c) l) (hr : mixL 7 l = r) :
    Calls Try.prog 11 #[.slice a n c] w fun e w' => e = .returned (.int .i64 r) ∧ w' = w := by
  subst hn
  have lb : l.length ≤ longest := by
    obtain ⟨_, _, _, h⟩ := h1.out
    exact h
  unfold longest at lb
  have HA : Hid (SlOf w 1 RInt (.slice a l.length c) l) := h1
  have HR : Hid (mixL 7 l = r) := hr
  clear h1 hr
  go_enter Try.func11, Try.ntmps11
  go_wp2_with fail
  go_loopw [4, 3] (fun i x wr => ∃ (k : Nat) (y : Int), k ≤ l.length ∧ i = .int .i64 k ∧ x = .int .i64 y ∧ 0 ≤ y ∧ y < 1000003 ∧ wr = w ∧ Hid (mixL y (l.drop k) = r)) (fun i _ _ => l.length - (intOf i).toNat)
  case atStart => exact ⟨0, 7, Nat.zero_le _, rfl, rfl, by decide, by decide, rfl, HR.out⟩
  case round =>
    obtain ⟨k, y, hk, rfl, rfl, hy, hy', rfl, HI⟩ := hrel
    by_cases hlt : k < l.length
    · obtain ⟨b1, o1, rfl, hb1, e1⟩ := ru_at HA.out k hlt
      have hI := HI.out
      rw [mixL_drop _ _ _ hlt] at hI
      have HN : Hid (mixL (mixN y (l.getD k 0)) (l.drop (k + 1)) = r) := hI
      clear hI HI
      generalize l.getD k 0 = x at *
      obtain ⟨q, hq, hq0, hq1, hq2⟩ := tmod_cases x
      by_cases hqn : q < 0
      · have HQ : Hid ((31 * y + (q + 1000003)) % 1000003 = mixN y x) := by
          show _ = _
          have := hq2 (31 * y)
          unfold mixN
          omega
        clear hq2
        go_wp2
        go_roundw
        case rel => exact ⟨k + 1, mixN y x, by omega, by go_num, by rw [HQ.out], (mixN_bd _ _).1, (mixN_bd _ _).2, trivial, HN.out⟩
        case measure => simp [intOf]; omega
      · have HQ : Hid ((31 * y + q) % 1000003 = mixN y x) := by
          show _ = _
          have := hq2 (31 * y)
          unfold mixN
          omega
        clear hq2
        go_wp2
        go_roundw
        case rel => exact ⟨k + 1, mixN y x, by omega, by go_num, by rw [HQ.out], (mixN_bd _ _).1, (mixN_bd _ _).2, trivial, HN.out⟩
        case measure => simp [intOf]; omega
    · have H : Hid (y = r) := by
        show _ = _
        rw [← HI.out, mixL_end _ _ _ (by omega)]
      clear HI
      go_wp2
      go_ret
      exact ⟨ret_int H.out, rfl⟩

theorem ruInfo : (Try.prog.info? 3).map (fun i => (i.zero, i.size, i.bytes)) = some (some (.int .i64 0), 1, 8) := by kernel_rfl
theorem ru_parts {o : Option TypeInfo} {z : Value} {k m : Nat} (h : o.map (fun i => (i.zero, i.size, i.bytes)) = some (some z, k, m)) : ∃ i, o = some i ∧ i.zero = some z ∧ i.size = k ∧ i.bytes = m := by
  obtain ⟨i, hi, hz⟩ := Option.map_eq_some_iff.1 h
  simp only [Prod.mk.injEq] at hz
  exact ⟨i, hi, hz.1, hz.2.1, hz.2.2⟩
theorem ru_news {w : World} {ob : Obj} {cs : Array Value} {t : Nat} (h : ob = .cells cs t) : ∀ j u, cs.toList[j]? = some u → (w.alloc ob).cell? ((⟨w.heap.size, 0, none⟩ : Addr).add j) = some u := by
  subst h
  exact World.news_of_block (cs := cs) (t := t) (fr := (0, 0)) (heap_alloc_new w _)
theorem ru_below {w w' : World} (h : w.grownBy w' none) : Below w.heap.size w w' := ⟨h.os, h.tape, h.output, h.size, fun b hb => h.block b hb (by simp)⟩
/-- What is grown is as it was below. -/
theorem ru_grown {w w' : World} {B : Nat} {v : Value} {e n : Nat} {xs : List Value} (h : w.grownBy w' v.ownBlock) (hown : w.ownsRow B e 1 v n xs) (hB : B ≤ w.heap.size) : Below B w w' :=
  (Below.refl _ _).grown h hB fun q hq => (own_base hown hq).1
section
variable {P : Program} (w : World)
/-- An append to what is owned, of what lies somewhere, or of nothing. -/
theorem ru_run_append (t ty : TypeId) (base : Nat) (e : TypeId) (i : TypeInfo) (z : Value) (bytes : Nat) (ht : P.underlying t = some (.slice e)) (hi : P.info? e = some i) (hz : i.zero = some z)
    (hsize : i.size = 1) (hby : i.bytes = bytes) (hzs : z.cells.size = 1)
    (v : Value) (n : Nat) (xs : List Value) (hown : w.ownsRow base e 1 v n xs)
    (ax : Option Addr) (m c : Nat) (news : List Value) (hl : news.length = m * 1) (hnews : m = 0 ∨ ∃ ad, ax = some ad ∧ ∀ j u, news[j]? = some u → w.cell? (ad.add j) = some u) (h1 : ∀ u ∈ news, u.oneCell' = true)
    (h63 : n + m ≤ maxLen) (hbytes : (n + m) * bytes ≤ 140737488355328) (hbase : base ≤ w.heap.size) :
    ∃ a' cap w', (Builtin.append_ #[t, t] ty #[v, .slice ax m c]).run P w = .ok (.slice a' (n + m) cap) w' ∧ w'.ownsRow base e 1 (.slice a' (n + m) cap) (n + m) (xs ++ news) ∧ w.grownBy w' v.ownBlock := by
  by_cases hm : m = 0
  · subst hm
    have hn : news = [] := List.length_eq_zero_iff.1 (by rw [hl])
    subst hn
    have hv : ∃ a' cap, v = .slice a' n cap ∧ n ≤ cap := by
      rcases hown.2 with ⟨rfl, rfl⟩ | ⟨g, cap, cur, rfl, _, _, hnc, _⟩
      · exact ⟨none, 0, rfl, Nat.le_refl _⟩
      · exact ⟨_, cap, rfl, hnc⟩
    obtain ⟨a', cap, rfl, hnc⟩ := hv
    refine ⟨a', cap, w, ?_, by simpa using hown, ⟨rfl, rfl, rfl, Nat.le_refl _, fun _ _ _ => rfl⟩⟩
    rw [Nat.add_zero]
    cases ax with
    | none => exact run_append_nothing w t t ty e i ht hi a' n cap hnc _ (Src.ofNil w ht c)
    | some ad => exact run_append_nothing w t t ty e i ht hi a' n cap hnc _ (Src.ofSlice w ht ad 0 c [] (by simp) (by simp) (by simp))
  · obtain ⟨ad, rfl, hc⟩ := hnews.resolve_left hm
    obtain ⟨g, cap, w', hr, h2, h3, h4, _⟩ := run_append_lies (P := P) w t ty base e i z 1 bytes ht hi hz hsize hby hzs (by decide) v n xs hown ad m c news hl hc h1 (by omega) (by omega) (by simpa using hbytes) hbase w.heap.size rfl
    exact ⟨_, _, _, hr, h2, h3⟩
theorem ru_append {ops : Array Oper} {rest : List Oper} {o : Oper} {a : Act} {Q : Exit → Act → World → Prop} (hgd : o.guard = none) (s x : Operand) (t : TypeId)
    (ho : o.op = .call { callee := .builtin .append, args := #[s, x], argTypes := #[t, t] })
    (base : Nat) (e : TypeId) (i : TypeInfo) (z : Value) (bytes : Nat) (ht : P.underlying t = some (.slice e)) (hi : P.info? e = some i) (hz : i.zero = some z)
    (hsize : i.size = 1) (hby : i.bytes = bytes) (hzs : z.cells.size = 1)
    (v : Value) (n : Nat) (xs : List Value) (hs : a.eval s = v) (hown : w.ownsRow base e 1 v n xs)
    (ax : Option Addr) (m c : Nat) (news : List Value) (hx : a.eval x = .slice ax m c) (hl : news.length = m * 1) (hnews : m = 0 ∨ ∃ ad, ax = some ad ∧ ∀ j u, news[j]? = some u → w.cell? (ad.add j) = some u) (h1 : ∀ u ∈ news, u.oneCell' = true)
    (h63 : n + m ≤ maxLen) (hbytes : (n + m) * bytes ≤ 140737488355328) (hbase : base ≤ w.heap.size)
    (h : ∀ a' cap w', w'.ownsRow base e 1 (.slice a' (n + m) cap) (n + m) (xs ++ news) → w.grownBy w' v.ownBlock → wpList P ops Q rest (a.put o.dst (.slice a' (n + m) cap)) w') : wpList P ops Q (o :: rest) a w :=
  wpList_plain hgd fun _ hK => by
    obtain ⟨a', cap, w', hr, h2, h3⟩ := ru_run_append (P := P) w t o.type base e i z bytes ht hi hz hsize hby hzs v n xs hown ax m c news hl hnews h1 h63 hbytes hbase
    unfold Oper.wp execOp
    simp only [ho, resolve, invoke, builtin, Sem.run_bind, Sem.run_pure, Result.andThen_ok, List.map_toArray, List.map_cons, List.map_nil, hs, hx, hr]
    exact hK _ _ (h a' cap w' h2 h3)
end
theorem ru_off (b off j : Nat) : (⟨b, off, none⟩ : Addr).add j = ⟨b, off + j, none⟩ := by unfold Addr.add; split <;> simp_all
/-- Numbers lie there in cells. -/
theorem ru_ints {w : World} {a : Option Addr} {n c : Nat} {l : List Int} (h : SlOf w 1 RInt (.slice a n c) l) : n = l.length ∧ (l.flatMap cI).length = n * 1 ∧ (n = 0 ∨ ∃ ad, a = some ad ∧ ∀ j u, (l.flatMap cI)[j]? = some u → w.cell? (ad.add j) = some u) := by
  obtain ⟨a', c', hv, _, h⟩ := h
  simp only [Value.slice.injEq] at hv
  obtain ⟨rfl, rfl, _⟩ := hv
  refine ⟨rfl, flat_length cI 1 (fun _ => rfl) l, ?_⟩
  rcases h with rfl | ⟨b, off, rfl, h⟩
  · exact Or.inl rfl
  · refine Or.inr ⟨_, rfl, fun j u hu => ?_⟩
    have hj : j < l.length := by
      have := (List.getElem?_eq_some_iff.1 hu).1
      rw [flat_length cI 1 (fun _ => rfl) l] at this
      omega
    obtain ⟨cs, h1, h2, h3⟩ := h j hj
    unfold RInt at h2
    subst h2
    have h4 := flat_at cI 1 (fun _ => rfl) l j 0 hj (by decide)
    rw [Nat.mul_one, Nat.add_zero, hu] at h4
    have h5 := h3 0 (by simp)
    rw [Nat.mul_one, Nat.add_zero] at h5
    rw [ru_off, h5, h4]
    rfl
theorem ru_one (l : List Int) : ∀ u ∈ l.flatMap cI, u.oneCell' = true := fun u hu => by
  obtain ⟨x, _, hx⟩ := List.mem_flatMap.1 hu
  simp [cI] at hx
  rw [hx]
  rfl
/-- A new row of numbers is owned. -/
theorem ru_own_new {w : World} (base : Nat) (l : List Int) (cs : Array Value) (hcs : cs.toList = l.flatMap cI) (hb : base ≤ w.heap.size) (hl : 0 < l.length) (hn : l.length ≤ maxLen) : (w.alloc (.cells cs 3)).ownsRow base 3 1 (.slice (some ⟨w.heap.size, 0, none⟩) l.length l.length) l.length (l.flatMap cI) := by
  refine ⟨flat_length cI 1 (fun _ => rfl) l, Or.inr ⟨w.heap.size, l.length, cs, rfl, hb, heap_alloc_new w _, Nat.le_refl _, hn, ?_, ?_⟩⟩
  · rw [← Array.length_toList, hcs, flat_length cI 1 (fun _ => rfl)]
  · rw [hcs]
    have : (l.flatMap cI).length = l.length * 1 := flat_length cI 1 (fun _ => rfl) l
    rw [← this, List.take_length]
end Go.Proofs.Ytoalfffecboahaa
