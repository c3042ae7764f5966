/-
  The contracts of 'slices.Grow' (of nothing) and 'slices.Concat' (of two lists of moves).
-/
import Derived.Test.YtdlglinbjkaokabOrG
import Derived.Lib.AppendZerosOnto
import Derived.Deep.DeepAppendWide
import Derived.Deep.AppendSrc
import Derived.Deep.Upon
namespace Go.Proofs.Ytdlglinbjkaokab
open Go.RowKit Go.Lib
set_option linter.unusedVariables false

section
variable {P : Program} {o : Oper} {a : Act} {w w' : World} {K : Act → World → Prop} {Q : Exit → Act → World → Prop}
theorem wpL_append2 {ops : Array Oper} {rest : List Oper} (hgd : o.guard = none) (s x : Operand) (t tn : TypeId) (ho : o.op = .call { callee := .builtin .append, args := #[s, x], argTypes := #[t, tn] }) {v1 v2 v : Value} (h1 : a.eval s = v1) (h2 : a.eval x = v2) (hr : (Builtin.append_ #[t, tn] o.type #[v1, v2]).run P w = .ok v w') (h : wpList P ops Q rest (a.put o.dst v) w') : wpList P ops Q (o :: rest) a w :=
  wpList_plain hgd fun _ hK => by
    unfold Oper.wp execOp
    simp only [ho, resolve, invoke, builtin, Sem.run_bind, Sem.run_pure, Result.andThen_ok, List.map_toArray, List.map_cons, List.map_nil, h1, h2, hr]
    exact hK _ _ h
end
theorem addO (b off j : Nat) : (⟨b, off, none⟩ : Addr).add j = ⟨b, off + j, none⟩ := by unfold Addr.add; split <;> simp_all
theorem grow_run (w : World) (n : Nat) (h0 : 0 < n) (hn : n ≤ 10000) (ty : TypeId) : ∃ cap w', (Builtin.append_ #[23, 3] ty #[.slice none 0 0, .int .i64 n]).run Try.prog w = .ok (.slice (some ⟨w.heap.size, 0, none⟩) n cap) w' ∧ w'.ownsRow w.heap.size 29 6 (.slice (some ⟨w.heap.size, 0, none⟩) 0 cap) 0 [] ∧ Below w.heap.size w w' ∧ n ≤ cap ∧ cap ≤ 9223372036854775807 := by
  obtain ⟨i, hi, hz, h6, h48⟩ := mov_parts
  have h := Lib.run_append_grow_zeros (P := Try.prog) w 23 3 ty 29 i _ .i64 .i64 Try.underlying23 underI hi hz none 0 0 [] (run_firstCells_none w.drew i.size 0 0 0) n h0 (by omega) (by omega) (by omega) (by rw [h48]; omega) (by rw [h48]; exact growslice_fits_wide (by omega) (by omega))
  rw [Nat.zero_add] at h
  have hge := grownCap_ge w n 0 29
  have hle := grownCap_le_maxLen w n 0 29 (by unfold maxLen; omega)
  obtain ⟨G, hG⟩ : ∃ G, G = grownCap w n 0 29 := ⟨_, rfl⟩
  rw [← hG] at h hge hle
  refine ⟨G, _, h, ?_, ((Below.refl _ _).drew).alloc (Nat.le_refl _) _, hge, by unfold maxLen at hle; omega⟩
  refine ⟨rfl, Or.inr ⟨w.heap.size, G, _, rfl, Nat.le_refl _, heap_alloc_new w.drew _, Nat.zero_le _, hle, ?_, by simp⟩⟩
  simp only [Array.size_append, size_zeroCells]
  simp [Value.cells]
  omega
set_option maxHeartbeats 4000000 in
theorem grow_any (n : Nat) (hn : n ≤ 10000) (w : World) :
    Calls Try.prog 31 #[.slice none 0 0, .int .i64 n] w fun e w' => ∃ v, e = .returned v ∧ w'.ownsRow w.heap.size 29 6 v 0 [] ∧ Below w.heap.size w w' := by
  by_cases h0 : n = 0
  · subst h0
    go_enter Try.func31, Try.ntmps31
    go_wp2
    go_ret
    exact ⟨_, rfl, ⟨rfl, Or.inl ⟨rfl, rfl⟩⟩, Below.refl _ _⟩
  · obtain ⟨cap, w', hr, ho, hb, hc, hc2⟩ := grow_run w n (by omega) hn 23
    have h1 : ¬ ((n : Int) < 0) := by omega
    have h4 : (0 : Int) < (n : Int) := by omega
    have HO : Hid (w'.ownsRow w.heap.size 29 6 (.slice (some ⟨w.heap.size, 0, none⟩) 0 cap) 0 [] ∧ Below w.heap.size w w') := ⟨ho, hb⟩
    clear ho hb h0
    go_enter Try.func31, Try.ntmps31
    go_wp2_with (at_builtin; refine wpL_append2 rfl _ _ _ _ rfl rfl rfl hr ?_)
    go_ret
    exact ⟨_, rfl, HO.out.1, HO.out.2⟩
/-- Moves that lie somewhere are appended to those that are owned. -/
theorem app_slice {B n : Nat} {w : World} {v : Value} {xs : List Value} (hown : w.ownsRow B 29 6 v n xs) (hB : B ≤ w.heap.size) (l : List Mv) {ax : Option Addr} {m c : Nat} (hl : SlOf w 6 RMv (.slice ax m c) l) (hm : l.length = m) (hn : n + m ≤ 1000000) (ty : Nat) :
    ∃ a' cap w', (Builtin.append_ #[23, 23] ty #[v, .slice ax m c]).run Try.prog w = .ok (.slice a' (n + m) cap) w' ∧
      w'.ownsRow B 29 6 (.slice a' (n + m) cap) (n + m) (xs ++ l.flatMap cMv) ∧ w.grownBy w' v.ownBlock := by
  obtain ⟨i, hi, hz, h6, h48⟩ := mov_parts
  by_cases h0 : m = 0
  · subst h0
    have hl0 : l = [] := List.length_eq_zero_iff.1 hm
    subst hl0
    have hv : ∃ a' cap, v = .slice a' n cap ∧ n ≤ cap := by
      rcases hown.2 with ⟨rfl, rfl⟩ | ⟨g, cap, cur, rfl, _, _, hnc, _⟩
      · exact ⟨none, 0, rfl, Nat.le_refl _⟩
      · exact ⟨_, cap, rfl, hnc⟩
    obtain ⟨a', cap, rfl, hnc⟩ := hv
    refine ⟨a', cap, w, ?_, by simpa using hown, ⟨rfl, rfl, rfl, Nat.le_refl _, fun _ _ _ => rfl⟩⟩
    rw [Nat.add_zero]
    cases ax with
    | none => exact run_append_nothing w 23 23 ty 29 i Try.underlying23 hi a' n cap hnc _ (Src.ofNil w Try.underlying23 c)
    | some ad => exact run_append_nothing w 23 23 ty 29 i Try.underlying23 hi a' n cap hnc _ (Src.ofSlice w Try.underlying23 ad 0 c [] (by simp) (by simp) (by simp))
  · obtain ⟨a0, c0, hv0, _, h⟩ := hl
    simp only [Value.slice.injEq] at hv0
    obtain ⟨rfl, _, rfl⟩ := hv0
    rcases h with rfl | ⟨b, off, rfl, h⟩
    · exact absurd hm.symm h0
    · have hnews : ∀ j u, (l.flatMap cMv)[j]? = some u → w.cell? ((⟨b, off, none⟩ : Addr).add j) = some u := fun j u hu => by
        have hj : j < l.length * 6 := by
          have := (List.getElem?_eq_some_iff.1 hu).1
          rw [mv_len] at this
          exact this
        have hq : j / 6 < l.length := by omega
        have hr : j % 6 < 6 := Nat.mod_lt _ (by omega)
        have hjj : j = j / 6 * 6 + j % 6 := by omega
        obtain ⟨cs, h1, h2, h3⟩ := h (j / 6) hq
        have h4 := flat_at cMv 6 (fun _ => rfl) l (j / 6) (j % 6) hq hr
        rw [← hjj, hu] at h4
        unfold RMv at h2
        have h5 : cs = cMv l[j / 6] := h2
        subst h5
        have h6 := h3 (j % 6) (by rw [h1]; exact hr)
        have hoff : (⟨b, off, none⟩ : Addr).add j = ⟨b, off + j / 6 * 6 + j % 6, none⟩ := by
          have : off + j = off + j / 6 * 6 + j % 6 := by omega
          rw [← this]
          exact addO b off j
        rw [hoff, h6]
        have h7 : (cMv l[j / 6])[j % 6]? = some ((cMv l[j / 6])[j % 6]'(by rw [h1]; exact hr)) := List.getElem?_eq_getElem _
        rw [← h7, ← h4]
      obtain ⟨g, cap, w', q1, q2, q3, _⟩ := run_append_lies (P := Try.prog) w 23 ty B 29 i _ 6 48 Try.underlying23 hi hz h6 h48 rfl (by decide) v n xs hown ⟨b, off, none⟩ m c (l.flatMap cMv) (by rw [mv_len, hm]) hnews (mv_one l) (by omega) (by unfold maxLen; omega) (by omega) hB _ rfl
      exact ⟨_, cap, w', q1, q2, q3⟩
end Go.Proofs.Ytdlglinbjkaokab
