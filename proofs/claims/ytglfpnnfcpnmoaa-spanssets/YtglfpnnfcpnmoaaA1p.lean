/-
  The contract of 'checker.pairClashes': whether the operands at two places clash (P1.6).
-/
import Derived.Test.YtglfpnnfcpnmoaaA1
import Derived.Deep.DeepCutAuto
namespace Go.Proofs.Ytglfpnnfcpnmoaa
open Go.RowKit
set_option linter.unusedVariables false

def pairB (values : List Int) (all : List Opr) (a b : Opr) (i j : Int) : Bool :=
  if a.limit = 5 ∧ b.limit = 5 ∧ a.n = b.n then true
  else if meetB a.kind a.value a.late b.kind b.value b.late = false ∨ reusesB a.limit a.n j = true ∨ reusesB b.limit b.n i = true then false
  else match fixedOf values all a, fixedOf values all b with
    | some r, some s => decide (r = s)
    | _, _ => false

theorem meet_is (a b : Opr) (r : Bool) (h : meetB a.kind a.value a.late b.kind b.value b.late = r) (w : World) :
    Calls Try.prog 72 #[operV a.kind a.value a.late a.limit a.n, operV b.kind b.value b.late b.limit b.n] w fun e w' => e = .returned (.bool r) ∧ Below w.heap.size w w' := by
  rw [← h]; exact meet_any _ _ _ _ _ _ _ _ _ _ w
theorem reuses_is (a : Opr) (j : Nat) (r : Bool) (h : reusesB a.limit a.n j = r) (w : World) :
    Calls Try.prog 73 #[operV a.kind a.value a.late a.limit a.n, .int .i64 j] w fun e w' => e = .returned (.bool r) ∧ Below w.heap.size w w' := by
  refine (reuses_any a.kind a.value a.late a.limit a.n j w).mono ?_
  rintro e w' ⟨rfl, rfl⟩
  exact ⟨ret_bool h, (Below.refl _ _).alloc (Nat.le_refl _) _⟩
theorem fixed_is (values : List Int) (av : Option Addr) (cv : Nat) (vb : Value) (m0 m1 : Int) (o : Opr) (all : List Opr) (aa : Option Addr) (ca : Nat) (w : World) (p : Option (Int × Int)) (h : fixedOf values all o = p) (w0 : w = w) (hv : SlOf w 1 RInt (.slice av values.length cv) values)
    (ha : SlOf w 5 ROpr (.slice aa all.length ca) all) (hN : o.limit = 5 → 0 ≤ o.n ∧ o.n < (all.length : Int)) (hV : isValueB values.length (named all o).value = true) :
    Calls Try.prog 68 #[.agg #[.slice av values.length cv, vb, .int .i64 m0, .int .i64 m1], .agg #[.int .i64 o.kind, .int .i64 o.value, .bool o.late, .int .i64 o.limit, .int .i64 o.n], .slice aa all.length ca] w fun e w' => e = .returned (.tuple #[.agg #[.int .i64 (p.getD (0, 0)).1, .int .i64 (p.getD (0, 0)).2], .bool p.isSome]) ∧ Below w.heap.size w w' := by
  rw [← h]; exact fixed_any values av cv vb m0 m1 o all aa ca w hv ha hN hV

set_option maxHeartbeats 8000000 in
theorem pair_any (values : List Int) (av : Option Addr) (cv : Nat) (vb : Value) (m0 m1 : Int) (all : List Opr) (aa : Option Addr) (ca : Nat) (i j : Nat) (hi : i < all.length) (hj : j < all.length) (w : World) (hv : SlOf w 1 RInt (.slice av values.length cv) values)
    (ha : SlOf w 5 ROpr (.slice aa all.length ca) all) (hN : ∀ o ∈ all, o.limit = 5 → 0 ≤ o.n ∧ o.n < (all.length : Int)) (hV : ∀ o ∈ all, isValueB values.length (named all o).value = true) :
    Calls Try.prog 70 #[.agg #[.slice av values.length cv, vb, .int .i64 m0, .int .i64 m1], .slice aa all.length ca, .int .i64 i, .int .i64 j] w fun e w' => e = .returned (.bool (pairB values all all[i] all[j] i j)) ∧ Below w.heap.size w w' := by
  obtain ⟨_, _, _, lv⟩ := hv.out
  obtain ⟨_, _, _, la⟩ := ha.out
  unfold longest at lv la
  have hNa := hN _ (List.getElem_mem hi)
  have hNb := hN _ (List.getElem_mem hj)
  have hVa := hV _ (List.getElem_mem hi)
  have hVb := hV _ (List.getElem_mem hj)
  obtain ⟨b5, off5, rfl, hb5, c0, c1, c2, c3, c4⟩ := opr_cells ha i hi
  obtain ⟨b5', off5', hav, hb5', d0, d1, d2, d3, d4⟩ := opr_cells ha j hj
  simp only [Option.some.injEq, Addr.mk.injEq] at hav
  obtain ⟨rfl, rfl, _⟩ := hav
  generalize all[i] = a at *
  generalize all[j] = b at *
  have i0 : (0 : Int) ≤ (i : Int) := by omega
  have i1 : (i : Int) < (all.length : Int) := by omega
  have j0 : (0 : Int) ≤ (j : Int) := by omega
  have j1 : (j : Int) < (all.length : Int) := by omega
  have L5 := old_cell b5
  have e51 : b5 < w.heap.size + 1 := by omega
  have e52 : b5 < w.heap.size + 1 + 1 := by omega
  have e53 : b5 < w.heap.size + 1 + 1 + 1 := by omega
  go_enter Try.func70, Try.ntmps70
  go_upto_region 1 with fail
  go_cut [9, 10] (fun pa pb wx => ∃ ba bo : Nat, pa = .pointer (some ⟨ba, 0, none⟩) ∧ pb = .pointer (some ⟨bo, 0, none⟩) ∧ OprAt wx ba a ∧ OprAt wx bo b ∧ ChkAt wx w.heap.size (.slice av values.length cv) vb m0 m1 ∧ Below w.heap.size w wx)
  case first =>
    go_region
    all_goals go_wp2
    all_goals go_meet
    all_goals refine ⟨_, _, rfl, rfl, ⟨?_, ?_, ?_, ?_, ?_, ?_⟩, ⟨?_, ?_, ?_, ?_, ?_, ?_⟩, ⟨?_, ?_, ?_, ?_, ?_⟩, ?_⟩
    all_goals (first | (go_simp; done) | (simp; omega) | skip)
    all_goals repeat (first | exact Below.refl _ _ | refine Below.drew ?_ | refine Below.alloc ?_ (by simp; try omega) _ | refine Below.setCell ?_ (by simp; try omega) _)
  case rest =>
    obtain ⟨ba, bo, rfl, rfl, HA0, HB0, HC0, hbb0⟩ := hcut
    clear c0 c1 c2 c3 c4 d0 d1 d2 d3 d4 L5 e51 e52 e53 i0 i1 j0 j1
    by_cases p1 : a.limit = 5
    · have q1 : (a.limit == 5) = true := by simp [p1]
      by_cases p2 : b.limit = 5
      · have q2 : (b.limit == 5) = true := by simp [p2]
        by_cases p3 : a.n = b.n
        · have q3 : (a.n == b.n) = true := by simp [p3]
          have H : Hid (true = pairB values all a b i j) := by show _ = _; unfold pairB; rw [if_pos ⟨p1, p2, p3⟩]
          clear p1 p2 p3
          obtain ⟨la0, a0, a1, a2, a3, a4⟩ := id HA0
          obtain ⟨lb0, b0, b1, b2, b3, b4⟩ := id HB0
          obtain ⟨lc0, g0, g1, g2, g3⟩ := id HC0
          go_wp2
          go_ret
          exact ⟨ret_bool H.out, hbb0⟩
        · have q3 : (a.n == b.n) = false := by simpa using p3
          have hP : ¬ (a.limit = 5 ∧ b.limit = 5 ∧ a.n = b.n) := fun h => p3 h.2.2
          obtain ⟨la0, a0, a1, a2, a3, a4⟩ := id HA0
          obtain ⟨lb0, b0, b1, b2, b3, b4⟩ := id HB0
          obtain ⟨lc0, g0, g1, g2, g3⟩ := id HC0
          cases hm : meetB a.kind a.value a.late b.kind b.value b.late
          · have H : Hid (false = pairB values all a b i j) := by show _ = _; unfold pairB; rw [if_neg hP, if_pos (Or.inl hm)]
            clear p1 p2 p3 hP
            go_wp2_with fail
            refine (meet_is a b false hm _).mono ?_
            rintro e w1 ⟨rfl, hb1⟩
            go_wp2
            go_ret
            exact ⟨ret_bool H.out, hbb0.trans (hb1.mono hbb0.size)⟩
          · cases hra : reusesB a.limit a.n j
            · cases hrb : reusesB b.limit b.n i
              · cases hfa : fixedOf values all a with
                | none =>
                  have H : Hid (false = pairB values all a b i j) := by show _ = _; unfold pairB; rw [if_neg hP, if_neg (by simp [hm, hra, hrb])]; simp [hfa]
                  clear p1 p2 p3 hP
                  cases hfb : fixedOf values all b with
                  | none =>
                    go_wp2_with fail
                    refine (meet_is a b true hm _).mono ?_
                    rintro e w1 ⟨rfl, hb1⟩
                    have HA1 := HA0.below hb1 HA0.1
                    have HB1 := HB0.below hb1 HB0.1
                    have HC1 := HC0.below hb1 HC0.1
                    have hz1 := hb1.size
                    have hbb1 : Below w.heap.size w w1 := hbb0.trans (hb1.mono hbb0.size)
                    clear a0 a1 a2 a3 a4 b0 b1 b2 b3 b4 g0 g1 g2 g3 hb1
                    obtain ⟨la1, a0, a1, a2, a3, a4⟩ := id HA1
                    obtain ⟨lb1, b0, b1, b2, b3, b4⟩ := id HB1
                    obtain ⟨lc1, g0, g1, g2, g3⟩ := id HC1
                    go_wp2_with fail
                    refine (reuses_is a j false hra _).mono ?_
                    rintro e w2 ⟨rfl, hb2⟩
                    have HA2 := HA1.below hb2 HA1.1
                    have HB2 := HB1.below hb2 HB1.1
                    have HC2 := HC1.below hb2 HC1.1
                    have hz2 := hb2.size
                    have hbb2 : Below w.heap.size w w2 := hbb1.trans (hb2.mono hbb1.size)
                    clear a0 a1 a2 a3 a4 b0 b1 b2 b3 b4 g0 g1 g2 g3 hb2
                    obtain ⟨la2, a0, a1, a2, a3, a4⟩ := id HA2
                    obtain ⟨lb2, b0, b1, b2, b3, b4⟩ := id HB2
                    obtain ⟨lc2, g0, g1, g2, g3⟩ := id HC2
                    go_wp2_with fail
                    refine (reuses_is b i false hrb _).mono ?_
                    rintro e w3 ⟨rfl, hb3⟩
                    have HA3 := HA2.below hb3 HA2.1
                    have HB3 := HB2.below hb3 HB2.1
                    have HC3 := HC2.below hb3 HC2.1
                    have hz3 := hb3.size
                    have hbb3 : Below w.heap.size w w3 := hbb2.trans (hb3.mono hbb2.size)
                    clear a0 a1 a2 a3 a4 b0 b1 b2 b3 b4 g0 g1 g2 g3 hb3
                    obtain ⟨la3, a0, a1, a2, a3, a4⟩ := id HA3
                    obtain ⟨lb3, b0, b1, b2, b3, b4⟩ := id HB3
                    obtain ⟨lc3, g0, g1, g2, g3⟩ := id HC3
                    have hv3 := hv.below hbb3 fun _ _ h => h
                    have ha3 := ha.below hbb3 fun _ _ h => h
                    go_wp2_with fail
                    refine (fixed_is values _ _ _ _ _ a all _ _ _ none hfa rfl hv3 ha3 hNa hVa).mono ?_
                    rintro e w4 ⟨rfl, hb4⟩
                    have HA4 := HA3.below hb4 HA3.1
                    have HB4 := HB3.below hb4 HB3.1
                    have HC4 := HC3.below hb4 HC3.1
                    have hz4 := hb4.size
                    have hbb4 : Below w.heap.size w w4 := hbb3.trans (hb4.mono hbb3.size)
                    clear a0 a1 a2 a3 a4 b0 b1 b2 b3 b4 g0 g1 g2 g3 hb4
                    obtain ⟨la4, a0, a1, a2, a3, a4⟩ := id HA4
                    obtain ⟨lb4, b0, b1, b2, b3, b4⟩ := id HB4
                    obtain ⟨lc4, g0, g1, g2, g3⟩ := id HC4
                    have hv4 := hv.below hbb4 fun _ _ h => h
                    have ha4 := ha.below hbb4 fun _ _ h => h
                    have hba : Below w4.heap.size w4 (w4.alloc (.cells #[.int .i64 0, .int .i64 0] 97)) := (Below.refl _ _).alloc (Nat.le_refl _) _
                    have hv5 := hv4.below hba fun _ _ h => h
                    have ha5 := ha4.below hba fun _ _ h => h
                    have La := old_cell ba
                    have Lb := old_cell bo
                    have Lc := old_cell w.heap.size
                    go_wp2_with fail
                    refine (fixed_is values _ _ _ _ _ b all _ _ _ none hfb rfl hv5 ha5 hNb hVb).mono ?_
                    rintro e w5 ⟨rfl, hb5x⟩
                    have hbb5 : Below w.heap.size w w5 := (hbb4.alloc hbb4.size _).trans (hb5x.mono (by have := hbb4.size; simp; omega))
                    have r0 : w5.cell? ⟨w4.heap.size, 0, none⟩ = some (.int .i64 0) := by rw [hb5x.cell (by simp)]; simp
                    have r1 : w5.cell? ⟨w4.heap.size, 1, none⟩ = some (.int .i64 0) := by rw [hb5x.cell (by simp)]; simp
                    have hz5 := hb5x.size
                    simp at hz5
                    have Lr := old_cell w4.heap.size
                    have hlt5 : w4.heap.size < w5.heap.size := by omega
                    have eqr := eqReg
                    have eqg := eqRegG
                    clear hb5x
                    go_wp2
                    go_ret
                    exact ⟨ret_bool H.out, hbb5.alloc hbb5.size _⟩
                  | some s =>
                    obtain ⟨sc, sn⟩ := s
                    go_wp2_with fail
                    refine (meet_is a b true hm _).mono ?_
                    rintro e w1 ⟨rfl, hb1⟩
                    have HA1 := HA0.below hb1 HA0.1
                    have HB1 := HB0.below hb1 HB0.1
                    have HC1 := HC0.below hb1 HC0.1
                    have hz1 := hb1.size
                    have hbb1 : Below w.heap.size w w1 := hbb0.trans (hb1.mono hbb0.size)
                    clear a0 a1 a2 a3 a4 b0 b1 b2 b3 b4 g0 g1 g2 g3 hb1
                    obtain ⟨la1, a0, a1, a2, a3, a4⟩ := id HA1
                    obtain ⟨lb1, b0, b1, b2, b3, b4⟩ := id HB1
                    obtain ⟨lc1, g0, g1, g2, g3⟩ := id HC1
                    go_wp2_with fail
                    refine (reuses_is a j false hra _).mono ?_
                    rintro e w2 ⟨rfl, hb2⟩
                    have HA2 := HA1.below hb2 HA1.1
                    have HB2 := HB1.below hb2 HB1.1
                    have HC2 := HC1.below hb2 HC1.1
                    have hz2 := hb2.size
                    have hbb2 : Below w.heap.size w w2 := hbb1.trans (hb2.mono hbb1.size)
                    clear a0 a1 a2 a3 a4 b0 b1 b2 b3 b4 g0 g1 g2 g3 hb2
                    obtain ⟨la2, a0, a1, a2, a3, a4⟩ := id HA2
                    obtain ⟨lb2, b0, b1, b2, b3, b4⟩ := id HB2
                    obtain ⟨lc2, g0, g1, g2, g3⟩ := id HC2
                    go_wp2_with fail
                    refine (reuses_is b i false hrb _).mono ?_
                    rintro e w3 ⟨rfl, hb3⟩
                    have HA3 := HA2.below hb3 HA2.1
                    have HB3 := HB2.below hb3 HB2.1
                    have HC3 := HC2.below hb3 HC2.1
                    have hz3 := hb3.size
                    have hbb3 : Below w.heap.size w w3 := hbb2.trans (hb3.mono hbb2.size)
                    clear a0 a1 a2 a3 a4 b0 b1 b2 b3 b4 g0 g1 g2 g3 hb3
                    obtain ⟨la3, a0, a1, a2, a3, a4⟩ := id HA3
                    obtain ⟨lb3, b0, b1, b2, b3, b4⟩ := id HB3
                    obtain ⟨lc3, g0, g1, g2, g3⟩ := id HC3
                    have hv3 := hv.below hbb3 fun _ _ h => h
                    have ha3 := ha.below hbb3 fun _ _ h => h
                    go_wp2_with fail
                    refine (fixed_is values _ _ _ _ _ a all _ _ _ none hfa rfl hv3 ha3 hNa hVa).mono ?_
                    rintro e w4 ⟨rfl, hb4⟩
                    have HA4 := HA3.below hb4 HA3.1
                    have HB4 := HB3.below hb4 HB3.1
                    have HC4 := HC3.below hb4 HC3.1
                    have hz4 := hb4.size
                    have hbb4 : Below w.heap.size w w4 := hbb3.trans (hb4.mono hbb3.size)
                    clear a0 a1 a2 a3 a4 b0 b1 b2 b3 b4 g0 g1 g2 g3 hb4
                    obtain ⟨la4, a0, a1, a2, a3, a4⟩ := id HA4
                    obtain ⟨lb4, b0, b1, b2, b3, b4⟩ := id HB4
                    obtain ⟨lc4, g0, g1, g2, g3⟩ := id HC4
                    have hv4 := hv.below hbb4 fun _ _ h => h
                    have ha4 := ha.below hbb4 fun _ _ h => h
                    have hba : Below w4.heap.size w4 (w4.alloc (.cells #[.int .i64 0, .int .i64 0] 97)) := (Below.refl _ _).alloc (Nat.le_refl _) _
                    have hv5 := hv4.below hba fun _ _ h => h
                    have ha5 := ha4.below hba fun _ _ h => h
                    have La := old_cell ba
                    have Lb := old_cell bo
                    have Lc := old_cell w.heap.size
                    go_wp2_with fail
                    refine (fixed_is values _ _ _ _ _ b all _ _ _ (some (sc, sn)) hfb rfl hv5 ha5 hNb hVb).mono ?_
                    rintro e w5 ⟨rfl, hb5x⟩
                    have hbb5 : Below w.heap.size w w5 := (hbb4.alloc hbb4.size _).trans (hb5x.mono (by have := hbb4.size; simp; omega))
                    have r0 : w5.cell? ⟨w4.heap.size, 0, none⟩ = some (.int .i64 0) := by rw [hb5x.cell (by simp)]; simp
                    have r1 : w5.cell? ⟨w4.heap.size, 1, none⟩ = some (.int .i64 0) := by rw [hb5x.cell (by simp)]; simp
                    have hz5 := hb5x.size
                    simp at hz5
                    have Lr := old_cell w4.heap.size
                    have hlt5 : w4.heap.size < w5.heap.size := by omega
                    have eqr := eqReg
                    have eqg := eqRegG
                    clear hb5x
                    go_wp2
                    go_ret
                    exact ⟨ret_bool H.out, hbb5.alloc hbb5.size _⟩
                | some r =>
                  obtain ⟨rc, rn⟩ := r
                  cases hfb : fixedOf values all b with
                  | none =>
                    have H : Hid (false = pairB values all a b i j) := by show _ = _; unfold pairB; rw [if_neg hP, if_neg (by simp [hm, hra, hrb])]; simp [hfb]
                    clear p1 p2 p3 hP
                    go_wp2_with fail
                    refine (meet_is a b true hm _).mono ?_
                    rintro e w1 ⟨rfl, hb1⟩
                    have HA1 := HA0.below hb1 HA0.1
                    have HB1 := HB0.below hb1 HB0.1
                    have HC1 := HC0.below hb1 HC0.1
                    have hz1 := hb1.size
                    have hbb1 : Below w.heap.size w w1 := hbb0.trans (hb1.mono hbb0.size)
                    clear a0 a1 a2 a3 a4 b0 b1 b2 b3 b4 g0 g1 g2 g3 hb1
                    obtain ⟨la1, a0, a1, a2, a3, a4⟩ := id HA1
                    obtain ⟨lb1, b0, b1, b2, b3, b4⟩ := id HB1
                    obtain ⟨lc1, g0, g1, g2, g3⟩ := id HC1
                    go_wp2_with fail
                    refine (reuses_is a j false hra _).mono ?_
                    rintro e w2 ⟨rfl, hb2⟩
                    have HA2 := HA1.below hb2 HA1.1
                    have HB2 := HB1.below hb2 HB1.1
                    have HC2 := HC1.below hb2 HC1.1
                    have hz2 := hb2.size
                    have hbb2 : Below w.heap.size w w2 := hbb1.trans (hb2.mono hbb1.size)
                    clear a0 a1 a2 a3 a4 b0 b1 b2 b3 b4 g0 g1 g2 g3 hb2
                    obtain ⟨la2, a0, a1, a2, a3, a4⟩ := id HA2
                    obtain ⟨lb2, b0, b1, b2, b3, b4⟩ := id HB2
                    obtain ⟨lc2, g0, g1, g2, g3⟩ := id HC2
                    go_wp2_with fail
                    refine (reuses_is b i false hrb _).mono ?_
                    rintro e w3 ⟨rfl, hb3⟩
                    have HA3 := HA2.below hb3 HA2.1
                    have HB3 := HB2.below hb3 HB2.1
                    have HC3 := HC2.below hb3 HC2.1
                    have hz3 := hb3.size
                    have hbb3 : Below w.heap.size w w3 := hbb2.trans (hb3.mono hbb2.size)
                    clear a0 a1 a2 a3 a4 b0 b1 b2 b3 b4 g0 g1 g2 g3 hb3
                    obtain ⟨la3, a0, a1, a2, a3, a4⟩ := id HA3
                    obtain ⟨lb3, b0, b1, b2, b3, b4⟩ := id HB3
                    obtain ⟨lc3, g0, g1, g2, g3⟩ := id HC3
                    have hv3 := hv.below hbb3 fun _ _ h => h
                    have ha3 := ha.below hbb3 fun _ _ h => h
                    go_wp2_with fail
                    refine (fixed_is values _ _ _ _ _ a all _ _ _ (some (rc, rn)) hfa rfl hv3 ha3 hNa hVa).mono ?_
                    rintro e w4 ⟨rfl, hb4⟩
                    have HA4 := HA3.below hb4 HA3.1
                    have HB4 := HB3.below hb4 HB3.1
                    have HC4 := HC3.below hb4 HC3.1
                    have hz4 := hb4.size
                    have hbb4 : Below w.heap.size w w4 := hbb3.trans (hb4.mono hbb3.size)
                    clear a0 a1 a2 a3 a4 b0 b1 b2 b3 b4 g0 g1 g2 g3 hb4
                    obtain ⟨la4, a0, a1, a2, a3, a4⟩ := id HA4
                    obtain ⟨lb4, b0, b1, b2, b3, b4⟩ := id HB4
                    obtain ⟨lc4, g0, g1, g2, g3⟩ := id HC4
                    have hv4 := hv.below hbb4 fun _ _ h => h
                    have ha4 := ha.below hbb4 fun _ _ h => h
                    have hba : Below w4.heap.size w4 (w4.alloc (.cells #[.int .i64 rc, .int .i64 rn] 97)) := (Below.refl _ _).alloc (Nat.le_refl _) _
                    have hv5 := hv4.below hba fun _ _ h => h
                    have ha5 := ha4.below hba fun _ _ h => h
                    have La := old_cell ba
                    have Lb := old_cell bo
                    have Lc := old_cell w.heap.size
                    go_wp2_with fail
                    refine (fixed_is values _ _ _ _ _ b all _ _ _ none hfb rfl hv5 ha5 hNb hVb).mono ?_
                    rintro e w5 ⟨rfl, hb5x⟩
                    have hbb5 : Below w.heap.size w w5 := (hbb4.alloc hbb4.size _).trans (hb5x.mono (by have := hbb4.size; simp; omega))
                    have r0 : w5.cell? ⟨w4.heap.size, 0, none⟩ = some (.int .i64 rc) := by rw [hb5x.cell (by simp)]; simp
                    have r1 : w5.cell? ⟨w4.heap.size, 1, none⟩ = some (.int .i64 rn) := by rw [hb5x.cell (by simp)]; simp
                    have hz5 := hb5x.size
                    simp at hz5
                    have Lr := old_cell w4.heap.size
                    have hlt5 : w4.heap.size < w5.heap.size := by omega
                    have eqr := eqReg
                    have eqg := eqRegG
                    clear hb5x
                    go_wp2
                    go_ret
                    exact ⟨ret_bool H.out, hbb5.alloc hbb5.size _⟩
                  | some s =>
                    obtain ⟨sc, sn⟩ := s
                    have H : Hid ((rc == sc && rn == sn) = pairB values all a b i j) := by
                      show _ = _
                      unfold pairB
                      rw [if_neg hP, if_neg (by simp [hm, hra, hrb])]
                      simp only [hfa, hfb]
                      rw [Bool.eq_iff_iff]
                      simp
                    clear p1 p2 p3 hP
                    go_wp2_with fail
                    refine (meet_is a b true hm _).mono ?_
                    rintro e w1 ⟨rfl, hb1⟩
                    have HA1 := HA0.below hb1 HA0.1
                    have HB1 := HB0.below hb1 HB0.1
                    have HC1 := HC0.below hb1 HC0.1
                    have hz1 := hb1.size
                    have hbb1 : Below w.heap.size w w1 := hbb0.trans (hb1.mono hbb0.size)
                    clear a0 a1 a2 a3 a4 b0 b1 b2 b3 b4 g0 g1 g2 g3 hb1
                    obtain ⟨la1, a0, a1, a2, a3, a4⟩ := id HA1
                    obtain ⟨lb1, b0, b1, b2, b3, b4⟩ := id HB1
                    obtain ⟨lc1, g0, g1, g2, g3⟩ := id HC1
                    go_wp2_with fail
                    refine (reuses_is a j false hra _).mono ?_
                    rintro e w2 ⟨rfl, hb2⟩
                    have HA2 := HA1.below hb2 HA1.1
                    have HB2 := HB1.below hb2 HB1.1
                    have HC2 := HC1.below hb2 HC1.1
                    have hz2 := hb2.size
                    have hbb2 : Below w.heap.size w w2 := hbb1.trans (hb2.mono hbb1.size)
                    clear a0 a1 a2 a3 a4 b0 b1 b2 b3 b4 g0 g1 g2 g3 hb2
                    obtain ⟨la2, a0, a1, a2, a3, a4⟩ := id HA2
                    obtain ⟨lb2, b0, b1, b2, b3, b4⟩ := id HB2
                    obtain ⟨lc2, g0, g1, g2, g3⟩ := id HC2
                    go_wp2_with fail
                    refine (reuses_is b i false hrb _).mono ?_
                    rintro e w3 ⟨rfl, hb3⟩
                    have HA3 := HA2.below hb3 HA2.1
                    have HB3 := HB2.below hb3 HB2.1
                    have HC3 := HC2.below hb3 HC2.1
                    have hz3 := hb3.size
                    have hbb3 : Below w.heap.size w w3 := hbb2.trans (hb3.mono hbb2.size)
                    clear a0 a1 a2 a3 a4 b0 b1 b2 b3 b4 g0 g1 g2 g3 hb3
                    obtain ⟨la3, a0, a1, a2, a3, a4⟩ := id HA3
                    obtain ⟨lb3, b0, b1, b2, b3, b4⟩ := id HB3
                    obtain ⟨lc3, g0, g1, g2, g3⟩ := id HC3
                    have hv3 := hv.below hbb3 fun _ _ h => h
                    have ha3 := ha.below hbb3 fun _ _ h => h
                    go_wp2_with fail
                    refine (fixed_is values _ _ _ _ _ a all _ _ _ (some (rc, rn)) hfa rfl hv3 ha3 hNa hVa).mono ?_
                    rintro e w4 ⟨rfl, hb4⟩
                    have HA4 := HA3.below hb4 HA3.1
                    have HB4 := HB3.below hb4 HB3.1
                    have HC4 := HC3.below hb4 HC3.1
                    have hz4 := hb4.size
                    have hbb4 : Below w.heap.size w w4 := hbb3.trans (hb4.mono hbb3.size)
                    clear a0 a1 a2 a3 a4 b0 b1 b2 b3 b4 g0 g1 g2 g3 hb4
                    obtain ⟨la4, a0, a1, a2, a3, a4⟩ := id HA4
                    obtain ⟨lb4, b0, b1, b2, b3, b4⟩ := id HB4
                    obtain ⟨lc4, g0, g1, g2, g3⟩ := id HC4
                    have hv4 := hv.below hbb4 fun _ _ h => h
                    have ha4 := ha.below hbb4 fun _ _ h => h
                    have hba : Below w4.heap.size w4 (w4.alloc (.cells #[.int .i64 rc, .int .i64 rn] 97)) := (Below.refl _ _).alloc (Nat.le_refl _) _
                    have hv5 := hv4.below hba fun _ _ h => h
                    have ha5 := ha4.below hba fun _ _ h => h
                    have La := old_cell ba
                    have Lb := old_cell bo
                    have Lc := old_cell w.heap.size
                    go_wp2_with fail
                    refine (fixed_is values _ _ _ _ _ b all _ _ _ (some (sc, sn)) hfb rfl hv5 ha5 hNb hVb).mono ?_
                    rintro e w5 ⟨rfl, hb5x⟩
                    have hbb5 : Below w.heap.size w w5 := (hbb4.alloc hbb4.size _).trans (hb5x.mono (by have := hbb4.size; simp; omega))
                    have r0 : w5.cell? ⟨w4.heap.size, 0, none⟩ = some (.int .i64 rc) := by rw [hb5x.cell (by simp)]; simp
                    have r1 : w5.cell? ⟨w4.heap.size, 1, none⟩ = some (.int .i64 rn) := by rw [hb5x.cell (by simp)]; simp
                    have hz5 := hb5x.size
                    simp at hz5
                    have Lr := old_cell w4.heap.size
                    have hlt5 : w4.heap.size < w5.heap.size := by omega
                    have eqr := eqReg
                    have eqg := eqRegG
                    clear hb5x
                    go_wp2
                    go_ret
                    exact ⟨ret_bool H.out, hbb5.alloc hbb5.size _⟩
              · have H : Hid (false = pairB values all a b i j) := by show _ = _; unfold pairB; rw [if_neg hP, if_pos (Or.inr (Or.inr hrb))]
                clear p1 p2 p3 hP
                go_wp2_with fail
                refine (meet_is a b true hm _).mono ?_
                rintro e w1 ⟨rfl, hb1⟩
                have HA1 := HA0.below hb1 HA0.1
                have HB1 := HB0.below hb1 HB0.1
                have HC1 := HC0.below hb1 HC0.1
                have hz1 := hb1.size
                have hbb1 : Below w.heap.size w w1 := hbb0.trans (hb1.mono hbb0.size)
                clear a0 a1 a2 a3 a4 b0 b1 b2 b3 b4 g0 g1 g2 g3 hb1
                obtain ⟨la1, a0, a1, a2, a3, a4⟩ := id HA1
                obtain ⟨lb1, b0, b1, b2, b3, b4⟩ := id HB1
                obtain ⟨lc1, g0, g1, g2, g3⟩ := id HC1
                go_wp2_with fail
                refine (reuses_is a j false hra _).mono ?_
                rintro e w2 ⟨rfl, hb2⟩
                have HA2 := HA1.below hb2 HA1.1
                have HB2 := HB1.below hb2 HB1.1
                have HC2 := HC1.below hb2 HC1.1
                have hz2 := hb2.size
                have hbb2 : Below w.heap.size w w2 := hbb1.trans (hb2.mono hbb1.size)
                clear a0 a1 a2 a3 a4 b0 b1 b2 b3 b4 g0 g1 g2 g3 hb2
                obtain ⟨la2, a0, a1, a2, a3, a4⟩ := id HA2
                obtain ⟨lb2, b0, b1, b2, b3, b4⟩ := id HB2
                obtain ⟨lc2, g0, g1, g2, g3⟩ := id HC2
                go_wp2_with fail
                refine (reuses_is b i true hrb _).mono ?_
                rintro e w3 ⟨rfl, hb3⟩
                go_wp2
                go_ret
                exact ⟨ret_bool H.out, hbb2.trans (hb3.mono hbb2.size)⟩
            · have H : Hid (false = pairB values all a b i j) := by show _ = _; unfold pairB; rw [if_neg hP, if_pos (Or.inr (Or.inl hra))]
              clear p1 p2 p3 hP
              go_wp2_with fail
              refine (meet_is a b true hm _).mono ?_
              rintro e w1 ⟨rfl, hb1⟩
              have HA1 := HA0.below hb1 HA0.1
              have HB1 := HB0.below hb1 HB0.1
              have HC1 := HC0.below hb1 HC0.1
              have hz1 := hb1.size
              have hbb1 : Below w.heap.size w w1 := hbb0.trans (hb1.mono hbb0.size)
              clear a0 a1 a2 a3 a4 b0 b1 b2 b3 b4 g0 g1 g2 g3 hb1
              obtain ⟨la1, a0, a1, a2, a3, a4⟩ := id HA1
              obtain ⟨lb1, b0, b1, b2, b3, b4⟩ := id HB1
              obtain ⟨lc1, g0, g1, g2, g3⟩ := id HC1
              go_wp2_with fail
              refine (reuses_is a j true hra _).mono ?_
              rintro e w2 ⟨rfl, hb2⟩
              go_wp2
              go_ret
              exact ⟨ret_bool H.out, hbb1.trans (hb2.mono hbb1.size)⟩
      · have q2 : (b.limit == 5) = false := by simpa using p2
        have hP : ¬ (a.limit = 5 ∧ b.limit = 5 ∧ a.n = b.n) := fun h => p2 h.2.1
        obtain ⟨la0, a0, a1, a2, a3, a4⟩ := id HA0
        obtain ⟨lb0, b0, b1, b2, b3, b4⟩ := id HB0
        obtain ⟨lc0, g0, g1, g2, g3⟩ := id HC0
        cases hm : meetB a.kind a.value a.late b.kind b.value b.late
        · have H : Hid (false = pairB values all a b i j) := by show _ = _; unfold pairB; rw [if_neg hP, if_pos (Or.inl hm)]
          clear p1 p2 hP
          go_wp2_with fail
          refine (meet_is a b false hm _).mono ?_
          rintro e w1 ⟨rfl, hb1⟩
          go_wp2
          go_ret
          exact ⟨ret_bool H.out, hbb0.trans (hb1.mono hbb0.size)⟩
        · cases hra : reusesB a.limit a.n j
          · cases hrb : reusesB b.limit b.n i
            · cases hfa : fixedOf values all a with
              | none =>
                have H : Hid (false = pairB values all a b i j) := by show _ = _; unfold pairB; rw [if_neg hP, if_neg (by simp [hm, hra, hrb])]; simp [hfa]
                clear p1 p2 hP
                cases hfb : fixedOf values all b with
                | none =>
                  go_wp2_with fail
                  refine (meet_is a b true hm _).mono ?_
                  rintro e w1 ⟨rfl, hb1⟩
                  have HA1 := HA0.below hb1 HA0.1
                  have HB1 := HB0.below hb1 HB0.1
                  have HC1 := HC0.below hb1 HC0.1
                  have hz1 := hb1.size
                  have hbb1 : Below w.heap.size w w1 := hbb0.trans (hb1.mono hbb0.size)
                  clear a0 a1 a2 a3 a4 b0 b1 b2 b3 b4 g0 g1 g2 g3 hb1
                  obtain ⟨la1, a0, a1, a2, a3, a4⟩ := id HA1
                  obtain ⟨lb1, b0, b1, b2, b3, b4⟩ := id HB1
                  obtain ⟨lc1, g0, g1, g2, g3⟩ := id HC1
                  go_wp2_with fail
                  refine (reuses_is a j false hra _).mono ?_
                  rintro e w2 ⟨rfl, hb2⟩
                  have HA2 := HA1.below hb2 HA1.1
                  have HB2 := HB1.below hb2 HB1.1
                  have HC2 := HC1.below hb2 HC1.1
                  have hz2 := hb2.size
                  have hbb2 : Below w.heap.size w w2 := hbb1.trans (hb2.mono hbb1.size)
                  clear a0 a1 a2 a3 a4 b0 b1 b2 b3 b4 g0 g1 g2 g3 hb2
                  obtain ⟨la2, a0, a1, a2, a3, a4⟩ := id HA2
                  obtain ⟨lb2, b0, b1, b2, b3, b4⟩ := id HB2
                  obtain ⟨lc2, g0, g1, g2, g3⟩ := id HC2
                  go_wp2_with fail
                  refine (reuses_is b i false hrb _).mono ?_
                  rintro e w3 ⟨rfl, hb3⟩
                  have HA3 := HA2.below hb3 HA2.1
                  have HB3 := HB2.below hb3 HB2.1
                  have HC3 := HC2.below hb3 HC2.1
                  have hz3 := hb3.size
                  have hbb3 : Below w.heap.size w w3 := hbb2.trans (hb3.mono hbb2.size)
                  clear a0 a1 a2 a3 a4 b0 b1 b2 b3 b4 g0 g1 g2 g3 hb3
                  obtain ⟨la3, a0, a1, a2, a3, a4⟩ := id HA3
                  obtain ⟨lb3, b0, b1, b2, b3, b4⟩ := id HB3
                  obtain ⟨lc3, g0, g1, g2, g3⟩ := id HC3
                  have hv3 := hv.below hbb3 fun _ _ h => h
                  have ha3 := ha.below hbb3 fun _ _ h => h
                  go_wp2_with fail
                  refine (fixed_is values _ _ _ _ _ a all _ _ _ none hfa rfl hv3 ha3 hNa hVa).mono ?_
                  rintro e w4 ⟨rfl, hb4⟩
                  have HA4 := HA3.below hb4 HA3.1
                  have HB4 := HB3.below hb4 HB3.1
                  have HC4 := HC3.below hb4 HC3.1
                  have hz4 := hb4.size
                  have hbb4 : Below w.heap.size w w4 := hbb3.trans (hb4.mono hbb3.size)
                  clear a0 a1 a2 a3 a4 b0 b1 b2 b3 b4 g0 g1 g2 g3 hb4
                  obtain ⟨la4, a0, a1, a2, a3, a4⟩ := id HA4
                  obtain ⟨lb4, b0, b1, b2, b3, b4⟩ := id HB4
                  obtain ⟨lc4, g0, g1, g2, g3⟩ := id HC4
                  have hv4 := hv.below hbb4 fun _ _ h => h
                  have ha4 := ha.below hbb4 fun _ _ h => h
                  have hba : Below w4.heap.size w4 (w4.alloc (.cells #[.int .i64 0, .int .i64 0] 97)) := (Below.refl _ _).alloc (Nat.le_refl _) _
                  have hv5 := hv4.below hba fun _ _ h => h
                  have ha5 := ha4.below hba fun _ _ h => h
                  have La := old_cell ba
                  have Lb := old_cell bo
                  have Lc := old_cell w.heap.size
                  go_wp2_with fail
                  refine (fixed_is values _ _ _ _ _ b all _ _ _ none hfb rfl hv5 ha5 hNb hVb).mono ?_
                  rintro e w5 ⟨rfl, hb5x⟩
                  have hbb5 : Below w.heap.size w w5 := (hbb4.alloc hbb4.size _).trans (hb5x.mono (by have := hbb4.size; simp; omega))
                  have r0 : w5.cell? ⟨w4.heap.size, 0, none⟩ = some (.int .i64 0) := by rw [hb5x.cell (by simp)]; simp
                  have r1 : w5.cell? ⟨w4.heap.size, 1, none⟩ = some (.int .i64 0) := by rw [hb5x.cell (by simp)]; simp
                  have hz5 := hb5x.size
                  simp at hz5
                  have Lr := old_cell w4.heap.size
                  have hlt5 : w4.heap.size < w5.heap.size := by omega
                  have eqr := eqReg
                  have eqg := eqRegG
                  clear hb5x
                  go_wp2
                  go_ret
                  exact ⟨ret_bool H.out, hbb5.alloc hbb5.size _⟩
                | some s =>
                  obtain ⟨sc, sn⟩ := s
                  go_wp2_with fail
                  refine (meet_is a b true hm _).mono ?_
                  rintro e w1 ⟨rfl, hb1⟩
                  have HA1 := HA0.below hb1 HA0.1
                  have HB1 := HB0.below hb1 HB0.1
                  have HC1 := HC0.below hb1 HC0.1
                  have hz1 := hb1.size
                  have hbb1 : Below w.heap.size w w1 := hbb0.trans (hb1.mono hbb0.size)
                  clear a0 a1 a2 a3 a4 b0 b1 b2 b3 b4 g0 g1 g2 g3 hb1
                  obtain ⟨la1, a0, a1, a2, a3, a4⟩ := id HA1
                  obtain ⟨lb1, b0, b1, b2, b3, b4⟩ := id HB1
                  obtain ⟨lc1, g0, g1, g2, g3⟩ := id HC1
                  go_wp2_with fail
                  refine (reuses_is a j false hra _).mono ?_
                  rintro e w2 ⟨rfl, hb2⟩
                  have HA2 := HA1.below hb2 HA1.1
                  have HB2 := HB1.below hb2 HB1.1
                  have HC2 := HC1.below hb2 HC1.1
                  have hz2 := hb2.size
                  have hbb2 : Below w.heap.size w w2 := hbb1.trans (hb2.mono hbb1.size)
                  clear a0 a1 a2 a3 a4 b0 b1 b2 b3 b4 g0 g1 g2 g3 hb2
                  obtain ⟨la2, a0, a1, a2, a3, a4⟩ := id HA2
                  obtain ⟨lb2, b0, b1, b2, b3, b4⟩ := id HB2
                  obtain ⟨lc2, g0, g1, g2, g3⟩ := id HC2
                  go_wp2_with fail
                  refine (reuses_is b i false hrb _).mono ?_
                  rintro e w3 ⟨rfl, hb3⟩
                  have HA3 := HA2.below hb3 HA2.1
                  have HB3 := HB2.below hb3 HB2.1
                  have HC3 := HC2.below hb3 HC2.1
                  have hz3 := hb3.size
                  have hbb3 : Below w.heap.size w w3 := hbb2.trans (hb3.mono hbb2.size)
                  clear a0 a1 a2 a3 a4 b0 b1 b2 b3 b4 g0 g1 g2 g3 hb3
                  obtain ⟨la3, a0, a1, a2, a3, a4⟩ := id HA3
                  obtain ⟨lb3, b0, b1, b2, b3, b4⟩ := id HB3
                  obtain ⟨lc3, g0, g1, g2, g3⟩ := id HC3
                  have hv3 := hv.below hbb3 fun _ _ h => h
                  have ha3 := ha.below hbb3 fun _ _ h => h
                  go_wp2_with fail
                  refine (fixed_is values _ _ _ _ _ a all _ _ _ none hfa rfl hv3 ha3 hNa hVa).mono ?_
                  rintro e w4 ⟨rfl, hb4⟩
                  have HA4 := HA3.below hb4 HA3.1
                  have HB4 := HB3.below hb4 HB3.1
                  have HC4 := HC3.below hb4 HC3.1
                  have hz4 := hb4.size
                  have hbb4 : Below w.heap.size w w4 := hbb3.trans (hb4.mono hbb3.size)
                  clear a0 a1 a2 a3 a4 b0 b1 b2 b3 b4 g0 g1 g2 g3 hb4
                  obtain ⟨la4, a0, a1, a2, a3, a4⟩ := id HA4
                  obtain ⟨lb4, b0, b1, b2, b3, b4⟩ := id HB4
                  obtain ⟨lc4, g0, g1, g2, g3⟩ := id HC4
                  have hv4 := hv.below hbb4 fun _ _ h => h
                  have ha4 := ha.below hbb4 fun _ _ h => h
                  have hba : Below w4.heap.size w4 (w4.alloc (.cells #[.int .i64 0, .int .i64 0] 97)) := (Below.refl _ _).alloc (Nat.le_refl _) _
                  have hv5 := hv4.below hba fun _ _ h => h
                  have ha5 := ha4.below hba fun _ _ h => h
                  have La := old_cell ba
                  have Lb := old_cell bo
                  have Lc := old_cell w.heap.size
                  go_wp2_with fail
                  refine (fixed_is values _ _ _ _ _ b all _ _ _ (some (sc, sn)) hfb rfl hv5 ha5 hNb hVb).mono ?_
                  rintro e w5 ⟨rfl, hb5x⟩
                  have hbb5 : Below w.heap.size w w5 := (hbb4.alloc hbb4.size _).trans (hb5x.mono (by have := hbb4.size; simp; omega))
                  have r0 : w5.cell? ⟨w4.heap.size, 0, none⟩ = some (.int .i64 0) := by rw [hb5x.cell (by simp)]; simp
                  have r1 : w5.cell? ⟨w4.heap.size, 1, none⟩ = some (.int .i64 0) := by rw [hb5x.cell (by simp)]; simp
                  have hz5 := hb5x.size
                  simp at hz5
                  have Lr := old_cell w4.heap.size
                  have hlt5 : w4.heap.size < w5.heap.size := by omega
                  have eqr := eqReg
                  have eqg := eqRegG
                  clear hb5x
                  go_wp2
                  go_ret
                  exact ⟨ret_bool H.out, hbb5.alloc hbb5.size _⟩
              | some r =>
                obtain ⟨rc, rn⟩ := r
                cases hfb : fixedOf values all b with
                | none =>
                  have H : Hid (false = pairB values all a b i j) := by show _ = _; unfold pairB; rw [if_neg hP, if_neg (by simp [hm, hra, hrb])]; simp [hfb]
                  clear p1 p2 hP
                  go_wp2_with fail
                  refine (meet_is a b true hm _).mono ?_
                  rintro e w1 ⟨rfl, hb1⟩
                  have HA1 := HA0.below hb1 HA0.1
                  have HB1 := HB0.below hb1 HB0.1
                  have HC1 := HC0.below hb1 HC0.1
                  have hz1 := hb1.size
                  have hbb1 : Below w.heap.size w w1 := hbb0.trans (hb1.mono hbb0.size)
                  clear a0 a1 a2 a3 a4 b0 b1 b2 b3 b4 g0 g1 g2 g3 hb1
                  obtain ⟨la1, a0, a1, a2, a3, a4⟩ := id HA1
                  obtain ⟨lb1, b0, b1, b2, b3, b4⟩ := id HB1
                  obtain ⟨lc1, g0, g1, g2, g3⟩ := id HC1
                  go_wp2_with fail
                  refine (reuses_is a j false hra _).mono ?_
                  rintro e w2 ⟨rfl, hb2⟩
                  have HA2 := HA1.below hb2 HA1.1
                  have HB2 := HB1.below hb2 HB1.1
                  have HC2 := HC1.below hb2 HC1.1
                  have hz2 := hb2.size
                  have hbb2 : Below w.heap.size w w2 := hbb1.trans (hb2.mono hbb1.size)
                  clear a0 a1 a2 a3 a4 b0 b1 b2 b3 b4 g0 g1 g2 g3 hb2
                  obtain ⟨la2, a0, a1, a2, a3, a4⟩ := id HA2
                  obtain ⟨lb2, b0, b1, b2, b3, b4⟩ := id HB2
                  obtain ⟨lc2, g0, g1, g2, g3⟩ := id HC2
                  go_wp2_with fail
                  refine (reuses_is b i false hrb _).mono ?_
                  rintro e w3 ⟨rfl, hb3⟩
                  have HA3 := HA2.below hb3 HA2.1
                  have HB3 := HB2.below hb3 HB2.1
                  have HC3 := HC2.below hb3 HC2.1
                  have hz3 := hb3.size
                  have hbb3 : Below w.heap.size w w3 := hbb2.trans (hb3.mono hbb2.size)
                  clear a0 a1 a2 a3 a4 b0 b1 b2 b3 b4 g0 g1 g2 g3 hb3
                  obtain ⟨la3, a0, a1, a2, a3, a4⟩ := id HA3
                  obtain ⟨lb3, b0, b1, b2, b3, b4⟩ := id HB3
                  obtain ⟨lc3, g0, g1, g2, g3⟩ := id HC3
                  have hv3 := hv.below hbb3 fun _ _ h => h
                  have ha3 := ha.below hbb3 fun _ _ h => h
                  go_wp2_with fail
                  refine (fixed_is values _ _ _ _ _ a all _ _ _ (some (rc, rn)) hfa rfl hv3 ha3 hNa hVa).mono ?_
                  rintro e w4 ⟨rfl, hb4⟩
                  have HA4 := HA3.below hb4 HA3.1
                  have HB4 := HB3.below hb4 HB3.1
                  have HC4 := HC3.below hb4 HC3.1
                  have hz4 := hb4.size
                  have hbb4 : Below w.heap.size w w4 := hbb3.trans (hb4.mono hbb3.size)
                  clear a0 a1 a2 a3 a4 b0 b1 b2 b3 b4 g0 g1 g2 g3 hb4
                  obtain ⟨la4, a0, a1, a2, a3, a4⟩ := id HA4
                  obtain ⟨lb4, b0, b1, b2, b3, b4⟩ := id HB4
                  obtain ⟨lc4, g0, g1, g2, g3⟩ := id HC4
                  have hv4 := hv.below hbb4 fun _ _ h => h
                  have ha4 := ha.below hbb4 fun _ _ h => h
                  have hba : Below w4.heap.size w4 (w4.alloc (.cells #[.int .i64 rc, .int .i64 rn] 97)) := (Below.refl _ _).alloc (Nat.le_refl _) _
                  have hv5 := hv4.below hba fun _ _ h => h
                  have ha5 := ha4.below hba fun _ _ h => h
                  have La := old_cell ba
                  have Lb := old_cell bo
                  have Lc := old_cell w.heap.size
                  go_wp2_with fail
                  refine (fixed_is values _ _ _ _ _ b all _ _ _ none hfb rfl hv5 ha5 hNb hVb).mono ?_
                  rintro e w5 ⟨rfl, hb5x⟩
                  have hbb5 : Below w.heap.size w w5 := (hbb4.alloc hbb4.size _).trans (hb5x.mono (by have := hbb4.size; simp; omega))
                  have r0 : w5.cell? ⟨w4.heap.size, 0, none⟩ = some (.int .i64 rc) := by rw [hb5x.cell (by simp)]; simp
                  have r1 : w5.cell? ⟨w4.heap.size, 1, none⟩ = some (.int .i64 rn) := by rw [hb5x.cell (by simp)]; simp
                  have hz5 := hb5x.size
                  simp at hz5
                  have Lr := old_cell w4.heap.size
                  have hlt5 : w4.heap.size < w5.heap.size := by omega
                  have eqr := eqReg
                  have eqg := eqRegG
                  clear hb5x
                  go_wp2
                  go_ret
                  exact ⟨ret_bool H.out, hbb5.alloc hbb5.size _⟩
                | some s =>
                  obtain ⟨sc, sn⟩ := s
                  have H : Hid ((rc == sc && rn == sn) = pairB values all a b i j) := by
                    show _ = _
                    unfold pairB
                    rw [if_neg hP, if_neg (by simp [hm, hra, hrb])]
                    simp only [hfa, hfb]
                    rw [Bool.eq_iff_iff]
                    simp
                  clear p1 p2 hP
                  go_wp2_with fail
                  refine (meet_is a b true hm _).mono ?_
                  rintro e w1 ⟨rfl, hb1⟩
                  have HA1 := HA0.below hb1 HA0.1
                  have HB1 := HB0.below hb1 HB0.1
                  have HC1 := HC0.below hb1 HC0.1
                  have hz1 := hb1.size
                  have hbb1 : Below w.heap.size w w1 := hbb0.trans (hb1.mono hbb0.size)
                  clear a0 a1 a2 a3 a4 b0 b1 b2 b3 b4 g0 g1 g2 g3 hb1
                  obtain ⟨la1, a0, a1, a2, a3, a4⟩ := id HA1
                  obtain ⟨lb1, b0, b1, b2, b3, b4⟩ := id HB1
                  obtain ⟨lc1, g0, g1, g2, g3⟩ := id HC1
                  go_wp2_with fail
                  refine (reuses_is a j false hra _).mono ?_
                  rintro e w2 ⟨rfl, hb2⟩
                  have HA2 := HA1.below hb2 HA1.1
                  have HB2 := HB1.below hb2 HB1.1
                  have HC2 := HC1.below hb2 HC1.1
                  have hz2 := hb2.size
                  have hbb2 : Below w.heap.size w w2 := hbb1.trans (hb2.mono hbb1.size)
                  clear a0 a1 a2 a3 a4 b0 b1 b2 b3 b4 g0 g1 g2 g3 hb2
                  obtain ⟨la2, a0, a1, a2, a3, a4⟩ := id HA2
                  obtain ⟨lb2, b0, b1, b2, b3, b4⟩ := id HB2
                  obtain ⟨lc2, g0, g1, g2, g3⟩ := id HC2
                  go_wp2_with fail
                  refine (reuses_is b i false hrb _).mono ?_
                  rintro e w3 ⟨rfl, hb3⟩
                  have HA3 := HA2.below hb3 HA2.1
                  have HB3 := HB2.below hb3 HB2.1
                  have HC3 := HC2.below hb3 HC2.1
                  have hz3 := hb3.size
                  have hbb3 : Below w.heap.size w w3 := hbb2.trans (hb3.mono hbb2.size)
                  clear a0 a1 a2 a3 a4 b0 b1 b2 b3 b4 g0 g1 g2 g3 hb3
                  obtain ⟨la3, a0, a1, a2, a3, a4⟩ := id HA3
                  obtain ⟨lb3, b0, b1, b2, b3, b4⟩ := id HB3
                  obtain ⟨lc3, g0, g1, g2, g3⟩ := id HC3
                  have hv3 := hv.below hbb3 fun _ _ h => h
                  have ha3 := ha.below hbb3 fun _ _ h => h
                  go_wp2_with fail
                  refine (fixed_is values _ _ _ _ _ a all _ _ _ (some (rc, rn)) hfa rfl hv3 ha3 hNa hVa).mono ?_
                  rintro e w4 ⟨rfl, hb4⟩
                  have HA4 := HA3.below hb4 HA3.1
                  have HB4 := HB3.below hb4 HB3.1
                  have HC4 := HC3.below hb4 HC3.1
                  have hz4 := hb4.size
                  have hbb4 : Below w.heap.size w w4 := hbb3.trans (hb4.mono hbb3.size)
                  clear a0 a1 a2 a3 a4 b0 b1 b2 b3 b4 g0 g1 g2 g3 hb4
                  obtain ⟨la4, a0, a1, a2, a3, a4⟩ := id HA4
                  obtain ⟨lb4, b0, b1, b2, b3, b4⟩ := id HB4
                  obtain ⟨lc4, g0, g1, g2, g3⟩ := id HC4
                  have hv4 := hv.below hbb4 fun _ _ h => h
                  have ha4 := ha.below hbb4 fun _ _ h => h
                  have hba : Below w4.heap.size w4 (w4.alloc (.cells #[.int .i64 rc, .int .i64 rn] 97)) := (Below.refl _ _).alloc (Nat.le_refl _) _
                  have hv5 := hv4.below hba fun _ _ h => h
                  have ha5 := ha4.below hba fun _ _ h => h
                  have La := old_cell ba
                  have Lb := old_cell bo
                  have Lc := old_cell w.heap.size
                  go_wp2_with fail
                  refine (fixed_is values _ _ _ _ _ b all _ _ _ (some (sc, sn)) hfb rfl hv5 ha5 hNb hVb).mono ?_
                  rintro e w5 ⟨rfl, hb5x⟩
                  have hbb5 : Below w.heap.size w w5 := (hbb4.alloc hbb4.size _).trans (hb5x.mono (by have := hbb4.size; simp; omega))
                  have r0 : w5.cell? ⟨w4.heap.size, 0, none⟩ = some (.int .i64 rc) := by rw [hb5x.cell (by simp)]; simp
                  have r1 : w5.cell? ⟨w4.heap.size, 1, none⟩ = some (.int .i64 rn) := by rw [hb5x.cell (by simp)]; simp
                  have hz5 := hb5x.size
                  simp at hz5
                  have Lr := old_cell w4.heap.size
                  have hlt5 : w4.heap.size < w5.heap.size := by omega
                  have eqr := eqReg
                  have eqg := eqRegG
                  clear hb5x
                  go_wp2
                  go_ret
                  exact ⟨ret_bool H.out, hbb5.alloc hbb5.size _⟩
            · have H : Hid (false = pairB values all a b i j) := by show _ = _; unfold pairB; rw [if_neg hP, if_pos (Or.inr (Or.inr hrb))]
              clear p1 p2 hP
              go_wp2_with fail
              refine (meet_is a b true hm _).mono ?_
              rintro e w1 ⟨rfl, hb1⟩
              have HA1 := HA0.below hb1 HA0.1
              have HB1 := HB0.below hb1 HB0.1
              have HC1 := HC0.below hb1 HC0.1
              have hz1 := hb1.size
              have hbb1 : Below w.heap.size w w1 := hbb0.trans (hb1.mono hbb0.size)
              clear a0 a1 a2 a3 a4 b0 b1 b2 b3 b4 g0 g1 g2 g3 hb1
              obtain ⟨la1, a0, a1, a2, a3, a4⟩ := id HA1
              obtain ⟨lb1, b0, b1, b2, b3, b4⟩ := id HB1
              obtain ⟨lc1, g0, g1, g2, g3⟩ := id HC1
              go_wp2_with fail
              refine (reuses_is a j false hra _).mono ?_
              rintro e w2 ⟨rfl, hb2⟩
              have HA2 := HA1.below hb2 HA1.1
              have HB2 := HB1.below hb2 HB1.1
              have HC2 := HC1.below hb2 HC1.1
              have hz2 := hb2.size
              have hbb2 : Below w.heap.size w w2 := hbb1.trans (hb2.mono hbb1.size)
              clear a0 a1 a2 a3 a4 b0 b1 b2 b3 b4 g0 g1 g2 g3 hb2
              obtain ⟨la2, a0, a1, a2, a3, a4⟩ := id HA2
              obtain ⟨lb2, b0, b1, b2, b3, b4⟩ := id HB2
              obtain ⟨lc2, g0, g1, g2, g3⟩ := id HC2
              go_wp2_with fail
              refine (reuses_is b i true hrb _).mono ?_
              rintro e w3 ⟨rfl, hb3⟩
              go_wp2
              go_ret
              exact ⟨ret_bool H.out, hbb2.trans (hb3.mono hbb2.size)⟩
          · have H : Hid (false = pairB values all a b i j) := by show _ = _; unfold pairB; rw [if_neg hP, if_pos (Or.inr (Or.inl hra))]
            clear p1 p2 hP
            go_wp2_with fail
            refine (meet_is a b true hm _).mono ?_
            rintro e w1 ⟨rfl, hb1⟩
            have HA1 := HA0.below hb1 HA0.1
            have HB1 := HB0.below hb1 HB0.1
            have HC1 := HC0.below hb1 HC0.1
            have hz1 := hb1.size
            have hbb1 : Below w.heap.size w w1 := hbb0.trans (hb1.mono hbb0.size)
            clear a0 a1 a2 a3 a4 b0 b1 b2 b3 b4 g0 g1 g2 g3 hb1
            obtain ⟨la1, a0, a1, a2, a3, a4⟩ := id HA1
            obtain ⟨lb1, b0, b1, b2, b3, b4⟩ := id HB1
            obtain ⟨lc1, g0, g1, g2, g3⟩ := id HC1
            go_wp2_with fail
            refine (reuses_is a j true hra _).mono ?_
            rintro e w2 ⟨rfl, hb2⟩
            go_wp2
            go_ret
            exact ⟨ret_bool H.out, hbb1.trans (hb2.mono hbb1.size)⟩
    · have q1 : (a.limit == 5) = false := by simpa using p1
      have hP : ¬ (a.limit = 5 ∧ b.limit = 5 ∧ a.n = b.n) := fun h => p1 h.1
      obtain ⟨la0, a0, a1, a2, a3, a4⟩ := id HA0
      obtain ⟨lb0, b0, b1, b2, b3, b4⟩ := id HB0
      obtain ⟨lc0, g0, g1, g2, g3⟩ := id HC0
      cases hm : meetB a.kind a.value a.late b.kind b.value b.late
      · have H : Hid (false = pairB values all a b i j) := by show _ = _; unfold pairB; rw [if_neg hP, if_pos (Or.inl hm)]
        clear p1 hP
        go_wp2_with fail
        refine (meet_is a b false hm _).mono ?_
        rintro e w1 ⟨rfl, hb1⟩
        go_wp2
        go_ret
        exact ⟨ret_bool H.out, hbb0.trans (hb1.mono hbb0.size)⟩
      · cases hra : reusesB a.limit a.n j
        · cases hrb : reusesB b.limit b.n i
          · cases hfa : fixedOf values all a with
            | none =>
              have H : Hid (false = pairB values all a b i j) := by show _ = _; unfold pairB; rw [if_neg hP, if_neg (by simp [hm, hra, hrb])]; simp [hfa]
              clear p1 hP
              cases hfb : fixedOf values all b with
              | none =>
                go_wp2_with fail
                refine (meet_is a b true hm _).mono ?_
                rintro e w1 ⟨rfl, hb1⟩
                have HA1 := HA0.below hb1 HA0.1
                have HB1 := HB0.below hb1 HB0.1
                have HC1 := HC0.below hb1 HC0.1
                have hz1 := hb1.size
                have hbb1 : Below w.heap.size w w1 := hbb0.trans (hb1.mono hbb0.size)
                clear a0 a1 a2 a3 a4 b0 b1 b2 b3 b4 g0 g1 g2 g3 hb1
                obtain ⟨la1, a0, a1, a2, a3, a4⟩ := id HA1
                obtain ⟨lb1, b0, b1, b2, b3, b4⟩ := id HB1
                obtain ⟨lc1, g0, g1, g2, g3⟩ := id HC1
                go_wp2_with fail
                refine (reuses_is a j false hra _).mono ?_
                rintro e w2 ⟨rfl, hb2⟩
                have HA2 := HA1.below hb2 HA1.1
                have HB2 := HB1.below hb2 HB1.1
                have HC2 := HC1.below hb2 HC1.1
                have hz2 := hb2.size
                have hbb2 : Below w.heap.size w w2 := hbb1.trans (hb2.mono hbb1.size)
                clear a0 a1 a2 a3 a4 b0 b1 b2 b3 b4 g0 g1 g2 g3 hb2
                obtain ⟨la2, a0, a1, a2, a3, a4⟩ := id HA2
                obtain ⟨lb2, b0, b1, b2, b3, b4⟩ := id HB2
                obtain ⟨lc2, g0, g1, g2, g3⟩ := id HC2
                go_wp2_with fail
                refine (reuses_is b i false hrb _).mono ?_
                rintro e w3 ⟨rfl, hb3⟩
                have HA3 := HA2.below hb3 HA2.1
                have HB3 := HB2.below hb3 HB2.1
                have HC3 := HC2.below hb3 HC2.1
                have hz3 := hb3.size
                have hbb3 : Below w.heap.size w w3 := hbb2.trans (hb3.mono hbb2.size)
                clear a0 a1 a2 a3 a4 b0 b1 b2 b3 b4 g0 g1 g2 g3 hb3
                obtain ⟨la3, a0, a1, a2, a3, a4⟩ := id HA3
                obtain ⟨lb3, b0, b1, b2, b3, b4⟩ := id HB3
                obtain ⟨lc3, g0, g1, g2, g3⟩ := id HC3
                have hv3 := hv.below hbb3 fun _ _ h => h
                have ha3 := ha.below hbb3 fun _ _ h => h
                go_wp2_with fail
                refine (fixed_is values _ _ _ _ _ a all _ _ _ none hfa rfl hv3 ha3 hNa hVa).mono ?_
                rintro e w4 ⟨rfl, hb4⟩
                have HA4 := HA3.below hb4 HA3.1
                have HB4 := HB3.below hb4 HB3.1
                have HC4 := HC3.below hb4 HC3.1
                have hz4 := hb4.size
                have hbb4 : Below w.heap.size w w4 := hbb3.trans (hb4.mono hbb3.size)
                clear a0 a1 a2 a3 a4 b0 b1 b2 b3 b4 g0 g1 g2 g3 hb4
                obtain ⟨la4, a0, a1, a2, a3, a4⟩ := id HA4
                obtain ⟨lb4, b0, b1, b2, b3, b4⟩ := id HB4
                obtain ⟨lc4, g0, g1, g2, g3⟩ := id HC4
                have hv4 := hv.below hbb4 fun _ _ h => h
                have ha4 := ha.below hbb4 fun _ _ h => h
                have hba : Below w4.heap.size w4 (w4.alloc (.cells #[.int .i64 0, .int .i64 0] 97)) := (Below.refl _ _).alloc (Nat.le_refl _) _
                have hv5 := hv4.below hba fun _ _ h => h
                have ha5 := ha4.below hba fun _ _ h => h
                have La := old_cell ba
                have Lb := old_cell bo
                have Lc := old_cell w.heap.size
                go_wp2_with fail
                refine (fixed_is values _ _ _ _ _ b all _ _ _ none hfb rfl hv5 ha5 hNb hVb).mono ?_
                rintro e w5 ⟨rfl, hb5x⟩
                have hbb5 : Below w.heap.size w w5 := (hbb4.alloc hbb4.size _).trans (hb5x.mono (by have := hbb4.size; simp; omega))
                have r0 : w5.cell? ⟨w4.heap.size, 0, none⟩ = some (.int .i64 0) := by rw [hb5x.cell (by simp)]; simp
                have r1 : w5.cell? ⟨w4.heap.size, 1, none⟩ = some (.int .i64 0) := by rw [hb5x.cell (by simp)]; simp
                have hz5 := hb5x.size
                simp at hz5
                have Lr := old_cell w4.heap.size
                have hlt5 : w4.heap.size < w5.heap.size := by omega
                have eqr := eqReg
                have eqg := eqRegG
                clear hb5x
                go_wp2
                go_ret
                exact ⟨ret_bool H.out, hbb5.alloc hbb5.size _⟩
              | some s =>
                obtain ⟨sc, sn⟩ := s
                go_wp2_with fail
                refine (meet_is a b true hm _).mono ?_
                rintro e w1 ⟨rfl, hb1⟩
                have HA1 := HA0.below hb1 HA0.1
                have HB1 := HB0.below hb1 HB0.1
                have HC1 := HC0.below hb1 HC0.1
                have hz1 := hb1.size
                have hbb1 : Below w.heap.size w w1 := hbb0.trans (hb1.mono hbb0.size)
                clear a0 a1 a2 a3 a4 b0 b1 b2 b3 b4 g0 g1 g2 g3 hb1
                obtain ⟨la1, a0, a1, a2, a3, a4⟩ := id HA1
                obtain ⟨lb1, b0, b1, b2, b3, b4⟩ := id HB1
                obtain ⟨lc1, g0, g1, g2, g3⟩ := id HC1
                go_wp2_with fail
                refine (reuses_is a j false hra _).mono ?_
                rintro e w2 ⟨rfl, hb2⟩
                have HA2 := HA1.below hb2 HA1.1
                have HB2 := HB1.below hb2 HB1.1
                have HC2 := HC1.below hb2 HC1.1
                have hz2 := hb2.size
                have hbb2 : Below w.heap.size w w2 := hbb1.trans (hb2.mono hbb1.size)
                clear a0 a1 a2 a3 a4 b0 b1 b2 b3 b4 g0 g1 g2 g3 hb2
                obtain ⟨la2, a0, a1, a2, a3, a4⟩ := id HA2
                obtain ⟨lb2, b0, b1, b2, b3, b4⟩ := id HB2
                obtain ⟨lc2, g0, g1, g2, g3⟩ := id HC2
                go_wp2_with fail
                refine (reuses_is b i false hrb _).mono ?_
                rintro e w3 ⟨rfl, hb3⟩
                have HA3 := HA2.below hb3 HA2.1
                have HB3 := HB2.below hb3 HB2.1
                have HC3 := HC2.below hb3 HC2.1
                have hz3 := hb3.size
                have hbb3 : Below w.heap.size w w3 := hbb2.trans (hb3.mono hbb2.size)
                clear a0 a1 a2 a3 a4 b0 b1 b2 b3 b4 g0 g1 g2 g3 hb3
                obtain ⟨la3, a0, a1, a2, a3, a4⟩ := id HA3
                obtain ⟨lb3, b0, b1, b2, b3, b4⟩ := id HB3
                obtain ⟨lc3, g0, g1, g2, g3⟩ := id HC3
                have hv3 := hv.below hbb3 fun _ _ h => h
                have ha3 := ha.below hbb3 fun _ _ h => h
                go_wp2_with fail
                refine (fixed_is values _ _ _ _ _ a all _ _ _ none hfa rfl hv3 ha3 hNa hVa).mono ?_
                rintro e w4 ⟨rfl, hb4⟩
                have HA4 := HA3.below hb4 HA3.1
                have HB4 := HB3.below hb4 HB3.1
                have HC4 := HC3.below hb4 HC3.1
                have hz4 := hb4.size
                have hbb4 : Below w.heap.size w w4 := hbb3.trans (hb4.mono hbb3.size)
                clear a0 a1 a2 a3 a4 b0 b1 b2 b3 b4 g0 g1 g2 g3 hb4
                obtain ⟨la4, a0, a1, a2, a3, a4⟩ := id HA4
                obtain ⟨lb4, b0, b1, b2, b3, b4⟩ := id HB4
                obtain ⟨lc4, g0, g1, g2, g3⟩ := id HC4
                have hv4 := hv.below hbb4 fun _ _ h => h
                have ha4 := ha.below hbb4 fun _ _ h => h
                have hba : Below w4.heap.size w4 (w4.alloc (.cells #[.int .i64 0, .int .i64 0] 97)) := (Below.refl _ _).alloc (Nat.le_refl _) _
                have hv5 := hv4.below hba fun _ _ h => h
                have ha5 := ha4.below hba fun _ _ h => h
                have La := old_cell ba
                have Lb := old_cell bo
                have Lc := old_cell w.heap.size
                go_wp2_with fail
                refine (fixed_is values _ _ _ _ _ b all _ _ _ (some (sc, sn)) hfb rfl hv5 ha5 hNb hVb).mono ?_
                rintro e w5 ⟨rfl, hb5x⟩
                have hbb5 : Below w.heap.size w w5 := (hbb4.alloc hbb4.size _).trans (hb5x.mono (by have := hbb4.size; simp; omega))
                have r0 : w5.cell? ⟨w4.heap.size, 0, none⟩ = some (.int .i64 0) := by rw [hb5x.cell (by simp)]; simp
                have r1 : w5.cell? ⟨w4.heap.size, 1, none⟩ = some (.int .i64 0) := by rw [hb5x.cell (by simp)]; simp
                have hz5 := hb5x.size
                simp at hz5
                have Lr := old_cell w4.heap.size
                have hlt5 : w4.heap.size < w5.heap.size := by omega
                have eqr := eqReg
                have eqg := eqRegG
                clear hb5x
                go_wp2
                go_ret
                exact ⟨ret_bool H.out, hbb5.alloc hbb5.size _⟩
            | some r =>
              obtain ⟨rc, rn⟩ := r
              cases hfb : fixedOf values all b with
              | none =>
                have H : Hid (false = pairB values all a b i j) := by show _ = _; unfold pairB; rw [if_neg hP, if_neg (by simp [hm, hra, hrb])]; simp [hfb]
                clear p1 hP
                go_wp2_with fail
                refine (meet_is a b true hm _).mono ?_
                rintro e w1 ⟨rfl, hb1⟩
                have HA1 := HA0.below hb1 HA0.1
                have HB1 := HB0.below hb1 HB0.1
                have HC1 := HC0.below hb1 HC0.1
                have hz1 := hb1.size
                have hbb1 : Below w.heap.size w w1 := hbb0.trans (hb1.mono hbb0.size)
                clear a0 a1 a2 a3 a4 b0 b1 b2 b3 b4 g0 g1 g2 g3 hb1
                obtain ⟨la1, a0, a1, a2, a3, a4⟩ := id HA1
                obtain ⟨lb1, b0, b1, b2, b3, b4⟩ := id HB1
                obtain ⟨lc1, g0, g1, g2, g3⟩ := id HC1
                go_wp2_with fail
                refine (reuses_is a j false hra _).mono ?_
                rintro e w2 ⟨rfl, hb2⟩
                have HA2 := HA1.below hb2 HA1.1
                have HB2 := HB1.below hb2 HB1.1
                have HC2 := HC1.below hb2 HC1.1
                have hz2 := hb2.size
                have hbb2 : Below w.heap.size w w2 := hbb1.trans (hb2.mono hbb1.size)
                clear a0 a1 a2 a3 a4 b0 b1 b2 b3 b4 g0 g1 g2 g3 hb2
                obtain ⟨la2, a0, a1, a2, a3, a4⟩ := id HA2
                obtain ⟨lb2, b0, b1, b2, b3, b4⟩ := id HB2
                obtain ⟨lc2, g0, g1, g2, g3⟩ := id HC2
                go_wp2_with fail
                refine (reuses_is b i false hrb _).mono ?_
                rintro e w3 ⟨rfl, hb3⟩
                have HA3 := HA2.below hb3 HA2.1
                have HB3 := HB2.below hb3 HB2.1
                have HC3 := HC2.below hb3 HC2.1
                have hz3 := hb3.size
                have hbb3 : Below w.heap.size w w3 := hbb2.trans (hb3.mono hbb2.size)
                clear a0 a1 a2 a3 a4 b0 b1 b2 b3 b4 g0 g1 g2 g3 hb3
                obtain ⟨la3, a0, a1, a2, a3, a4⟩ := id HA3
                obtain ⟨lb3, b0, b1, b2, b3, b4⟩ := id HB3
                obtain ⟨lc3, g0, g1, g2, g3⟩ := id HC3
                have hv3 := hv.below hbb3 fun _ _ h => h
                have ha3 := ha.below hbb3 fun _ _ h => h
                go_wp2_with fail
                refine (fixed_is values _ _ _ _ _ a all _ _ _ (some (rc, rn)) hfa rfl hv3 ha3 hNa hVa).mono ?_
                rintro e w4 ⟨rfl, hb4⟩
                have HA4 := HA3.below hb4 HA3.1
                have HB4 := HB3.below hb4 HB3.1
                have HC4 := HC3.below hb4 HC3.1
                have hz4 := hb4.size
                have hbb4 : Below w.heap.size w w4 := hbb3.trans (hb4.mono hbb3.size)
                clear a0 a1 a2 a3 a4 b0 b1 b2 b3 b4 g0 g1 g2 g3 hb4
                obtain ⟨la4, a0, a1, a2, a3, a4⟩ := id HA4
                obtain ⟨lb4, b0, b1, b2, b3, b4⟩ := id HB4
                obtain ⟨lc4, g0, g1, g2, g3⟩ := id HC4
                have hv4 := hv.below hbb4 fun _ _ h => h
                have ha4 := ha.below hbb4 fun _ _ h => h
                have hba : Below w4.heap.size w4 (w4.alloc (.cells #[.int .i64 rc, .int .i64 rn] 97)) := (Below.refl _ _).alloc (Nat.le_refl _) _
                have hv5 := hv4.below hba fun _ _ h => h
                have ha5 := ha4.below hba fun _ _ h => h
                have La := old_cell ba
                have Lb := old_cell bo
                have Lc := old_cell w.heap.size
                go_wp2_with fail
                refine (fixed_is values _ _ _ _ _ b all _ _ _ none hfb rfl hv5 ha5 hNb hVb).mono ?_
                rintro e w5 ⟨rfl, hb5x⟩
                have hbb5 : Below w.heap.size w w5 := (hbb4.alloc hbb4.size _).trans (hb5x.mono (by have := hbb4.size; simp; omega))
                have r0 : w5.cell? ⟨w4.heap.size, 0, none⟩ = some (.int .i64 rc) := by rw [hb5x.cell (by simp)]; simp
                have r1 : w5.cell? ⟨w4.heap.size, 1, none⟩ = some (.int .i64 rn) := by rw [hb5x.cell (by simp)]; simp
                have hz5 := hb5x.size
                simp at hz5
                have Lr := old_cell w4.heap.size
                have hlt5 : w4.heap.size < w5.heap.size := by omega
                have eqr := eqReg
                have eqg := eqRegG
                clear hb5x
                go_wp2
                go_ret
                exact ⟨ret_bool H.out, hbb5.alloc hbb5.size _⟩
              | some s =>
                obtain ⟨sc, sn⟩ := s
                have H : Hid ((rc == sc && rn == sn) = pairB values all a b i j) := by
                  show _ = _
                  unfold pairB
                  rw [if_neg hP, if_neg (by simp [hm, hra, hrb])]
                  simp only [hfa, hfb]
                  rw [Bool.eq_iff_iff]
                  simp
                clear p1 hP
                go_wp2_with fail
                refine (meet_is a b true hm _).mono ?_
                rintro e w1 ⟨rfl, hb1⟩
                have HA1 := HA0.below hb1 HA0.1
                have HB1 := HB0.below hb1 HB0.1
                have HC1 := HC0.below hb1 HC0.1
                have hz1 := hb1.size
                have hbb1 : Below w.heap.size w w1 := hbb0.trans (hb1.mono hbb0.size)
                clear a0 a1 a2 a3 a4 b0 b1 b2 b3 b4 g0 g1 g2 g3 hb1
                obtain ⟨la1, a0, a1, a2, a3, a4⟩ := id HA1
                obtain ⟨lb1, b0, b1, b2, b3, b4⟩ := id HB1
                obtain ⟨lc1, g0, g1, g2, g3⟩ := id HC1
                go_wp2_with fail
                refine (reuses_is a j false hra _).mono ?_
                rintro e w2 ⟨rfl, hb2⟩
                have HA2 := HA1.below hb2 HA1.1
                have HB2 := HB1.below hb2 HB1.1
                have HC2 := HC1.below hb2 HC1.1
                have hz2 := hb2.size
                have hbb2 : Below w.heap.size w w2 := hbb1.trans (hb2.mono hbb1.size)
                clear a0 a1 a2 a3 a4 b0 b1 b2 b3 b4 g0 g1 g2 g3 hb2
                obtain ⟨la2, a0, a1, a2, a3, a4⟩ := id HA2
                obtain ⟨lb2, b0, b1, b2, b3, b4⟩ := id HB2
                obtain ⟨lc2, g0, g1, g2, g3⟩ := id HC2
                go_wp2_with fail
                refine (reuses_is b i false hrb _).mono ?_
                rintro e w3 ⟨rfl, hb3⟩
                have HA3 := HA2.below hb3 HA2.1
                have HB3 := HB2.below hb3 HB2.1
                have HC3 := HC2.below hb3 HC2.1
                have hz3 := hb3.size
                have hbb3 : Below w.heap.size w w3 := hbb2.trans (hb3.mono hbb2.size)
                clear a0 a1 a2 a3 a4 b0 b1 b2 b3 b4 g0 g1 g2 g3 hb3
                obtain ⟨la3, a0, a1, a2, a3, a4⟩ := id HA3
                obtain ⟨lb3, b0, b1, b2, b3, b4⟩ := id HB3
                obtain ⟨lc3, g0, g1, g2, g3⟩ := id HC3
                have hv3 := hv.below hbb3 fun _ _ h => h
                have ha3 := ha.below hbb3 fun _ _ h => h
                go_wp2_with fail
                refine (fixed_is values _ _ _ _ _ a all _ _ _ (some (rc, rn)) hfa rfl hv3 ha3 hNa hVa).mono ?_
                rintro e w4 ⟨rfl, hb4⟩
                have HA4 := HA3.below hb4 HA3.1
                have HB4 := HB3.below hb4 HB3.1
                have HC4 := HC3.below hb4 HC3.1
                have hz4 := hb4.size
                have hbb4 : Below w.heap.size w w4 := hbb3.trans (hb4.mono hbb3.size)
                clear a0 a1 a2 a3 a4 b0 b1 b2 b3 b4 g0 g1 g2 g3 hb4
                obtain ⟨la4, a0, a1, a2, a3, a4⟩ := id HA4
                obtain ⟨lb4, b0, b1, b2, b3, b4⟩ := id HB4
                obtain ⟨lc4, g0, g1, g2, g3⟩ := id HC4
                have hv4 := hv.below hbb4 fun _ _ h => h
                have ha4 := ha.below hbb4 fun _ _ h => h
                have hba : Below w4.heap.size w4 (w4.alloc (.cells #[.int .i64 rc, .int .i64 rn] 97)) := (Below.refl _ _).alloc (Nat.le_refl _) _
                have hv5 := hv4.below hba fun _ _ h => h
                have ha5 := ha4.below hba fun _ _ h => h
                have La := old_cell ba
                have Lb := old_cell bo
                have Lc := old_cell w.heap.size
                go_wp2_with fail
                refine (fixed_is values _ _ _ _ _ b all _ _ _ (some (sc, sn)) hfb rfl hv5 ha5 hNb hVb).mono ?_
                rintro e w5 ⟨rfl, hb5x⟩
                have hbb5 : Below w.heap.size w w5 := (hbb4.alloc hbb4.size _).trans (hb5x.mono (by have := hbb4.size; simp; omega))
                have r0 : w5.cell? ⟨w4.heap.size, 0, none⟩ = some (.int .i64 rc) := by rw [hb5x.cell (by simp)]; simp
                have r1 : w5.cell? ⟨w4.heap.size, 1, none⟩ = some (.int .i64 rn) := by rw [hb5x.cell (by simp)]; simp
                have hz5 := hb5x.size
                simp at hz5
                have Lr := old_cell w4.heap.size
                have hlt5 : w4.heap.size < w5.heap.size := by omega
                have eqr := eqReg
                have eqg := eqRegG
                clear hb5x
                go_wp2
                go_ret
                exact ⟨ret_bool H.out, hbb5.alloc hbb5.size _⟩
          · have H : Hid (false = pairB values all a b i j) := by show _ = _; unfold pairB; rw [if_neg hP, if_pos (Or.inr (Or.inr hrb))]
            clear p1 hP
            go_wp2_with fail
            refine (meet_is a b true hm _).mono ?_
            rintro e w1 ⟨rfl, hb1⟩
            have HA1 := HA0.below hb1 HA0.1
            have HB1 := HB0.below hb1 HB0.1
            have HC1 := HC0.below hb1 HC0.1
            have hz1 := hb1.size
            have hbb1 : Below w.heap.size w w1 := hbb0.trans (hb1.mono hbb0.size)
            clear a0 a1 a2 a3 a4 b0 b1 b2 b3 b4 g0 g1 g2 g3 hb1
            obtain ⟨la1, a0, a1, a2, a3, a4⟩ := id HA1
            obtain ⟨lb1, b0, b1, b2, b3, b4⟩ := id HB1
            obtain ⟨lc1, g0, g1, g2, g3⟩ := id HC1
            go_wp2_with fail
            refine (reuses_is a j false hra _).mono ?_
            rintro e w2 ⟨rfl, hb2⟩
            have HA2 := HA1.below hb2 HA1.1
            have HB2 := HB1.below hb2 HB1.1
            have HC2 := HC1.below hb2 HC1.1
            have hz2 := hb2.size
            have hbb2 : Below w.heap.size w w2 := hbb1.trans (hb2.mono hbb1.size)
            clear a0 a1 a2 a3 a4 b0 b1 b2 b3 b4 g0 g1 g2 g3 hb2
            obtain ⟨la2, a0, a1, a2, a3, a4⟩ := id HA2
            obtain ⟨lb2, b0, b1, b2, b3, b4⟩ := id HB2
            obtain ⟨lc2, g0, g1, g2, g3⟩ := id HC2
            go_wp2_with fail
            refine (reuses_is b i true hrb _).mono ?_
            rintro e w3 ⟨rfl, hb3⟩
            go_wp2
            go_ret
            exact ⟨ret_bool H.out, hbb2.trans (hb3.mono hbb2.size)⟩
        · have H : Hid (false = pairB values all a b i j) := by show _ = _; unfold pairB; rw [if_neg hP, if_pos (Or.inr (Or.inl hra))]
          clear p1 hP
          go_wp2_with fail
          refine (meet_is a b true hm _).mono ?_
          rintro e w1 ⟨rfl, hb1⟩
          have HA1 := HA0.below hb1 HA0.1
          have HB1 := HB0.below hb1 HB0.1
          have HC1 := HC0.below hb1 HC0.1
          have hz1 := hb1.size
          have hbb1 : Below w.heap.size w w1 := hbb0.trans (hb1.mono hbb0.size)
          clear a0 a1 a2 a3 a4 b0 b1 b2 b3 b4 g0 g1 g2 g3 hb1
          obtain ⟨la1, a0, a1, a2, a3, a4⟩ := id HA1
          obtain ⟨lb1, b0, b1, b2, b3, b4⟩ := id HB1
          obtain ⟨lc1, g0, g1, g2, g3⟩ := id HC1
          go_wp2_with fail
          refine (reuses_is a j true hra _).mono ?_
          rintro e w2 ⟨rfl, hb2⟩
          go_wp2
          go_ret
          exact ⟨ret_bool H.out, hbb1.trans (hb2.mono hbb1.size)⟩
end Go.Proofs.Ytglfpnnfcpnmoaa
