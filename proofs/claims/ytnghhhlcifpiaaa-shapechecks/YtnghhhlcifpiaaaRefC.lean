/-
  The contract of the reference's 'reuseFault': which error a Reuse has by what it names (P1.4), where all operands' values are there.
-/
import Derived.Test.YtnghhhlcifpiaaaRefB
import Derived.Deep.DeepCutAuto
import Derived.Deep.CutBlock
namespace Go.Proofs.Ytnghhhlcifpiaaa
open Go.RowKit
set_option linter.unusedVariables false

set_option maxHeartbeats 8000000 in
theorem reuseFault_is (values : List Int) (av : Option Addr) (cv : Nat) (vb : Value) (x : Ins) (ao asp : Option Addr) (co csp : Nat) (o : Opr) (r : Int) (hr : reuseErr values o x.operands = r) (w : World) (hv : SlOf w 1 RInt (.slice av values.length cv) values)
    (ho : SlOf w 5 ROpr (.slice ao x.operands.length co) x.operands) (hov : isValueB values.length o.value = true) (hall : ∀ u ∈ x.operands, isValueB values.length u.value = true) (hk12 : ∀ u ∈ x.operands, u.kind = 1 ∨ u.kind = 2) :
    Calls Try.prog 39 #[.agg #[.slice av values.length cv, vb], .agg #[.int .i64 x.op, .slice ao x.operands.length co, .slice asp x.spoils.length csp], .agg #[.int .i64 o.kind, .int .i64 o.value, .bool o.late, .int .i64 o.limit, .int .i64 o.n]] w fun e w' => e = .returned (.int .i64 r) ∧ Below w.heap.size w w' := by
  obtain ⟨_, _, _, lv⟩ := hv.out
  obtain ⟨_, _, _, lo⟩ := ho.out
  unfold longest at lv lo
  obtain ⟨W, hW⟩ : ∃ W, W = ((w.alloc (.cells #[.slice av values.length cv, vb] 31)).alloc (.cells #[.int .i64 x.op, .slice ao x.operands.length co, .slice asp x.spoils.length csp] 46)).alloc (.cells #[.int .i64 o.kind, .int .i64 o.value, .bool o.late, .int .i64 o.limit, .int .i64 o.n] 52) := ⟨_, rfl⟩
  have hbw : Below w.heap.size w W := by rw [hW]; exact (((Below.refl _ _).alloc (Nat.le_refl _) _).alloc (by simp) _).alloc (by simp; omega) _
  have zW : w.heap.size + 1 + 1 < W.heap.size := by rw [hW]; simp
  obtain ⟨t0, t1, t2⟩ := three_at w #[.slice av values.length cv, vb] #[.int .i64 x.op, .slice ao x.operands.length co, .slice asp x.spoils.length csp] #[.int .i64 o.kind, .int .i64 o.value, .bool o.late, .int .i64 o.limit, .int .i64 o.n] 31 46 52
  have f0_0 : W.cell? ⟨w.heap.size, 0, none⟩ = some (.slice av values.length cv) := by rw [hW]; exact t0 0
  have f0_1 : W.cell? ⟨w.heap.size, 1, none⟩ = some (vb) := by rw [hW]; exact t0 1
  have x1_0 : W.cell? ⟨w.heap.size + 1, 0, none⟩ = some (.int .i64 x.op) := by rw [hW]; exact t1 0
  have x1_1 : W.cell? ⟨w.heap.size + 1, 1, none⟩ = some (.slice ao x.operands.length co) := by rw [hW]; exact t1 1
  have x1_2 : W.cell? ⟨w.heap.size + 1, 2, none⟩ = some (.slice asp x.spoils.length csp) := by rw [hW]; exact t1 2
  have o2_0 : W.cell? ⟨w.heap.size + 1 + 1, 0, none⟩ = some (.int .i64 o.kind) := by rw [hW]; exact t2 0
  have o2_1 : W.cell? ⟨w.heap.size + 1 + 1, 1, none⟩ = some (.int .i64 o.value) := by rw [hW]; exact t2 1
  have o2_2 : W.cell? ⟨w.heap.size + 1 + 1, 2, none⟩ = some (.bool o.late) := by rw [hW]; exact t2 2
  have o2_3 : W.cell? ⟨w.heap.size + 1 + 1, 3, none⟩ = some (.int .i64 o.limit) := by rw [hW]; exact t2 3
  have o2_4 : W.cell? ⟨w.heap.size + 1 + 1, 4, none⟩ = some (.int .i64 o.n) := by rw [hW]; exact t2 4
  have HS : Hid (∀ w', Below W.heap.size W w' → (fun w' => w'.cell? ⟨w.heap.size, 0, none⟩ = some (.slice av values.length cv) ∧ w'.cell? ⟨w.heap.size, 1, none⟩ = some (vb) ∧ w'.cell? ⟨w.heap.size + 1, 0, none⟩ = some (.int .i64 x.op) ∧ w'.cell? ⟨w.heap.size + 1, 1, none⟩ = some (.slice ao x.operands.length co) ∧ w'.cell? ⟨w.heap.size + 1, 2, none⟩ = some (.slice asp x.spoils.length csp) ∧ w'.cell? ⟨w.heap.size + 1 + 1, 0, none⟩ = some (.int .i64 o.kind) ∧ w'.cell? ⟨w.heap.size + 1 + 1, 1, none⟩ = some (.int .i64 o.value) ∧ w'.cell? ⟨w.heap.size + 1 + 1, 2, none⟩ = some (.bool o.late) ∧ w'.cell? ⟨w.heap.size + 1 + 1, 3, none⟩ = some (.int .i64 o.limit) ∧ w'.cell? ⟨w.heap.size + 1 + 1, 4, none⟩ = some (.int .i64 o.n) ∧ Below W.heap.size W w') w') := fun w' hh => ⟨(hh.cell (by simp; omega)).trans f0_0, (hh.cell (by simp; omega)).trans f0_1, (hh.cell (by simp; omega)).trans x1_0, (hh.cell (by simp; omega)).trans x1_1, (hh.cell (by simp; omega)).trans x1_2, (hh.cell (by simp; omega)).trans o2_0, (hh.cell (by simp; omega)).trans o2_1, (hh.cell (by simp; omega)).trans o2_2, (hh.cell (by simp; omega)).trans o2_3, (hh.cell (by simp; omega)).trans o2_4, hh⟩
  have HW : Hid (W = ((w.alloc (.cells #[.slice av values.length cv, vb] 31)).alloc (.cells #[.int .i64 x.op, .slice ao x.operands.length co, .slice asp x.spoils.length csp] 46)).alloc (.cells #[.int .i64 o.kind, .int .i64 o.value, .bool o.late, .int .i64 o.limit, .int .i64 o.n] 52)) := hW
  clear hW t0 t1 t2
  unfold reuseErr at hr
  have HALL : Hid (∀ u ∈ x.operands, isValueB values.length u.value = true) := hall
  have HK : Hid (∀ u ∈ x.operands, u.kind = 1 ∨ u.kind = 2) := hk12
  clear hall hk12
  by_cases hb : o.n < 0 ∨ (x.operands.length : Int) ≤ o.n
  · rw [if_pos hb] at hr
    subst hr
    have hi : inB o.n 0 ((x.operands.length : Int) - 1) = false := by simp [inB]; omega
    clear hb
    go_enter Try.func39, Try.ntmps39
    go_upto_region 1 with fail
    rw [← HW.out]
    go_wp2_with fail
    refine (in_is _ _ _ _ hi _).mono ?_
    rintro e W ⟨rfl, rfl⟩
    go_wp2
    go_ret
    exact ⟨rfl, hbw⟩
  rw [if_neg hb] at hr
  have n0 : 0 ≤ o.n := by omega
  have n1 : o.n < (x.operands.length : Int) := by omega
  have hi : inB o.n 0 ((x.operands.length : Int) - 1) = true := by simp [inB]; omega
  have hlt : o.n.toNat < x.operands.length := by omega
  rw [List.getElem?_eq_getElem hlt] at hr
  simp only at hr
  have hu := HALL.out _ (List.getElem_mem hlt)
  have hku := HK.out _ (List.getElem_mem hlt)
  obtain ⟨b5, off5, rfl, hb5, c0, c1, c2, c3, c4⟩ := opr_cells (ho.below hbw fun _ _ h => h) _ hlt
  generalize x.operands[o.n.toNat] = u at *
  obtain ⟨W4, hW4⟩ : ∃ W4, W4 = W.alloc (.cells #[.int .i64 u.kind, .int .i64 u.value, .bool u.late, .int .i64 u.limit, .int .i64 u.n] 52) := ⟨_, rfl⟩
  have hb4 : Below W.heap.size W W4 := by rw [hW4]; exact (Below.refl _ _).alloc (Nat.le_refl _) _
  have z4 : W.heap.size < W4.heap.size := by rw [hW4]; simp
  have t4 := top_at W #[.int .i64 u.kind, .int .i64 u.value, .bool u.late, .int .i64 u.limit, .int .i64 u.n] 52
  have u_0 : W4.cell? ⟨W.heap.size, 0, none⟩ = some (.int .i64 u.kind) := by rw [hW4]; exact t4 0
  have u_1 : W4.cell? ⟨W.heap.size, 1, none⟩ = some (.int .i64 u.value) := by rw [hW4]; exact t4 1
  have u_2 : W4.cell? ⟨W.heap.size, 2, none⟩ = some (.bool u.late) := by rw [hW4]; exact t4 2
  have u_3 : W4.cell? ⟨W.heap.size, 3, none⟩ = some (.int .i64 u.limit) := by rw [hW4]; exact t4 3
  have u_4 : W4.cell? ⟨W.heap.size, 4, none⟩ = some (.int .i64 u.n) := by rw [hW4]; exact t4 4
  obtain ⟨f0_0', f0_1', x1_0', x1_1', x1_2', o2_0', o2_1', o2_2', o2_3', o2_4', _⟩ := HS.out _ hb4
  have HS4 : Hid (∀ w', Below W4.heap.size W4 w' → (fun w' => w'.cell? ⟨w.heap.size, 0, none⟩ = some (.slice av values.length cv) ∧ w'.cell? ⟨w.heap.size, 1, none⟩ = some (vb) ∧ w'.cell? ⟨w.heap.size + 1, 0, none⟩ = some (.int .i64 x.op) ∧ w'.cell? ⟨w.heap.size + 1, 1, none⟩ = some (.slice (some ⟨b5, off5, none⟩) x.operands.length co) ∧ w'.cell? ⟨w.heap.size + 1, 2, none⟩ = some (.slice asp x.spoils.length csp) ∧ w'.cell? ⟨w.heap.size + 1 + 1, 0, none⟩ = some (.int .i64 o.kind) ∧ w'.cell? ⟨w.heap.size + 1 + 1, 1, none⟩ = some (.int .i64 o.value) ∧ w'.cell? ⟨w.heap.size + 1 + 1, 2, none⟩ = some (.bool o.late) ∧ w'.cell? ⟨w.heap.size + 1 + 1, 3, none⟩ = some (.int .i64 o.limit) ∧ w'.cell? ⟨w.heap.size + 1 + 1, 4, none⟩ = some (.int .i64 o.n) ∧ w'.cell? ⟨W.heap.size, 0, none⟩ = some (.int .i64 u.kind) ∧ w'.cell? ⟨W.heap.size, 1, none⟩ = some (.int .i64 u.value) ∧ w'.cell? ⟨W.heap.size, 2, none⟩ = some (.bool u.late) ∧ w'.cell? ⟨W.heap.size, 3, none⟩ = some (.int .i64 u.limit) ∧ w'.cell? ⟨W.heap.size, 4, none⟩ = some (.int .i64 u.n) ∧ Below W4.heap.size W4 w') w') := fun w' hh => ⟨(hh.cell (by simp; omega)).trans f0_0', (hh.cell (by simp; omega)).trans f0_1', (hh.cell (by simp; omega)).trans x1_0', (hh.cell (by simp; omega)).trans x1_1', (hh.cell (by simp; omega)).trans x1_2', (hh.cell (by simp; omega)).trans o2_0', (hh.cell (by simp; omega)).trans o2_1', (hh.cell (by simp; omega)).trans o2_2', (hh.cell (by simp; omega)).trans o2_3', (hh.cell (by simp; omega)).trans o2_4', (hh.cell (by simp; omega)).trans u_0, (hh.cell (by simp; omega)).trans u_1, (hh.cell (by simp; omega)).trans u_2, (hh.cell (by simp; omega)).trans u_3, (hh.cell (by simp; omega)).trans u_4, hh⟩
  have HW4 : Hid (W4 = W.alloc (.cells #[.int .i64 u.kind, .int .i64 u.value, .bool u.late, .int .i64 u.limit, .int .i64 u.n] 52)) := hW4
  have hbW4 : Below w.heap.size w W4 := hbw.trans (hb4.mono hbw.size)
  have hv4 := hv.below hbW4 fun _ _ h => h
  have HV : Hid (∀ w', Below W4.heap.size W4 w' → SlOf w' 1 RInt (.slice av values.length cv) values) := fun w' hh => hv4.below hh fun _ _ h => h
  have hb4d : Below W4.heap.size W4 W4.drew := (Below.refl _ _).drew
  clear hW4 t4 hv4 hv ho hb
  go_enter Try.func39, Try.ntmps39
  go_upto_region 1 with fail
  rw [← HW.out]
  go_wp2_with fail
  refine (in_is _ _ _ _ hi _).mono ?_
  rintro e W ⟨rfl, rfl⟩
  go_upto_region 4 with fail
  rw [← HW4.out]
  clear c0 c1 c2 c3 c4
  by_cases hg : u.kind = 1 ∧ u.late = false
  · rw [if_pos hg] at hr
    obtain ⟨hg1, hg2⟩ := hg
    have q2 : (u.kind == 2) = false := by simp [hg1]
    rw [hg2] at u_2
    obtain ⟨cu, hcu⟩ : ∃ cu, classAt values u.value = cu := ⟨_, rfl⟩
    obtain ⟨co', hco⟩ : ∃ co', classAt values o.value = co' := ⟨_, rfl⟩
    rw [hcu, hco] at hr
    have HCu : Hid (classAt values u.value = cu) := hcu
    have HCo : Hid (classAt values o.value = co') := hco
    clear hcu hco
    by_cases hcc : cu = co'
    · rw [if_pos hcc] at hr
      subst hr
      have qc : (cu != co') = false := by simp [hcc]
      clear hcc
      go_upto_region 6 with fail
      refine wp_region_X (fun w' => w'.cell? ⟨w.heap.size, 0, none⟩ = some (.slice av values.length cv) ∧ w'.cell? ⟨w.heap.size, 1, none⟩ = some (vb) ∧ w'.cell? ⟨w.heap.size + 1, 0, none⟩ = some (.int .i64 x.op) ∧ w'.cell? ⟨w.heap.size + 1, 1, none⟩ = some (.slice (some ⟨b5, off5, none⟩) x.operands.length co) ∧ w'.cell? ⟨w.heap.size + 1, 2, none⟩ = some (.slice asp x.spoils.length csp) ∧ w'.cell? ⟨w.heap.size + 1 + 1, 0, none⟩ = some (.int .i64 o.kind) ∧ w'.cell? ⟨w.heap.size + 1 + 1, 1, none⟩ = some (.int .i64 o.value) ∧ w'.cell? ⟨w.heap.size + 1 + 1, 2, none⟩ = some (.bool o.late) ∧ w'.cell? ⟨w.heap.size + 1 + 1, 3, none⟩ = some (.int .i64 o.limit) ∧ w'.cell? ⟨w.heap.size + 1 + 1, 4, none⟩ = some (.int .i64 o.n) ∧ w'.cell? ⟨W.heap.size, 0, none⟩ = some (.int .i64 u.kind) ∧ w'.cell? ⟨W.heap.size, 1, none⟩ = some (.int .i64 u.value) ∧ w'.cell? ⟨W.heap.size, 2, none⟩ = some (.bool u.late) ∧ w'.cell? ⟨W.heap.size, 3, none⟩ = some (.int .i64 u.limit) ∧ w'.cell? ⟨W.heap.size, 4, none⟩ = some (.int .i64 u.n) ∧ Below W4.heap.size W4 w') 99 (by kernel_rfl) (HS4.out _ hb4d) (fun hHeld => ?_)
      refine wpX_takeg0 (v := ?_) (by kernel_rfl) (fun _ _ _ h => h) (by rfl) ?_ hHeld ?_
      rotate_left
      · intro w' hSw
        go_simp <;> with_reducible rfl
      try simp only [Act.put, List.setIfInBounds_toArray, List.set_cons_zero, List.set_cons_succ]
      refine wpX_takeg1 (v := ?_) (by kernel_rfl) (fun _ _ _ h => h) (by rfl) ?_ hHeld ?_
      rotate_left
      · intro w' hSw
        go_simp <;> with_reducible rfl
      try simp only [Act.put, List.setIfInBounds_toArray, List.set_cons_zero, List.set_cons_succ]
      refine wpX_takeg2 (v := ?_) (by kernel_rfl) (fun _ _ _ h => h) (by rfl) ?_ hHeld ?_
      rotate_left
      · intro w' hSw
        go_simp <;> with_reducible rfl
      try simp only [Act.put, List.setIfInBounds_toArray, List.set_cons_zero, List.set_cons_succ]
      refine wpX_takeg4 (v := ?_) (by kernel_rfl) (fun _ _ _ h => h) (by rfl) ?_ hHeld ?_
      rotate_left
      · intro w' hSw
        go_simp <;> with_reducible rfl
      try simp only [Act.put, List.setIfInBounds_toArray, List.set_cons_zero, List.set_cons_succ]
      refine wpX_takeg5 (v := ?_) (by kernel_rfl) (fun _ _ _ h => h) (by rfl) ?_ hHeld ?_
      rotate_left
      · intro w' hSw
        go_simp <;> with_reducible rfl
      try simp only [Act.put, List.setIfInBounds_toArray, List.set_cons_zero, List.set_cons_succ]
      refine wpX_takeg6 (v := ?_) (by kernel_rfl) (fun _ _ _ h => h) (by rfl) ?_ hHeld ?_
      rotate_left
      · intro w' hSw
        go_simp <;> with_reducible rfl
      try simp only [Act.put, List.setIfInBounds_toArray, List.set_cons_zero, List.set_cons_succ]
      refine wpX_step3 (by kernel_rfl) (fun K hK => ?_)
      go_simp
      refine (classOf_b values _ _ _ _ _ HCu.out _ (HV.out _ hb4d) hu).mono ?_
      rintro e wa ⟨rfl, hba0⟩
      have hba : Below W4.heap.size W4 wa := hb4d.trans (hba0.mono hb4d.size)
      refine hK.out _ _ (HS4.out _ hba) (fun hHeld => ?_)
      clear hK K
      try simp only [Act.put, List.setIfInBounds_toArray, List.set_cons_zero, List.set_cons_succ]
      refine wpX_step7 (by kernel_rfl) (fun K hK => ?_)
      go_simp
      refine (classOf_b values _ _ _ _ _ HCo.out _ (HV.out _ hba) hov).mono ?_
      rintro e wn ⟨rfl, hbn0⟩
      have hbn : Below W4.heap.size W4 wn := hba.trans (hbn0.mono hba.size)
      refine hK.out _ _ (HS4.out _ hbn) (fun hHeld => ?_)
      clear hK K
      try simp only [Act.put, List.setIfInBounds_toArray, List.set_cons_zero, List.set_cons_succ]
      refine wpX_step8 (by kernel_rfl) (fun K hK => ?_)
      go_simp
      refine hK.out _ _ (HS4.out _ hbn) (fun hHeld => ?_)
      clear hK K
      try simp only [Act.put, List.setIfInBounds_toArray, List.set_cons_zero, List.set_cons_succ]
      refine wpAnyX_done (by kernel_rfl) ?_ _
      go_wp2
      go_ret
      exact ⟨rfl, hbW4.trans (hbn.mono hbW4.size)⟩
    · rw [if_neg hcc] at hr
      subst hr
      have qc : (cu != co') = true := by simpa using hcc
      clear hcc
      go_upto_region 6 with fail
      refine wp_region_X (fun w' => w'.cell? ⟨w.heap.size, 0, none⟩ = some (.slice av values.length cv) ∧ w'.cell? ⟨w.heap.size, 1, none⟩ = some (vb) ∧ w'.cell? ⟨w.heap.size + 1, 0, none⟩ = some (.int .i64 x.op) ∧ w'.cell? ⟨w.heap.size + 1, 1, none⟩ = some (.slice (some ⟨b5, off5, none⟩) x.operands.length co) ∧ w'.cell? ⟨w.heap.size + 1, 2, none⟩ = some (.slice asp x.spoils.length csp) ∧ w'.cell? ⟨w.heap.size + 1 + 1, 0, none⟩ = some (.int .i64 o.kind) ∧ w'.cell? ⟨w.heap.size + 1 + 1, 1, none⟩ = some (.int .i64 o.value) ∧ w'.cell? ⟨w.heap.size + 1 + 1, 2, none⟩ = some (.bool o.late) ∧ w'.cell? ⟨w.heap.size + 1 + 1, 3, none⟩ = some (.int .i64 o.limit) ∧ w'.cell? ⟨w.heap.size + 1 + 1, 4, none⟩ = some (.int .i64 o.n) ∧ w'.cell? ⟨W.heap.size, 0, none⟩ = some (.int .i64 u.kind) ∧ w'.cell? ⟨W.heap.size, 1, none⟩ = some (.int .i64 u.value) ∧ w'.cell? ⟨W.heap.size, 2, none⟩ = some (.bool u.late) ∧ w'.cell? ⟨W.heap.size, 3, none⟩ = some (.int .i64 u.limit) ∧ w'.cell? ⟨W.heap.size, 4, none⟩ = some (.int .i64 u.n) ∧ Below W4.heap.size W4 w') 99 (by kernel_rfl) (HS4.out _ hb4d) (fun hHeld => ?_)
      refine wpX_takeg0 (v := ?_) (by kernel_rfl) (fun _ _ _ h => h) (by rfl) ?_ hHeld ?_
      rotate_left
      · intro w' hSw
        go_simp <;> with_reducible rfl
      try simp only [Act.put, List.setIfInBounds_toArray, List.set_cons_zero, List.set_cons_succ]
      refine wpX_takeg1 (v := ?_) (by kernel_rfl) (fun _ _ _ h => h) (by rfl) ?_ hHeld ?_
      rotate_left
      · intro w' hSw
        go_simp <;> with_reducible rfl
      try simp only [Act.put, List.setIfInBounds_toArray, List.set_cons_zero, List.set_cons_succ]
      refine wpX_takeg2 (v := ?_) (by kernel_rfl) (fun _ _ _ h => h) (by rfl) ?_ hHeld ?_
      rotate_left
      · intro w' hSw
        go_simp <;> with_reducible rfl
      try simp only [Act.put, List.setIfInBounds_toArray, List.set_cons_zero, List.set_cons_succ]
      refine wpX_takeg4 (v := ?_) (by kernel_rfl) (fun _ _ _ h => h) (by rfl) ?_ hHeld ?_
      rotate_left
      · intro w' hSw
        go_simp <;> with_reducible rfl
      try simp only [Act.put, List.setIfInBounds_toArray, List.set_cons_zero, List.set_cons_succ]
      refine wpX_takeg5 (v := ?_) (by kernel_rfl) (fun _ _ _ h => h) (by rfl) ?_ hHeld ?_
      rotate_left
      · intro w' hSw
        go_simp <;> with_reducible rfl
      try simp only [Act.put, List.setIfInBounds_toArray, List.set_cons_zero, List.set_cons_succ]
      refine wpX_takeg6 (v := ?_) (by kernel_rfl) (fun _ _ _ h => h) (by rfl) ?_ hHeld ?_
      rotate_left
      · intro w' hSw
        go_simp <;> with_reducible rfl
      try simp only [Act.put, List.setIfInBounds_toArray, List.set_cons_zero, List.set_cons_succ]
      refine wpX_step3 (by kernel_rfl) (fun K hK => ?_)
      go_simp
      refine (classOf_b values _ _ _ _ _ HCu.out _ (HV.out _ hb4d) hu).mono ?_
      rintro e wa ⟨rfl, hba0⟩
      have hba : Below W4.heap.size W4 wa := hb4d.trans (hba0.mono hb4d.size)
      refine hK.out _ _ (HS4.out _ hba) (fun hHeld => ?_)
      clear hK K
      try simp only [Act.put, List.setIfInBounds_toArray, List.set_cons_zero, List.set_cons_succ]
      refine wpX_step7 (by kernel_rfl) (fun K hK => ?_)
      go_simp
      refine (classOf_b values _ _ _ _ _ HCo.out _ (HV.out _ hba) hov).mono ?_
      rintro e wn ⟨rfl, hbn0⟩
      have hbn : Below W4.heap.size W4 wn := hba.trans (hbn0.mono hba.size)
      refine hK.out _ _ (HS4.out _ hbn) (fun hHeld => ?_)
      clear hK K
      try simp only [Act.put, List.setIfInBounds_toArray, List.set_cons_zero, List.set_cons_succ]
      refine wpX_step8 (by kernel_rfl) (fun K hK => ?_)
      go_simp
      refine hK.out _ _ (HS4.out _ hbn) (fun hHeld => ?_)
      clear hK K
      try simp only [Act.put, List.setIfInBounds_toArray, List.set_cons_zero, List.set_cons_succ]
      refine wpAnyX_done (by kernel_rfl) ?_ _
      go_wp2
      go_ret
      exact ⟨rfl, hbW4.trans (hbn.mono hbW4.size)⟩
  · rw [if_neg hg] at hr
    subst hr
    rcases hku with k1 | k2
    · have q2 : (u.kind == 2) = false := by simp [k1]
      have hl : u.late = true := by cases h : u.late <;> simp_all
      rw [hl] at u_2
      clear hg k1
      go_wp2
      go_ret
      exact ⟨rfl, hbW4⟩
    · have q2 : (u.kind == 2) = true := by simp [k2]
      clear hg k2
      go_wp2
      go_ret
      exact ⟨rfl, hbW4⟩
end Go.Proofs.Ytnghhhlcifpiaaa
