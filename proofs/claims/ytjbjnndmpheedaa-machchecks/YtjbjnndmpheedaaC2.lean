/-
  The contracts of the reference's 'Apart', 'fixedReg' and 'spoilt'.
  The contract of the reference's 'clashes' (P1.6).
-/
import Derived.Test.YtjbjnndmpheedaaC1
import Derived.Test.YtjbjnndmpheedaaA2
import Derived.Deep.DeepCutAuto
import Derived.Deep.CutBlock
namespace Go.Proofs.Ytjbjnndmpheedaa
open Go.RowKit
set_option linter.unusedVariables false

theorem apart_any (k1 v1 : Int) (l1 : Bool) (m1 n1 k2 v2 : Int) (l2 : Bool) (m2 n2 : Int) (h1 : k1 = 1 ∨ k1 = 2) (h2 : k2 = 1 ∨ k2 = 2) (w : World) :
    Calls Try.prog 96 #[.agg #[.int .i64 k1, .int .i64 v1, .bool l1, .int .i64 m1, .int .i64 n1], .agg #[.int .i64 k2, .int .i64 v2, .bool l2, .int .i64 m2, .int .i64 n2]] w fun e w' => e = .returned (.bool (meetB k1 v1 l1 k2 v2 l2)) ∧ Below w.heap.size w w' := by
  obtain ⟨W, hW⟩ : ∃ W, W = (w.alloc (.cells #[.int .i64 k1, .int .i64 v1, .bool l1, .int .i64 m1, .int .i64 n1] 78)).alloc (.cells #[.int .i64 k2, .int .i64 v2, .bool l2, .int .i64 m2, .int .i64 n2] 78) := ⟨_, rfl⟩
  have hbw : Below w.heap.size w W := by rw [hW]; exact ((Below.refl _ _).alloc (Nat.le_refl _) _).alloc (by simp) _
  have zW : w.heap.size + 1 < W.heap.size := by rw [hW]; simp
  obtain ⟨t0, t1⟩ := two_at w #[.int .i64 k1, .int .i64 v1, .bool l1, .int .i64 m1, .int .i64 n1] #[.int .i64 k2, .int .i64 v2, .bool l2, .int .i64 m2, .int .i64 n2] 78 78
  have o0_0 : W.cell? ⟨w.heap.size, 0, none⟩ = some (.int .i64 k1) := by rw [hW]; exact t0 0
  have o0_1 : W.cell? ⟨w.heap.size, 1, none⟩ = some (.int .i64 v1) := by rw [hW]; exact t0 1
  have o0_2 : W.cell? ⟨w.heap.size, 2, none⟩ = some (.bool l1) := by rw [hW]; exact t0 2
  have o0_3 : W.cell? ⟨w.heap.size, 3, none⟩ = some (.int .i64 m1) := by rw [hW]; exact t0 3
  have o0_4 : W.cell? ⟨w.heap.size, 4, none⟩ = some (.int .i64 n1) := by rw [hW]; exact t0 4
  have o1_0 : W.cell? ⟨w.heap.size + 1, 0, none⟩ = some (.int .i64 k2) := by rw [hW]; exact t1 0
  have o1_1 : W.cell? ⟨w.heap.size + 1, 1, none⟩ = some (.int .i64 v2) := by rw [hW]; exact t1 1
  have o1_2 : W.cell? ⟨w.heap.size + 1, 2, none⟩ = some (.bool l2) := by rw [hW]; exact t1 2
  have o1_3 : W.cell? ⟨w.heap.size + 1, 3, none⟩ = some (.int .i64 m2) := by rw [hW]; exact t1 3
  have o1_4 : W.cell? ⟨w.heap.size + 1, 4, none⟩ = some (.int .i64 n2) := by rw [hW]; exact t1 4
  have HS : Hid (∀ w', Below W.heap.size W w' → (fun w' => w'.cell? ⟨w.heap.size, 0, none⟩ = some (.int .i64 k1) ∧ w'.cell? ⟨w.heap.size, 1, none⟩ = some (.int .i64 v1) ∧ w'.cell? ⟨w.heap.size, 2, none⟩ = some (.bool l1) ∧ w'.cell? ⟨w.heap.size, 3, none⟩ = some (.int .i64 m1) ∧ w'.cell? ⟨w.heap.size, 4, none⟩ = some (.int .i64 n1) ∧ w'.cell? ⟨w.heap.size + 1, 0, none⟩ = some (.int .i64 k2) ∧ w'.cell? ⟨w.heap.size + 1, 1, none⟩ = some (.int .i64 v2) ∧ w'.cell? ⟨w.heap.size + 1, 2, none⟩ = some (.bool l2) ∧ w'.cell? ⟨w.heap.size + 1, 3, none⟩ = some (.int .i64 m2) ∧ w'.cell? ⟨w.heap.size + 1, 4, none⟩ = some (.int .i64 n2) ∧ Below W.heap.size W w') w') := fun w' hh => ⟨(hh.cell (by simp; omega)).trans o0_0, (hh.cell (by simp; omega)).trans o0_1, (hh.cell (by simp; omega)).trans o0_2, (hh.cell (by simp; omega)).trans o0_3, (hh.cell (by simp; omega)).trans o0_4, (hh.cell (by simp; omega)).trans o1_0, (hh.cell (by simp; omega)).trans o1_1, (hh.cell (by simp; omega)).trans o1_2, (hh.cell (by simp; omega)).trans o1_3, (hh.cell (by simp; omega)).trans o1_4, hh⟩
  have HW : Hid (W = (w.alloc (.cells #[.int .i64 k1, .int .i64 v1, .bool l1, .int .i64 m1, .int .i64 n1] 78)).alloc (.cells #[.int .i64 k2, .int .i64 v2, .bool l2, .int .i64 m2, .int .i64 n2] 78)) := hW
  clear hW t0 t1
  clear HS
  have L0 := old_cell w.heap.size
  have L1 := old_cell (w.heap.size + 1)
  have z0 : w.heap.size < W.heap.size := by omega
  have z0' : w.heap.size < W.heap.size + 1 := by omega
  have z1' : w.heap.size + 1 < W.heap.size + 1 := by omega
  rcases h1 with rfl | rfl
  · rcases h2 with rfl | rfl
    · have E : Hid ((v1 != v2) = meetB 1 v1 l1 1 v2 l2) := by show _ = _; simp [meetB]
      go_enter Try.func96, Try.ntmps96
      go_upto_region 1 with fail
      rw [← HW.out]
      go_wp2
      go_ret
      exact ⟨ret_bool E.out, (by first | exact hbw | exact hbw.alloc hbw.size _ | exact (hbw.alloc hbw.size _).alloc (by have := hbw.size; simp; omega) _)⟩
    · have E : Hid ((l1 || !l2) = meetB 1 v1 l1 2 v2 l2) := by show _ = _; simp [meetB]
      cases l1
      · go_enter Try.func96, Try.ntmps96
        go_upto_region 1 with fail
        rw [← HW.out]
        go_wp2
        go_ret
        exact ⟨ret_bool (by rw [← E.out]; simp), (by first | exact hbw | exact hbw.alloc hbw.size _ | exact (hbw.alloc hbw.size _).alloc (by have := hbw.size; simp; omega) _)⟩
      · go_enter Try.func96, Try.ntmps96
        go_upto_region 1 with fail
        rw [← HW.out]
        go_wp2
        go_ret
        exact ⟨ret_bool (by rw [← E.out]; simp), (by first | exact hbw | exact hbw.alloc hbw.size _ | exact (hbw.alloc hbw.size _).alloc (by have := hbw.size; simp; omega) _)⟩
  · rcases h2 with rfl | rfl
    · have E : Hid ((l2 || !l1) = meetB 2 v1 l1 1 v2 l2) := by show _ = _; simp [meetB]
      cases l2
      · go_enter Try.func96, Try.ntmps96
        go_upto_region 1 with fail
        rw [← HW.out]
        go_wp2
        go_ret
        exact ⟨ret_bool (by rw [← E.out]; simp), (by first | exact hbw | exact hbw.alloc hbw.size _ | exact (hbw.alloc hbw.size _).alloc (by have := hbw.size; simp; omega) _)⟩
      · go_enter Try.func96, Try.ntmps96
        go_upto_region 1 with fail
        rw [← HW.out]
        go_wp2
        go_ret
        exact ⟨ret_bool (by rw [← E.out]; simp), (by first | exact hbw | exact hbw.alloc hbw.size _ | exact (hbw.alloc hbw.size _).alloc (by have := hbw.size; simp; omega) _)⟩
    · have E : Hid (true = meetB 2 v1 l1 2 v2 l2) := by show _ = _; simp [meetB]
      go_enter Try.func96, Try.ntmps96
      go_upto_region 1 with fail
      rw [← HW.out]
      go_wp2
      go_ret
      exact ⟨ret_bool E.out, (by first | exact hbw | exact hbw.alloc hbw.size _ | exact (hbw.alloc hbw.size _).alloc (by have := hbw.size; simp; omega) _)⟩

theorem apart_is (a b : Opr) (r : Bool) (h : meetB a.kind a.value a.late b.kind b.value b.late = r) (h1 : a.kind = 1 ∨ a.kind = 2) (h2 : b.kind = 1 ∨ b.kind = 2) (w : World) :
    Calls Try.prog 96 #[.agg #[.int .i64 a.kind, .int .i64 a.value, .bool a.late, .int .i64 a.limit, .int .i64 a.n], .agg #[.int .i64 b.kind, .int .i64 b.value, .bool b.late, .int .i64 b.limit, .int .i64 b.n]] w fun e w' => e = .returned (.bool r) ∧ Below w.heap.size w w' := by
  rw [← h]; exact apart_any _ _ _ _ _ _ _ _ _ _ h1 h2 w

/-- What the reference holds for a fixed register: 100 times its class, and its number; -1: none. -/
def frI (values : List Int) (u : Opr) : Int := if u.limit = 4 then 100 * classAt values u.value + u.n else -1

set_option maxHeartbeats 8000000 in
theorem fixedReg_is (values : List Int) (av : Option Addr) (cv : Nat) (vb : Value) (x : Ins) (ao asp : Option Addr) (co csp : Nat) (o u : Opr) (hu : named x.operands o = u) (r : Int) (hr : frI values u = r) (w : World) (hv : SlOf w 1 RInt (.slice av values.length cv) values)
    (ho : SlOf w 5 ROpr (.slice ao x.operands.length co) x.operands) (hN : o.limit = 5 → 0 ≤ o.n ∧ o.n < (x.operands.length : Int)) (hval : isValueB values.length u.value = true) (hcl : classAt values u.value = 0 ∨ classAt values u.value = 1) (hfx : u.limit = 4 → 0 ≤ u.n ∧ u.n ≤ 9) :
    Calls Try.prog 94 #[.agg #[.slice av values.length cv, vb], .agg #[.int .i64 x.op, .slice ao x.operands.length co, .slice asp x.spoils.length csp], .agg #[.int .i64 o.kind, .int .i64 o.value, .bool o.late, .int .i64 o.limit, .int .i64 o.n]] w fun e w' => e = .returned (.int .i64 r) ∧ Below w.heap.size w w' := by
  obtain ⟨_, _, _, lv⟩ := hv.out
  obtain ⟨_, _, _, lo⟩ := ho.out
  unfold longest at lv lo
  obtain ⟨W, hW⟩ : ∃ W, W = (w.alloc (.cells #[.slice av values.length cv, vb] 25)).alloc (.cells #[.int .i64 x.op, .slice ao x.operands.length co, .slice asp x.spoils.length csp] 45) := ⟨_, rfl⟩
  have hbw : Below w.heap.size w W := by rw [hW]; exact ((Below.refl _ _).alloc (Nat.le_refl _) _).alloc (by simp) _
  have zW : w.heap.size + 1 < W.heap.size := by rw [hW]; simp
  obtain ⟨t0, t1⟩ := two_at w #[.slice av values.length cv, vb] #[.int .i64 x.op, .slice ao x.operands.length co, .slice asp x.spoils.length csp] 25 45
  have f0_0 : W.cell? ⟨w.heap.size, 0, none⟩ = some (.slice av values.length cv) := by rw [hW]; exact t0 0
  have f0_1 : W.cell? ⟨w.heap.size, 1, none⟩ = some (vb) := by rw [hW]; exact t0 1
  have x1_0 : W.cell? ⟨w.heap.size + 1, 0, none⟩ = some (.int .i64 x.op) := by rw [hW]; exact t1 0
  have x1_1 : W.cell? ⟨w.heap.size + 1, 1, none⟩ = some (.slice ao x.operands.length co) := by rw [hW]; exact t1 1
  have x1_2 : W.cell? ⟨w.heap.size + 1, 2, none⟩ = some (.slice asp x.spoils.length csp) := by rw [hW]; exact t1 2
  have HS : Hid (∀ w', Below W.heap.size W w' → (fun w' => w'.cell? ⟨w.heap.size, 0, none⟩ = some (.slice av values.length cv) ∧ w'.cell? ⟨w.heap.size, 1, none⟩ = some (vb) ∧ w'.cell? ⟨w.heap.size + 1, 0, none⟩ = some (.int .i64 x.op) ∧ w'.cell? ⟨w.heap.size + 1, 1, none⟩ = some (.slice ao x.operands.length co) ∧ w'.cell? ⟨w.heap.size + 1, 2, none⟩ = some (.slice asp x.spoils.length csp) ∧ Below W.heap.size W w') w') := fun w' hh => ⟨(hh.cell (by simp; omega)).trans f0_0, (hh.cell (by simp; omega)).trans f0_1, (hh.cell (by simp; omega)).trans x1_0, (hh.cell (by simp; omega)).trans x1_1, (hh.cell (by simp; omega)).trans x1_2, hh⟩
  have HW : Hid (W = (w.alloc (.cells #[.slice av values.length cv, vb] 25)).alloc (.cells #[.int .i64 x.op, .slice ao x.operands.length co, .slice asp x.spoils.length csp] 45)) := hW
  clear hW t0 t1
  have HZ : Hid (W.heap.size = w.heap.size + 1 + 1) := by show _ = _; rw [HW.out]; simp
  unfold frI at hr
  by_cases h5 : o.limit = 5
  · have q5 : (o.limit == 5) = true := by simp [h5]
    obtain ⟨n0, n1⟩ := hN h5
    have hlt : o.n.toNat < x.operands.length := by omega
    unfold named at hu
    rw [if_pos h5] at hu
    have hu' : x.operands[o.n.toNat] = u := by rw [← hu]; simp [List.getD, List.getElem?_eq_getElem hlt]
    obtain ⟨b5, off5, rfl, hb5, c0, c1, c2, c3, c4⟩ := opr_cells (ho.below hbw fun _ _ h => h) _ hlt
    rw [hu'] at c0 c1 c2 c3 c4
    clear hu hu' h5 hN
    have L5 := old_cell b5
    have LX := old_cell (w.heap.size + 1)
    go_enter Try.func94, Try.ntmps94
    go_upto_region 1 with fail
    rw [← HW.out, ← HZ.out]
    go_upto_region 3 with fail
    clear c0 c1 c2 c3 c4
    obtain ⟨W3, hW3⟩ : ∃ W3, W3 = W.alloc (.cells #[.int .i64 u.kind, .int .i64 u.value, .bool u.late, .int .i64 u.limit, .int .i64 u.n] 78) := ⟨_, rfl⟩
    have hb3 : Below W.heap.size W W3 := by rw [hW3]; exact (Below.refl _ _).alloc (Nat.le_refl _) _
    have z3 : W.heap.size < W3.heap.size := by rw [hW3]; simp
    have t3 := top_at W #[.int .i64 u.kind, .int .i64 u.value, .bool u.late, .int .i64 u.limit, .int .i64 u.n] 78
    have u_0 : W3.cell? ⟨W.heap.size, 0, none⟩ = some (.int .i64 u.kind) := by rw [hW3]; exact t3 0
    have u_1 : W3.cell? ⟨W.heap.size, 1, none⟩ = some (.int .i64 u.value) := by rw [hW3]; exact t3 1
    have u_2 : W3.cell? ⟨W.heap.size, 2, none⟩ = some (.bool u.late) := by rw [hW3]; exact t3 2
    have u_3 : W3.cell? ⟨W.heap.size, 3, none⟩ = some (.int .i64 u.limit) := by rw [hW3]; exact t3 3
    have u_4 : W3.cell? ⟨W.heap.size, 4, none⟩ = some (.int .i64 u.n) := by rw [hW3]; exact t3 4
    obtain ⟨f0_0', f0_1', x1_0', x1_1', x1_2', _⟩ := HS.out _ hb3
    have z3' : w.heap.size + 1 + 1 < W3.heap.size := by have := HZ.out; omega
    have HS3 : Hid (∀ w', Below W3.heap.size W3 w' → (fun w' => w'.cell? ⟨w.heap.size, 0, none⟩ = some (.slice av values.length cv) ∧ w'.cell? ⟨w.heap.size, 1, none⟩ = some (vb) ∧ w'.cell? ⟨w.heap.size + 1, 0, none⟩ = some (.int .i64 x.op) ∧ w'.cell? ⟨w.heap.size + 1, 1, none⟩ = some (.slice (some ⟨b5, off5, none⟩) x.operands.length co) ∧ w'.cell? ⟨w.heap.size + 1, 2, none⟩ = some (.slice asp x.spoils.length csp) ∧ w'.cell? ⟨W.heap.size, 0, none⟩ = some (.int .i64 u.kind) ∧ w'.cell? ⟨W.heap.size, 1, none⟩ = some (.int .i64 u.value) ∧ w'.cell? ⟨W.heap.size, 2, none⟩ = some (.bool u.late) ∧ w'.cell? ⟨W.heap.size, 3, none⟩ = some (.int .i64 u.limit) ∧ w'.cell? ⟨W.heap.size, 4, none⟩ = some (.int .i64 u.n) ∧ Below W3.heap.size W3 w') w') := fun w' hh => ⟨(hh.cell (by simp; omega)).trans f0_0', (hh.cell (by simp; omega)).trans f0_1', (hh.cell (by simp; omega)).trans x1_0', (hh.cell (by simp; omega)).trans x1_1', (hh.cell (by simp; omega)).trans x1_2', (hh.cell (by simp; omega)).trans u_0, (hh.cell (by simp; omega)).trans u_1, (hh.cell (by simp; omega)).trans u_2, (hh.cell (by simp; omega)).trans u_3, (hh.cell (by simp; omega)).trans u_4, hh⟩
    have hbW3 : Below w.heap.size w W3 := hbw.trans (hb3.mono hbw.size)
    have hv3 := hv.below hbW3 fun _ _ h => h
    have hb3d : Below W3.heap.size W3 W3.drew := (Below.refl _ _).drew
    rw [← hW3]
    clear hW3 t3 f0_0 f0_1 x1_0 x1_1 x1_2 hb3
    by_cases h4 : u.limit = 4
    · have q4 : (u.limit != 4) = false := by simp [h4]
      obtain ⟨hn0, hn9⟩ := hfx h4
      rw [if_pos h4] at hr
      have hvd := hv3.below hb3d fun _ _ h => h
      go_upto_region 5 with fail
      refine wp_region_X (fun w' => w'.cell? ⟨w.heap.size, 0, none⟩ = some (.slice av values.length cv) ∧ w'.cell? ⟨w.heap.size, 1, none⟩ = some (vb) ∧ w'.cell? ⟨w.heap.size + 1, 0, none⟩ = some (.int .i64 x.op) ∧ w'.cell? ⟨w.heap.size + 1, 1, none⟩ = some (.slice (some ⟨b5, off5, none⟩) x.operands.length co) ∧ w'.cell? ⟨w.heap.size + 1, 2, none⟩ = some (.slice asp x.spoils.length csp) ∧ w'.cell? ⟨W.heap.size, 0, none⟩ = some (.int .i64 u.kind) ∧ w'.cell? ⟨W.heap.size, 1, none⟩ = some (.int .i64 u.value) ∧ w'.cell? ⟨W.heap.size, 2, none⟩ = some (.bool u.late) ∧ w'.cell? ⟨W.heap.size, 3, none⟩ = some (.int .i64 u.limit) ∧ w'.cell? ⟨W.heap.size, 4, none⟩ = some (.int .i64 u.n) ∧ Below W3.heap.size W3 w') 99 (by kernel_rfl) (HS3.out _ hb3d) (fun hHeld => ?_)
      refine wpXt 0 rfl (v := ?_) (by kernel_rfl) (fun _ _ _ h => h) (by rfl) ?_ hHeld ?_
      rotate_left
      · intro w' hSw
        go_simp <;> with_reducible rfl
      try simp only [Act.put, List.setIfInBounds_toArray, List.set_cons_zero, List.set_cons_succ]
      refine wpXt 1 rfl (v := ?_) (by kernel_rfl) (fun _ _ _ h => h) (by rfl) ?_ hHeld ?_
      rotate_left
      · intro w' hSw
        go_simp <;> with_reducible rfl
      try simp only [Act.put, List.setIfInBounds_toArray, List.set_cons_zero, List.set_cons_succ]
      refine wpXt 2 rfl (v := ?_) (by kernel_rfl) (fun _ _ _ h => h) (by rfl) ?_ hHeld ?_
      rotate_left
      · intro w' hSw
        go_simp <;> with_reducible rfl
      try simp only [Act.put, List.setIfInBounds_toArray, List.set_cons_zero, List.set_cons_succ]
      refine wpXt 5 rfl (v := ?_) (by kernel_rfl) (fun _ _ _ h => h) (by rfl) ?_ hHeld ?_
      rotate_left
      · intro w' hSw
        go_simp <;> with_reducible rfl
      try simp only [Act.put, List.setIfInBounds_toArray, List.set_cons_zero, List.set_cons_succ]
      refine wpXt 6 rfl (v := ?_) (by kernel_rfl) (fun _ _ _ h => h) (by rfl) ?_ hHeld ?_
      rotate_left
      · intro w' hSw
        go_simp <;> with_reducible rfl
      try simp only [Act.put, List.setIfInBounds_toArray, List.set_cons_zero, List.set_cons_succ]
      rcases hcl with hc | hc
      · have e4 : r = u.n := by rw [← hr, hc]; omega
        have jw : IntKind.i64.wrap u.n = u.n := by rw [IntKind.wrap_i64]; omega
        refine wpXs 3 rfl (by kernel_rfl) (fun K hK => ?_)
        go_simp
        refine (classOf_b values _ _ _ _ _ hc _ hvd hval).mono ?_
        rintro e wn ⟨rfl, hbn0⟩
        have hbn : Below W3.heap.size W3 wn := hb3d.trans (hbn0.mono hb3d.size)
        refine hK.out _ _ (HS3.out _ hbn) (fun hHeld => ?_)
        clear hK K
        try simp only [Act.put, List.setIfInBounds_toArray, List.set_cons_zero, List.set_cons_succ]
        refine wpXt 4 rfl (v := ?_) (by kernel_rfl) (fun _ _ _ h => h) (by rfl) ?_ hHeld ?_
        rotate_left
        · intro w' hSw
          go_simp <;> with_reducible rfl
        try simp only [Act.put, List.setIfInBounds_toArray, List.set_cons_zero, List.set_cons_succ]
        refine wpXt 7 rfl (v := ?_) (by kernel_rfl) (fun _ _ _ h => h) (by rfl) ?_ hHeld ?_
        rotate_left
        · intro w' hSw
          go_simp <;> with_reducible rfl
        try simp only [Act.put, List.setIfInBounds_toArray, List.set_cons_zero, List.set_cons_succ]
        refine wpXs 8 rfl (by kernel_rfl) (fun K hK => ?_)
        go_simp
        refine hK.out _ _ (HS3.out _ hbn) (fun hHeld => ?_)
        clear hK K
        try simp only [Act.put, List.setIfInBounds_toArray, List.set_cons_zero, List.set_cons_succ]
        refine wpAnyX_done (by kernel_rfl) ?_ _
        subst e4
        go_wp2
        go_ret
        refine ⟨ret_int ?_, hbW3.trans (hbn.mono hbW3.size)⟩
        rw [IntKind.wrap_i64, IntKind.wrap_i64]
        omega
      · have e4 : r = 100 + u.n := by rw [← hr, hc]; omega
        have jw : IntKind.i64.wrap (100 + u.n) = 100 + u.n := by rw [IntKind.wrap_i64]; omega
        refine wpXs 3 rfl (by kernel_rfl) (fun K hK => ?_)
        go_simp
        refine (classOf_b values _ _ _ _ _ hc _ hvd hval).mono ?_
        rintro e wn ⟨rfl, hbn0⟩
        have hbn : Below W3.heap.size W3 wn := hb3d.trans (hbn0.mono hb3d.size)
        refine hK.out _ _ (HS3.out _ hbn) (fun hHeld => ?_)
        clear hK K
        try simp only [Act.put, List.setIfInBounds_toArray, List.set_cons_zero, List.set_cons_succ]
        refine wpXt 4 rfl (v := ?_) (by kernel_rfl) (fun _ _ _ h => h) (by rfl) ?_ hHeld ?_
        rotate_left
        · intro w' hSw
          go_simp <;> with_reducible rfl
        try simp only [Act.put, List.setIfInBounds_toArray, List.set_cons_zero, List.set_cons_succ]
        refine wpXt 7 rfl (v := ?_) (by kernel_rfl) (fun _ _ _ h => h) (by rfl) ?_ hHeld ?_
        rotate_left
        · intro w' hSw
          go_simp <;> with_reducible rfl
        try simp only [Act.put, List.setIfInBounds_toArray, List.set_cons_zero, List.set_cons_succ]
        refine wpXs 8 rfl (by kernel_rfl) (fun K hK => ?_)
        go_simp
        refine hK.out _ _ (HS3.out _ hbn) (fun hHeld => ?_)
        clear hK K
        try simp only [Act.put, List.setIfInBounds_toArray, List.set_cons_zero, List.set_cons_succ]
        refine wpAnyX_done (by kernel_rfl) ?_ _
        subst e4
        go_wp2
        go_ret
        refine ⟨ret_int ?_, hbW3.trans (hbn.mono hbW3.size)⟩
        rw [IntKind.wrap_i64, IntKind.wrap_i64]
        omega
    · have q4 : (u.limit != 4) = true := by simpa using h4
      rw [if_neg h4] at hr
      subst hr
      clear h4
      go_wp2
      go_ret
      exact ⟨rfl, hbW3⟩
  · have q5 : (o.limit == 5) = false := by simpa using h5
    have hu' : o = u := by rw [← hu]; unfold named; rw [if_neg h5]
    subst hu'
    clear hu h5 hN
    go_enter Try.func94, Try.ntmps94
    go_upto_region 1 with fail
    rw [← HW.out, ← HZ.out]
    go_upto_region 3 with fail
    obtain ⟨W3, hW3⟩ : ∃ W3, W3 = W.alloc (.cells #[.int .i64 o.kind, .int .i64 o.value, .bool o.late, .int .i64 o.limit, .int .i64 o.n] 78) := ⟨_, rfl⟩
    have hb3 : Below W.heap.size W W3 := by rw [hW3]; exact (Below.refl _ _).alloc (Nat.le_refl _) _
    have z3 : W.heap.size < W3.heap.size := by rw [hW3]; simp
    have t3 := top_at W #[.int .i64 o.kind, .int .i64 o.value, .bool o.late, .int .i64 o.limit, .int .i64 o.n] 78
    have u_0 : W3.cell? ⟨W.heap.size, 0, none⟩ = some (.int .i64 o.kind) := by rw [hW3]; exact t3 0
    have u_1 : W3.cell? ⟨W.heap.size, 1, none⟩ = some (.int .i64 o.value) := by rw [hW3]; exact t3 1
    have u_2 : W3.cell? ⟨W.heap.size, 2, none⟩ = some (.bool o.late) := by rw [hW3]; exact t3 2
    have u_3 : W3.cell? ⟨W.heap.size, 3, none⟩ = some (.int .i64 o.limit) := by rw [hW3]; exact t3 3
    have u_4 : W3.cell? ⟨W.heap.size, 4, none⟩ = some (.int .i64 o.n) := by rw [hW3]; exact t3 4
    obtain ⟨f0_0', f0_1', x1_0', x1_1', x1_2', _⟩ := HS.out _ hb3
    have z3' : w.heap.size + 1 + 1 < W3.heap.size := by have := HZ.out; omega
    have HS3 : Hid (∀ w', Below W3.heap.size W3 w' → (fun w' => w'.cell? ⟨w.heap.size, 0, none⟩ = some (.slice av values.length cv) ∧ w'.cell? ⟨w.heap.size, 1, none⟩ = some (vb) ∧ w'.cell? ⟨w.heap.size + 1, 0, none⟩ = some (.int .i64 x.op) ∧ w'.cell? ⟨w.heap.size + 1, 1, none⟩ = some (.slice ao x.operands.length co) ∧ w'.cell? ⟨w.heap.size + 1, 2, none⟩ = some (.slice asp x.spoils.length csp) ∧ w'.cell? ⟨W.heap.size, 0, none⟩ = some (.int .i64 o.kind) ∧ w'.cell? ⟨W.heap.size, 1, none⟩ = some (.int .i64 o.value) ∧ w'.cell? ⟨W.heap.size, 2, none⟩ = some (.bool o.late) ∧ w'.cell? ⟨W.heap.size, 3, none⟩ = some (.int .i64 o.limit) ∧ w'.cell? ⟨W.heap.size, 4, none⟩ = some (.int .i64 o.n) ∧ Below W3.heap.size W3 w') w') := fun w' hh => ⟨(hh.cell (by simp; omega)).trans f0_0', (hh.cell (by simp; omega)).trans f0_1', (hh.cell (by simp; omega)).trans x1_0', (hh.cell (by simp; omega)).trans x1_1', (hh.cell (by simp; omega)).trans x1_2', (hh.cell (by simp; omega)).trans u_0, (hh.cell (by simp; omega)).trans u_1, (hh.cell (by simp; omega)).trans u_2, (hh.cell (by simp; omega)).trans u_3, (hh.cell (by simp; omega)).trans u_4, hh⟩
    have hbW3 : Below w.heap.size w W3 := hbw.trans (hb3.mono hbw.size)
    have hv3 := hv.below hbW3 fun _ _ h => h
    have hb3d : Below W3.heap.size W3 W3.drew := (Below.refl _ _).drew
    rw [← hW3]
    clear hW3 t3 f0_0 f0_1 x1_0 x1_1 x1_2 hb3
    by_cases h4 : o.limit = 4
    · have q4 : (o.limit != 4) = false := by simp [h4]
      obtain ⟨hn0, hn9⟩ := hfx h4
      rw [if_pos h4] at hr
      have hvd := hv3.below hb3d fun _ _ h => h
      go_upto_region 5 with fail
      refine wp_region_X (fun w' => w'.cell? ⟨w.heap.size, 0, none⟩ = some (.slice av values.length cv) ∧ w'.cell? ⟨w.heap.size, 1, none⟩ = some (vb) ∧ w'.cell? ⟨w.heap.size + 1, 0, none⟩ = some (.int .i64 x.op) ∧ w'.cell? ⟨w.heap.size + 1, 1, none⟩ = some (.slice ao x.operands.length co) ∧ w'.cell? ⟨w.heap.size + 1, 2, none⟩ = some (.slice asp x.spoils.length csp) ∧ w'.cell? ⟨W.heap.size, 0, none⟩ = some (.int .i64 o.kind) ∧ w'.cell? ⟨W.heap.size, 1, none⟩ = some (.int .i64 o.value) ∧ w'.cell? ⟨W.heap.size, 2, none⟩ = some (.bool o.late) ∧ w'.cell? ⟨W.heap.size, 3, none⟩ = some (.int .i64 o.limit) ∧ w'.cell? ⟨W.heap.size, 4, none⟩ = some (.int .i64 o.n) ∧ Below W3.heap.size W3 w') 99 (by kernel_rfl) (HS3.out _ hb3d) (fun hHeld => ?_)
      refine wpXt 0 rfl (v := ?_) (by kernel_rfl) (fun _ _ _ h => h) (by rfl) ?_ hHeld ?_
      rotate_left
      · intro w' hSw
        go_simp <;> with_reducible rfl
      try simp only [Act.put, List.setIfInBounds_toArray, List.set_cons_zero, List.set_cons_succ]
      refine wpXt 1 rfl (v := ?_) (by kernel_rfl) (fun _ _ _ h => h) (by rfl) ?_ hHeld ?_
      rotate_left
      · intro w' hSw
        go_simp <;> with_reducible rfl
      try simp only [Act.put, List.setIfInBounds_toArray, List.set_cons_zero, List.set_cons_succ]
      refine wpXt 2 rfl (v := ?_) (by kernel_rfl) (fun _ _ _ h => h) (by rfl) ?_ hHeld ?_
      rotate_left
      · intro w' hSw
        go_simp <;> with_reducible rfl
      try simp only [Act.put, List.setIfInBounds_toArray, List.set_cons_zero, List.set_cons_succ]
      refine wpXt 5 rfl (v := ?_) (by kernel_rfl) (fun _ _ _ h => h) (by rfl) ?_ hHeld ?_
      rotate_left
      · intro w' hSw
        go_simp <;> with_reducible rfl
      try simp only [Act.put, List.setIfInBounds_toArray, List.set_cons_zero, List.set_cons_succ]
      refine wpXt 6 rfl (v := ?_) (by kernel_rfl) (fun _ _ _ h => h) (by rfl) ?_ hHeld ?_
      rotate_left
      · intro w' hSw
        go_simp <;> with_reducible rfl
      try simp only [Act.put, List.setIfInBounds_toArray, List.set_cons_zero, List.set_cons_succ]
      rcases hcl with hc | hc
      · have e4 : r = o.n := by rw [← hr, hc]; omega
        have jw : IntKind.i64.wrap o.n = o.n := by rw [IntKind.wrap_i64]; omega
        refine wpXs 3 rfl (by kernel_rfl) (fun K hK => ?_)
        go_simp
        refine (classOf_b values _ _ _ _ _ hc _ hvd hval).mono ?_
        rintro e wn ⟨rfl, hbn0⟩
        have hbn : Below W3.heap.size W3 wn := hb3d.trans (hbn0.mono hb3d.size)
        refine hK.out _ _ (HS3.out _ hbn) (fun hHeld => ?_)
        clear hK K
        try simp only [Act.put, List.setIfInBounds_toArray, List.set_cons_zero, List.set_cons_succ]
        refine wpXt 4 rfl (v := ?_) (by kernel_rfl) (fun _ _ _ h => h) (by rfl) ?_ hHeld ?_
        rotate_left
        · intro w' hSw
          go_simp <;> with_reducible rfl
        try simp only [Act.put, List.setIfInBounds_toArray, List.set_cons_zero, List.set_cons_succ]
        refine wpXt 7 rfl (v := ?_) (by kernel_rfl) (fun _ _ _ h => h) (by rfl) ?_ hHeld ?_
        rotate_left
        · intro w' hSw
          go_simp <;> with_reducible rfl
        try simp only [Act.put, List.setIfInBounds_toArray, List.set_cons_zero, List.set_cons_succ]
        refine wpXs 8 rfl (by kernel_rfl) (fun K hK => ?_)
        go_simp
        refine hK.out _ _ (HS3.out _ hbn) (fun hHeld => ?_)
        clear hK K
        try simp only [Act.put, List.setIfInBounds_toArray, List.set_cons_zero, List.set_cons_succ]
        refine wpAnyX_done (by kernel_rfl) ?_ _
        subst e4
        go_wp2
        go_ret
        refine ⟨ret_int ?_, hbW3.trans (hbn.mono hbW3.size)⟩
        rw [IntKind.wrap_i64, IntKind.wrap_i64]
        omega
      · have e4 : r = 100 + o.n := by rw [← hr, hc]; omega
        have jw : IntKind.i64.wrap (100 + o.n) = 100 + o.n := by rw [IntKind.wrap_i64]; omega
        refine wpXs 3 rfl (by kernel_rfl) (fun K hK => ?_)
        go_simp
        refine (classOf_b values _ _ _ _ _ hc _ hvd hval).mono ?_
        rintro e wn ⟨rfl, hbn0⟩
        have hbn : Below W3.heap.size W3 wn := hb3d.trans (hbn0.mono hb3d.size)
        refine hK.out _ _ (HS3.out _ hbn) (fun hHeld => ?_)
        clear hK K
        try simp only [Act.put, List.setIfInBounds_toArray, List.set_cons_zero, List.set_cons_succ]
        refine wpXt 4 rfl (v := ?_) (by kernel_rfl) (fun _ _ _ h => h) (by rfl) ?_ hHeld ?_
        rotate_left
        · intro w' hSw
          go_simp <;> with_reducible rfl
        try simp only [Act.put, List.setIfInBounds_toArray, List.set_cons_zero, List.set_cons_succ]
        refine wpXt 7 rfl (v := ?_) (by kernel_rfl) (fun _ _ _ h => h) (by rfl) ?_ hHeld ?_
        rotate_left
        · intro w' hSw
          go_simp <;> with_reducible rfl
        try simp only [Act.put, List.setIfInBounds_toArray, List.set_cons_zero, List.set_cons_succ]
        refine wpXs 8 rfl (by kernel_rfl) (fun K hK => ?_)
        go_simp
        refine hK.out _ _ (HS3.out _ hbn) (fun hHeld => ?_)
        clear hK K
        try simp only [Act.put, List.setIfInBounds_toArray, List.set_cons_zero, List.set_cons_succ]
        refine wpAnyX_done (by kernel_rfl) ?_ _
        subst e4
        go_wp2
        go_ret
        refine ⟨ret_int ?_, hbW3.trans (hbn.mono hbW3.size)⟩
        rw [IntKind.wrap_i64, IntKind.wrap_i64]
        omega
    · have q4 : (o.limit != 4) = true := by simpa using h4
      rw [if_neg h4] at hr
      subst hr
      clear h4
      go_wp2
      go_ret
      exact ⟨rfl, hbW3⟩

set_option maxHeartbeats 4000000 in
theorem spoilt_is (x : Ins) (ao asp : Option Addr) (co csp : Nat) (c n : Int) (b : Bool) (hb : hasRg x.spoils c n = b) (w : World) (hs : SlOf w 2 RRg (.slice asp x.spoils.length csp) x.spoils) :
    Calls Try.prog 95 #[.agg #[.int .i64 x.op, .slice ao x.operands.length co, .slice asp x.spoils.length csp], .int .i64 c, .int .i64 n] w fun e w' => e = .returned (.bool b) ∧ Below w.heap.size w w' := by
  obtain ⟨_, _, _, ls⟩ := hs.out
  unfold longest at ls
  obtain ⟨W, hW⟩ : ∃ W, W = w.alloc (.cells #[.int .i64 x.op, .slice ao x.operands.length co, .slice asp x.spoils.length csp] 45) := ⟨_, rfl⟩
  have hbw : Below w.heap.size w W := by rw [hW]; exact (Below.refl _ _).alloc (Nat.le_refl _) _
  have zW : w.heap.size < W.heap.size := by rw [hW]; simp
  have t0 := top_at w #[.int .i64 x.op, .slice ao x.operands.length co, .slice asp x.spoils.length csp] 45
  have x0_0 : W.cell? ⟨w.heap.size, 0, none⟩ = some (.int .i64 x.op) := by rw [hW]; exact t0 0
  have x0_1 : W.cell? ⟨w.heap.size, 1, none⟩ = some (.slice ao x.operands.length co) := by rw [hW]; exact t0 1
  have x0_2 : W.cell? ⟨w.heap.size, 2, none⟩ = some (.slice asp x.spoils.length csp) := by rw [hW]; exact t0 2
  have HS : Hid (∀ w', Below W.heap.size W w' → (fun w' => w'.cell? ⟨w.heap.size, 0, none⟩ = some (.int .i64 x.op) ∧ w'.cell? ⟨w.heap.size, 1, none⟩ = some (.slice ao x.operands.length co) ∧ w'.cell? ⟨w.heap.size, 2, none⟩ = some (.slice asp x.spoils.length csp) ∧ Below W.heap.size W w') w') := fun w' hh => ⟨(hh.cell (by simp; omega)).trans x0_0, (hh.cell (by simp; omega)).trans x0_1, (hh.cell (by simp; omega)).trans x0_2, hh⟩
  have HW : Hid (W = w.alloc (.cells #[.int .i64 x.op, .slice ao x.operands.length co, .slice asp x.spoils.length csp] 45)) := hW
  clear hW t0
  have HB : Hid (hasRg x.spoils c n = b) := hb
  clear hb HS
  have hsW := hs.below hbw fun _ _ h => h
  go_enter Try.func95, Try.ntmps95
  go_upto_region 1 with fail
  rw [← HW.out]
  go_wp2
  go_loop [7] (fun i => ∃ k : Nat, k ≤ x.spoils.length ∧ i = .int .i64 k ∧ Hid ((x.spoils.take k).any (rgIs c n) = false)) (fun i => x.spoils.length - (intOf i).toNat)
  case atStart => exact ⟨0, Nat.zero_le _, rfl, rfl⟩
  case round =>
    obtain ⟨k, hk, rfl, HA⟩ := hrel
    by_cases hlt : k < x.spoils.length
    · obtain ⟨b2, off2, rfl, hb2, c0, c1⟩ := rg_cells hsW k hlt
      by_cases h1 : x.spoils[k].cls = c
      · have q1 : (x.spoils[k].cls == c) = true := by simp [h1]
        by_cases h2 : x.spoils[k].n = n
        · have q2 : (x.spoils[k].n == n) = true := by simp [h2]
          have H : Hid (true = b) := by show _ = _; rw [← HB.out]; exact (any_at _ _ _ hlt (by simp [rgIs, h1, h2])).symm
          clear HA h1 h2
          go_wp2
          go_ret
          exact ⟨ret_bool H.out, hbw⟩
        · have q2 : (x.spoils[k].n == n) = false := by simpa using h2
          have H : Hid ((x.spoils.take (k + 1)).any (rgIs c n) = false) := any_snoc _ _ _ hlt HA.out (by simp [rgIs]; intro _ e; exact h2 e.symm)
          clear HA h1 h2
          go_wp2
          go_round
          case rel => exact ⟨k + 1, by omega, by go_num, H⟩
          case measure => simp [intOf]; omega
      · have q1 : (x.spoils[k].cls == c) = false := by simpa using h1
        have H : Hid ((x.spoils.take (k + 1)).any (rgIs c n) = false) := any_snoc _ _ _ hlt HA.out (by simp [rgIs]; intro e; exact absurd e.symm h1)
        clear HA h1
        go_wp2
        go_round
        case rel => exact ⟨k + 1, by omega, by go_num, H⟩
        case measure => simp [intOf]; omega
    · have H : Hid (false = b) := by show _ = _; rw [← HB.out]; exact (any_none _ _ k (by omega) HA.out).symm
      clear HA
      go_wp2
      go_ret
      exact ⟨ret_bool H.out, hbw⟩
end Go.Proofs.Ytjbjnndmpheedaa
namespace Go.Proofs.Ytjbjnndmpheedaa
open Go.RowKit
set_option linter.unusedVariables false

/-- A pair, the way of the reference. -/
def refPairB (r r' : Int) (a b : Opr) (i j : Int) : Bool :=
  if (a.limit == 5 && b.limit == 5 && a.n == b.n) = true then true
  else if ((a.limit == 5 && a.n == j) || (b.limit == 5 && b.n == i)) = true then false
  else (decide (0 ≤ r) && r == r') && meetB a.kind a.value a.late b.kind b.value b.late
def refPair (r r' : Int) (a b : Opr) (i j : Int) : Bool :=
  if a.limit = 5 ∧ b.limit = 5 ∧ a.n = b.n then true
  else if (a.limit = 5 ∧ a.n = j) ∨ (b.limit = 5 ∧ b.n = i) then false
  else decide (0 ≤ r ∧ r = r') && meetB a.kind a.value a.late b.kind b.value b.late

theorem refPair_B (r r' : Int) (a b : Opr) (i j : Int) : refPair r r' a b i j = refPairB r r' a b i j := by
  unfold refPair refPairB
  have e : decide (0 ≤ r ∧ r = r') = (decide (0 ≤ r) && r == r') := by rw [Bool.eq_iff_iff]; simp
  rw [e]
  simp only [Bool.and_eq_true, Bool.or_eq_true, beq_iff_eq, and_assoc]
theorem refPair_eq (values : List Int) (all : List Opr) (a b : Opr) (i j : Int) (ha : classAt values (named all a).value = 0 ∨ classAt values (named all a).value = 1) (hb : classAt values (named all b).value = 0 ∨ classAt values (named all b).value = 1)
    (fa : (named all a).limit = 4 → 0 ≤ (named all a).n ∧ (named all a).n ≤ 9) (fb : (named all b).limit = 4 → 0 ≤ (named all b).n ∧ (named all b).n ≤ 9) :
    pairB values all b a j i = refPair (frI values (named all a)) (frI values (named all b)) a b i j := by
  unfold pairB refPair fixedOf frI
  by_cases h1 : a.limit = 5 ∧ b.limit = 5 ∧ a.n = b.n
  · rw [if_pos ⟨h1.2.1, h1.1, h1.2.2.symm⟩, if_pos h1]
  · rw [if_neg (fun h => h1 ⟨h.2.1, h.1, h.2.2.symm⟩), if_neg h1, meetB_comm]
    by_cases h2 : (a.limit = 5 ∧ a.n = j) ∨ (b.limit = 5 ∧ b.n = i)
    · rw [if_pos h2, if_pos]
      rcases h2 with h | h
      · right; right; simp [reusesB, h]
      · right; left; simp [reusesB, h]
    · rw [if_neg h2]
      cases hm : meetB a.kind a.value a.late b.kind b.value b.late
      · rw [if_pos (Or.inl rfl)]; simp
      · rw [if_neg]
        · generalize named all a = u at *
          generalize named all b = v at *
          by_cases ua : u.limit = 4
          · by_cases vb : v.limit = 4
            · have h3 := fa ua
              have h4 := fb vb
              rw [if_pos ua, if_pos vb, if_pos ua, if_pos vb]
              simp only [Bool.and_true, decide_eq_decide, Prod.mk.injEq]
              omega
            · rw [if_pos ua, if_neg vb, if_pos ua, if_neg vb]
              have h3 := fa ua
              simp only [Bool.and_true]
              symm
              simp only [decide_eq_false_iff_not]
              omega
          · rw [if_neg ua, if_neg ua]
            cases (if v.limit = 4 then some (classAt values v.value, v.n) else none) <;> simp
        · intro h
          rcases h with h | h | h
          · simp at h
          · exact h2 (Or.inr (by simpa [reusesB] using h))
          · exact h2 (Or.inl (by simpa [reusesB] using h))

set_option maxRecDepth 8000 in
set_option maxHeartbeats 16000000 in
theorem clashes_is (values : List Int) (av : Option Addr) (cv : Nat) (vb : Value) (x : Ins) (ao asp : Option Addr) (co csp : Nat) (res : Bool) (hres : clashB values x = res) (w : World) (hv : SlOf w 1 RInt (.slice av values.length cv) values)
    (ho : SlOf w 5 ROpr (.slice ao x.operands.length co) x.operands) (hs : SlOf w 2 RRg (.slice asp x.spoils.length csp) x.spoils)
    (hN : ∀ o ∈ x.operands, o.limit = 5 → 0 ≤ o.n ∧ o.n < (x.operands.length : Int)) (hV : ∀ o ∈ x.operands, isValueB values.length (named x.operands o).value = true)
    (hcl : ∀ v, isValueB values.length v = true → classAt values v = 0 ∨ classAt values v = 1) (hfx : ∀ o ∈ x.operands, (named x.operands o).limit = 4 → 0 ≤ (named x.operands o).n ∧ (named x.operands o).n ≤ 9) (hk12 : ∀ o ∈ x.operands, o.kind = 1 ∨ o.kind = 2) :
    Calls Try.prog 83 #[.agg #[.slice av values.length cv, vb], .agg #[.int .i64 x.op, .slice ao x.operands.length co, .slice asp x.spoils.length csp]] w fun e w' => e = .returned (.bool res) ∧ Below w.heap.size w w' := by
  obtain ⟨_, _, _, lv⟩ := hv.out
  obtain ⟨_, _, _, lo⟩ := ho.out
  obtain ⟨_, _, _, ls⟩ := hs.out
  unfold longest at lv lo ls
  obtain ⟨W, hW⟩ : ∃ W, W = (w.alloc (.cells #[.slice av values.length cv, vb] 25)).alloc (.cells #[.int .i64 x.op, .slice ao x.operands.length co, .slice asp x.spoils.length csp] 45) := ⟨_, rfl⟩
  have hbw : Below w.heap.size w W := by rw [hW]; exact ((Below.refl _ _).alloc (Nat.le_refl _) _).alloc (by simp) _
  have zW : w.heap.size + 1 < W.heap.size := by rw [hW]; simp
  obtain ⟨t0, t1⟩ := two_at w #[.slice av values.length cv, vb] #[.int .i64 x.op, .slice ao x.operands.length co, .slice asp x.spoils.length csp] 25 45
  have f0_0 : W.cell? ⟨w.heap.size, 0, none⟩ = some (.slice av values.length cv) := by rw [hW]; exact t0 0
  have f0_1 : W.cell? ⟨w.heap.size, 1, none⟩ = some (vb) := by rw [hW]; exact t0 1
  have x1_0 : W.cell? ⟨w.heap.size + 1, 0, none⟩ = some (.int .i64 x.op) := by rw [hW]; exact t1 0
  have x1_1 : W.cell? ⟨w.heap.size + 1, 1, none⟩ = some (.slice ao x.operands.length co) := by rw [hW]; exact t1 1
  have x1_2 : W.cell? ⟨w.heap.size + 1, 2, none⟩ = some (.slice asp x.spoils.length csp) := by rw [hW]; exact t1 2
  have HS : Hid (∀ w', Below W.heap.size W w' → (fun w' => w'.cell? ⟨w.heap.size, 0, none⟩ = some (.slice av values.length cv) ∧ w'.cell? ⟨w.heap.size, 1, none⟩ = some (vb) ∧ w'.cell? ⟨w.heap.size + 1, 0, none⟩ = some (.int .i64 x.op) ∧ w'.cell? ⟨w.heap.size + 1, 1, none⟩ = some (.slice ao x.operands.length co) ∧ w'.cell? ⟨w.heap.size + 1, 2, none⟩ = some (.slice asp x.spoils.length csp) ∧ Below W.heap.size W w') w') := fun w' hh => ⟨(hh.cell (by simp; omega)).trans f0_0, (hh.cell (by simp; omega)).trans f0_1, (hh.cell (by simp; omega)).trans x1_0, (hh.cell (by simp; omega)).trans x1_1, (hh.cell (by simp; omega)).trans x1_2, hh⟩
  have HW : Hid (W = (w.alloc (.cells #[.slice av values.length cv, vb] 25)).alloc (.cells #[.int .i64 x.op, .slice ao x.operands.length co, .slice asp x.spoils.length csp] 45)) := hW
  clear hW t0 t1
  have HRES : Hid (clashB values x = res) := hres
  have HN : Hid (∀ o ∈ x.operands, o.limit = 5 → 0 ≤ o.n ∧ o.n < (x.operands.length : Int)) := hN
  have HV : Hid (∀ o ∈ x.operands, isValueB values.length (named x.operands o).value = true) := hV
  have HCL : Hid (∀ v, isValueB values.length v = true → classAt values v = 0 ∨ classAt values v = 1) := hcl
  have HFX : Hid (∀ o ∈ x.operands, (named x.operands o).limit = 4 → 0 ≤ (named x.operands o).n ∧ (named x.operands o).n ≤ 9) := hfx
  have HK12 : Hid (∀ o ∈ x.operands, o.kind = 1 ∨ o.kind = 2) := hk12
  clear hres hN hV hcl hfx hk12
  go_enter Try.func83, Try.ntmps83
  go_upto_region 1 with fail
  rw [← HW.out]
  go_wp2
  go_loopw [5] (fun v wr => ∃ i : Nat, i ≤ x.operands.length ∧ v = .int .i64 i ∧ Below W.heap.size W wr ∧ Hid ((List.range i).any (clashAt values x) = false)) (fun v _ => x.operands.length - (intOf v).toNat)
  case atStart => exact ⟨0, Nat.zero_le _, rfl, Below.refl _ _, rfl⟩
  case round =>
    obtain ⟨i, hi, rfl, hbr, HA⟩ := hrel
    obtain ⟨wo, hwo⟩ : ∃ wo, wo = wr := ⟨_, rfl⟩
    subst hwo
    have hbwr : Below w.heap.size w wo := hbw.trans (hbr.mono hbw.size)
    have zr := hbr.size
    obtain ⟨f0_0', f0_1', x1_0', x1_1', x1_2', _⟩ := HS.out _ hbr
    clear f0_0 f0_1 x1_0 x1_1 x1_2
    by_cases hlt : i < x.operands.length
    · obtain ⟨b5, off5, rfl, hb5, c0, c1, c2, c3, c4⟩ := opr_cells (ho.below hbwr fun _ _ h => h) i hlt
      have hspo := spoilAt_eq values x i hlt
      have hpa : ∀ j (hj : j < x.operands.length), pairAt values x i j = refPair (frI values (named x.operands x.operands[i])) (frI values (named x.operands x.operands[j])) x.operands[i] x.operands[j] i j := fun j hj => by
        rw [pairAt_eq values x i j hj hlt]
        exact refPair_eq values x.operands _ _ _ _ (HCL.out _ (HV.out _ (List.getElem_mem hlt))) (HCL.out _ (HV.out _ (List.getElem_mem hj))) (HFX.out _ (List.getElem_mem hlt)) (HFX.out _ (List.getElem_mem hj))
      have HPA : Hid (∀ j (hj : j < x.operands.length), pairAt values x i j = refPair (frI values (named x.operands x.operands[i])) (frI values (named x.operands x.operands[j])) x.operands[i] x.operands[j] i j) := hpa
      have HSP : Hid (spoilAt values x i = match fixedOf values x.operands x.operands[i] with | some p => (x.operands[i].late || decide (x.operands[i].kind = 2)) && hasRg x.spoils p.1 p.2 | none => false) := hspo
      have hNa := HN.out _ (List.getElem_mem hlt)
      have hVa := HV.out _ (List.getElem_mem hlt)
      have hFa := HFX.out _ (List.getElem_mem hlt)
      have hKa := HK12.out _ (List.getElem_mem hlt)
      clear hspo hpa
      generalize x.operands[i] = a at *
      obtain ⟨W1, hW1⟩ : ∃ W1, W1 = wo.alloc (.cells #[.int .i64 a.kind, .int .i64 a.value, .bool a.late, .int .i64 a.limit, .int .i64 a.n] 78) := ⟨_, rfl⟩
      have hb1 : Below wo.heap.size wo W1 := by rw [hW1]; exact (Below.refl _ _).alloc (Nat.le_refl _) _
      have z1 : wo.heap.size < W1.heap.size := by rw [hW1]; simp
      have t1 := top_at wo #[.int .i64 a.kind, .int .i64 a.value, .bool a.late, .int .i64 a.limit, .int .i64 a.n] 78
      have a_0 : W1.cell? ⟨wo.heap.size, 0, none⟩ = some (.int .i64 a.kind) := by rw [hW1]; exact t1 0
      have a_1 : W1.cell? ⟨wo.heap.size, 1, none⟩ = some (.int .i64 a.value) := by rw [hW1]; exact t1 1
      have a_2 : W1.cell? ⟨wo.heap.size, 2, none⟩ = some (.bool a.late) := by rw [hW1]; exact t1 2
      have a_3 : W1.cell? ⟨wo.heap.size, 3, none⟩ = some (.int .i64 a.limit) := by rw [hW1]; exact t1 3
      have a_4 : W1.cell? ⟨wo.heap.size, 4, none⟩ = some (.int .i64 a.n) := by rw [hW1]; exact t1 4
      have f0_0 := (hb1.cell (p := ⟨_, _, none⟩) (by simp; omega)).trans f0_0'
      have f0_1 := (hb1.cell (p := ⟨_, _, none⟩) (by simp; omega)).trans f0_1'
      have x1_0 := (hb1.cell (p := ⟨_, _, none⟩) (by simp; omega)).trans x1_0'
      have x1_1 := (hb1.cell (p := ⟨_, _, none⟩) (by simp; omega)).trans x1_1'
      have x1_2 := (hb1.cell (p := ⟨_, _, none⟩) (by simp; omega)).trans x1_2'
      have HW1 : Hid (W1 = wo.alloc (.cells #[.int .i64 a.kind, .int .i64 a.value, .bool a.late, .int .i64 a.limit, .int .i64 a.n] 78)) := hW1
      have hbW1 : Below w.heap.size w W1 := hbwr.trans (hb1.mono hbwr.size)
      clear hW1 t1
      obtain ⟨r, hr⟩ : ∃ r, frI values (named x.operands a) = r := ⟨_, rfl⟩
      have HR : Hid (frI values (named x.operands a) = r) := hr
      clear hr
      go_upto_region 5 with fail
      rw [← HW1.out]
      clear f0_0' f0_1' x1_0' x1_1' x1_2' c0 c1 c2 c3 c4
      go_wp2_with fail
      refine (fixedReg_is values _ _ _ x _ _ _ _ a (named x.operands a) rfl r HR.out _ (hv.below hbW1 fun _ _ h => h) (ho.below hbW1 fun _ _ h => h) hNa hVa (HCL.out _ hVa) hFa).mono ?_
      rintro e W2 ⟨rfl, hb2⟩
      have z2 := hb2.size
      have hbW2 : Below w.heap.size w W2 := hbW1.trans (hb2.mono hbW1.size)
      have f0_02 := (hb2.cell (p := ⟨_, _, none⟩) (by simp; omega)).trans f0_0
      have f0_12 := (hb2.cell (p := ⟨_, _, none⟩) (by simp; omega)).trans f0_1
      have x1_02 := (hb2.cell (p := ⟨_, _, none⟩) (by simp; omega)).trans x1_0
      have x1_12 := (hb2.cell (p := ⟨_, _, none⟩) (by simp; omega)).trans x1_1
      have x1_22 := (hb2.cell (p := ⟨_, _, none⟩) (by simp; omega)).trans x1_2
      have a_02 := (hb2.cell (p := ⟨_, _, none⟩) (by simp; omega)).trans a_0
      have a_12 := (hb2.cell (p := ⟨_, _, none⟩) (by simp; omega)).trans a_1
      have a_22 := (hb2.cell (p := ⟨_, _, none⟩) (by simp; omega)).trans a_2
      have a_32 := (hb2.cell (p := ⟨_, _, none⟩) (by simp; omega)).trans a_3
      have a_42 := (hb2.cell (p := ⟨_, _, none⟩) (by simp; omega)).trans a_4
      have HS2 : Hid (∀ w', Below W2.heap.size W2 w' → (fun w' => w'.cell? ⟨w.heap.size, 0, none⟩ = some (.slice av values.length cv) ∧ w'.cell? ⟨w.heap.size, 1, none⟩ = some (vb) ∧ w'.cell? ⟨w.heap.size + 1, 0, none⟩ = some (.int .i64 x.op) ∧ w'.cell? ⟨w.heap.size + 1, 1, none⟩ = some (.slice (some ⟨b5, off5, none⟩) x.operands.length co) ∧ w'.cell? ⟨w.heap.size + 1, 2, none⟩ = some (.slice asp x.spoils.length csp) ∧ w'.cell? ⟨wo.heap.size, 0, none⟩ = some (.int .i64 a.kind) ∧ w'.cell? ⟨wo.heap.size, 1, none⟩ = some (.int .i64 a.value) ∧ w'.cell? ⟨wo.heap.size, 2, none⟩ = some (.bool a.late) ∧ w'.cell? ⟨wo.heap.size, 3, none⟩ = some (.int .i64 a.limit) ∧ w'.cell? ⟨wo.heap.size, 4, none⟩ = some (.int .i64 a.n) ∧ Below W2.heap.size W2 w') w') := fun w' hh => ⟨(hh.cell (by simp; omega)).trans f0_02, (hh.cell (by simp; omega)).trans f0_12, (hh.cell (by simp; omega)).trans x1_02, (hh.cell (by simp; omega)).trans x1_12, (hh.cell (by simp; omega)).trans x1_22, (hh.cell (by simp; omega)).trans a_02, (hh.cell (by simp; omega)).trans a_12, (hh.cell (by simp; omega)).trans a_22, (hh.cell (by simp; omega)).trans a_32, (hh.cell (by simp; omega)).trans a_42, hh⟩
      clear f0_0 f0_1 x1_0 x1_1 x1_2 a_0 a_1 a_2 a_3 a_4
      have hs2 := hs.below hbW2 fun _ _ h => h
      obtain ⟨sp, hsp⟩ : ∃ sp, spoilAt values x i = sp := ⟨_, rfl⟩
      have HSPE : Hid (spoilAt values x i = sp) := hsp
      clear hsp
      go_upto_region 6 with fail
      go_cut [44] (fun v wz => v = .bool sp ∧ Below W2.heap.size W2 wz)
      case first =>
        have hE := HSPE.out
        rw [HSP.out] at hE
        unfold fixedOf at hE
        have hR := HR.out
        unfold frI at hR
        have hca := HCL.out _ hVa
        generalize named x.operands a = u at *
        by_cases h4 : u.limit = 4
        · rw [if_pos h4] at hE hR
          simp only at hE
          have hn := hFa h4
          have g0 : 0 ≤ r := by omega
          have e1 : r.tdiv 100 = classAt values u.value := by rw [Int.tdiv_eq_ediv_of_nonneg g0]; omega
          have e2 : r.tmod 100 = u.n := by rw [Int.tmod_eq_emod_of_nonneg g0]; omega
          have k1 : IntKind.i64.wrap (r.tdiv 100) = r.tdiv 100 := by rw [IntKind.wrap_i64, e1]; omega
          have k2 : IntKind.i64.wrap (r.tmod 100) = r.tmod 100 := by rw [IntKind.wrap_i64, e2]; omega
          have kc : wrap64 (classAt values u.value) = classAt values u.value := by unfold wrap64; omega
          generalize classAt values u.value = cc at *
          clear hR hn h4 hFa hca
          by_cases hlk : a.late = true ∨ a.kind = 2
          · have hlk' : (a.late || decide (a.kind = 2)) = true := by simpa using hlk
            rw [hlk', Bool.true_and] at hE
            have hq : a.late = true ∨ (a.late = false ∧ (a.kind == 2) = true) := by
              cases hl : a.late
              · right; rw [hl] at hlk; simpa using hlk
              · left; rfl
            clear hlk hlk'
            rcases hq with hq | ⟨hq, hq2⟩
            · rw [hq] at a_22
              go_wp2_with fail
              refine (spoilt_is x _ _ _ _ _ _ _ hE _ hs2).mono ?_
              rintro e wz ⟨rfl, hbz⟩
              go_wp2
              go_meet
              exact ⟨rfl, hbz⟩
            · rw [hq] at a_22
              go_wp2_with fail
              refine (spoilt_is x _ _ _ _ _ _ _ hE _ hs2).mono ?_
              rintro e wz ⟨rfl, hbz⟩
              go_wp2
              go_meet
              exact ⟨rfl, hbz⟩
          · have hl : a.late = false := by
              cases h : a.late
              · rfl
              · exact absurd (Or.inl h) hlk
            have hk : (a.kind == 2) = false := by simp; exact fun h => hlk (Or.inr h)
            have hk' : decide (a.kind = 2) = false := by simpa using hk
            rw [hl, hk'] at hE
            simp at hE
            subst hE
            rw [hl] at a_22
            clear hlk hk'
            go_wp2
            go_meet
            exact ⟨rfl, Below.refl _ _⟩
        · rw [if_neg h4] at hE hR
          simp only at hE
          subst hE
          have g0 : ¬ 0 ≤ r := by omega
          clear hR h4
          go_wp2
          go_meet
          exact ⟨rfl, Below.refl _ _⟩
      case rest =>
        obtain ⟨rfl, hbc⟩ := hcut
        obtain ⟨W3, hW3⟩ : ∃ W3, W3 = wc := ⟨_, rfl⟩
        subst hW3
        have hbW3 : Below w.heap.size w W3 := hbW2.trans (hbc.mono hbW2.size)
        cases sp
        case true =>
          have H : Hid (true = res) := by show _ = _; rw [← HRES.out]; exact (clash_at values x i hlt (by unfold clashAt; rw [HSPE.out]; rfl)).symm
          go_wp2
          go_ret
          exact ⟨ret_bool H.out, hbW3⟩
        case false =>
          go_wp2
          go_loopw [8] (fun v wr => ∃ j : Nat, j ≤ i ∧ v = .int .i64 j ∧ Below W2.heap.size W2 wr ∧ Hid ((List.range j).any (pairAt values x i) = false)) (fun v _ => i - (intOf v).toNat)
          case atStart => exact ⟨0, Nat.zero_le _, rfl, hbc, rfl⟩
          case round =>
            obtain ⟨j, hj, rfl, hbq, HB⟩ := hrel
            obtain ⟨wq, hwq⟩ : ∃ wq, wq = wr := ⟨_, rfl⟩
            subst hwq
            have hbwq : Below w.heap.size w wq := hbW2.trans (hbq.mono hbW2.size)
            have zq := hbq.size
            have hcells := HS2.out _ hbq
            clear f0_02 f0_12 x1_02 x1_12 x1_22 a_02 a_12 a_22 a_32 a_42
            obtain ⟨f0_0', f0_1', x1_0', x1_1', x1_2', a_0, a_1, a_2, a_3, a_4, _⟩ := hcells
            by_cases hjl : j < i
            · have hjx : j < x.operands.length := by omega
              obtain ⟨b5', off5', hal, hb5', d0, d1, d2, d3, d4⟩ := opr_cells (ho.below hbwq fun _ _ h => h) j hjx
              simp only [Option.some.injEq, Addr.mk.injEq] at hal
              obtain ⟨rfl, rfl, _⟩ := hal
              have hpj := HPA.out j hjx
              have hNb := HN.out _ (List.getElem_mem hjx)
              have hVb := HV.out _ (List.getElem_mem hjx)
              have hFb := HFX.out _ (List.getElem_mem hjx)
              have hKb := HK12.out _ (List.getElem_mem hjx)
              generalize x.operands[j] = b at *
              obtain ⟨r', hr'⟩ : ∃ r', frI values (named x.operands b) = r' := ⟨_, rfl⟩
              have HR' : Hid (frI values (named x.operands b) = r') := hr'
              have HPJ : Hid (pairAt values x i j = refPairB r r' a b i j) := by show _ = _; rw [hpj, HR.out, hr', refPair_B]
              clear hpj hr'
              obtain ⟨W5, hW5⟩ : ∃ W5, W5 = wq.alloc (.cells #[.int .i64 b.kind, .int .i64 b.value, .bool b.late, .int .i64 b.limit, .int .i64 b.n] 78) := ⟨_, rfl⟩
              have hb5q : Below wq.heap.size wq W5 := by rw [hW5]; exact (Below.refl _ _).alloc (Nat.le_refl _) _
              have z5 : wq.heap.size < W5.heap.size := by rw [hW5]; simp
              have t5 := top_at wq #[.int .i64 b.kind, .int .i64 b.value, .bool b.late, .int .i64 b.limit, .int .i64 b.n] 78
              have b_0 : W5.cell? ⟨wq.heap.size, 0, none⟩ = some (.int .i64 b.kind) := by rw [hW5]; exact t5 0
              have b_1 : W5.cell? ⟨wq.heap.size, 1, none⟩ = some (.int .i64 b.value) := by rw [hW5]; exact t5 1
              have b_2 : W5.cell? ⟨wq.heap.size, 2, none⟩ = some (.bool b.late) := by rw [hW5]; exact t5 2
              have b_3 : W5.cell? ⟨wq.heap.size, 3, none⟩ = some (.int .i64 b.limit) := by rw [hW5]; exact t5 3
              have b_4 : W5.cell? ⟨wq.heap.size, 4, none⟩ = some (.int .i64 b.n) := by rw [hW5]; exact t5 4
              have hbW5 : Below w.heap.size w W5 := hbwq.trans (hb5q.mono hbwq.size)
              have hb25 : Below W2.heap.size W2 W5 := hbq.trans (hb5q.mono hbq.size)
              have HW5 : Hid (W5 = wq.alloc (.cells #[.int .i64 b.kind, .int .i64 b.value, .bool b.late, .int .i64 b.limit, .int .i64 b.n] 78)) := hW5
              clear hW5 t5
              go_upto_region 12 with fail
              rw [← HW5.out]
              clear f0_0' f0_1' x1_0' x1_1' x1_2' d0 d1 d2 d3 d4 a_0 a_1 a_2 a_3 a_4
              obtain ⟨f0_05, f0_15, x1_05, x1_15, x1_25, a_05, a_15, a_25, a_35, a_45, _⟩ := HS2.out _ hb25
              obtain ⟨p1, hp1⟩ : ∃ p1, (a.limit == 5 && b.limit == 5 && a.n == b.n) = p1 := ⟨_, rfl⟩
              obtain ⟨p2, hp2⟩ : ∃ p2, ((a.limit == 5 && a.n == (j : Int)) || (b.limit == 5 && b.n == (i : Int))) = p2 := ⟨_, rfl⟩
              obtain ⟨p3, hp3⟩ : ∃ p3, ((decide (0 ≤ r) && r == r') && meetB a.kind a.value a.late b.kind b.value b.late) = p3 := ⟨_, rfl⟩
              have HPP : Hid (pairAt values x i j = if p1 = true then true else if p2 = true then false else p3) := by
                show _ = _
                rw [HPJ.out]
                unfold refPairB
                rw [hp1, hp2, hp3]
              have HP1 : Hid ((a.limit == 5 && b.limit == 5 && a.n == b.n) = p1) := hp1
              have HP2 : Hid (((a.limit == 5 && a.n == (j : Int)) || (b.limit == 5 && b.n == (i : Int))) = p2) := hp2
              have HP3 : Hid (((decide (0 ≤ r) && r == r') && meetB a.kind a.value a.late b.kind b.value b.late) = p3) := hp3
              clear hp1 hp2 hp3 HPJ
              go_cut [69] (fun v wz => v = .bool p1 ∧ wz = W5)
              case first =>
                have hp := HP1.out
                cases ha : (a.limit == 5)
                · rw [ha] at hp
                  simp at hp
                  subst hp
                  go_wp2
                  go_meet
                  exact ⟨rfl, rfl⟩
                · cases hb : (b.limit == 5)
                  · rw [ha, hb] at hp
                    simp at hp
                    subst hp
                    go_wp2
                    go_meet
                    exact ⟨rfl, rfl⟩
                  · cases hc : (a.n == b.n)
                    · rw [ha, hb, hc] at hp
                      simp at hp
                      subst hp
                      go_wp2
                      go_meet
                      exact ⟨rfl, rfl⟩
                    · rw [ha, hb, hc] at hp
                      simp at hp
                      subst hp
                      go_wp2
                      go_meet
                      exact ⟨rfl, rfl⟩
              case rest =>
                obtain ⟨rfl, hwc⟩ := hcut
                subst hwc
                cases p1
                case true =>
                  have H : Hid (true = res) := by show _ = _; rw [← HRES.out]; exact (clash_at values x i hlt (by unfold clashAt; rw [Bool.or_eq_true]; right; exact List.any_eq_true.2 ⟨j, by simpa using hjl, by rw [HPP.out]; rfl⟩)).symm
                  go_wp2
                  go_ret
                  exact ⟨ret_bool H.out, hbW5⟩
                case false =>
                  go_upto_region 14 with fail
                  go_cut [89] (fun v wz => v = .bool p2 ∧ wz = wc)
                  case first =>
                    have hp := HP2.out
                    cases ha : (a.limit == 5)
                    · cases hb : (b.limit == 5)
                      · rw [ha, hb] at hp
                        simp at hp
                        subst hp
                        go_wp2
                        go_meet
                        exact ⟨rfl, rfl⟩
                      · cases hd : (b.n == (i : Int))
                        · rw [ha, hb, hd] at hp
                          simp at hp
                          subst hp
                          go_wp2
                          go_meet
                          exact ⟨rfl, rfl⟩
                        · rw [ha, hb, hd] at hp
                          simp at hp
                          subst hp
                          go_wp2
                          go_meet
                          exact ⟨rfl, rfl⟩
                    · cases hc : (a.n == (j : Int))
                      · cases hb : (b.limit == 5)
                        · rw [ha, hc, hb] at hp
                          simp at hp
                          subst hp
                          go_wp2
                          go_meet
                          exact ⟨rfl, rfl⟩
                        · cases hd : (b.n == (i : Int))
                          · rw [ha, hc, hb, hd] at hp
                            simp at hp
                            subst hp
                            go_wp2
                            go_meet
                            exact ⟨rfl, rfl⟩
                          · rw [ha, hc, hb, hd] at hp
                            simp at hp
                            subst hp
                            go_wp2
                            go_meet
                            exact ⟨rfl, rfl⟩
                      · rw [ha, hc] at hp
                        simp at hp
                        subst hp
                        go_wp2
                        go_meet
                        exact ⟨rfl, rfl⟩
                  case rest =>
                    obtain ⟨rfl, hwc⟩ := hcut
                    subst hwc
                    cases p2
                    case true =>
                      have H : Hid ((List.range (j + 1)).any (pairAt values x i) = false) := range_snoc _ _ HB.out (by rw [HPP.out]; rfl)
                      go_wp2
                      go_roundw
                      case rel => exact ⟨j + 1, by omega, by go_num, hb25, H⟩
                      case measure => simp [intOf]; omega
                    case false =>
                      go_upto_region 15 with fail
                      go_cut [104] (fun v wz => v = .bool p3 ∧ Below wc.heap.size wc wz)
                      case first =>
                        have hp := HP3.out
                        by_cases hr0 : 0 ≤ r
                        · have hrd : decide (0 ≤ r) = true := by simpa using hr0
                          rw [hrd] at hp
                          clear hrd
                          go_wp2_with fail
                          refine (fixedReg_is values _ _ _ x _ _ _ _ b (named x.operands b) rfl r' HR'.out _ (hv.below hbW5 fun _ _ h => h) (ho.below hbW5 fun _ _ h => h) hNb hVb (HCL.out _ hVb) hFb).mono ?_
                          rintro e w6 ⟨rfl, hb6⟩
                          have z6 := hb6.size
                          have a_06 := (hb6.cell (p := ⟨_, _, none⟩) (by simp; omega)).trans a_05
                          have a_16 := (hb6.cell (p := ⟨_, _, none⟩) (by simp; omega)).trans a_15
                          have a_26 := (hb6.cell (p := ⟨_, _, none⟩) (by simp; omega)).trans a_25
                          have a_36 := (hb6.cell (p := ⟨_, _, none⟩) (by simp; omega)).trans a_35
                          have a_46 := (hb6.cell (p := ⟨_, _, none⟩) (by simp; omega)).trans a_45
                          have b_06 := (hb6.cell (p := ⟨_, _, none⟩) (by simp; omega)).trans b_0
                          have b_16 := (hb6.cell (p := ⟨_, _, none⟩) (by simp; omega)).trans b_1
                          have b_26 := (hb6.cell (p := ⟨_, _, none⟩) (by simp; omega)).trans b_2
                          have b_36 := (hb6.cell (p := ⟨_, _, none⟩) (by simp; omega)).trans b_3
                          have b_46 := (hb6.cell (p := ⟨_, _, none⟩) (by simp; omega)).trans b_4
                          cases he : (r == r')
                          · rw [he] at hp
                            simp at hp
                            subst hp
                            go_wp2
                            go_meet
                            exact ⟨rfl, hb6⟩
                          · rw [he] at hp
                            simp only [Bool.and_self, Bool.true_and] at hp
                            go_wp2_with fail
                            refine (apart_is a b p3 hp hKa hKb _).mono ?_
                            rintro e w7 ⟨rfl, hb7⟩
                            go_wp2
                            go_meet
                            exact ⟨rfl, hb6.trans (hb7.mono hb6.size)⟩
                        · have hrd : decide (0 ≤ r) = false := by simpa using hr0
                          rw [hrd] at hp
                          simp at hp
                          subst hp
                          clear hrd
                          go_wp2
                          go_meet
                          exact ⟨rfl, Below.refl _ _⟩
                      case rest =>
                        obtain ⟨rfl, hbz⟩ := hcut
                        obtain ⟨w9, hw9⟩ : ∃ w9, w9 = wc := ⟨_, rfl⟩
                        subst hw9
                        have hbW9 : Below w.heap.size w w9 := hbW5.trans (hbz.mono hbW5.size)
                        have hb29 : Below W2.heap.size W2 w9 := hb25.trans (hbz.mono hb25.size)
                        cases p3
                        case true =>
                          have H : Hid (true = res) := by show _ = _; rw [← HRES.out]; exact (clash_at values x i hlt (by unfold clashAt; rw [Bool.or_eq_true]; right; exact List.any_eq_true.2 ⟨j, by simpa using hjl, by rw [HPP.out]; rfl⟩)).symm
                          go_wp2
                          go_ret
                          exact ⟨ret_bool H.out, hbW9⟩
                        case false =>
                          have H : Hid ((List.range (j + 1)).any (pairAt values x i) = false) := range_snoc _ _ HB.out (by rw [HPP.out]; rfl)
                          go_wp2
                          go_roundw
                          case rel => exact ⟨j + 1, by omega, by go_num, hb29, H⟩
                          case measure => simp [intOf]; omega
            · have H : Hid ((List.range (i + 1)).any (clashAt values x) = false) := range_snoc _ _ HA.out (clashAt_no values x i j (by omega) HB.out HSPE.out)
              go_wp2
              go_roundw
              case rel => exact ⟨i + 1, by omega, by go_num, (hbr.trans (hb1.mono zr)).trans ((hb2.mono (by omega)).trans (hbq.mono (by omega))), H⟩
              case measure => simp [intOf]; omega
    · have H : Hid (false = res) := by
        show _ = _
        rw [← HRES.out]
        have : i = x.operands.length := by omega
        subst this
        exact HA.out.symm
      clear HA
      go_wp2
      go_ret
      exact ⟨ret_bool H.out, hbwr⟩
end Go.Proofs.Ytjbjnndmpheedaa
