/-
  The contracts of the reference's 'Apart', 'fixedReg' and 'spoilt'.
-/
import Derived.Test.YtnghhhlcifpiaaaRefD
import Derived.Test.YtnghhhlcifpiaaaClash
import Derived.Deep.DeepCutAuto
import Derived.Deep.CutBlock
namespace Go.Proofs.Ytnghhhlcifpiaaa
open Go.RowKit
set_option linter.unusedVariables false

theorem apart_any (k1 v1 : Int) (l1 : Bool) (m1 n1 k2 v2 : Int) (l2 : Bool) (m2 n2 : Int) (h1 : k1 = 1 ∨ k1 = 2) (h2 : k2 = 1 ∨ k2 = 2) (w : World) :
    Calls Try.prog 54 #[.agg #[.int .i64 k1, .int .i64 v1, .bool l1, .int .i64 m1, .int .i64 n1], .agg #[.int .i64 k2, .int .i64 v2, .bool l2, .int .i64 m2, .int .i64 n2]] w fun e w' => e = .returned (.bool (meetB k1 v1 l1 k2 v2 l2)) ∧ Below w.heap.size w w' := by
  obtain ⟨W, hW⟩ : ∃ W, W = (w.alloc (.cells #[.int .i64 k1, .int .i64 v1, .bool l1, .int .i64 m1, .int .i64 n1] 52)).alloc (.cells #[.int .i64 k2, .int .i64 v2, .bool l2, .int .i64 m2, .int .i64 n2] 52) := ⟨_, rfl⟩
  have hbw : Below w.heap.size w W := by rw [hW]; exact ((Below.refl _ _).alloc (Nat.le_refl _) _).alloc (by simp) _
  have zW : w.heap.size + 1 < W.heap.size := by rw [hW]; simp
  obtain ⟨t0, t1⟩ := two_at w #[.int .i64 k1, .int .i64 v1, .bool l1, .int .i64 m1, .int .i64 n1] #[.int .i64 k2, .int .i64 v2, .bool l2, .int .i64 m2, .int .i64 n2] 52 52
  have o0_0 : W.cell? ⟨w.heap.size, 0, none⟩ = some (.int .i64 k1) := by rw [hW]; exact t0 0
  have o0_1 : W.cell? ⟨w.heap.size, 1, none⟩ = some (.int .i64 v1) := by rw [hW]; exact t0 1
  have o0_2 : W.cell? ⟨w.heap.size, 2, none⟩ = some (.bool l1) := by rw [hW]; exact t0 2
  have o0_3 : W.cell? ⟨w.heap.size, 3, none⟩ = some (.int .i64 m1) := by rw [hW]; exact t0 3
  have o0_4 : W.cell? ⟨w.heap.size, 4, none⟩ = some (.int .i64 n1) := by rw [hW]; exact t0 4
  have o1_0 : W.cell? ⟨w.heap.size + 1, 0, none⟩ = some (.int .i64 k2) := by rw [hW]; exact t1 0
  have o1_1 : W.cell? ⟨w.heap.size + 1, 1, none⟩ = some (.int .i64 v2) := by rw [hW]; exact t1 1
  have o1_2 : W.cell? ⟨w.heap.size + 1, 2, none⟩ = some (.bool l2) := by rw [hW]; exact t1 2
  have o1_3 : W.cell? ⟨w.heap.size + 1, 3, none⟩ = some (.int .i64 m2) := by rw [hW]; exact t1 3
  have o1_4 : W.cell? ⟨w.heap.size + 1, 4, none⟩ = some (.int .i64 n2) := by rw [hW]; exact t1 4
  have HS : Hid (∀ w', Below W.heap.size W w' → (fun w' => w'.cell? ⟨w.heap.size, 0, none⟩ = some (.int .i64 k1) ∧ w'.cell? ⟨w.heap.size, 1, none⟩ = some (.int .i64 v1) ∧ w'.cell? ⟨w.heap.size, 2, none⟩ = some (.bool l1) ∧ w'.cell? ⟨w.heap.size, 3, none⟩ = some (.int .i64 m1) ∧ w'.cell? ⟨w.heap.size, 4, none⟩ = some (.int .i64 n1) ∧ w'.cell? ⟨w.heap.size + 1, 0, none⟩ = some (.int .i64 k2) ∧ w'.cell? ⟨w.heap.size + 1, 1, none⟩ = some (.int .i64 v2) ∧ w'.cell? ⟨w.heap.size + 1, 2, none⟩ = some (.bool l2) ∧ w'.cell? ⟨w.heap.size + 1, 3, none⟩ = some (.int .i64 m2) ∧ w'.cell? ⟨w.heap.size + 1, 4, none⟩ = some (.int .i64 n2) ∧ Below W.heap.size W w') w') := fun w' hh => ⟨(hh.cell (by simp; omega)).trans o0_0, (hh.cell (by simp; omega)).trans o0_1, (hh.cell (by simp; omega)).trans o0_2, (hh.cell (by simp; omega)).trans o0_3, (hh.cell (by simp; omega)).trans o0_4, (hh.cell (by simp; omega)).trans o1_0, (hh.cell (by simp; omega)).trans o1_1, (hh.cell (by simp; omega)).trans o1_2, (hh.cell (by simp; omega)).trans o1_3, (hh.cell (by simp; omega)).trans o1_4, hh⟩
  have HW : Hid (W = (w.alloc (.cells #[.int .i64 k1, .int .i64 v1, .bool l1, .int .i64 m1, .int .i64 n1] 52)).alloc (.cells #[.int .i64 k2, .int .i64 v2, .bool l2, .int .i64 m2, .int .i64 n2] 52)) := hW
  clear hW t0 t1
  clear HS
  have L0 := old_cell w.heap.size
  have L1 := old_cell (w.heap.size + 1)
  have z0 : w.heap.size < W.heap.size := by omega
  have z0' : w.heap.size < W.heap.size + 1 := by omega
  have z1' : w.heap.size + 1 < W.heap.size + 1 := by omega
  rcases h1 with rfl | rfl
  · rcases h2 with rfl | rfl
    · have E : Hid ((v1 != v2) = meetB 1 v1 l1 1 v2 l2) := by show _ = _; simp [meetB]
      go_enter Try.func54, Try.ntmps54
      go_upto_region 1 with fail
      rw [← HW.out]
      go_wp2
      go_ret
      exact ⟨ret_bool E.out, (by first | exact hbw | exact hbw.alloc hbw.size _ | exact (hbw.alloc hbw.size _).alloc (by have := hbw.size; simp; omega) _)⟩
    · have E : Hid ((l1 || !l2) = meetB 1 v1 l1 2 v2 l2) := by show _ = _; simp [meetB]
      cases l1
      · go_enter Try.func54, Try.ntmps54
        go_upto_region 1 with fail
        rw [← HW.out]
        go_wp2
        go_ret
        exact ⟨ret_bool (by rw [← E.out]; simp), (by first | exact hbw | exact hbw.alloc hbw.size _ | exact (hbw.alloc hbw.size _).alloc (by have := hbw.size; simp; omega) _)⟩
      · go_enter Try.func54, Try.ntmps54
        go_upto_region 1 with fail
        rw [← HW.out]
        go_wp2
        go_ret
        exact ⟨ret_bool (by rw [← E.out]; simp), (by first | exact hbw | exact hbw.alloc hbw.size _ | exact (hbw.alloc hbw.size _).alloc (by have := hbw.size; simp; omega) _)⟩
  · rcases h2 with rfl | rfl
    · have E : Hid ((l2 || !l1) = meetB 2 v1 l1 1 v2 l2) := by show _ = _; simp [meetB]
      cases l2
      · go_enter Try.func54, Try.ntmps54
        go_upto_region 1 with fail
        rw [← HW.out]
        go_wp2
        go_ret
        exact ⟨ret_bool (by rw [← E.out]; simp), (by first | exact hbw | exact hbw.alloc hbw.size _ | exact (hbw.alloc hbw.size _).alloc (by have := hbw.size; simp; omega) _)⟩
      · go_enter Try.func54, Try.ntmps54
        go_upto_region 1 with fail
        rw [← HW.out]
        go_wp2
        go_ret
        exact ⟨ret_bool (by rw [← E.out]; simp), (by first | exact hbw | exact hbw.alloc hbw.size _ | exact (hbw.alloc hbw.size _).alloc (by have := hbw.size; simp; omega) _)⟩
    · have E : Hid (true = meetB 2 v1 l1 2 v2 l2) := by show _ = _; simp [meetB]
      go_enter Try.func54, Try.ntmps54
      go_upto_region 1 with fail
      rw [← HW.out]
      go_wp2
      go_ret
      exact ⟨ret_bool E.out, (by first | exact hbw | exact hbw.alloc hbw.size _ | exact (hbw.alloc hbw.size _).alloc (by have := hbw.size; simp; omega) _)⟩

theorem apart_is (a b : Opr) (r : Bool) (h : meetB a.kind a.value a.late b.kind b.value b.late = r) (h1 : a.kind = 1 ∨ a.kind = 2) (h2 : b.kind = 1 ∨ b.kind = 2) (w : World) :
    Calls Try.prog 54 #[.agg #[.int .i64 a.kind, .int .i64 a.value, .bool a.late, .int .i64 a.limit, .int .i64 a.n], .agg #[.int .i64 b.kind, .int .i64 b.value, .bool b.late, .int .i64 b.limit, .int .i64 b.n]] w fun e w' => e = .returned (.bool r) ∧ Below w.heap.size w w' := by
  rw [← h]; exact apart_any _ _ _ _ _ _ _ _ _ _ h1 h2 w

/-- What the reference holds for a fixed register: 100 times its class, and its number; -1: none. -/
def frI (values : List Int) (u : Opr) : Int := if u.limit = 4 then 100 * classAt values u.value + u.n else -1

set_option maxHeartbeats 8000000 in
theorem fixedReg_is (values : List Int) (av : Option Addr) (cv : Nat) (vb : Value) (x : Ins) (ao asp : Option Addr) (co csp : Nat) (o u : Opr) (hu : named x.operands o = u) (r : Int) (hr : frI values u = r) (w : World) (hv : SlOf w 1 RInt (.slice av values.length cv) values)
    (ho : SlOf w 5 ROpr (.slice ao x.operands.length co) x.operands) (hN : o.limit = 5 → 0 ≤ o.n ∧ o.n < (x.operands.length : Int)) (hval : isValueB values.length u.value = true) (hcl : classAt values u.value = 0 ∨ classAt values u.value = 1) (hfx : u.limit = 4 → 0 ≤ u.n ∧ u.n ≤ 9) :
    Calls Try.prog 52 #[.agg #[.slice av values.length cv, vb], .agg #[.int .i64 x.op, .slice ao x.operands.length co, .slice asp x.spoils.length csp], .agg #[.int .i64 o.kind, .int .i64 o.value, .bool o.late, .int .i64 o.limit, .int .i64 o.n]] w fun e w' => e = .returned (.int .i64 r) ∧ Below w.heap.size w w' := by
  obtain ⟨_, _, _, lv⟩ := hv.out
  obtain ⟨_, _, _, lo⟩ := ho.out
  unfold longest at lv lo
  obtain ⟨W, hW⟩ : ∃ W, W = (w.alloc (.cells #[.slice av values.length cv, vb] 31)).alloc (.cells #[.int .i64 x.op, .slice ao x.operands.length co, .slice asp x.spoils.length csp] 46) := ⟨_, rfl⟩
  have hbw : Below w.heap.size w W := by rw [hW]; exact ((Below.refl _ _).alloc (Nat.le_refl _) _).alloc (by simp) _
  have zW : w.heap.size + 1 < W.heap.size := by rw [hW]; simp
  obtain ⟨t0, t1⟩ := two_at w #[.slice av values.length cv, vb] #[.int .i64 x.op, .slice ao x.operands.length co, .slice asp x.spoils.length csp] 31 46
  have f0_0 : W.cell? ⟨w.heap.size, 0, none⟩ = some (.slice av values.length cv) := by rw [hW]; exact t0 0
  have f0_1 : W.cell? ⟨w.heap.size, 1, none⟩ = some (vb) := by rw [hW]; exact t0 1
  have x1_0 : W.cell? ⟨w.heap.size + 1, 0, none⟩ = some (.int .i64 x.op) := by rw [hW]; exact t1 0
  have x1_1 : W.cell? ⟨w.heap.size + 1, 1, none⟩ = some (.slice ao x.operands.length co) := by rw [hW]; exact t1 1
  have x1_2 : W.cell? ⟨w.heap.size + 1, 2, none⟩ = some (.slice asp x.spoils.length csp) := by rw [hW]; exact t1 2
  have HS : Hid (∀ w', Below W.heap.size W w' → (fun w' => w'.cell? ⟨w.heap.size, 0, none⟩ = some (.slice av values.length cv) ∧ w'.cell? ⟨w.heap.size, 1, none⟩ = some (vb) ∧ w'.cell? ⟨w.heap.size + 1, 0, none⟩ = some (.int .i64 x.op) ∧ w'.cell? ⟨w.heap.size + 1, 1, none⟩ = some (.slice ao x.operands.length co) ∧ w'.cell? ⟨w.heap.size + 1, 2, none⟩ = some (.slice asp x.spoils.length csp) ∧ Below W.heap.size W w') w') := fun w' hh => ⟨(hh.cell (by simp; omega)).trans f0_0, (hh.cell (by simp; omega)).trans f0_1, (hh.cell (by simp; omega)).trans x1_0, (hh.cell (by simp; omega)).trans x1_1, (hh.cell (by simp; omega)).trans x1_2, hh⟩
  have HW : Hid (W = (w.alloc (.cells #[.slice av values.length cv, vb] 31)).alloc (.cells #[.int .i64 x.op, .slice ao x.operands.length co, .slice asp x.spoils.length csp] 46)) := hW
  clear hW t0 t1
  have HZ : Hid (W.heap.size = w.heap.size + 1 + 1) := by show _ = _; rw [HW.out]; simp
  unfold frI at hr
  by_cases h5 : o.limit = 5
  · have q5 : (o.limit == 5) = true := by simp [h5]
    obtain ⟨n0, n1⟩ := hN h5
    have hlt : o.n.toNat < x.operands.length := by omega
    unfold named at hu
    rw [if_pos h5] at hu
    have hu' : x.operands[o.n.toNat] = u := by rw [← hu]; simp [List.getD, List.getElem?_eq_getElem hlt]
    obtain ⟨b5, off5, rfl, hb5, c0, c1, c2, c3, c4⟩ := opr_cells (ho.below hbw fun _ _ h => h) _ hlt
    rw [hu'] at c0 c1 c2 c3 c4
    clear hu hu' h5 hN
    have L5 := old_cell b5
    have LX := old_cell (w.heap.size + 1)
    go_enter Try.func52, Try.ntmps52
    go_upto_region 1 with fail
    rw [← HW.out, ← HZ.out]
    go_upto_region 3 with fail
    clear c0 c1 c2 c3 c4
    obtain ⟨W3, hW3⟩ : ∃ W3, W3 = W.alloc (.cells #[.int .i64 u.kind, .int .i64 u.value, .bool u.late, .int .i64 u.limit, .int .i64 u.n] 52) := ⟨_, rfl⟩
    have hb3 : Below W.heap.size W W3 := by rw [hW3]; exact (Below.refl _ _).alloc (Nat.le_refl _) _
    have z3 : W.heap.size < W3.heap.size := by rw [hW3]; simp
    have t3 := top_at W #[.int .i64 u.kind, .int .i64 u.value, .bool u.late, .int .i64 u.limit, .int .i64 u.n] 52
    have u_0 : W3.cell? ⟨W.heap.size, 0, none⟩ = some (.int .i64 u.kind) := by rw [hW3]; exact t3 0
    have u_1 : W3.cell? ⟨W.heap.size, 1, none⟩ = some (.int .i64 u.value) := by rw [hW3]; exact t3 1
    have u_2 : W3.cell? ⟨W.heap.size, 2, none⟩ = some (.bool u.late) := by rw [hW3]; exact t3 2
    have u_3 : W3.cell? ⟨W.heap.size, 3, none⟩ = some (.int .i64 u.limit) := by rw [hW3]; exact t3 3
    have u_4 : W3.cell? ⟨W.heap.size, 4, none⟩ = some (.int .i64 u.n) := by rw [hW3]; exact t3 4
    obtain ⟨f0_0', f0_1', x1_0', x1_1', x1_2', _⟩ := HS.out _ hb3
    have z3' : w.heap.size + 1 + 1 < W3.heap.size := by have := HZ.out; omega
    have HS3 : Hid (∀ w', Below W3.heap.size W3 w' → (fun w' => w'.cell? ⟨w.heap.size, 0, none⟩ = some (.slice av values.length cv) ∧ w'.cell? ⟨w.heap.size, 1, none⟩ = some (vb) ∧ w'.cell? ⟨w.heap.size + 1, 0, none⟩ = some (.int .i64 x.op) ∧ w'.cell? ⟨w.heap.size + 1, 1, none⟩ = some (.slice (some ⟨b5, off5, none⟩) x.operands.length co) ∧ w'.cell? ⟨w.heap.size + 1, 2, none⟩ = some (.slice asp x.spoils.length csp) ∧ w'.cell? ⟨W.heap.size, 0, none⟩ = some (.int .i64 u.kind) ∧ w'.cell? ⟨W.heap.size, 1, none⟩ = some (.int .i64 u.value) ∧ w'.cell? ⟨W.heap.size, 2, none⟩ = some (.bool u.late) ∧ w'.cell? ⟨W.heap.size, 3, none⟩ = some (.int .i64 u.limit) ∧ w'.cell? ⟨W.heap.size, 4, none⟩ = some (.int .i64 u.n) ∧ Below W3.heap.size W3 w') w') := fun w' hh => ⟨(hh.cell (by simp; omega)).trans f0_0', (hh.cell (by simp; omega)).trans f0_1', (hh.cell (by simp; omega)).trans x1_0', (hh.cell (by simp; omega)).trans x1_1', (hh.cell (by simp; omega)).trans x1_2', (hh.cell (by simp; omega)).trans u_0, (hh.cell (by simp; omega)).trans u_1, (hh.cell (by simp; omega)).trans u_2, (hh.cell (by simp; omega)).trans u_3, (hh.cell (by simp; omega)).trans u_4, hh⟩
    have hbW3 : Below w.heap.size w W3 := hbw.trans (hb3.mono hbw.size)
    have hv3 := hv.below hbW3 fun _ _ h => h
    have hb3d : Below W3.heap.size W3 W3.drew := (Below.refl _ _).drew
    rw [← hW3]
    clear hW3 t3 f0_0 f0_1 x1_0 x1_1 x1_2 hb3
    by_cases h4 : u.limit = 4
    · have q4 : (u.limit != 4) = false := by simp [h4]
      obtain ⟨hn0, hn9⟩ := hfx h4
      rw [if_pos h4] at hr
      have hvd := hv3.below hb3d fun _ _ h => h
      go_upto_region 5 with fail
      refine wp_region_X (fun w' => w'.cell? ⟨w.heap.size, 0, none⟩ = some (.slice av values.length cv) ∧ w'.cell? ⟨w.heap.size, 1, none⟩ = some (vb) ∧ w'.cell? ⟨w.heap.size + 1, 0, none⟩ = some (.int .i64 x.op) ∧ w'.cell? ⟨w.heap.size + 1, 1, none⟩ = some (.slice (some ⟨b5, off5, none⟩) x.operands.length co) ∧ w'.cell? ⟨w.heap.size + 1, 2, none⟩ = some (.slice asp x.spoils.length csp) ∧ w'.cell? ⟨W.heap.size, 0, none⟩ = some (.int .i64 u.kind) ∧ w'.cell? ⟨W.heap.size, 1, none⟩ = some (.int .i64 u.value) ∧ w'.cell? ⟨W.heap.size, 2, none⟩ = some (.bool u.late) ∧ w'.cell? ⟨W.heap.size, 3, none⟩ = some (.int .i64 u.limit) ∧ w'.cell? ⟨W.heap.size, 4, none⟩ = some (.int .i64 u.n) ∧ Below W3.heap.size W3 w') 99 (by kernel_rfl) (HS3.out _ hb3d) (fun hHeld => ?_)
      refine wpX_takeg0 (v := ?_) (by kernel_rfl) (fun _ _ _ h => h) (by rfl) ?_ hHeld ?_
      rotate_left
      · intro w' hSw
        go_simp <;> with_reducible rfl
      try simp only [Act.put, List.setIfInBounds_toArray, List.set_cons_zero, List.set_cons_succ]
      refine wpX_takeg1 (v := ?_) (by kernel_rfl) (fun _ _ _ h => h) (by rfl) ?_ hHeld ?_
      rotate_left
      · intro w' hSw
        go_simp <;> with_reducible rfl
      try simp only [Act.put, List.setIfInBounds_toArray, List.set_cons_zero, List.set_cons_succ]
      refine wpX_takeg2 (v := ?_) (by kernel_rfl) (fun _ _ _ h => h) (by rfl) ?_ hHeld ?_
      rotate_left
      · intro w' hSw
        go_simp <;> with_reducible rfl
      try simp only [Act.put, List.setIfInBounds_toArray, List.set_cons_zero, List.set_cons_succ]
      refine wpX_takeg5 (v := ?_) (by kernel_rfl) (fun _ _ _ h => h) (by rfl) ?_ hHeld ?_
      rotate_left
      · intro w' hSw
        go_simp <;> with_reducible rfl
      try simp only [Act.put, List.setIfInBounds_toArray, List.set_cons_zero, List.set_cons_succ]
      refine wpX_takeg6 (v := ?_) (by kernel_rfl) (fun _ _ _ h => h) (by rfl) ?_ hHeld ?_
      rotate_left
      · intro w' hSw
        go_simp <;> with_reducible rfl
      try simp only [Act.put, List.setIfInBounds_toArray, List.set_cons_zero, List.set_cons_succ]
      rcases hcl with hc | hc
      · have e4 : r = u.n := by rw [← hr, hc]; omega
        have jw : IntKind.i64.wrap u.n = u.n := by rw [IntKind.wrap_i64]; omega
        refine wpX_step3 (by kernel_rfl) (fun K hK => ?_)
        go_simp
        refine (classOf_b values _ _ _ _ _ hc _ hvd hval).mono ?_
        rintro e wn ⟨rfl, hbn0⟩
        have hbn : Below W3.heap.size W3 wn := hb3d.trans (hbn0.mono hb3d.size)
        refine hK.out _ _ (HS3.out _ hbn) (fun hHeld => ?_)
        clear hK K
        try simp only [Act.put, List.setIfInBounds_toArray, List.set_cons_zero, List.set_cons_succ]
        refine wpX_takeg4 (v := ?_) (by kernel_rfl) (fun _ _ _ h => h) (by rfl) ?_ hHeld ?_
        rotate_left
        · intro w' hSw
          go_simp <;> with_reducible rfl
        try simp only [Act.put, List.setIfInBounds_toArray, List.set_cons_zero, List.set_cons_succ]
        refine wpX_takeg7 (v := ?_) (by kernel_rfl) (fun _ _ _ h => h) (by rfl) ?_ hHeld ?_
        rotate_left
        · intro w' hSw
          go_simp <;> with_reducible rfl
        try simp only [Act.put, List.setIfInBounds_toArray, List.set_cons_zero, List.set_cons_succ]
        refine wpX_step8 (by kernel_rfl) (fun K hK => ?_)
        go_simp
        refine hK.out _ _ (HS3.out _ hbn) (fun hHeld => ?_)
        clear hK K
        try simp only [Act.put, List.setIfInBounds_toArray, List.set_cons_zero, List.set_cons_succ]
        refine wpAnyX_done (by kernel_rfl) ?_ _
        subst e4
        go_wp2
        go_ret
        refine ⟨ret_int ?_, hbW3.trans (hbn.mono hbW3.size)⟩
        rw [IntKind.wrap_i64, IntKind.wrap_i64]
        omega
      · have e4 : r = 100 + u.n := by rw [← hr, hc]; omega
        have jw : IntKind.i64.wrap (100 + u.n) = 100 + u.n := by rw [IntKind.wrap_i64]; omega
        refine wpX_step3 (by kernel_rfl) (fun K hK => ?_)
        go_simp
        refine (classOf_b values _ _ _ _ _ hc _ hvd hval).mono ?_
        rintro e wn ⟨rfl, hbn0⟩
        have hbn : Below W3.heap.size W3 wn := hb3d.trans (hbn0.mono hb3d.size)
        refine hK.out _ _ (HS3.out _ hbn) (fun hHeld => ?_)
        clear hK K
        try simp only [Act.put, List.setIfInBounds_toArray, List.set_cons_zero, List.set_cons_succ]
        refine wpX_takeg4 (v := ?_) (by kernel_rfl) (fun _ _ _ h => h) (by rfl) ?_ hHeld ?_
        rotate_left
        · intro w' hSw
          go_simp <;> with_reducible rfl
        try simp only [Act.put, List.setIfInBounds_toArray, List.set_cons_zero, List.set_cons_succ]
        refine wpX_takeg7 (v := ?_) (by kernel_rfl) (fun _ _ _ h => h) (by rfl) ?_ hHeld ?_
        rotate_left
        · intro w' hSw
          go_simp <;> with_reducible rfl
        try simp only [Act.put, List.setIfInBounds_toArray, List.set_cons_zero, List.set_cons_succ]
        refine wpX_step8 (by kernel_rfl) (fun K hK => ?_)
        go_simp
        refine hK.out _ _ (HS3.out _ hbn) (fun hHeld => ?_)
        clear hK K
        try simp only [Act.put, List.setIfInBounds_toArray, List.set_cons_zero, List.set_cons_succ]
        refine wpAnyX_done (by kernel_rfl) ?_ _
        subst e4
        go_wp2
        go_ret
        refine ⟨ret_int ?_, hbW3.trans (hbn.mono hbW3.size)⟩
        rw [IntKind.wrap_i64, IntKind.wrap_i64]
        omega
    · have q4 : (u.limit != 4) = true := by simpa using h4
      rw [if_neg h4] at hr
      subst hr
      clear h4
      go_wp2
      go_ret
      exact ⟨rfl, hbW3⟩
  · have q5 : (o.limit == 5) = false := by simpa using h5
    have hu' : o = u := by rw [← hu]; unfold named; rw [if_neg h5]
    subst hu'
    clear hu h5 hN
    go_enter Try.func52, Try.ntmps52
    go_upto_region 1 with fail
    rw [← HW.out, ← HZ.out]
    go_upto_region 3 with fail
    obtain ⟨W3, hW3⟩ : ∃ W3, W3 = W.alloc (.cells #[.int .i64 o.kind, .int .i64 o.value, .bool o.late, .int .i64 o.limit, .int .i64 o.n] 52) := ⟨_, rfl⟩
    have hb3 : Below W.heap.size W W3 := by rw [hW3]; exact (Below.refl _ _).alloc (Nat.le_refl _) _
    have z3 : W.heap.size < W3.heap.size := by rw [hW3]; simp
    have t3 := top_at W #[.int .i64 o.kind, .int .i64 o.value, .bool o.late, .int .i64 o.limit, .int .i64 o.n] 52
    have u_0 : W3.cell? ⟨W.heap.size, 0, none⟩ = some (.int .i64 o.kind) := by rw [hW3]; exact t3 0
    have u_1 : W3.cell? ⟨W.heap.size, 1, none⟩ = some (.int .i64 o.value) := by rw [hW3]; exact t3 1
    have u_2 : W3.cell? ⟨W.heap.size, 2, none⟩ = some (.bool o.late) := by rw [hW3]; exact t3 2
    have u_3 : W3.cell? ⟨W.heap.size, 3, none⟩ = some (.int .i64 o.limit) := by rw [hW3]; exact t3 3
    have u_4 : W3.cell? ⟨W.heap.size, 4, none⟩ = some (.int .i64 o.n) := by rw [hW3]; exact t3 4
    obtain ⟨f0_0', f0_1', x1_0', x1_1', x1_2', _⟩ := HS.out _ hb3
    have z3' : w.heap.size + 1 + 1 < W3.heap.size := by have := HZ.out; omega
    have HS3 : Hid (∀ w', Below W3.heap.size W3 w' → (fun w' => w'.cell? ⟨w.heap.size, 0, none⟩ = some (.slice av values.length cv) ∧ w'.cell? ⟨w.heap.size, 1, none⟩ = some (vb) ∧ w'.cell? ⟨w.heap.size + 1, 0, none⟩ = some (.int .i64 x.op) ∧ w'.cell? ⟨w.heap.size + 1, 1, none⟩ = some (.slice ao x.operands.length co) ∧ w'.cell? ⟨w.heap.size + 1, 2, none⟩ = some (.slice asp x.spoils.length csp) ∧ w'.cell? ⟨W.heap.size, 0, none⟩ = some (.int .i64 o.kind) ∧ w'.cell? ⟨W.heap.size, 1, none⟩ = some (.int .i64 o.value) ∧ w'.cell? ⟨W.heap.size, 2, none⟩ = some (.bool o.late) ∧ w'.cell? ⟨W.heap.size, 3, none⟩ = some (.int .i64 o.limit) ∧ w'.cell? ⟨W.heap.size, 4, none⟩ = some (.int .i64 o.n) ∧ Below W3.heap.size W3 w') w') := fun w' hh => ⟨(hh.cell (by simp; omega)).trans f0_0', (hh.cell (by simp; omega)).trans f0_1', (hh.cell (by simp; omega)).trans x1_0', (hh.cell (by simp; omega)).trans x1_1', (hh.cell (by simp; omega)).trans x1_2', (hh.cell (by simp; omega)).trans u_0, (hh.cell (by simp; omega)).trans u_1, (hh.cell (by simp; omega)).trans u_2, (hh.cell (by simp; omega)).trans u_3, (hh.cell (by simp; omega)).trans u_4, hh⟩
    have hbW3 : Below w.heap.size w W3 := hbw.trans (hb3.mono hbw.size)
    have hv3 := hv.below hbW3 fun _ _ h => h
    have hb3d : Below W3.heap.size W3 W3.drew := (Below.refl _ _).drew
    rw [← hW3]
    clear hW3 t3 f0_0 f0_1 x1_0 x1_1 x1_2 hb3
    by_cases h4 : o.limit = 4
    · have q4 : (o.limit != 4) = false := by simp [h4]
      obtain ⟨hn0, hn9⟩ := hfx h4
      rw [if_pos h4] at hr
      have hvd := hv3.below hb3d fun _ _ h => h
      go_upto_region 5 with fail
      refine wp_region_X (fun w' => w'.cell? ⟨w.heap.size, 0, none⟩ = some (.slice av values.length cv) ∧ w'.cell? ⟨w.heap.size, 1, none⟩ = some (vb) ∧ w'.cell? ⟨w.heap.size + 1, 0, none⟩ = some (.int .i64 x.op) ∧ w'.cell? ⟨w.heap.size + 1, 1, none⟩ = some (.slice ao x.operands.length co) ∧ w'.cell? ⟨w.heap.size + 1, 2, none⟩ = some (.slice asp x.spoils.length csp) ∧ w'.cell? ⟨W.heap.size, 0, none⟩ = some (.int .i64 o.kind) ∧ w'.cell? ⟨W.heap.size, 1, none⟩ = some (.int .i64 o.value) ∧ w'.cell? ⟨W.heap.size, 2, none⟩ = some (.bool o.late) ∧ w'.cell? ⟨W.heap.size, 3, none⟩ = some (.int .i64 o.limit) ∧ w'.cell? ⟨W.heap.size, 4, none⟩ = some (.int .i64 o.n) ∧ Below W3.heap.size W3 w') 99 (by kernel_rfl) (HS3.out _ hb3d) (fun hHeld => ?_)
      refine wpX_takeg0 (v := ?_) (by kernel_rfl) (fun _ _ _ h => h) (by rfl) ?_ hHeld ?_
      rotate_left
      · intro w' hSw
        go_simp <;> with_reducible rfl
      try simp only [Act.put, List.setIfInBounds_toArray, List.set_cons_zero, List.set_cons_succ]
      refine wpX_takeg1 (v := ?_) (by kernel_rfl) (fun _ _ _ h => h) (by rfl) ?_ hHeld ?_
      rotate_left
      · intro w' hSw
        go_simp <;> with_reducible rfl
      try simp only [Act.put, List.setIfInBounds_toArray, List.set_cons_zero, List.set_cons_succ]
      refine wpX_takeg2 (v := ?_) (by kernel_rfl) (fun _ _ _ h => h) (by rfl) ?_ hHeld ?_
      rotate_left
      · intro w' hSw
        go_simp <;> with_reducible rfl
      try simp only [Act.put, List.setIfInBounds_toArray, List.set_cons_zero, List.set_cons_succ]
      refine wpX_takeg5 (v := ?_) (by kernel_rfl) (fun _ _ _ h => h) (by rfl) ?_ hHeld ?_
      rotate_left
      · intro w' hSw
        go_simp <;> with_reducible rfl
      try simp only [Act.put, List.setIfInBounds_toArray, List.set_cons_zero, List.set_cons_succ]
      refine wpX_takeg6 (v := ?_) (by kernel_rfl) (fun _ _ _ h => h) (by rfl) ?_ hHeld ?_
      rotate_left
      · intro w' hSw
        go_simp <;> with_reducible rfl
      try simp only [Act.put, List.setIfInBounds_toArray, List.set_cons_zero, List.set_cons_succ]
      rcases hcl with hc | hc
      · have e4 : r = o.n := by rw [← hr, hc]; omega
        have jw : IntKind.i64.wrap o.n = o.n := by rw [IntKind.wrap_i64]; omega
        refine wpX_step3 (by kernel_rfl) (fun K hK => ?_)
        go_simp
        refine (classOf_b values _ _ _ _ _ hc _ hvd hval).mono ?_
        rintro e wn ⟨rfl, hbn0⟩
        have hbn : Below W3.heap.size W3 wn := hb3d.trans (hbn0.mono hb3d.size)
        refine hK.out _ _ (HS3.out _ hbn) (fun hHeld => ?_)
        clear hK K
        try simp only [Act.put, List.setIfInBounds_toArray, List.set_cons_zero, List.set_cons_succ]
        refine wpX_takeg4 (v := ?_) (by kernel_rfl) (fun _ _ _ h => h) (by rfl) ?_ hHeld ?_
        rotate_left
        · intro w' hSw
          go_simp <;> with_reducible rfl
        try simp only [Act.put, List.setIfInBounds_toArray, List.set_cons_zero, List.set_cons_succ]
        refine wpX_takeg7 (v := ?_) (by kernel_rfl) (fun _ _ _ h => h) (by rfl) ?_ hHeld ?_
        rotate_left
        · intro w' hSw
          go_simp <;> with_reducible rfl
        try simp only [Act.put, List.setIfInBounds_toArray, List.set_cons_zero, List.set_cons_succ]
        refine wpX_step8 (by kernel_rfl) (fun K hK => ?_)
        go_simp
        refine hK.out _ _ (HS3.out _ hbn) (fun hHeld => ?_)
        clear hK K
        try simp only [Act.put, List.setIfInBounds_toArray, List.set_cons_zero, List.set_cons_succ]
        refine wpAnyX_done (by kernel_rfl) ?_ _
        subst e4
        go_wp2
        go_ret
        refine ⟨ret_int ?_, hbW3.trans (hbn.mono hbW3.size)⟩
        rw [IntKind.wrap_i64, IntKind.wrap_i64]
        omega
      · have e4 : r = 100 + o.n := by rw [← hr, hc]; omega
        have jw : IntKind.i64.wrap (100 + o.n) = 100 + o.n := by rw [IntKind.wrap_i64]; omega
        refine wpX_step3 (by kernel_rfl) (fun K hK => ?_)
        go_simp
        refine (classOf_b values _ _ _ _ _ hc _ hvd hval).mono ?_
        rintro e wn ⟨rfl, hbn0⟩
        have hbn : Below W3.heap.size W3 wn := hb3d.trans (hbn0.mono hb3d.size)
        refine hK.out _ _ (HS3.out _ hbn) (fun hHeld => ?_)
        clear hK K
        try simp only [Act.put, List.setIfInBounds_toArray, List.set_cons_zero, List.set_cons_succ]
        refine wpX_takeg4 (v := ?_) (by kernel_rfl) (fun _ _ _ h => h) (by rfl) ?_ hHeld ?_
        rotate_left
        · intro w' hSw
          go_simp <;> with_reducible rfl
        try simp only [Act.put, List.setIfInBounds_toArray, List.set_cons_zero, List.set_cons_succ]
        refine wpX_takeg7 (v := ?_) (by kernel_rfl) (fun _ _ _ h => h) (by rfl) ?_ hHeld ?_
        rotate_left
        · intro w' hSw
          go_simp <;> with_reducible rfl
        try simp only [Act.put, List.setIfInBounds_toArray, List.set_cons_zero, List.set_cons_succ]
        refine wpX_step8 (by kernel_rfl) (fun K hK => ?_)
        go_simp
        refine hK.out _ _ (HS3.out _ hbn) (fun hHeld => ?_)
        clear hK K
        try simp only [Act.put, List.setIfInBounds_toArray, List.set_cons_zero, List.set_cons_succ]
        refine wpAnyX_done (by kernel_rfl) ?_ _
        subst e4
        go_wp2
        go_ret
        refine ⟨ret_int ?_, hbW3.trans (hbn.mono hbW3.size)⟩
        rw [IntKind.wrap_i64, IntKind.wrap_i64]
        omega
    · have q4 : (o.limit != 4) = true := by simpa using h4
      rw [if_neg h4] at hr
      subst hr
      clear h4
      go_wp2
      go_ret
      exact ⟨rfl, hbW3⟩

set_option maxHeartbeats 4000000 in
theorem spoilt_is (x : Ins) (ao asp : Option Addr) (co csp : Nat) (c n : Int) (b : Bool) (hb : hasRg x.spoils c n = b) (w : World) (hs : SlOf w 2 RRg (.slice asp x.spoils.length csp) x.spoils) :
    Calls Try.prog 53 #[.agg #[.int .i64 x.op, .slice ao x.operands.length co, .slice asp x.spoils.length csp], .int .i64 c, .int .i64 n] w fun e w' => e = .returned (.bool b) ∧ Below w.heap.size w w' := by
  obtain ⟨_, _, _, ls⟩ := hs.out
  unfold longest at ls
  obtain ⟨W, hW⟩ : ∃ W, W = w.alloc (.cells #[.int .i64 x.op, .slice ao x.operands.length co, .slice asp x.spoils.length csp] 46) := ⟨_, rfl⟩
  have hbw : Below w.heap.size w W := by rw [hW]; exact (Below.refl _ _).alloc (Nat.le_refl _) _
  have zW : w.heap.size < W.heap.size := by rw [hW]; simp
  have t0 := top_at w #[.int .i64 x.op, .slice ao x.operands.length co, .slice asp x.spoils.length csp] 46
  have x0_0 : W.cell? ⟨w.heap.size, 0, none⟩ = some (.int .i64 x.op) := by rw [hW]; exact t0 0
  have x0_1 : W.cell? ⟨w.heap.size, 1, none⟩ = some (.slice ao x.operands.length co) := by rw [hW]; exact t0 1
  have x0_2 : W.cell? ⟨w.heap.size, 2, none⟩ = some (.slice asp x.spoils.length csp) := by rw [hW]; exact t0 2
  have HS : Hid (∀ w', Below W.heap.size W w' → (fun w' => w'.cell? ⟨w.heap.size, 0, none⟩ = some (.int .i64 x.op) ∧ w'.cell? ⟨w.heap.size, 1, none⟩ = some (.slice ao x.operands.length co) ∧ w'.cell? ⟨w.heap.size, 2, none⟩ = some (.slice asp x.spoils.length csp) ∧ Below W.heap.size W w') w') := fun w' hh => ⟨(hh.cell (by simp; omega)).trans x0_0, (hh.cell (by simp; omega)).trans x0_1, (hh.cell (by simp; omega)).trans x0_2, hh⟩
  have HW : Hid (W = w.alloc (.cells #[.int .i64 x.op, .slice ao x.operands.length co, .slice asp x.spoils.length csp] 46)) := hW
  clear hW t0
  have HB : Hid (hasRg x.spoils c n = b) := hb
  clear hb HS
  have hsW := hs.below hbw fun _ _ h => h
  go_enter Try.func53, Try.ntmps53
  go_upto_region 1 with fail
  rw [← HW.out]
  go_wp2
  go_loop [7] (fun i => ∃ k : Nat, k ≤ x.spoils.length ∧ i = .int .i64 k ∧ Hid ((x.spoils.take k).any (rgIs c n) = false)) (fun i => x.spoils.length - (intOf i).toNat)
  case atStart => exact ⟨0, Nat.zero_le _, rfl, rfl⟩
  case round =>
    obtain ⟨k, hk, rfl, HA⟩ := hrel
    by_cases hlt : k < x.spoils.length
    · obtain ⟨b2, off2, rfl, hb2, c0, c1⟩ := rg_cells hsW k hlt
      by_cases h1 : x.spoils[k].cls = c
      · have q1 : (x.spoils[k].cls == c) = true := by simp [h1]
        by_cases h2 : x.spoils[k].n = n
        · have q2 : (x.spoils[k].n == n) = true := by simp [h2]
          have H : Hid (true = b) := by show _ = _; rw [← HB.out]; exact (any_at _ _ _ hlt (by simp [rgIs, h1, h2])).symm
          clear HA h1 h2
          go_wp2
          go_ret
          exact ⟨ret_bool H.out, hbw⟩
        · have q2 : (x.spoils[k].n == n) = false := by simpa using h2
          have H : Hid ((x.spoils.take (k + 1)).any (rgIs c n) = false) := any_snoc _ _ _ hlt HA.out (by simp [rgIs]; intro _ e; exact h2 e.symm)
          clear HA h1 h2
          go_wp2
          go_round
          case rel => exact ⟨k + 1, by omega, by go_num, H⟩
          case measure => simp [intOf]; omega
      · have q1 : (x.spoils[k].cls == c) = false := by simpa using h1
        have H : Hid ((x.spoils.take (k + 1)).any (rgIs c n) = false) := any_snoc _ _ _ hlt HA.out (by simp [rgIs]; intro e; exact absurd e.symm h1)
        clear HA h1
        go_wp2
        go_round
        case rel => exact ⟨k + 1, by omega, by go_num, H⟩
        case measure => simp [intOf]; omega
    · have H : Hid (false = b) := by show _ = _; rw [← HB.out]; exact (any_none _ _ k (by omega) HA.out).symm
      clear HA
      go_wp2
      go_ret
      exact ⟨ret_bool H.out, hbw⟩
end Go.Proofs.Ytnghhhlcifpiaaa
