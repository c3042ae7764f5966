/-
  The contract of the reference's 'operandFault': which error an operand by itself has (P1.4), where the machine may be and the values' classes are 0 or 1.
-/
import Derived.Test.YtnghhhlcifpiaaaRefA
import Derived.Test.YtnghhhlcifpiaaaReg2
import Derived.Deep.DeepCutAuto
import Derived.Deep.CutBlock
namespace Go.Proofs.Ytnghhhlcifpiaaa
open Go.RowKit
set_option linter.unusedVariables false

theorem valueMay_b (av : Option Addr) (n cv : Nat) (vb : Value) (v : Int) (b : Bool) (hb : isValueB n v = b) (w : World) (hn : n ≤ longest) :
    Calls Try.prog 26 #[.agg #[.slice av n cv, vb], .int .i64 v] w fun e w' => e = .returned (.bool b) ∧ Below w.heap.size w w' := by
  refine (valueMay_is av n cv vb v b hb w hn).mono ?_
  rintro e w' ⟨rfl, rfl⟩
  exact ⟨rfl, (Below.refl _ _).alloc (Nat.le_refl _) _⟩
theorem classOf_b (values : List Int) (av : Option Addr) (cv : Nat) (vb : Value) (v : Int) (r : Int) (hr : classAt values v = r) (w : World) (hv : SlOf w 1 RInt (.slice av values.length cv) values) (h : isValueB values.length v = true) :
    Calls Try.prog 42 #[.agg #[.slice av values.length cv, vb], .int .i64 v] w fun e w' => e = .returned (.int .i64 r) ∧ Below w.heap.size w w' := by
  refine (classOf_is values av cv vb v r hr w hv h).mono ?_
  rintro e w' ⟨rfl, rfl⟩
  exact ⟨rfl, (Below.refl _ _).alloc (Nat.le_refl _) _⟩

theorem inB_kind (k : Int) : inB k 1 2 = decide (k = 1 ∨ k = 2) := by
  rw [Bool.eq_iff_iff]
  simp only [inB, decide_eq_true_eq]
  omega
theorem inB_giv (m0 m1 c n : Int) (hc : c = 0 ∨ c = 1) : inB n 0 (regsOf m0 m1 c - 1) = givB m0 m1 c n := by
  rw [Bool.eq_iff_iff]
  rcases hc with rfl | rfl
  · simp [inB, givB, isClassB, regsOf]; omega
  · simp [inB, givB, isClassB, regsOf]; omega

set_option maxHeartbeats 8000000 in
theorem operandFault_is (values : List Int) (av : Option Addr) (cv : Nat) (vb : Value) (m0 m1 : Int) (o : Opr) (r : Int) (hr : oprErr values m0 m1 o = r) (w : World) (hv : SlOf w 1 RInt (.slice av values.length cv) values)
    (hcls : ∀ v, isValueB values.length v = true → classAt values v = 0 ∨ classAt values v = 1) (hm0 : 2 ≤ m0 ∧ m0 ≤ 10) (hm1 : 2 ≤ m1 ∧ m1 ≤ 10) :
    Calls Try.prog 38 #[.agg #[.slice av values.length cv, vb], .agg #[.int .i64 m0, .int .i64 m1], .agg #[.int .i64 o.kind, .int .i64 o.value, .bool o.late, .int .i64 o.limit, .int .i64 o.n]] w fun e w' => e = .returned (.int .i64 r) ∧ Below w.heap.size w w' := by
  obtain ⟨_, _, _, lv⟩ := hv.out
  have lv' := lv
  unfold longest at lv'
  obtain ⟨W3, hW3⟩ : ∃ W3, W3 = ((w.alloc (.cells #[.slice av values.length cv, vb] 31)).alloc (.cells #[.int .i64 m0, .int .i64 m1] 24)).alloc (.cells #[.int .i64 o.kind, .int .i64 o.value, .bool o.late, .int .i64 o.limit, .int .i64 o.n] 52) := ⟨_, rfl⟩
  have hbw : Below w.heap.size w W3 := by rw [hW3]; exact (((Below.refl _ _).alloc (Nat.le_refl _) _).alloc (by simp) _).alloc (by simp; omega) _
  have z3 : w.heap.size + 1 + 1 < W3.heap.size := by rw [hW3]; simp
  obtain ⟨t0, t1, t2⟩ := three_at w #[.slice av values.length cv, vb] #[.int .i64 m0, .int .i64 m1] #[.int .i64 o.kind, .int .i64 o.value, .bool o.late, .int .i64 o.limit, .int .i64 o.n] 31 24 52
  have fa : W3.cell? ⟨w.heap.size, 0, none⟩ = some (.slice av values.length cv) := by rw [hW3]; exact t0 0
  have fb : W3.cell? ⟨w.heap.size, 1, none⟩ = some (vb) := by rw [hW3]; exact t0 1
  have ma : W3.cell? ⟨w.heap.size + 1, 0, none⟩ = some (.int .i64 m0) := by rw [hW3]; exact t1 0
  have mb : W3.cell? ⟨w.heap.size + 1, 1, none⟩ = some (.int .i64 m1) := by rw [hW3]; exact t1 1
  have oa : W3.cell? ⟨w.heap.size + 1 + 1, 0, none⟩ = some (.int .i64 o.kind) := by rw [hW3]; exact t2 0
  have ob : W3.cell? ⟨w.heap.size + 1 + 1, 1, none⟩ = some (.int .i64 o.value) := by rw [hW3]; exact t2 1
  have oc : W3.cell? ⟨w.heap.size + 1 + 1, 2, none⟩ = some (.bool o.late) := by rw [hW3]; exact t2 2
  have od : W3.cell? ⟨w.heap.size + 1 + 1, 3, none⟩ = some (.int .i64 o.limit) := by rw [hW3]; exact t2 3
  have oe : W3.cell? ⟨w.heap.size + 1 + 1, 4, none⟩ = some (.int .i64 o.n) := by rw [hW3]; exact t2 4
  have HS : Hid (∀ w', Below W3.heap.size W3 w' → (fun w' => w'.cell? ⟨w.heap.size, 0, none⟩ = some (.slice av values.length cv) ∧ w'.cell? ⟨w.heap.size, 1, none⟩ = some (vb) ∧ w'.cell? ⟨w.heap.size + 1, 0, none⟩ = some (.int .i64 m0) ∧ w'.cell? ⟨w.heap.size + 1, 1, none⟩ = some (.int .i64 m1) ∧ w'.cell? ⟨w.heap.size + 1 + 1, 0, none⟩ = some (.int .i64 o.kind) ∧ w'.cell? ⟨w.heap.size + 1 + 1, 1, none⟩ = some (.int .i64 o.value) ∧ w'.cell? ⟨w.heap.size + 1 + 1, 2, none⟩ = some (.bool o.late) ∧ w'.cell? ⟨w.heap.size + 1 + 1, 3, none⟩ = some (.int .i64 o.limit) ∧ w'.cell? ⟨w.heap.size + 1 + 1, 4, none⟩ = some (.int .i64 o.n) ∧ Below W3.heap.size W3 w') w') := fun w' hh => ⟨(hh.cell (by simp; omega)).trans fa, (hh.cell (by simp; omega)).trans fb, (hh.cell (by simp; omega)).trans ma, (hh.cell (by simp; omega)).trans mb, (hh.cell (by simp; omega)).trans oa, (hh.cell (by simp; omega)).trans ob, (hh.cell (by simp; omega)).trans oc, (hh.cell (by simp; omega)).trans od, (hh.cell (by simp; omega)).trans oe, hh⟩
  have hv3 := hv.below hbw fun _ _ h => h
  have HW : Hid (W3 = ((w.alloc (.cells #[.slice av values.length cv, vb] 31)).alloc (.cells #[.int .i64 m0, .int .i64 m1] 24)).alloc (.cells #[.int .i64 o.kind, .int .i64 o.value, .bool o.late, .int .i64 o.limit, .int .i64 o.n] 52)) := hW3
  clear hW3 t0 t1 t2
  obtain ⟨ha0, ha1⟩ := hm0
  obtain ⟨hc0, hc1⟩ := hm1
  have j0 : IntKind.i64.wrap (m0 - 1) = m0 - 1 := by rw [IntKind.wrap_i64]; omega
  have j1 : IntKind.i64.wrap (m1 - 1) = m1 - 1 := by rw [IntKind.wrap_i64]; omega
  have HCL : Hid (∀ v, isValueB values.length v = true → classAt values v = 0 ∨ classAt values v = 1) := hcls
  clear hcls
  unfold oprErr at hr
  cases hk : inB o.kind 1 2
  · have nk : ¬ (o.kind = 1 ∨ o.kind = 2) := by rw [inB_kind] at hk; simpa using hk
    rw [if_pos nk] at hr
    subst hr
    clear nk
    go_enter Try.func38, Try.ntmps38
    go_upto_region 1 with fail
    rw [← HW.out]
    go_wp2_with fail
    refine (in_is _ _ _ _ hk _).mono ?_
    rintro e W3 ⟨rfl, rfl⟩
    go_wp2
    go_ret
    exact ⟨rfl, hbw⟩
  have nk : o.kind = 1 ∨ o.kind = 2 := by rw [inB_kind] at hk; simpa using hk
  rw [if_neg (fun h => h nk)] at hr
  cases hl : inB o.limit 1 5
  · have nl : o.limit < 1 ∨ 5 < o.limit := by simp [inB] at hl; omega
    rw [if_pos nl] at hr
    subst hr
    clear nl nk
    go_enter Try.func38, Try.ntmps38
    go_upto_region 1 with fail
    rw [← HW.out]
    go_wp2_with fail
    refine (in_is _ _ _ _ hk _).mono ?_
    rintro e W3 ⟨rfl, rfl⟩
    go_wp2_with fail
    refine (in_is _ _ _ _ hl _).mono ?_
    rintro e W3 ⟨rfl, rfl⟩
    go_wp2
    go_ret
    exact ⟨rfl, hbw⟩
  have nl : ¬ (o.limit < 1 ∨ 5 < o.limit) := by simp [inB] at hl; omega
  rw [if_neg nl] at hr
  cases hval : isValueB values.length o.value
  · rw [if_pos hval] at hr
    subst hr
    clear nl nk
    go_enter Try.func38, Try.ntmps38
    go_upto_region 1 with fail
    rw [← HW.out]
    go_wp2_with fail
    refine (in_is _ _ _ _ hk _).mono ?_
    rintro e W3 ⟨rfl, rfl⟩
    go_wp2_with fail
    refine (in_is _ _ _ _ hl _).mono ?_
    rintro e W3 ⟨rfl, rfl⟩
    go_wp2_with fail
    refine (valueMay_b _ _ _ _ _ _ hval _ lv).mono ?_
    rintro e w4 ⟨rfl, hb4⟩
    go_wp2
    go_ret
    exact ⟨rfl, hbw.trans (hb4.mono hbw.size)⟩
  rw [if_neg (by simp [hval])] at hr
  have hc := HCL.out _ hval
  go_enter Try.func38, Try.ntmps38
  go_upto_region 1 with fail
  rw [← HW.out]
  go_wp2_with fail
  refine (in_is _ _ _ _ hk _).mono ?_
  rintro e W3 ⟨rfl, rfl⟩
  go_wp2_with fail
  refine (in_is _ _ _ _ hl _).mono ?_
  rintro e W3 ⟨rfl, rfl⟩
  go_wp2_with fail
  refine (valueMay_b _ _ _ _ _ _ hval _ lv).mono ?_
  rintro e w4 ⟨rfl, hb4⟩
  have z4 := hb4.size
  have hv4 := hv3.below hb4 fun _ _ h => h
  obtain ⟨fa', fb', ma', mb', oa', ob', oc', od', oe', _⟩ := HS.out _ hb4
  have hb4d : Below W3.heap.size W3 w4.drew := hb4.drew
  have HV : Hid (∀ w', Below W3.heap.size W3 w' → SlOf w' 1 RInt (.slice av values.length cv) values) := fun w' hh => hv3.below hh fun _ _ h => h
  clear fa fb ma mb oa ob oc od oe hv4 hv3 hv
  by_cases h4 : o.limit = 4
  · rw [if_pos h4] at hr
    have q4 : (o.limit == 4) = true := by simp [h4]
    have q4' : (o.limit < 4) = False := by simp [h4]
    have q5 : (o.limit == 5) = false := by simp [h4]
    have HG := inB_giv m0 m1 (classAt values o.value) o.n hc
    obtain ⟨g, hg⟩ : ∃ g, givB m0 m1 (classAt values o.value) o.n = g := ⟨_, rfl⟩
    rw [hg] at HG hr
    go_upto_region 5 with fail
    refine wp_region_X (fun w' => w'.cell? ⟨w.heap.size, 0, none⟩ = some (.slice av values.length cv) ∧ w'.cell? ⟨w.heap.size, 1, none⟩ = some (vb) ∧ w'.cell? ⟨w.heap.size + 1, 0, none⟩ = some (.int .i64 m0) ∧ w'.cell? ⟨w.heap.size + 1, 1, none⟩ = some (.int .i64 m1) ∧ w'.cell? ⟨w.heap.size + 1 + 1, 0, none⟩ = some (.int .i64 o.kind) ∧ w'.cell? ⟨w.heap.size + 1 + 1, 1, none⟩ = some (.int .i64 o.value) ∧ w'.cell? ⟨w.heap.size + 1 + 1, 2, none⟩ = some (.bool o.late) ∧ w'.cell? ⟨w.heap.size + 1 + 1, 3, none⟩ = some (.int .i64 o.limit) ∧ w'.cell? ⟨w.heap.size + 1 + 1, 4, none⟩ = some (.int .i64 o.n) ∧ Below W3.heap.size W3 w') 99 (by kernel_rfl) (HS.out _ hb4d) (fun hHeld => ?_)
    refine wpX_takeg0 (v := ?_) (by kernel_rfl) (fun _ _ _ h => h) (by rfl) ?_ hHeld ?_
    rotate_left
    · intro w' hSw
      go_simp <;> with_reducible rfl
    try simp only [Act.put, List.setIfInBounds_toArray, List.set_cons_zero, List.set_cons_succ]
    refine wpX_takeg1 (v := ?_) (by kernel_rfl) (fun _ _ _ h => h) (by rfl) ?_ hHeld ?_
    rotate_left
    · intro w' hSw
      go_simp <;> with_reducible rfl
    try simp only [Act.put, List.setIfInBounds_toArray, List.set_cons_zero, List.set_cons_succ]
    refine wpX_takeg2 (v := ?_) (by kernel_rfl) (fun _ _ _ h => h) (by rfl) ?_ hHeld ?_
    rotate_left
    · intro w' hSw
      go_simp <;> with_reducible rfl
    try simp only [Act.put, List.setIfInBounds_toArray, List.set_cons_zero, List.set_cons_succ]
    refine wpX_takeg3 (v := ?_) (by kernel_rfl) (fun _ _ _ h => h) (by rfl) ?_ hHeld ?_
    rotate_left
    · intro w' hSw
      go_simp <;> with_reducible rfl
    try simp only [Act.put, List.setIfInBounds_toArray, List.set_cons_zero, List.set_cons_succ]
    refine wpX_takeg4 (v := ?_) (by kernel_rfl) (fun _ _ _ h => h) (by rfl) ?_ hHeld ?_
    rotate_left
    · intro w' hSw
      go_simp <;> with_reducible rfl
    try simp only [Act.put, List.setIfInBounds_toArray, List.set_cons_zero, List.set_cons_succ]
    refine wpX_takeg5 (v := ?_) (by kernel_rfl) (fun _ _ _ h => h) (by rfl) ?_ hHeld ?_
    rotate_left
    · intro w' hSw
      go_simp <;> with_reducible rfl
    try simp only [Act.put, List.setIfInBounds_toArray, List.set_cons_zero, List.set_cons_succ]
    refine wpX_takeg6 (v := ?_) (by kernel_rfl) (fun _ _ _ h => h) (by rfl) ?_ hHeld ?_
    rotate_left
    · intro w' hSw
      go_simp <;> with_reducible rfl
    try simp only [Act.put, List.setIfInBounds_toArray, List.set_cons_zero, List.set_cons_succ]
    refine wpX_takeg7 (v := ?_) (by kernel_rfl) (fun _ _ _ h => h) (by rfl) ?_ hHeld ?_
    rotate_left
    · intro w' hSw
      go_simp <;> with_reducible rfl
    try simp only [Act.put, List.setIfInBounds_toArray, List.set_cons_zero, List.set_cons_succ]
    refine wpX_takeg8 (v := ?_) (by kernel_rfl) (fun _ _ _ h => h) (by rfl) ?_ hHeld ?_
    rotate_left
    · intro w' hSw
      go_simp <;> with_reducible rfl
    try simp only [Act.put, List.setIfInBounds_toArray, List.set_cons_zero, List.set_cons_succ]
    refine wpX_takeg10 (v := ?_) (by kernel_rfl) (fun _ _ _ h => h) (by rfl) ?_ hHeld ?_
    rotate_left
    · intro w' hSw
      go_simp <;> with_reducible rfl
    try simp only [Act.put, List.setIfInBounds_toArray, List.set_cons_zero, List.set_cons_succ]
    rcases hc with hc | hc
    · rw [hc] at HG
      have HG' : inB o.n 0 (m0 - 1) = g := HG
      have HC : Hid (classAt values o.value = 0) := hc
      have HI : Hid (inB o.n 0 (m0 - 1) = g) := HG'
      clear HG HG' hg hc
      refine wpX_step9 (by kernel_rfl) (fun K hK => ?_)
      go_simp
      refine (classOf_b values _ _ _ _ _ HC.out _ (HV.out _ hb4d) hval).mono ?_
      rintro e w5 ⟨rfl, hb5⟩
      have hb5' : Below W3.heap.size W3 w5 := hb4d.trans (hb5.mono hb4d.size)
      refine hK.out _ _ (HS.out _ hb5') (fun hHeld => ?_)
      clear hK K
      try simp only [Act.put, List.setIfInBounds_toArray, List.set_cons_zero, List.set_cons_succ]
      refine wpX_takeg11 (v := ?_) (by kernel_rfl) (fun _ _ _ h => h) (by rfl) ?_ hHeld ?_
      rotate_left
      · intro w' hSw
        go_simp <;> with_reducible rfl
      try simp only [Act.put, List.setIfInBounds_toArray, List.set_cons_zero, List.set_cons_succ]
      refine wpX_takeg12 (v := ?_) (by kernel_rfl) (fun _ _ _ h => h) (by rfl) ?_ hHeld ?_
      rotate_left
      · intro w' hSw
        go_simp <;> with_reducible rfl
      try simp only [Act.put, List.setIfInBounds_toArray, List.set_cons_zero, List.set_cons_succ]
      refine wpX_takeg13 (v := ?_) (by kernel_rfl) (fun _ _ _ h => h) (by rfl) ?_ hHeld ?_
      rotate_left
      · intro w' hSw
        go_simp <;> with_reducible rfl
      try simp only [Act.put, List.setIfInBounds_toArray, List.set_cons_zero, List.set_cons_succ]
      cases g
      · refine wpX_step14 (by kernel_rfl) (fun K hK => ?_)
        go_simp
        refine (in_is _ _ _ _ HI.out _).mono ?_
        rintro e w5 ⟨rfl, rfl⟩
        refine hK.out _ _ (HS.out _ hb5') (fun hHeld => ?_)
        clear hK K
        try simp only [Act.put, List.setIfInBounds_toArray, List.set_cons_zero, List.set_cons_succ]
        refine wpX_takeg15 (v := ?_) (by kernel_rfl) (fun _ _ _ h => h) (by rfl) ?_ hHeld ?_
        rotate_left
        · intro w' hSw
          go_simp <;> with_reducible rfl
        try simp only [Act.put, List.setIfInBounds_toArray, List.set_cons_zero, List.set_cons_succ]
        refine wpX_step16 (by kernel_rfl) (fun K hK => ?_)
        go_simp
        refine hK.out _ _ (HS.out _ hb5') (fun hHeld => ?_)
        clear hK K
        try simp only [Act.put, List.setIfInBounds_toArray, List.set_cons_zero, List.set_cons_succ]
        refine wpAnyX_done (by kernel_rfl) ?_ _
        obtain ⟨_, _, _, _, oa, ob, oc, od, oe, _⟩ := HS.out _ hb5'
        simp at hr
        subst hr
        go_wp2
        go_ret
        exact ⟨rfl, hbw.trans (hb5'.mono hbw.size)⟩
      · refine wpX_step14 (by kernel_rfl) (fun K hK => ?_)
        go_simp
        refine (in_is _ _ _ _ HI.out _).mono ?_
        rintro e w5 ⟨rfl, rfl⟩
        refine hK.out _ _ (HS.out _ hb5') (fun hHeld => ?_)
        clear hK K
        try simp only [Act.put, List.setIfInBounds_toArray, List.set_cons_zero, List.set_cons_succ]
        refine wpX_takeg15 (v := ?_) (by kernel_rfl) (fun _ _ _ h => h) (by rfl) ?_ hHeld ?_
        rotate_left
        · intro w' hSw
          go_simp <;> with_reducible rfl
        try simp only [Act.put, List.setIfInBounds_toArray, List.set_cons_zero, List.set_cons_succ]
        refine wpX_step16 (by kernel_rfl) (fun K hK => ?_)
        go_simp
        refine hK.out _ _ (HS.out _ hb5') (fun hHeld => ?_)
        clear hK K
        try simp only [Act.put, List.setIfInBounds_toArray, List.set_cons_zero, List.set_cons_succ]
        refine wpAnyX_done (by kernel_rfl) ?_ _
        obtain ⟨_, _, _, _, oa, ob, oc, od, oe, _⟩ := HS.out _ hb5'
        simp at hr
        subst hr
        go_wp2
        go_ret
        exact ⟨rfl, hbw.trans (hb5'.mono hbw.size)⟩
    · rw [hc] at HG
      have HG' : inB o.n 0 (m1 - 1) = g := HG
      have HC : Hid (classAt values o.value = 1) := hc
      have HI : Hid (inB o.n 0 (m1 - 1) = g) := HG'
      clear HG HG' hg hc
      refine wpX_step9 (by kernel_rfl) (fun K hK => ?_)
      go_simp
      refine (classOf_b values _ _ _ _ _ HC.out _ (HV.out _ hb4d) hval).mono ?_
      rintro e w5 ⟨rfl, hb5⟩
      have hb5' : Below W3.heap.size W3 w5 := hb4d.trans (hb5.mono hb4d.size)
      refine hK.out _ _ (HS.out _ hb5') (fun hHeld => ?_)
      clear hK K
      try simp only [Act.put, List.setIfInBounds_toArray, List.set_cons_zero, List.set_cons_succ]
      refine wpX_takeg11 (v := ?_) (by kernel_rfl) (fun _ _ _ h => h) (by rfl) ?_ hHeld ?_
      rotate_left
      · intro w' hSw
        go_simp <;> with_reducible rfl
      try simp only [Act.put, List.setIfInBounds_toArray, List.set_cons_zero, List.set_cons_succ]
      refine wpX_takeg12 (v := ?_) (by kernel_rfl) (fun _ _ _ h => h) (by rfl) ?_ hHeld ?_
      rotate_left
      · intro w' hSw
        go_simp <;> with_reducible rfl
      try simp only [Act.put, List.setIfInBounds_toArray, List.set_cons_zero, List.set_cons_succ]
      refine wpX_takeg13 (v := ?_) (by kernel_rfl) (fun _ _ _ h => h) (by rfl) ?_ hHeld ?_
      rotate_left
      · intro w' hSw
        go_simp <;> with_reducible rfl
      try simp only [Act.put, List.setIfInBounds_toArray, List.set_cons_zero, List.set_cons_succ]
      cases g
      · refine wpX_step14 (by kernel_rfl) (fun K hK => ?_)
        go_simp
        refine (in_is _ _ _ _ HI.out _).mono ?_
        rintro e w5 ⟨rfl, rfl⟩
        refine hK.out _ _ (HS.out _ hb5') (fun hHeld => ?_)
        clear hK K
        try simp only [Act.put, List.setIfInBounds_toArray, List.set_cons_zero, List.set_cons_succ]
        refine wpX_takeg15 (v := ?_) (by kernel_rfl) (fun _ _ _ h => h) (by rfl) ?_ hHeld ?_
        rotate_left
        · intro w' hSw
          go_simp <;> with_reducible rfl
        try simp only [Act.put, List.setIfInBounds_toArray, List.set_cons_zero, List.set_cons_succ]
        refine wpX_step16 (by kernel_rfl) (fun K hK => ?_)
        go_simp
        refine hK.out _ _ (HS.out _ hb5') (fun hHeld => ?_)
        clear hK K
        try simp only [Act.put, List.setIfInBounds_toArray, List.set_cons_zero, List.set_cons_succ]
        refine wpAnyX_done (by kernel_rfl) ?_ _
        obtain ⟨_, _, _, _, oa, ob, oc, od, oe, _⟩ := HS.out _ hb5'
        simp at hr
        subst hr
        go_wp2
        go_ret
        exact ⟨rfl, hbw.trans (hb5'.mono hbw.size)⟩
      · refine wpX_step14 (by kernel_rfl) (fun K hK => ?_)
        go_simp
        refine (in_is _ _ _ _ HI.out _).mono ?_
        rintro e w5 ⟨rfl, rfl⟩
        refine hK.out _ _ (HS.out _ hb5') (fun hHeld => ?_)
        clear hK K
        try simp only [Act.put, List.setIfInBounds_toArray, List.set_cons_zero, List.set_cons_succ]
        refine wpX_takeg15 (v := ?_) (by kernel_rfl) (fun _ _ _ h => h) (by rfl) ?_ hHeld ?_
        rotate_left
        · intro w' hSw
          go_simp <;> with_reducible rfl
        try simp only [Act.put, List.setIfInBounds_toArray, List.set_cons_zero, List.set_cons_succ]
        refine wpX_step16 (by kernel_rfl) (fun K hK => ?_)
        go_simp
        refine hK.out _ _ (HS.out _ hb5') (fun hHeld => ?_)
        clear hK K
        try simp only [Act.put, List.setIfInBounds_toArray, List.set_cons_zero, List.set_cons_succ]
        refine wpAnyX_done (by kernel_rfl) ?_ _
        obtain ⟨_, _, _, _, oa, ob, oc, od, oe, _⟩ := HS.out _ hb5'
        simp at hr
        subst hr
        go_wp2
        go_ret
        exact ⟨rfl, hbw.trans (hb5'.mono hbw.size)⟩
  have q4 : (o.limit == 4) = false := by simpa using h4
  rw [if_neg h4] at hr
  have hbe : Below w.heap.size w w4.drew := hbw.trans (hb4d.mono hbw.size)
  go_upto_region 5 with fail
  refine wp_region_X (fun w' => w'.cell? ⟨w.heap.size, 0, none⟩ = some (.slice av values.length cv) ∧ w'.cell? ⟨w.heap.size, 1, none⟩ = some (vb) ∧ w'.cell? ⟨w.heap.size + 1, 0, none⟩ = some (.int .i64 m0) ∧ w'.cell? ⟨w.heap.size + 1, 1, none⟩ = some (.int .i64 m1) ∧ w'.cell? ⟨w.heap.size + 1 + 1, 0, none⟩ = some (.int .i64 o.kind) ∧ w'.cell? ⟨w.heap.size + 1 + 1, 1, none⟩ = some (.int .i64 o.value) ∧ w'.cell? ⟨w.heap.size + 1 + 1, 2, none⟩ = some (.bool o.late) ∧ w'.cell? ⟨w.heap.size + 1 + 1, 3, none⟩ = some (.int .i64 o.limit) ∧ w'.cell? ⟨w.heap.size + 1 + 1, 4, none⟩ = some (.int .i64 o.n) ∧ Below W3.heap.size W3 w') 99 (by kernel_rfl) (HS.out _ hb4d) (fun hHeld => ?_)
  refine wpX_takeg0 (v := ?_) (by kernel_rfl) (fun _ _ _ h => h) (by rfl) ?_ hHeld ?_
  rotate_left
  · intro w' hSw
    go_simp <;> with_reducible rfl
  try simp only [Act.put, List.setIfInBounds_toArray, List.set_cons_zero, List.set_cons_succ]
  refine wpX_takeg1 (v := ?_) (by kernel_rfl) (fun _ _ _ h => h) (by rfl) ?_ hHeld ?_
  rotate_left
  · intro w' hSw
    go_simp <;> with_reducible rfl
  try simp only [Act.put, List.setIfInBounds_toArray, List.set_cons_zero, List.set_cons_succ]
  refine wpX_takeg2 (v := ?_) (by kernel_rfl) (fun _ _ _ h => h) (by rfl) ?_ hHeld ?_
  rotate_left
  · intro w' hSw
    go_simp <;> with_reducible rfl
  try simp only [Act.put, List.setIfInBounds_toArray, List.set_cons_zero, List.set_cons_succ]
  refine wpX_takeg3 (v := ?_) (by kernel_rfl) (fun _ _ _ h => h) (by rfl) ?_ hHeld ?_
  rotate_left
  · intro w' hSw
    go_simp <;> with_reducible rfl
  try simp only [Act.put, List.setIfInBounds_toArray, List.set_cons_zero, List.set_cons_succ]
  refine wpX_skip4 (by kernel_rfl) (fun _ _ _ h => h) (by rfl) hHeld ?_
  try simp only [Act.put, List.setIfInBounds_toArray, List.set_cons_zero, List.set_cons_succ]
  refine wpX_skip5 (by kernel_rfl) (fun _ _ _ h => h) (by rfl) hHeld ?_
  try simp only [Act.put, List.setIfInBounds_toArray, List.set_cons_zero, List.set_cons_succ]
  refine wpX_skip6 (by kernel_rfl) (fun _ _ _ h => h) (by rfl) hHeld ?_
  try simp only [Act.put, List.setIfInBounds_toArray, List.set_cons_zero, List.set_cons_succ]
  refine wpX_skip7 (by kernel_rfl) (fun _ _ _ h => h) (by rfl) hHeld ?_
  try simp only [Act.put, List.setIfInBounds_toArray, List.set_cons_zero, List.set_cons_succ]
  refine wpX_skip8 (by kernel_rfl) (fun _ _ _ h => h) (by rfl) hHeld ?_
  try simp only [Act.put, List.setIfInBounds_toArray, List.set_cons_zero, List.set_cons_succ]
  refine wpX_skip9 (by kernel_rfl) (fun _ _ _ h => h) (by rfl) hHeld ?_
  try simp only [Act.put, List.setIfInBounds_toArray, List.set_cons_zero, List.set_cons_succ]
  refine wpX_skip10 (by kernel_rfl) (fun _ _ _ h => h) (by rfl) hHeld ?_
  try simp only [Act.put, List.setIfInBounds_toArray, List.set_cons_zero, List.set_cons_succ]
  refine wpX_skip11 (by kernel_rfl) (fun _ _ _ h => h) (by rfl) hHeld ?_
  try simp only [Act.put, List.setIfInBounds_toArray, List.set_cons_zero, List.set_cons_succ]
  refine wpX_skip12 (by kernel_rfl) (fun _ _ _ h => h) (by rfl) hHeld ?_
  try simp only [Act.put, List.setIfInBounds_toArray, List.set_cons_zero, List.set_cons_succ]
  refine wpX_skip13 (by kernel_rfl) (fun _ _ _ h => h) (by rfl) hHeld ?_
  try simp only [Act.put, List.setIfInBounds_toArray, List.set_cons_zero, List.set_cons_succ]
  refine wpX_skip14 (by kernel_rfl) (fun _ _ _ h => h) (by rfl) hHeld ?_
  try simp only [Act.put, List.setIfInBounds_toArray, List.set_cons_zero, List.set_cons_succ]
  refine wpX_skip15 (by kernel_rfl) (fun _ _ _ h => h) (by rfl) hHeld ?_
  try simp only [Act.put, List.setIfInBounds_toArray, List.set_cons_zero, List.set_cons_succ]
  refine wpX_step16 (by kernel_rfl) (fun K hK => ?_)
  go_simp
  refine hK.out _ _ (HS.out _ hb4d) (fun hHeld => ?_)
  clear hK K
  try simp only [Act.put, List.setIfInBounds_toArray, List.set_cons_zero, List.set_cons_succ]
  refine wpAnyX_done (by kernel_rfl) ?_ _
  obtain ⟨_, _, _, _, oa, ob, oc, od, oe, _⟩ := HS.out _ hb4d
  by_cases h5 : o.limit = 5
  · have q4' : (o.limit < 4) = False := by simp [h5]
    have q5 : (o.limit == 5) = true := by simp [h5]
    rw [if_pos h5] at hr
    rcases nk with k1 | k2
    · have q1 : (o.kind == 1) = true := by simp [k1]
      rw [if_neg (by simp [k1])] at hr
      subst hr
      clear h5 k1 hk
      go_wp2
      go_ret
      exact ⟨rfl, hbe⟩
    · have q1 : (o.kind == 1) = false := by simp [k2]
      cases hlate : o.late
      · rw [if_neg (by simp [hlate])] at hr
        subst hr
        rw [hlate] at oc
        clear h5 k2 hk
        go_wp2
        go_ret
        exact ⟨rfl, hbe⟩
      · rw [if_pos ⟨k2, hlate⟩] at hr
        subst hr
        rw [hlate] at oc
        clear h5 k2 hk
        go_wp2
        go_ret
        exact ⟨rfl, hbe⟩
  · have q4' : (o.limit < 4) = True := by simp; omega
    have q5 : (o.limit == 5) = false := by simpa using h5
    rw [if_neg h5] at hr
    by_cases hn : o.n = 0
    · have qn : (o.n != 0) = false := by simp [hn]
      rw [if_pos hn] at hr
      subst hr
      clear hn h5 h4
      go_wp2
      go_ret
      exact ⟨rfl, hbe⟩
    · have qn : (o.n != 0) = true := by simpa using hn
      rw [if_neg hn] at hr
      subst hr
      clear hn h5 h4
      go_wp2
      go_ret
      exact ⟨rfl, hbe⟩
end Go.Proofs.Ytnghhhlcifpiaaa
