/-
  The contracts of the reference's small functions: 'In', 'valueMay', 'classOf', 'Apart'.
  The contract of the reference's 'operandFault': which error an operand by itself has (P1.4), where the machine may be and the values' classes are 0 or 1.
  The contract of the reference's 'reuseFault': which error a Reuse has by what it names (P1.4), where all operands' values are there.
  The contract of the reference's 'spoilsFault': which error a list of spoils has (P1.5), where the machine may be.
-/
import Derived.Test.YtjbjnndmpheedaaA1
import Derived.Test.YtjbjnndmpheedaaA5
import Derived.Deep.DeepCutAuto
import Derived.Deep.CutBlock
namespace Go.Proofs.Ytjbjnndmpheedaa
open Go.RowKit
set_option linter.unusedVariables false

theorem top_at (w : World) (a : Array Value) (t : TypeId) (i : Nat) : (w.alloc (.cells a t)).cell? ⟨w.heap.size, i, none⟩ = a[i]? := by
  have h : (w.alloc (.cells a t)).heap[w.heap.size]? = some (.cells a t) := by
    show (w.heap.push _)[_]? = _
    simp
  simp only [World.cell?, h]
  simp
theorem two_at (w : World) (a b : Array Value) (ta tb : TypeId) :
    (∀ i, ((w.alloc (.cells a ta)).alloc (.cells b tb)).cell? ⟨w.heap.size, i, none⟩ = a[i]?) ∧
    (∀ i, ((w.alloc (.cells a ta)).alloc (.cells b tb)).cell? ⟨w.heap.size + 1, i, none⟩ = b[i]?) := by
  have z1 : (w.alloc (.cells a ta)).heap.size = w.heap.size + 1 := by simp
  refine ⟨fun i => ?_, fun i => ?_⟩
  · rw [old_cell _ _ _ _ (by omega)]; exact top_at w a ta i
  · rw [← z1]; exact top_at _ b tb i
theorem three_at (w : World) (a b c : Array Value) (ta tb tc : TypeId) :
    (∀ i, (((w.alloc (.cells a ta)).alloc (.cells b tb)).alloc (.cells c tc)).cell? ⟨w.heap.size, i, none⟩ = a[i]?) ∧
    (∀ i, (((w.alloc (.cells a ta)).alloc (.cells b tb)).alloc (.cells c tc)).cell? ⟨w.heap.size + 1, i, none⟩ = b[i]?) ∧
    (∀ i, (((w.alloc (.cells a ta)).alloc (.cells b tb)).alloc (.cells c tc)).cell? ⟨w.heap.size + 1 + 1, i, none⟩ = c[i]?) := by
  have z1 : (w.alloc (.cells a ta)).heap.size = w.heap.size + 1 := by simp
  have z2 : ((w.alloc (.cells a ta)).alloc (.cells b tb)).heap.size = w.heap.size + 1 + 1 := by simp
  refine ⟨fun i => ?_, fun i => ?_, fun i => ?_⟩
  · rw [old_cell _ _ _ _ (by omega), old_cell _ _ _ _ (by omega)]; exact top_at w a ta i
  · rw [old_cell _ _ _ _ (by omega), ← z1]; exact top_at _ b tb i
  · rw [← z2]; exact top_at _ c tc i

def inB (n lo hi : Int) : Bool := decide (lo ≤ n ∧ n ≤ hi)

theorem in_is (n lo hi : Int) (b : Bool) (hb : inB n lo hi = b) (w : World) :
    Calls Try.prog 22 #[.int .i64 n, .int .i64 lo, .int .i64 hi] w fun e w' => e = .returned (.bool b) ∧ w' = w := by
  by_cases h : lo ≤ n
  · have H : Hid (decide (n ≤ hi) = b) := by show _ = _; rw [← hb]; simp [inB, h]
    clear hb
    go_enter Try.func22, Try.ntmps22
    go_wp2
    go_ret
    exact ⟨ret_bool H.out, rfl⟩
  · have H : Hid (false = b) := by show _ = _; rw [← hb]; simp [inB]; omega
    clear hb
    go_enter Try.func22, Try.ntmps22
    go_wp2
    go_ret
    exact ⟨ret_bool H.out, rfl⟩

theorem inB_value (n : Nat) (v : Int) : inB v 0 ((n : Int) - 1) = isValueB n v := by
  rw [Bool.eq_iff_iff]
  simp only [inB, isValueB, decide_eq_true_eq]
  omega

theorem valueMay_is (av : Option Addr) (n cv : Nat) (vb : Value) (v : Int) (b : Bool) (hb : isValueB n v = b) (w : World) (hn : n ≤ longest) :
    Calls Try.prog 59 #[.agg #[.slice av n cv, vb], .int .i64 v] w fun e w' => e = .returned (.bool b) ∧ w' = w.alloc (.cells #[.slice av n cv, vb] 25) := by
  have hb' : inB v 0 ((n : Int) - 1) = b := (inB_value n v).trans hb
  unfold longest at hn
  clear hb
  go_enter Try.func59, Try.ntmps59
  go_wp2_with (go_at_call 22; refine (in_is _ _ _ b hb' _).mono ?_; rintro e w' ⟨rfl, rfl⟩)
  go_ret
  exact ⟨rfl, rfl⟩

theorem classOf_any (values : List Int) (av : Option Addr) (cv : Nat) (vb : Value) (v : Int) (w : World) (hv : SlOf w 1 RInt (.slice av values.length cv) values) (h : isValueB values.length v = true) :
    Calls Try.prog 84 #[.agg #[.slice av values.length cv, vb], .int .i64 v] w fun e w' => e = .returned (.int .i64 (classAt values v)) ∧ w' = w.alloc (.cells #[.slice av values.length cv, vb] 25) := by
  obtain ⟨_, _, _, lv⟩ := hv.out
  unfold longest at lv
  obtain ⟨bb, off, rfl, hcell, hbb, v0, v1⟩ := classAt_cell hv v h
  have L := old_cell bb
  go_enter Try.func84, Try.ntmps84
  go_wp2
  go_ret
  exact ⟨rfl, rfl⟩
theorem classOf_is (values : List Int) (av : Option Addr) (cv : Nat) (vb : Value) (v : Int) (r : Int) (hr : classAt values v = r) (w : World) (hv : SlOf w 1 RInt (.slice av values.length cv) values) (h : isValueB values.length v = true) :
    Calls Try.prog 84 #[.agg #[.slice av values.length cv, vb], .int .i64 v] w fun e w' => e = .returned (.int .i64 r) ∧ w' = w.alloc (.cells #[.slice av values.length cv, vb] 25) := by
  rw [← hr]; exact classOf_any values av cv vb v w hv h
end Go.Proofs.Ytjbjnndmpheedaa
namespace Go.Proofs.Ytjbjnndmpheedaa
open Go.RowKit
set_option linter.unusedVariables false

theorem valueMay_b (av : Option Addr) (n cv : Nat) (vb : Value) (v : Int) (b : Bool) (hb : isValueB n v = b) (w : World) (hn : n ≤ longest) :
    Calls Try.prog 59 #[.agg #[.slice av n cv, vb], .int .i64 v] w fun e w' => e = .returned (.bool b) ∧ Below w.heap.size w w' := by
  refine (valueMay_is av n cv vb v b hb w hn).mono ?_
  rintro e w' ⟨rfl, rfl⟩
  exact ⟨rfl, (Below.refl _ _).alloc (Nat.le_refl _) _⟩
theorem classOf_b (values : List Int) (av : Option Addr) (cv : Nat) (vb : Value) (v : Int) (r : Int) (hr : classAt values v = r) (w : World) (hv : SlOf w 1 RInt (.slice av values.length cv) values) (h : isValueB values.length v = true) :
    Calls Try.prog 84 #[.agg #[.slice av values.length cv, vb], .int .i64 v] w fun e w' => e = .returned (.int .i64 r) ∧ Below w.heap.size w w' := by
  refine (classOf_is values av cv vb v r hr w hv h).mono ?_
  rintro e w' ⟨rfl, rfl⟩
  exact ⟨rfl, (Below.refl _ _).alloc (Nat.le_refl _) _⟩

theorem inB_kind (k : Int) : inB k 1 2 = decide (k = 1 ∨ k = 2) := by
  rw [Bool.eq_iff_iff]
  simp only [inB, decide_eq_true_eq]
  omega
theorem inB_giv (m0 m1 c n : Int) (hc : c = 0 ∨ c = 1) : inB n 0 (regsOf m0 m1 c - 1) = givB m0 m1 c n := by
  rw [Bool.eq_iff_iff]
  rcases hc with rfl | rfl
  · simp [inB, givB, isClassB, regsOf]; omega
  · simp [inB, givB, isClassB, regsOf]; omega

set_option maxHeartbeats 8000000 in
theorem operandFault_is (values : List Int) (av : Option Addr) (cv : Nat) (vb : Value) (m0 m1 : Int) (o : Opr) (r : Int) (hr : oprErr values m0 m1 o = r) (w : World) (hv : SlOf w 1 RInt (.slice av values.length cv) values)
    (hcls : ∀ v, isValueB values.length v = true → classAt values v = 0 ∨ classAt values v = 1) (hm0 : 2 ≤ m0 ∧ m0 ≤ 10) (hm1 : 2 ≤ m1 ∧ m1 ≤ 10) :
    Calls Try.prog 80 #[.agg #[.slice av values.length cv, vb], .agg #[.int .i64 m0, .int .i64 m1], .agg #[.int .i64 o.kind, .int .i64 o.value, .bool o.late, .int .i64 o.limit, .int .i64 o.n]] w fun e w' => e = .returned (.int .i64 r) ∧ Below w.heap.size w w' := by
  obtain ⟨_, _, _, lv⟩ := hv.out
  have lv' := lv
  unfold longest at lv'
  obtain ⟨W3, hW3⟩ : ∃ W3, W3 = ((w.alloc (.cells #[.slice av values.length cv, vb] 25)).alloc (.cells #[.int .i64 m0, .int .i64 m1] 28)).alloc (.cells #[.int .i64 o.kind, .int .i64 o.value, .bool o.late, .int .i64 o.limit, .int .i64 o.n] 78) := ⟨_, rfl⟩
  have hbw : Below w.heap.size w W3 := by rw [hW3]; exact (((Below.refl _ _).alloc (Nat.le_refl _) _).alloc (by simp) _).alloc (by simp; omega) _
  have z3 : w.heap.size + 1 + 1 < W3.heap.size := by rw [hW3]; simp
  obtain ⟨t0, t1, t2⟩ := three_at w #[.slice av values.length cv, vb] #[.int .i64 m0, .int .i64 m1] #[.int .i64 o.kind, .int .i64 o.value, .bool o.late, .int .i64 o.limit, .int .i64 o.n] 25 28 78
  have fa : W3.cell? ⟨w.heap.size, 0, none⟩ = some (.slice av values.length cv) := by rw [hW3]; exact t0 0
  have fb : W3.cell? ⟨w.heap.size, 1, none⟩ = some (vb) := by rw [hW3]; exact t0 1
  have ma : W3.cell? ⟨w.heap.size + 1, 0, none⟩ = some (.int .i64 m0) := by rw [hW3]; exact t1 0
  have mb : W3.cell? ⟨w.heap.size + 1, 1, none⟩ = some (.int .i64 m1) := by rw [hW3]; exact t1 1
  have oa : W3.cell? ⟨w.heap.size + 1 + 1, 0, none⟩ = some (.int .i64 o.kind) := by rw [hW3]; exact t2 0
  have ob : W3.cell? ⟨w.heap.size + 1 + 1, 1, none⟩ = some (.int .i64 o.value) := by rw [hW3]; exact t2 1
  have oc : W3.cell? ⟨w.heap.size + 1 + 1, 2, none⟩ = some (.bool o.late) := by rw [hW3]; exact t2 2
  have od : W3.cell? ⟨w.heap.size + 1 + 1, 3, none⟩ = some (.int .i64 o.limit) := by rw [hW3]; exact t2 3
  have oe : W3.cell? ⟨w.heap.size + 1 + 1, 4, none⟩ = some (.int .i64 o.n) := by rw [hW3]; exact t2 4
  have HS : Hid (∀ w', Below W3.heap.size W3 w' → (fun w' => w'.cell? ⟨w.heap.size, 0, none⟩ = some (.slice av values.length cv) ∧ w'.cell? ⟨w.heap.size, 1, none⟩ = some (vb) ∧ w'.cell? ⟨w.heap.size + 1, 0, none⟩ = some (.int .i64 m0) ∧ w'.cell? ⟨w.heap.size + 1, 1, none⟩ = some (.int .i64 m1) ∧ w'.cell? ⟨w.heap.size + 1 + 1, 0, none⟩ = some (.int .i64 o.kind) ∧ w'.cell? ⟨w.heap.size + 1 + 1, 1, none⟩ = some (.int .i64 o.value) ∧ w'.cell? ⟨w.heap.size + 1 + 1, 2, none⟩ = some (.bool o.late) ∧ w'.cell? ⟨w.heap.size + 1 + 1, 3, none⟩ = some (.int .i64 o.limit) ∧ w'.cell? ⟨w.heap.size + 1 + 1, 4, none⟩ = some (.int .i64 o.n) ∧ Below W3.heap.size W3 w') w') := fun w' hh => ⟨(hh.cell (by simp; omega)).trans fa, (hh.cell (by simp; omega)).trans fb, (hh.cell (by simp; omega)).trans ma, (hh.cell (by simp; omega)).trans mb, (hh.cell (by simp; omega)).trans oa, (hh.cell (by simp; omega)).trans ob, (hh.cell (by simp; omega)).trans oc, (hh.cell (by simp; omega)).trans od, (hh.cell (by simp; omega)).trans oe, hh⟩
  have hv3 := hv.below hbw fun _ _ h => h
  have HW : Hid (W3 = ((w.alloc (.cells #[.slice av values.length cv, vb] 25)).alloc (.cells #[.int .i64 m0, .int .i64 m1] 28)).alloc (.cells #[.int .i64 o.kind, .int .i64 o.value, .bool o.late, .int .i64 o.limit, .int .i64 o.n] 78)) := hW3
  clear hW3 t0 t1 t2
  obtain ⟨ha0, ha1⟩ := hm0
  obtain ⟨hc0, hc1⟩ := hm1
  have j0 : IntKind.i64.wrap (m0 - 1) = m0 - 1 := by rw [IntKind.wrap_i64]; omega
  have j1 : IntKind.i64.wrap (m1 - 1) = m1 - 1 := by rw [IntKind.wrap_i64]; omega
  have HCL : Hid (∀ v, isValueB values.length v = true → classAt values v = 0 ∨ classAt values v = 1) := hcls
  clear hcls
  unfold oprErr at hr
  cases hk : inB o.kind 1 2
  · have nk : ¬ (o.kind = 1 ∨ o.kind = 2) := by rw [inB_kind] at hk; simpa using hk
    rw [if_pos nk] at hr
    subst hr
    clear nk
    go_enter Try.func80, Try.ntmps80
    go_upto_region 1 with fail
    rw [← HW.out]
    go_wp2_with fail
    refine (in_is _ _ _ _ hk _).mono ?_
    rintro e W3 ⟨rfl, rfl⟩
    go_wp2
    go_ret
    exact ⟨rfl, hbw⟩
  have nk : o.kind = 1 ∨ o.kind = 2 := by rw [inB_kind] at hk; simpa using hk
  rw [if_neg (fun h => h nk)] at hr
  cases hl : inB o.limit 1 5
  · have nl : o.limit < 1 ∨ 5 < o.limit := by simp [inB] at hl; omega
    rw [if_pos nl] at hr
    subst hr
    clear nl nk
    go_enter Try.func80, Try.ntmps80
    go_upto_region 1 with fail
    rw [← HW.out]
    go_wp2_with fail
    refine (in_is _ _ _ _ hk _).mono ?_
    rintro e W3 ⟨rfl, rfl⟩
    go_wp2_with fail
    refine (in_is _ _ _ _ hl _).mono ?_
    rintro e W3 ⟨rfl, rfl⟩
    go_wp2
    go_ret
    exact ⟨rfl, hbw⟩
  have nl : ¬ (o.limit < 1 ∨ 5 < o.limit) := by simp [inB] at hl; omega
  rw [if_neg nl] at hr
  cases hval : isValueB values.length o.value
  · rw [if_pos hval] at hr
    subst hr
    clear nl nk
    go_enter Try.func80, Try.ntmps80
    go_upto_region 1 with fail
    rw [← HW.out]
    go_wp2_with fail
    refine (in_is _ _ _ _ hk _).mono ?_
    rintro e W3 ⟨rfl, rfl⟩
    go_wp2_with fail
    refine (in_is _ _ _ _ hl _).mono ?_
    rintro e W3 ⟨rfl, rfl⟩
    go_wp2_with fail
    refine (valueMay_b _ _ _ _ _ _ hval _ lv).mono ?_
    rintro e w4 ⟨rfl, hb4⟩
    go_wp2
    go_ret
    exact ⟨rfl, hbw.trans (hb4.mono hbw.size)⟩
  rw [if_neg (by simp [hval])] at hr
  have hc := HCL.out _ hval
  go_enter Try.func80, Try.ntmps80
  go_upto_region 1 with fail
  rw [← HW.out]
  go_wp2_with fail
  refine (in_is _ _ _ _ hk _).mono ?_
  rintro e W3 ⟨rfl, rfl⟩
  go_wp2_with fail
  refine (in_is _ _ _ _ hl _).mono ?_
  rintro e W3 ⟨rfl, rfl⟩
  go_wp2_with fail
  refine (valueMay_b _ _ _ _ _ _ hval _ lv).mono ?_
  rintro e w4 ⟨rfl, hb4⟩
  have z4 := hb4.size
  have hv4 := hv3.below hb4 fun _ _ h => h
  obtain ⟨fa', fb', ma', mb', oa', ob', oc', od', oe', _⟩ := HS.out _ hb4
  have hb4d : Below W3.heap.size W3 w4.drew := hb4.drew
  have HV : Hid (∀ w', Below W3.heap.size W3 w' → SlOf w' 1 RInt (.slice av values.length cv) values) := fun w' hh => hv3.below hh fun _ _ h => h
  clear fa fb ma mb oa ob oc od oe hv4 hv3 hv
  by_cases h4 : o.limit = 4
  · rw [if_pos h4] at hr
    have q4 : (o.limit == 4) = true := by simp [h4]
    have q4' : (o.limit < 4) = False := by simp [h4]
    have q5 : (o.limit == 5) = false := by simp [h4]
    have HG := inB_giv m0 m1 (classAt values o.value) o.n hc
    obtain ⟨g, hg⟩ : ∃ g, givB m0 m1 (classAt values o.value) o.n = g := ⟨_, rfl⟩
    rw [hg] at HG hr
    go_upto_region 5 with fail
    refine wp_region_X (fun w' => w'.cell? ⟨w.heap.size, 0, none⟩ = some (.slice av values.length cv) ∧ w'.cell? ⟨w.heap.size, 1, none⟩ = some (vb) ∧ w'.cell? ⟨w.heap.size + 1, 0, none⟩ = some (.int .i64 m0) ∧ w'.cell? ⟨w.heap.size + 1, 1, none⟩ = some (.int .i64 m1) ∧ w'.cell? ⟨w.heap.size + 1 + 1, 0, none⟩ = some (.int .i64 o.kind) ∧ w'.cell? ⟨w.heap.size + 1 + 1, 1, none⟩ = some (.int .i64 o.value) ∧ w'.cell? ⟨w.heap.size + 1 + 1, 2, none⟩ = some (.bool o.late) ∧ w'.cell? ⟨w.heap.size + 1 + 1, 3, none⟩ = some (.int .i64 o.limit) ∧ w'.cell? ⟨w.heap.size + 1 + 1, 4, none⟩ = some (.int .i64 o.n) ∧ Below W3.heap.size W3 w') 99 (by kernel_rfl) (HS.out _ hb4d) (fun hHeld => ?_)
    refine wpXt 0 rfl (v := ?_) (by kernel_rfl) (fun _ _ _ h => h) (by rfl) ?_ hHeld ?_
    rotate_left
    · intro w' hSw
      go_simp <;> with_reducible rfl
    try simp only [Act.put, List.setIfInBounds_toArray, List.set_cons_zero, List.set_cons_succ]
    refine wpXt 1 rfl (v := ?_) (by kernel_rfl) (fun _ _ _ h => h) (by rfl) ?_ hHeld ?_
    rotate_left
    · intro w' hSw
      go_simp <;> with_reducible rfl
    try simp only [Act.put, List.setIfInBounds_toArray, List.set_cons_zero, List.set_cons_succ]
    refine wpXt 2 rfl (v := ?_) (by kernel_rfl) (fun _ _ _ h => h) (by rfl) ?_ hHeld ?_
    rotate_left
    · intro w' hSw
      go_simp <;> with_reducible rfl
    try simp only [Act.put, List.setIfInBounds_toArray, List.set_cons_zero, List.set_cons_succ]
    refine wpXt 3 rfl (v := ?_) (by kernel_rfl) (fun _ _ _ h => h) (by rfl) ?_ hHeld ?_
    rotate_left
    · intro w' hSw
      go_simp <;> with_reducible rfl
    try simp only [Act.put, List.setIfInBounds_toArray, List.set_cons_zero, List.set_cons_succ]
    refine wpXt 4 rfl (v := ?_) (by kernel_rfl) (fun _ _ _ h => h) (by rfl) ?_ hHeld ?_
    rotate_left
    · intro w' hSw
      go_simp <;> with_reducible rfl
    try simp only [Act.put, List.setIfInBounds_toArray, List.set_cons_zero, List.set_cons_succ]
    refine wpXt 5 rfl (v := ?_) (by kernel_rfl) (fun _ _ _ h => h) (by rfl) ?_ hHeld ?_
    rotate_left
    · intro w' hSw
      go_simp <;> with_reducible rfl
    try simp only [Act.put, List.setIfInBounds_toArray, List.set_cons_zero, List.set_cons_succ]
    refine wpXt 6 rfl (v := ?_) (by kernel_rfl) (fun _ _ _ h => h) (by rfl) ?_ hHeld ?_
    rotate_left
    · intro w' hSw
      go_simp <;> with_reducible rfl
    try simp only [Act.put, List.setIfInBounds_toArray, List.set_cons_zero, List.set_cons_succ]
    refine wpXt 7 rfl (v := ?_) (by kernel_rfl) (fun _ _ _ h => h) (by rfl) ?_ hHeld ?_
    rotate_left
    · intro w' hSw
      go_simp <;> with_reducible rfl
    try simp only [Act.put, List.setIfInBounds_toArray, List.set_cons_zero, List.set_cons_succ]
    refine wpXt 8 rfl (v := ?_) (by kernel_rfl) (fun _ _ _ h => h) (by rfl) ?_ hHeld ?_
    rotate_left
    · intro w' hSw
      go_simp <;> with_reducible rfl
    try simp only [Act.put, List.setIfInBounds_toArray, List.set_cons_zero, List.set_cons_succ]
    refine wpXt 10 rfl (v := ?_) (by kernel_rfl) (fun _ _ _ h => h) (by rfl) ?_ hHeld ?_
    rotate_left
    · intro w' hSw
      go_simp <;> with_reducible rfl
    try simp only [Act.put, List.setIfInBounds_toArray, List.set_cons_zero, List.set_cons_succ]
    rcases hc with hc | hc
    · rw [hc] at HG
      have HG' : inB o.n 0 (m0 - 1) = g := HG
      have HC : Hid (classAt values o.value = 0) := hc
      have HI : Hid (inB o.n 0 (m0 - 1) = g) := HG'
      clear HG HG' hg hc
      refine wpXs 9 rfl (by kernel_rfl) (fun K hK => ?_)
      go_simp
      refine (classOf_b values _ _ _ _ _ HC.out _ (HV.out _ hb4d) hval).mono ?_
      rintro e w5 ⟨rfl, hb5⟩
      have hb5' : Below W3.heap.size W3 w5 := hb4d.trans (hb5.mono hb4d.size)
      refine hK.out _ _ (HS.out _ hb5') (fun hHeld => ?_)
      clear hK K
      try simp only [Act.put, List.setIfInBounds_toArray, List.set_cons_zero, List.set_cons_succ]
      refine wpXt 11 rfl (v := ?_) (by kernel_rfl) (fun _ _ _ h => h) (by rfl) ?_ hHeld ?_
      rotate_left
      · intro w' hSw
        go_simp <;> with_reducible rfl
      try simp only [Act.put, List.setIfInBounds_toArray, List.set_cons_zero, List.set_cons_succ]
      refine wpXt 12 rfl (v := ?_) (by kernel_rfl) (fun _ _ _ h => h) (by rfl) ?_ hHeld ?_
      rotate_left
      · intro w' hSw
        go_simp <;> with_reducible rfl
      try simp only [Act.put, List.setIfInBounds_toArray, List.set_cons_zero, List.set_cons_succ]
      refine wpXt 13 rfl (v := ?_) (by kernel_rfl) (fun _ _ _ h => h) (by rfl) ?_ hHeld ?_
      rotate_left
      · intro w' hSw
        go_simp <;> with_reducible rfl
      try simp only [Act.put, List.setIfInBounds_toArray, List.set_cons_zero, List.set_cons_succ]
      cases g
      · refine wpXs 14 rfl (by kernel_rfl) (fun K hK => ?_)
        go_simp
        refine (in_is _ _ _ _ HI.out _).mono ?_
        rintro e w5 ⟨rfl, rfl⟩
        refine hK.out _ _ (HS.out _ hb5') (fun hHeld => ?_)
        clear hK K
        try simp only [Act.put, List.setIfInBounds_toArray, List.set_cons_zero, List.set_cons_succ]
        refine wpXt 15 rfl (v := ?_) (by kernel_rfl) (fun _ _ _ h => h) (by rfl) ?_ hHeld ?_
        rotate_left
        · intro w' hSw
          go_simp <;> with_reducible rfl
        try simp only [Act.put, List.setIfInBounds_toArray, List.set_cons_zero, List.set_cons_succ]
        refine wpXs 16 rfl (by kernel_rfl) (fun K hK => ?_)
        go_simp
        refine hK.out _ _ (HS.out _ hb5') (fun hHeld => ?_)
        clear hK K
        try simp only [Act.put, List.setIfInBounds_toArray, List.set_cons_zero, List.set_cons_succ]
        refine wpAnyX_done (by kernel_rfl) ?_ _
        obtain ⟨_, _, _, _, oa, ob, oc, od, oe, _⟩ := HS.out _ hb5'
        simp at hr
        subst hr
        go_wp2
        go_ret
        exact ⟨rfl, hbw.trans (hb5'.mono hbw.size)⟩
      · refine wpXs 14 rfl (by kernel_rfl) (fun K hK => ?_)
        go_simp
        refine (in_is _ _ _ _ HI.out _).mono ?_
        rintro e w5 ⟨rfl, rfl⟩
        refine hK.out _ _ (HS.out _ hb5') (fun hHeld => ?_)
        clear hK K
        try simp only [Act.put, List.setIfInBounds_toArray, List.set_cons_zero, List.set_cons_succ]
        refine wpXt 15 rfl (v := ?_) (by kernel_rfl) (fun _ _ _ h => h) (by rfl) ?_ hHeld ?_
        rotate_left
        · intro w' hSw
          go_simp <;> with_reducible rfl
        try simp only [Act.put, List.setIfInBounds_toArray, List.set_cons_zero, List.set_cons_succ]
        refine wpXs 16 rfl (by kernel_rfl) (fun K hK => ?_)
        go_simp
        refine hK.out _ _ (HS.out _ hb5') (fun hHeld => ?_)
        clear hK K
        try simp only [Act.put, List.setIfInBounds_toArray, List.set_cons_zero, List.set_cons_succ]
        refine wpAnyX_done (by kernel_rfl) ?_ _
        obtain ⟨_, _, _, _, oa, ob, oc, od, oe, _⟩ := HS.out _ hb5'
        simp at hr
        subst hr
        go_wp2
        go_ret
        exact ⟨rfl, hbw.trans (hb5'.mono hbw.size)⟩
    · rw [hc] at HG
      have HG' : inB o.n 0 (m1 - 1) = g := HG
      have HC : Hid (classAt values o.value = 1) := hc
      have HI : Hid (inB o.n 0 (m1 - 1) = g) := HG'
      clear HG HG' hg hc
      refine wpXs 9 rfl (by kernel_rfl) (fun K hK => ?_)
      go_simp
      refine (classOf_b values _ _ _ _ _ HC.out _ (HV.out _ hb4d) hval).mono ?_
      rintro e w5 ⟨rfl, hb5⟩
      have hb5' : Below W3.heap.size W3 w5 := hb4d.trans (hb5.mono hb4d.size)
      refine hK.out _ _ (HS.out _ hb5') (fun hHeld => ?_)
      clear hK K
      try simp only [Act.put, List.setIfInBounds_toArray, List.set_cons_zero, List.set_cons_succ]
      refine wpXt 11 rfl (v := ?_) (by kernel_rfl) (fun _ _ _ h => h) (by rfl) ?_ hHeld ?_
      rotate_left
      · intro w' hSw
        go_simp <;> with_reducible rfl
      try simp only [Act.put, List.setIfInBounds_toArray, List.set_cons_zero, List.set_cons_succ]
      refine wpXt 12 rfl (v := ?_) (by kernel_rfl) (fun _ _ _ h => h) (by rfl) ?_ hHeld ?_
      rotate_left
      · intro w' hSw
        go_simp <;> with_reducible rfl
      try simp only [Act.put, List.setIfInBounds_toArray, List.set_cons_zero, List.set_cons_succ]
      refine wpXt 13 rfl (v := ?_) (by kernel_rfl) (fun _ _ _ h => h) (by rfl) ?_ hHeld ?_
      rotate_left
      · intro w' hSw
        go_simp <;> with_reducible rfl
      try simp only [Act.put, List.setIfInBounds_toArray, List.set_cons_zero, List.set_cons_succ]
      cases g
      · refine wpXs 14 rfl (by kernel_rfl) (fun K hK => ?_)
        go_simp
        refine (in_is _ _ _ _ HI.out _).mono ?_
        rintro e w5 ⟨rfl, rfl⟩
        refine hK.out _ _ (HS.out _ hb5') (fun hHeld => ?_)
        clear hK K
        try simp only [Act.put, List.setIfInBounds_toArray, List.set_cons_zero, List.set_cons_succ]
        refine wpXt 15 rfl (v := ?_) (by kernel_rfl) (fun _ _ _ h => h) (by rfl) ?_ hHeld ?_
        rotate_left
        · intro w' hSw
          go_simp <;> with_reducible rfl
        try simp only [Act.put, List.setIfInBounds_toArray, List.set_cons_zero, List.set_cons_succ]
        refine wpXs 16 rfl (by kernel_rfl) (fun K hK => ?_)
        go_simp
        refine hK.out _ _ (HS.out _ hb5') (fun hHeld => ?_)
        clear hK K
        try simp only [Act.put, List.setIfInBounds_toArray, List.set_cons_zero, List.set_cons_succ]
        refine wpAnyX_done (by kernel_rfl) ?_ _
        obtain ⟨_, _, _, _, oa, ob, oc, od, oe, _⟩ := HS.out _ hb5'
        simp at hr
        subst hr
        go_wp2
        go_ret
        exact ⟨rfl, hbw.trans (hb5'.mono hbw.size)⟩
      · refine wpXs 14 rfl (by kernel_rfl) (fun K hK => ?_)
        go_simp
        refine (in_is _ _ _ _ HI.out _).mono ?_
        rintro e w5 ⟨rfl, rfl⟩
        refine hK.out _ _ (HS.out _ hb5') (fun hHeld => ?_)
        clear hK K
        try simp only [Act.put, List.setIfInBounds_toArray, List.set_cons_zero, List.set_cons_succ]
        refine wpXt 15 rfl (v := ?_) (by kernel_rfl) (fun _ _ _ h => h) (by rfl) ?_ hHeld ?_
        rotate_left
        · intro w' hSw
          go_simp <;> with_reducible rfl
        try simp only [Act.put, List.setIfInBounds_toArray, List.set_cons_zero, List.set_cons_succ]
        refine wpXs 16 rfl (by kernel_rfl) (fun K hK => ?_)
        go_simp
        refine hK.out _ _ (HS.out _ hb5') (fun hHeld => ?_)
        clear hK K
        try simp only [Act.put, List.setIfInBounds_toArray, List.set_cons_zero, List.set_cons_succ]
        refine wpAnyX_done (by kernel_rfl) ?_ _
        obtain ⟨_, _, _, _, oa, ob, oc, od, oe, _⟩ := HS.out _ hb5'
        simp at hr
        subst hr
        go_wp2
        go_ret
        exact ⟨rfl, hbw.trans (hb5'.mono hbw.size)⟩
  have q4 : (o.limit == 4) = false := by simpa using h4
  rw [if_neg h4] at hr
  have hbe : Below w.heap.size w w4.drew := hbw.trans (hb4d.mono hbw.size)
  go_upto_region 5 with fail
  refine wp_region_X (fun w' => w'.cell? ⟨w.heap.size, 0, none⟩ = some (.slice av values.length cv) ∧ w'.cell? ⟨w.heap.size, 1, none⟩ = some (vb) ∧ w'.cell? ⟨w.heap.size + 1, 0, none⟩ = some (.int .i64 m0) ∧ w'.cell? ⟨w.heap.size + 1, 1, none⟩ = some (.int .i64 m1) ∧ w'.cell? ⟨w.heap.size + 1 + 1, 0, none⟩ = some (.int .i64 o.kind) ∧ w'.cell? ⟨w.heap.size + 1 + 1, 1, none⟩ = some (.int .i64 o.value) ∧ w'.cell? ⟨w.heap.size + 1 + 1, 2, none⟩ = some (.bool o.late) ∧ w'.cell? ⟨w.heap.size + 1 + 1, 3, none⟩ = some (.int .i64 o.limit) ∧ w'.cell? ⟨w.heap.size + 1 + 1, 4, none⟩ = some (.int .i64 o.n) ∧ Below W3.heap.size W3 w') 99 (by kernel_rfl) (HS.out _ hb4d) (fun hHeld => ?_)
  refine wpXt 0 rfl (v := ?_) (by kernel_rfl) (fun _ _ _ h => h) (by rfl) ?_ hHeld ?_
  rotate_left
  · intro w' hSw
    go_simp <;> with_reducible rfl
  try simp only [Act.put, List.setIfInBounds_toArray, List.set_cons_zero, List.set_cons_succ]
  refine wpXt 1 rfl (v := ?_) (by kernel_rfl) (fun _ _ _ h => h) (by rfl) ?_ hHeld ?_
  rotate_left
  · intro w' hSw
    go_simp <;> with_reducible rfl
  try simp only [Act.put, List.setIfInBounds_toArray, List.set_cons_zero, List.set_cons_succ]
  refine wpXt 2 rfl (v := ?_) (by kernel_rfl) (fun _ _ _ h => h) (by rfl) ?_ hHeld ?_
  rotate_left
  · intro w' hSw
    go_simp <;> with_reducible rfl
  try simp only [Act.put, List.setIfInBounds_toArray, List.set_cons_zero, List.set_cons_succ]
  refine wpXt 3 rfl (v := ?_) (by kernel_rfl) (fun _ _ _ h => h) (by rfl) ?_ hHeld ?_
  rotate_left
  · intro w' hSw
    go_simp <;> with_reducible rfl
  try simp only [Act.put, List.setIfInBounds_toArray, List.set_cons_zero, List.set_cons_succ]
  refine wpXk 4 rfl (by kernel_rfl) (fun _ _ _ h => h) (by rfl) hHeld ?_
  try simp only [Act.put, List.setIfInBounds_toArray, List.set_cons_zero, List.set_cons_succ]
  refine wpXk 5 rfl (by kernel_rfl) (fun _ _ _ h => h) (by rfl) hHeld ?_
  try simp only [Act.put, List.setIfInBounds_toArray, List.set_cons_zero, List.set_cons_succ]
  refine wpXk 6 rfl (by kernel_rfl) (fun _ _ _ h => h) (by rfl) hHeld ?_
  try simp only [Act.put, List.setIfInBounds_toArray, List.set_cons_zero, List.set_cons_succ]
  refine wpXk 7 rfl (by kernel_rfl) (fun _ _ _ h => h) (by rfl) hHeld ?_
  try simp only [Act.put, List.setIfInBounds_toArray, List.set_cons_zero, List.set_cons_succ]
  refine wpXk 8 rfl (by kernel_rfl) (fun _ _ _ h => h) (by rfl) hHeld ?_
  try simp only [Act.put, List.setIfInBounds_toArray, List.set_cons_zero, List.set_cons_succ]
  refine wpXk 9 rfl (by kernel_rfl) (fun _ _ _ h => h) (by rfl) hHeld ?_
  try simp only [Act.put, List.setIfInBounds_toArray, List.set_cons_zero, List.set_cons_succ]
  refine wpXk 10 rfl (by kernel_rfl) (fun _ _ _ h => h) (by rfl) hHeld ?_
  try simp only [Act.put, List.setIfInBounds_toArray, List.set_cons_zero, List.set_cons_succ]
  refine wpXk 11 rfl (by kernel_rfl) (fun _ _ _ h => h) (by rfl) hHeld ?_
  try simp only [Act.put, List.setIfInBounds_toArray, List.set_cons_zero, List.set_cons_succ]
  refine wpXk 12 rfl (by kernel_rfl) (fun _ _ _ h => h) (by rfl) hHeld ?_
  try simp only [Act.put, List.setIfInBounds_toArray, List.set_cons_zero, List.set_cons_succ]
  refine wpXk 13 rfl (by kernel_rfl) (fun _ _ _ h => h) (by rfl) hHeld ?_
  try simp only [Act.put, List.setIfInBounds_toArray, List.set_cons_zero, List.set_cons_succ]
  refine wpXk 14 rfl (by kernel_rfl) (fun _ _ _ h => h) (by rfl) hHeld ?_
  try simp only [Act.put, List.setIfInBounds_toArray, List.set_cons_zero, List.set_cons_succ]
  refine wpXk 15 rfl (by kernel_rfl) (fun _ _ _ h => h) (by rfl) hHeld ?_
  try simp only [Act.put, List.setIfInBounds_toArray, List.set_cons_zero, List.set_cons_succ]
  refine wpXs 16 rfl (by kernel_rfl) (fun K hK => ?_)
  go_simp
  refine hK.out _ _ (HS.out _ hb4d) (fun hHeld => ?_)
  clear hK K
  try simp only [Act.put, List.setIfInBounds_toArray, List.set_cons_zero, List.set_cons_succ]
  refine wpAnyX_done (by kernel_rfl) ?_ _
  obtain ⟨_, _, _, _, oa, ob, oc, od, oe, _⟩ := HS.out _ hb4d
  by_cases h5 : o.limit = 5
  · have q4' : (o.limit < 4) = False := by simp [h5]
    have q5 : (o.limit == 5) = true := by simp [h5]
    rw [if_pos h5] at hr
    rcases nk with k1 | k2
    · have q1 : (o.kind == 1) = true := by simp [k1]
      rw [if_neg (by simp [k1])] at hr
      subst hr
      clear h5 k1 hk
      go_wp2
      go_ret
      exact ⟨rfl, hbe⟩
    · have q1 : (o.kind == 1) = false := by simp [k2]
      cases hlate : o.late
      · rw [if_neg (by simp [hlate])] at hr
        subst hr
        rw [hlate] at oc
        clear h5 k2 hk
        go_wp2
        go_ret
        exact ⟨rfl, hbe⟩
      · rw [if_pos ⟨k2, hlate⟩] at hr
        subst hr
        rw [hlate] at oc
        clear h5 k2 hk
        go_wp2
        go_ret
        exact ⟨rfl, hbe⟩
  · have q4' : (o.limit < 4) = True := by simp; omega
    have q5 : (o.limit == 5) = false := by simpa using h5
    rw [if_neg h5] at hr
    by_cases hn : o.n = 0
    · have qn : (o.n != 0) = false := by simp [hn]
      rw [if_pos hn] at hr
      subst hr
      clear hn h5 h4
      go_wp2
      go_ret
      exact ⟨rfl, hbe⟩
    · have qn : (o.n != 0) = true := by simpa using hn
      rw [if_neg hn] at hr
      subst hr
      clear hn h5 h4
      go_wp2
      go_ret
      exact ⟨rfl, hbe⟩
end Go.Proofs.Ytjbjnndmpheedaa
namespace Go.Proofs.Ytjbjnndmpheedaa
open Go.RowKit
set_option linter.unusedVariables false

set_option maxHeartbeats 8000000 in
theorem reuseFault_is (values : List Int) (av : Option Addr) (cv : Nat) (vb : Value) (x : Ins) (ao asp : Option Addr) (co csp : Nat) (o : Opr) (r : Int) (hr : reuseErr values o x.operands = r) (w : World) (hv : SlOf w 1 RInt (.slice av values.length cv) values)
    (ho : SlOf w 5 ROpr (.slice ao x.operands.length co) x.operands) (hov : isValueB values.length o.value = true) (hall : ∀ u ∈ x.operands, isValueB values.length u.value = true) (hk12 : ∀ u ∈ x.operands, u.kind = 1 ∨ u.kind = 2) :
    Calls Try.prog 81 #[.agg #[.slice av values.length cv, vb], .agg #[.int .i64 x.op, .slice ao x.operands.length co, .slice asp x.spoils.length csp], .agg #[.int .i64 o.kind, .int .i64 o.value, .bool o.late, .int .i64 o.limit, .int .i64 o.n]] w fun e w' => e = .returned (.int .i64 r) ∧ Below w.heap.size w w' := by
  obtain ⟨_, _, _, lv⟩ := hv.out
  obtain ⟨_, _, _, lo⟩ := ho.out
  unfold longest at lv lo
  obtain ⟨W, hW⟩ : ∃ W, W = ((w.alloc (.cells #[.slice av values.length cv, vb] 25)).alloc (.cells #[.int .i64 x.op, .slice ao x.operands.length co, .slice asp x.spoils.length csp] 45)).alloc (.cells #[.int .i64 o.kind, .int .i64 o.value, .bool o.late, .int .i64 o.limit, .int .i64 o.n] 78) := ⟨_, rfl⟩
  have hbw : Below w.heap.size w W := by rw [hW]; exact (((Below.refl _ _).alloc (Nat.le_refl _) _).alloc (by simp) _).alloc (by simp; omega) _
  have zW : w.heap.size + 1 + 1 < W.heap.size := by rw [hW]; simp
  obtain ⟨t0, t1, t2⟩ := three_at w #[.slice av values.length cv, vb] #[.int .i64 x.op, .slice ao x.operands.length co, .slice asp x.spoils.length csp] #[.int .i64 o.kind, .int .i64 o.value, .bool o.late, .int .i64 o.limit, .int .i64 o.n] 25 45 78
  have f0_0 : W.cell? ⟨w.heap.size, 0, none⟩ = some (.slice av values.length cv) := by rw [hW]; exact t0 0
  have f0_1 : W.cell? ⟨w.heap.size, 1, none⟩ = some (vb) := by rw [hW]; exact t0 1
  have x1_0 : W.cell? ⟨w.heap.size + 1, 0, none⟩ = some (.int .i64 x.op) := by rw [hW]; exact t1 0
  have x1_1 : W.cell? ⟨w.heap.size + 1, 1, none⟩ = some (.slice ao x.operands.length co) := by rw [hW]; exact t1 1
  have x1_2 : W.cell? ⟨w.heap.size + 1, 2, none⟩ = some (.slice asp x.spoils.length csp) := by rw [hW]; exact t1 2
  have o2_0 : W.cell? ⟨w.heap.size + 1 + 1, 0, none⟩ = some (.int .i64 o.kind) := by rw [hW]; exact t2 0
  have o2_1 : W.cell? ⟨w.heap.size + 1 + 1, 1, none⟩ = some (.int .i64 o.value) := by rw [hW]; exact t2 1
  have o2_2 : W.cell? ⟨w.heap.size + 1 + 1, 2, none⟩ = some (.bool o.late) := by rw [hW]; exact t2 2
  have o2_3 : W.cell? ⟨w.heap.size + 1 + 1, 3, none⟩ = some (.int .i64 o.limit) := by rw [hW]; exact t2 3
  have o2_4 : W.cell? ⟨w.heap.size + 1 + 1, 4, none⟩ = some (.int .i64 o.n) := by rw [hW]; exact t2 4
  have HS : Hid (∀ w', Below W.heap.size W w' → (fun w' => w'.cell? ⟨w.heap.size, 0, none⟩ = some (.slice av values.length cv) ∧ w'.cell? ⟨w.heap.size, 1, none⟩ = some (vb) ∧ w'.cell? ⟨w.heap.size + 1, 0, none⟩ = some (.int .i64 x.op) ∧ w'.cell? ⟨w.heap.size + 1, 1, none⟩ = some (.slice ao x.operands.length co) ∧ w'.cell? ⟨w.heap.size + 1, 2, none⟩ = some (.slice asp x.spoils.length csp) ∧ w'.cell? ⟨w.heap.size + 1 + 1, 0, none⟩ = some (.int .i64 o.kind) ∧ w'.cell? ⟨w.heap.size + 1 + 1, 1, none⟩ = some (.int .i64 o.value) ∧ w'.cell? ⟨w.heap.size + 1 + 1, 2, none⟩ = some (.bool o.late) ∧ w'.cell? ⟨w.heap.size + 1 + 1, 3, none⟩ = some (.int .i64 o.limit) ∧ w'.cell? ⟨w.heap.size + 1 + 1, 4, none⟩ = some (.int .i64 o.n) ∧ Below W.heap.size W w') w') := fun w' hh => ⟨(hh.cell (by simp; omega)).trans f0_0, (hh.cell (by simp; omega)).trans f0_1, (hh.cell (by simp; omega)).trans x1_0, (hh.cell (by simp; omega)).trans x1_1, (hh.cell (by simp; omega)).trans x1_2, (hh.cell (by simp; omega)).trans o2_0, (hh.cell (by simp; omega)).trans o2_1, (hh.cell (by simp; omega)).trans o2_2, (hh.cell (by simp; omega)).trans o2_3, (hh.cell (by simp; omega)).trans o2_4, hh⟩
  have HW : Hid (W = ((w.alloc (.cells #[.slice av values.length cv, vb] 25)).alloc (.cells #[.int .i64 x.op, .slice ao x.operands.length co, .slice asp x.spoils.length csp] 45)).alloc (.cells #[.int .i64 o.kind, .int .i64 o.value, .bool o.late, .int .i64 o.limit, .int .i64 o.n] 78)) := hW
  clear hW t0 t1 t2
  unfold reuseErr at hr
  have HALL : Hid (∀ u ∈ x.operands, isValueB values.length u.value = true) := hall
  have HK : Hid (∀ u ∈ x.operands, u.kind = 1 ∨ u.kind = 2) := hk12
  clear hall hk12
  by_cases hb : o.n < 0 ∨ (x.operands.length : Int) ≤ o.n
  · rw [if_pos hb] at hr
    subst hr
    have hi : inB o.n 0 ((x.operands.length : Int) - 1) = false := by simp [inB]; omega
    clear hb
    go_enter Try.func81, Try.ntmps81
    go_upto_region 1 with fail
    rw [← HW.out]
    go_wp2_with fail
    refine (in_is _ _ _ _ hi _).mono ?_
    rintro e W ⟨rfl, rfl⟩
    go_wp2
    go_ret
    exact ⟨rfl, hbw⟩
  rw [if_neg hb] at hr
  have n0 : 0 ≤ o.n := by omega
  have n1 : o.n < (x.operands.length : Int) := by omega
  have hi : inB o.n 0 ((x.operands.length : Int) - 1) = true := by simp [inB]; omega
  have hlt : o.n.toNat < x.operands.length := by omega
  rw [List.getElem?_eq_getElem hlt] at hr
  simp only at hr
  have hu := HALL.out _ (List.getElem_mem hlt)
  have hku := HK.out _ (List.getElem_mem hlt)
  obtain ⟨b5, off5, rfl, hb5, c0, c1, c2, c3, c4⟩ := opr_cells (ho.below hbw fun _ _ h => h) _ hlt
  generalize x.operands[o.n.toNat] = u at *
  obtain ⟨W4, hW4⟩ : ∃ W4, W4 = W.alloc (.cells #[.int .i64 u.kind, .int .i64 u.value, .bool u.late, .int .i64 u.limit, .int .i64 u.n] 78) := ⟨_, rfl⟩
  have hb4 : Below W.heap.size W W4 := by rw [hW4]; exact (Below.refl _ _).alloc (Nat.le_refl _) _
  have z4 : W.heap.size < W4.heap.size := by rw [hW4]; simp
  have t4 := top_at W #[.int .i64 u.kind, .int .i64 u.value, .bool u.late, .int .i64 u.limit, .int .i64 u.n] 78
  have u_0 : W4.cell? ⟨W.heap.size, 0, none⟩ = some (.int .i64 u.kind) := by rw [hW4]; exact t4 0
  have u_1 : W4.cell? ⟨W.heap.size, 1, none⟩ = some (.int .i64 u.value) := by rw [hW4]; exact t4 1
  have u_2 : W4.cell? ⟨W.heap.size, 2, none⟩ = some (.bool u.late) := by rw [hW4]; exact t4 2
  have u_3 : W4.cell? ⟨W.heap.size, 3, none⟩ = some (.int .i64 u.limit) := by rw [hW4]; exact t4 3
  have u_4 : W4.cell? ⟨W.heap.size, 4, none⟩ = some (.int .i64 u.n) := by rw [hW4]; exact t4 4
  obtain ⟨f0_0', f0_1', x1_0', x1_1', x1_2', o2_0', o2_1', o2_2', o2_3', o2_4', _⟩ := HS.out _ hb4
  have HS4 : Hid (∀ w', Below W4.heap.size W4 w' → (fun w' => w'.cell? ⟨w.heap.size, 0, none⟩ = some (.slice av values.length cv) ∧ w'.cell? ⟨w.heap.size, 1, none⟩ = some (vb) ∧ w'.cell? ⟨w.heap.size + 1, 0, none⟩ = some (.int .i64 x.op) ∧ w'.cell? ⟨w.heap.size + 1, 1, none⟩ = some (.slice (some ⟨b5, off5, none⟩) x.operands.length co) ∧ w'.cell? ⟨w.heap.size + 1, 2, none⟩ = some (.slice asp x.spoils.length csp) ∧ w'.cell? ⟨w.heap.size + 1 + 1, 0, none⟩ = some (.int .i64 o.kind) ∧ w'.cell? ⟨w.heap.size + 1 + 1, 1, none⟩ = some (.int .i64 o.value) ∧ w'.cell? ⟨w.heap.size + 1 + 1, 2, none⟩ = some (.bool o.late) ∧ w'.cell? ⟨w.heap.size + 1 + 1, 3, none⟩ = some (.int .i64 o.limit) ∧ w'.cell? ⟨w.heap.size + 1 + 1, 4, none⟩ = some (.int .i64 o.n) ∧ w'.cell? ⟨W.heap.size, 0, none⟩ = some (.int .i64 u.kind) ∧ w'.cell? ⟨W.heap.size, 1, none⟩ = some (.int .i64 u.value) ∧ w'.cell? ⟨W.heap.size, 2, none⟩ = some (.bool u.late) ∧ w'.cell? ⟨W.heap.size, 3, none⟩ = some (.int .i64 u.limit) ∧ w'.cell? ⟨W.heap.size, 4, none⟩ = some (.int .i64 u.n) ∧ Below W4.heap.size W4 w') w') := fun w' hh => ⟨(hh.cell (by simp; omega)).trans f0_0', (hh.cell (by simp; omega)).trans f0_1', (hh.cell (by simp; omega)).trans x1_0', (hh.cell (by simp; omega)).trans x1_1', (hh.cell (by simp; omega)).trans x1_2', (hh.cell (by simp; omega)).trans o2_0', (hh.cell (by simp; omega)).trans o2_1', (hh.cell (by simp; omega)).trans o2_2', (hh.cell (by simp; omega)).trans o2_3', (hh.cell (by simp; omega)).trans o2_4', (hh.cell (by simp; omega)).trans u_0, (hh.cell (by simp; omega)).trans u_1, (hh.cell (by simp; omega)).trans u_2, (hh.cell (by simp; omega)).trans u_3, (hh.cell (by simp; omega)).trans u_4, hh⟩
  have HW4 : Hid (W4 = W.alloc (.cells #[.int .i64 u.kind, .int .i64 u.value, .bool u.late, .int .i64 u.limit, .int .i64 u.n] 78)) := hW4
  have hbW4 : Below w.heap.size w W4 := hbw.trans (hb4.mono hbw.size)
  have hv4 := hv.below hbW4 fun _ _ h => h
  have HV : Hid (∀ w', Below W4.heap.size W4 w' → SlOf w' 1 RInt (.slice av values.length cv) values) := fun w' hh => hv4.below hh fun _ _ h => h
  have hb4d : Below W4.heap.size W4 W4.drew := (Below.refl _ _).drew
  clear hW4 t4 hv4 hv ho hb
  go_enter Try.func81, Try.ntmps81
  go_upto_region 1 with fail
  rw [← HW.out]
  go_wp2_with fail
  refine (in_is _ _ _ _ hi _).mono ?_
  rintro e W ⟨rfl, rfl⟩
  go_upto_region 4 with fail
  rw [← HW4.out]
  clear c0 c1 c2 c3 c4
  by_cases hg : u.kind = 1 ∧ u.late = false
  · rw [if_pos hg] at hr
    obtain ⟨hg1, hg2⟩ := hg
    have q2 : (u.kind == 2) = false := by simp [hg1]
    rw [hg2] at u_2
    obtain ⟨cu, hcu⟩ : ∃ cu, classAt values u.value = cu := ⟨_, rfl⟩
    obtain ⟨co', hco⟩ : ∃ co', classAt values o.value = co' := ⟨_, rfl⟩
    rw [hcu, hco] at hr
    have HCu : Hid (classAt values u.value = cu) := hcu
    have HCo : Hid (classAt values o.value = co') := hco
    clear hcu hco
    by_cases hcc : cu = co'
    · rw [if_pos hcc] at hr
      subst hr
      have qc : (cu != co') = false := by simp [hcc]
      clear hcc
      go_upto_region 6 with fail
      refine wp_region_X (fun w' => w'.cell? ⟨w.heap.size, 0, none⟩ = some (.slice av values.length cv) ∧ w'.cell? ⟨w.heap.size, 1, none⟩ = some (vb) ∧ w'.cell? ⟨w.heap.size + 1, 0, none⟩ = some (.int .i64 x.op) ∧ w'.cell? ⟨w.heap.size + 1, 1, none⟩ = some (.slice (some ⟨b5, off5, none⟩) x.operands.length co) ∧ w'.cell? ⟨w.heap.size + 1, 2, none⟩ = some (.slice asp x.spoils.length csp) ∧ w'.cell? ⟨w.heap.size + 1 + 1, 0, none⟩ = some (.int .i64 o.kind) ∧ w'.cell? ⟨w.heap.size + 1 + 1, 1, none⟩ = some (.int .i64 o.value) ∧ w'.cell? ⟨w.heap.size + 1 + 1, 2, none⟩ = some (.bool o.late) ∧ w'.cell? ⟨w.heap.size + 1 + 1, 3, none⟩ = some (.int .i64 o.limit) ∧ w'.cell? ⟨w.heap.size + 1 + 1, 4, none⟩ = some (.int .i64 o.n) ∧ w'.cell? ⟨W.heap.size, 0, none⟩ = some (.int .i64 u.kind) ∧ w'.cell? ⟨W.heap.size, 1, none⟩ = some (.int .i64 u.value) ∧ w'.cell? ⟨W.heap.size, 2, none⟩ = some (.bool u.late) ∧ w'.cell? ⟨W.heap.size, 3, none⟩ = some (.int .i64 u.limit) ∧ w'.cell? ⟨W.heap.size, 4, none⟩ = some (.int .i64 u.n) ∧ Below W4.heap.size W4 w') 99 (by kernel_rfl) (HS4.out _ hb4d) (fun hHeld => ?_)
      refine wpXt 0 rfl (v := ?_) (by kernel_rfl) (fun _ _ _ h => h) (by rfl) ?_ hHeld ?_
      rotate_left
      · intro w' hSw
        go_simp <;> with_reducible rfl
      try simp only [Act.put, List.setIfInBounds_toArray, List.set_cons_zero, List.set_cons_succ]
      refine wpXt 1 rfl (v := ?_) (by kernel_rfl) (fun _ _ _ h => h) (by rfl) ?_ hHeld ?_
      rotate_left
      · intro w' hSw
        go_simp <;> with_reducible rfl
      try simp only [Act.put, List.setIfInBounds_toArray, List.set_cons_zero, List.set_cons_succ]
      refine wpXt 2 rfl (v := ?_) (by kernel_rfl) (fun _ _ _ h => h) (by rfl) ?_ hHeld ?_
      rotate_left
      · intro w' hSw
        go_simp <;> with_reducible rfl
      try simp only [Act.put, List.setIfInBounds_toArray, List.set_cons_zero, List.set_cons_succ]
      refine wpXt 4 rfl (v := ?_) (by kernel_rfl) (fun _ _ _ h => h) (by rfl) ?_ hHeld ?_
      rotate_left
      · intro w' hSw
        go_simp <;> with_reducible rfl
      try simp only [Act.put, List.setIfInBounds_toArray, List.set_cons_zero, List.set_cons_succ]
      refine wpXt 5 rfl (v := ?_) (by kernel_rfl) (fun _ _ _ h => h) (by rfl) ?_ hHeld ?_
      rotate_left
      · intro w' hSw
        go_simp <;> with_reducible rfl
      try simp only [Act.put, List.setIfInBounds_toArray, List.set_cons_zero, List.set_cons_succ]
      refine wpXt 6 rfl (v := ?_) (by kernel_rfl) (fun _ _ _ h => h) (by rfl) ?_ hHeld ?_
      rotate_left
      · intro w' hSw
        go_simp <;> with_reducible rfl
      try simp only [Act.put, List.setIfInBounds_toArray, List.set_cons_zero, List.set_cons_succ]
      refine wpXs 3 rfl (by kernel_rfl) (fun K hK => ?_)
      go_simp
      refine (classOf_b values _ _ _ _ _ HCu.out _ (HV.out _ hb4d) hu).mono ?_
      rintro e wa ⟨rfl, hba0⟩
      have hba : Below W4.heap.size W4 wa := hb4d.trans (hba0.mono hb4d.size)
      refine hK.out _ _ (HS4.out _ hba) (fun hHeld => ?_)
      clear hK K
      try simp only [Act.put, List.setIfInBounds_toArray, List.set_cons_zero, List.set_cons_succ]
      refine wpXs 7 rfl (by kernel_rfl) (fun K hK => ?_)
      go_simp
      refine (classOf_b values _ _ _ _ _ HCo.out _ (HV.out _ hba) hov).mono ?_
      rintro e wn ⟨rfl, hbn0⟩
      have hbn : Below W4.heap.size W4 wn := hba.trans (hbn0.mono hba.size)
      refine hK.out _ _ (HS4.out _ hbn) (fun hHeld => ?_)
      clear hK K
      try simp only [Act.put, List.setIfInBounds_toArray, List.set_cons_zero, List.set_cons_succ]
      refine wpXs 8 rfl (by kernel_rfl) (fun K hK => ?_)
      go_simp
      refine hK.out _ _ (HS4.out _ hbn) (fun hHeld => ?_)
      clear hK K
      try simp only [Act.put, List.setIfInBounds_toArray, List.set_cons_zero, List.set_cons_succ]
      refine wpAnyX_done (by kernel_rfl) ?_ _
      go_wp2
      go_ret
      exact ⟨rfl, hbW4.trans (hbn.mono hbW4.size)⟩
    · rw [if_neg hcc] at hr
      subst hr
      have qc : (cu != co') = true := by simpa using hcc
      clear hcc
      go_upto_region 6 with fail
      refine wp_region_X (fun w' => w'.cell? ⟨w.heap.size, 0, none⟩ = some (.slice av values.length cv) ∧ w'.cell? ⟨w.heap.size, 1, none⟩ = some (vb) ∧ w'.cell? ⟨w.heap.size + 1, 0, none⟩ = some (.int .i64 x.op) ∧ w'.cell? ⟨w.heap.size + 1, 1, none⟩ = some (.slice (some ⟨b5, off5, none⟩) x.operands.length co) ∧ w'.cell? ⟨w.heap.size + 1, 2, none⟩ = some (.slice asp x.spoils.length csp) ∧ w'.cell? ⟨w.heap.size + 1 + 1, 0, none⟩ = some (.int .i64 o.kind) ∧ w'.cell? ⟨w.heap.size + 1 + 1, 1, none⟩ = some (.int .i64 o.value) ∧ w'.cell? ⟨w.heap.size + 1 + 1, 2, none⟩ = some (.bool o.late) ∧ w'.cell? ⟨w.heap.size + 1 + 1, 3, none⟩ = some (.int .i64 o.limit) ∧ w'.cell? ⟨w.heap.size + 1 + 1, 4, none⟩ = some (.int .i64 o.n) ∧ w'.cell? ⟨W.heap.size, 0, none⟩ = some (.int .i64 u.kind) ∧ w'.cell? ⟨W.heap.size, 1, none⟩ = some (.int .i64 u.value) ∧ w'.cell? ⟨W.heap.size, 2, none⟩ = some (.bool u.late) ∧ w'.cell? ⟨W.heap.size, 3, none⟩ = some (.int .i64 u.limit) ∧ w'.cell? ⟨W.heap.size, 4, none⟩ = some (.int .i64 u.n) ∧ Below W4.heap.size W4 w') 99 (by kernel_rfl) (HS4.out _ hb4d) (fun hHeld => ?_)
      refine wpXt 0 rfl (v := ?_) (by kernel_rfl) (fun _ _ _ h => h) (by rfl) ?_ hHeld ?_
      rotate_left
      · intro w' hSw
        go_simp <;> with_reducible rfl
      try simp only [Act.put, List.setIfInBounds_toArray, List.set_cons_zero, List.set_cons_succ]
      refine wpXt 1 rfl (v := ?_) (by kernel_rfl) (fun _ _ _ h => h) (by rfl) ?_ hHeld ?_
      rotate_left
      · intro w' hSw
        go_simp <;> with_reducible rfl
      try simp only [Act.put, List.setIfInBounds_toArray, List.set_cons_zero, List.set_cons_succ]
      refine wpXt 2 rfl (v := ?_) (by kernel_rfl) (fun _ _ _ h => h) (by rfl) ?_ hHeld ?_
      rotate_left
      · intro w' hSw
        go_simp <;> with_reducible rfl
      try simp only [Act.put, List.setIfInBounds_toArray, List.set_cons_zero, List.set_cons_succ]
      refine wpXt 4 rfl (v := ?_) (by kernel_rfl) (fun _ _ _ h => h) (by rfl) ?_ hHeld ?_
      rotate_left
      · intro w' hSw
        go_simp <;> with_reducible rfl
      try simp only [Act.put, List.setIfInBounds_toArray, List.set_cons_zero, List.set_cons_succ]
      refine wpXt 5 rfl (v := ?_) (by kernel_rfl) (fun _ _ _ h => h) (by rfl) ?_ hHeld ?_
      rotate_left
      · intro w' hSw
        go_simp <;> with_reducible rfl
      try simp only [Act.put, List.setIfInBounds_toArray, List.set_cons_zero, List.set_cons_succ]
      refine wpXt 6 rfl (v := ?_) (by kernel_rfl) (fun _ _ _ h => h) (by rfl) ?_ hHeld ?_
      rotate_left
      · intro w' hSw
        go_simp <;> with_reducible rfl
      try simp only [Act.put, List.setIfInBounds_toArray, List.set_cons_zero, List.set_cons_succ]
      refine wpXs 3 rfl (by kernel_rfl) (fun K hK => ?_)
      go_simp
      refine (classOf_b values _ _ _ _ _ HCu.out _ (HV.out _ hb4d) hu).mono ?_
      rintro e wa ⟨rfl, hba0⟩
      have hba : Below W4.heap.size W4 wa := hb4d.trans (hba0.mono hb4d.size)
      refine hK.out _ _ (HS4.out _ hba) (fun hHeld => ?_)
      clear hK K
      try simp only [Act.put, List.setIfInBounds_toArray, List.set_cons_zero, List.set_cons_succ]
      refine wpXs 7 rfl (by kernel_rfl) (fun K hK => ?_)
      go_simp
      refine (classOf_b values _ _ _ _ _ HCo.out _ (HV.out _ hba) hov).mono ?_
      rintro e wn ⟨rfl, hbn0⟩
      have hbn : Below W4.heap.size W4 wn := hba.trans (hbn0.mono hba.size)
      refine hK.out _ _ (HS4.out _ hbn) (fun hHeld => ?_)
      clear hK K
      try simp only [Act.put, List.setIfInBounds_toArray, List.set_cons_zero, List.set_cons_succ]
      refine wpXs 8 rfl (by kernel_rfl) (fun K hK => ?_)
      go_simp
      refine hK.out _ _ (HS4.out _ hbn) (fun hHeld => ?_)
      clear hK K
      try simp only [Act.put, List.setIfInBounds_toArray, List.set_cons_zero, List.set_cons_succ]
      refine wpAnyX_done (by kernel_rfl) ?_ _
      go_wp2
      go_ret
      exact ⟨rfl, hbW4.trans (hbn.mono hbW4.size)⟩
  · rw [if_neg hg] at hr
    subst hr
    rcases hku with k1 | k2
    · have q2 : (u.kind == 2) = false := by simp [k1]
      have hl : u.late = true := by cases h : u.late <;> simp_all
      rw [hl] at u_2
      clear hg k1
      go_wp2
      go_ret
      exact ⟨rfl, hbW4⟩
    · have q2 : (u.kind == 2) = true := by simp [k2]
      clear hg k2
      go_wp2
      go_ret
      exact ⟨rfl, hbW4⟩
end Go.Proofs.Ytjbjnndmpheedaa
namespace Go.Proofs.Ytjbjnndmpheedaa
open Go.RowKit
set_option linter.unusedVariables false

theorem giv_bounds {m0 m1 c n : Int} (h : givB m0 m1 c n = true) (h0 : m0 ≤ 10) (h1 : m1 ≤ 10) : 0 ≤ c ∧ c ≤ 1 ∧ 0 ≤ n ∧ n ≤ 9 := by
  simp only [givB, isClassB, Bool.and_eq_true, decide_eq_true_eq] at h
  obtain ⟨hc, hn⟩ := h
  unfold regsOf at hn
  split at hn <;> omega

set_option maxHeartbeats 8000000 in
theorem spoilsFault_is (m0 m1 : Int) (l : List Rg) (al : Option Addr) (cl : Nat) (w : World) (res : Int) (hres : spErr m0 m1 none l = res) (hl : SlOf w 2 RRg (.slice al l.length cl) l) (hm0 : 2 ≤ m0 ∧ m0 ≤ 10) (hm1 : 2 ≤ m1 ∧ m1 ≤ 10) :
    Calls Try.prog 82 #[.agg #[.int .i64 m0, .int .i64 m1], .slice al l.length cl] w fun e w' => e = .returned (.int .i64 res) ∧ Below w.heap.size w w' := by
  obtain ⟨_, _, _, la⟩ := hl.out
  unfold longest at la
  obtain ⟨W, hW⟩ : ∃ W, W = w.alloc (.cells #[.int .i64 m0, .int .i64 m1] 28) := ⟨_, rfl⟩
  have hbw : Below w.heap.size w W := by rw [hW]; exact (Below.refl _ _).alloc (Nat.le_refl _) _
  have zW : w.heap.size < W.heap.size := by rw [hW]; simp
  have t0 := top_at w #[.int .i64 m0, .int .i64 m1] 28
  have m0_0 : W.cell? ⟨w.heap.size, 0, none⟩ = some (.int .i64 m0) := by rw [hW]; exact t0 0
  have m0_1 : W.cell? ⟨w.heap.size, 1, none⟩ = some (.int .i64 m1) := by rw [hW]; exact t0 1
  have HS : Hid (∀ w', Below W.heap.size W w' → (fun w' => w'.cell? ⟨w.heap.size, 0, none⟩ = some (.int .i64 m0) ∧ w'.cell? ⟨w.heap.size, 1, none⟩ = some (.int .i64 m1) ∧ Below W.heap.size W w') w') := fun w' hh => ⟨(hh.cell (by simp; omega)).trans m0_0, (hh.cell (by simp; omega)).trans m0_1, hh⟩
  have HW : Hid (W = w.alloc (.cells #[.int .i64 m0, .int .i64 m1] 28)) := hW
  clear hW t0
  obtain ⟨ha0, ha1⟩ := hm0
  obtain ⟨hc0, hc1⟩ := hm1
  have j0 : IntKind.i64.wrap (m0 - 1) = m0 - 1 := by rw [IntKind.wrap_i64]; omega
  have j1 : IntKind.i64.wrap (m1 - 1) = m1 - 1 := by rw [IntKind.wrap_i64]; omega
  have HRES : Hid (spErr m0 m1 none l = res) := hres
  clear hres
  go_enter Try.func82, Try.ntmps82
  go_upto_region 1 with fail
  rw [← HW.out]
  go_wp2
  go_loopw [5] (fun i wr => ∃ k : Nat, k ≤ l.length ∧ i = .int .i64 k ∧ Below W.heap.size W wr ∧ Hid (∀ q, ahead l k = some q → givB m0 m1 q.cls q.n = true) ∧ Hid (spErr m0 m1 (ahead l k) (l.drop k) = res)) (fun i _ => l.length - (intOf i).toNat)
  case atStart => exact ⟨0, Nat.zero_le _, rfl, Below.refl _ _, (fun q hq => by cases hq), HRES.out⟩
  case round =>
    obtain ⟨k, hk, rfl, hbr, HP, HK⟩ := hrel
    have hbwr : Below w.heap.size w wr := hbw.trans (hbr.mono hbw.size)
    obtain ⟨f0, f1, _⟩ := HS.out _ hbr
    clear m0_0 m0_1
    by_cases hlt : k < l.length
    · have HK' : Hid (spErr m0 m1 (ahead l k) (l[k] :: l.drop (k + 1)) = res) := by rw [← List.drop_eq_getElem_cons hlt]; exact HK
      have HN : Hid (ahead l (k + 1) = some l[k]) := List.getElem?_eq_getElem hlt
      clear HK
      obtain ⟨b2, off2, rfl, hb2, c0, c1⟩ := rg_cells (hl.below hbwr fun _ _ h => h) k hlt
      generalize l[k] = r at *
      cases hcl : inB r.cls 0 1
      · have H : Hid (2 = res) := by
          show _ = _
          rw [← HK'.out]
          unfold spErr
          rw [if_pos]
          simp [inB] at hcl
          simp [givB, isClassB]
          omega
        have hin : inB 0 0 0 = true := by decide
        clear HK' HN
        go_wp2_with fail; go_quiet ((go_at_call 22; with_reducible (first | exact Calls.quiet_of_same (in_is _ _ _ _ hcl _) | exact Calls.quiet_of_same (in_is _ _ _ _ hin _))))
        go_wp2
        go_ret
        exact ⟨ret_int H.out, below_drewN hbwr _⟩
      · have hcc : r.cls = 0 ∨ r.cls = 1 := by simp [inB] at hcl; omega
        clear hcl
        rcases hcc with hrc | hrc
        · have hcl : inB 0 0 1 = true := by decide
          have hgi : inB r.n 0 (m0 - 1) = givB m0 m1 0 r.n := inB_giv m0 m1 0 r.n (by simp)
          rw [hrc] at c0
          cases hin : inB r.n 0 (m0 - 1)
          · have H : Hid (2 = res) := by
              show _ = _
              rw [← HK'.out]
              unfold spErr
              rw [if_pos (by rw [hrc, ← hgi, hin])]
            clear HK' HN hrc hgi
            go_wp2_with fail; go_quiet ((go_at_call 22; with_reducible (first | exact Calls.quiet_of_same (in_is _ _ _ _ hcl _) | exact Calls.quiet_of_same (in_is _ _ _ _ hin _))))
            go_wp2
            go_ret
            exact ⟨ret_int H.out, below_drewN hbwr _⟩
          · have HGV : Hid (givB m0 m1 r.cls r.n = true) := by show _ = _; rw [hrc, ← hgi, hin]
            clear hgi
            by_cases hk0 : k = 0
            · subst hk0
              have H : Hid (spErr m0 m1 (ahead l (0 + 1)) (l.drop (0 + 1)) = res) := by
                show _ = _
                rw [← HK'.out, HN.out]
                conv => rhs; unfold spErr
                rw [if_neg (by simp [HGV.out])]
                rfl
              simp only [Nat.zero_mul, Nat.add_zero] at c0 c1
              clear HK'
              go_wp2_with fail; go_quiet ((go_at_call 22; with_reducible (first | exact Calls.quiet_of_same (in_is _ _ _ _ hcl _) | exact Calls.quiet_of_same (in_is _ _ _ _ hin _))))
              go_wp2_with fail
              go_quiet (fail)
              go_wp2
              go_roundw
              case rel => exact ⟨0 + 1, by omega, by go_num, below_drewN hbr _, fun q hq => by rw [HN.out] at hq; cases hq; exact HGV.out, H⟩
              case measure => simp [intOf]; omega
            · have HA : Hid (ahead l k = some (l[(k - 1)]'(by omega))) := ahead_of l k (by omega) (by omega)
              have hgq := HP.out _ HA.out
              obtain ⟨b2', off2', hal, hb2', q0, q1⟩ := rg_cells (hl.below hbwr fun _ _ h => h) (k - 1) (by omega)
              simp only [Option.some.injEq, Addr.mk.injEq] at hal
              obtain ⟨rfl, rfl, _⟩ := hal
              generalize l[(k - 1)]'(by omega) = q at *
              have i0 : (0 : Int) ≤ (k : Int) - 1 := by omega
              have i1 : (k : Int) - 1 < (l.length : Int) := by omega
              have i2 : (0 : Int) < (k : Int) := by omega
              have i4 : 0 < k := by omega
              have i6 : 1 ≤ k := by omega
              have i7 : (1 : Int) ≤ (k : Int) := by omega
              have i8 : (k : Int) < (l.length : Int) + 1 := by omega
              have i9 : k - 1 < l.length := by omega
              have i10 : k < l.length + 1 := by omega
              have j1 : IntKind.i64.wrap ((k : Int) - 1) = (k : Int) - 1 := by rw [IntKind.wrap_i64]; omega
              have i5 : decide ((0 : Int) < (k : Int)) = true := by simp; omega
              obtain ⟨bq0, bq1, bq2, bq3⟩ := giv_bounds hgq ha1 hc1
              obtain ⟨br0, br1, br2, br3⟩ := giv_bounds HGV.out ha1 hc1
              have w1 : IntKind.i64.wrap (100 * q.cls) = 100 * q.cls := by rw [IntKind.wrap_i64]; omega
              have w2 : IntKind.i64.wrap (100 * q.cls + q.n) = 100 * q.cls + q.n := by rw [IntKind.wrap_i64]; omega
              have w3 : IntKind.i64.wrap (r.n) = r.n := by rw [IntKind.wrap_i64]; omega
              have HBH : behB 0 r.n q.cls q.n = decide (100 * q.cls + q.n < r.n) := by
                rw [Bool.eq_iff_iff]
                simp only [behB, decide_eq_true_eq]
                omega
              have hrc' := hrc
              clear hgq bq0 bq1 bq2 bq3 br0 br1 br2 br3
              by_cases hq : 100 * q.cls + q.n < r.n
              · have HGB : behB r.cls r.n q.cls q.n = true := by rw [hrc, HBH]; simpa using hq
                have H : Hid (spErr m0 m1 (ahead l (k + 1)) (l.drop (k + 1)) = res) := by
                  show _ = _
                  rw [← HK'.out, HA.out, HN.out]
                  conv => rhs; unfold spErr
                  rw [if_neg (by simp [HGV.out])]
                  simp [HGB]
                clear HK' HBH HA HGB hrc'
                have hq' : ¬ r.n ≤ 100 * q.cls + q.n := by omega
                clear hq
                go_wp2_with fail; go_quiet ((go_at_call 22; with_reducible (first | exact Calls.quiet_of_same (in_is _ _ _ _ hcl _) | exact Calls.quiet_of_same (in_is _ _ _ _ hin _))))
                go_wp2_with fail
                go_quiet (fail)
                go_wp2
                go_roundw
                case rel => exact ⟨k + 1, by omega, by go_num, below_drewN hbr _, fun q hq => by rw [HN.out] at hq; cases hq; exact HGV.out, H⟩
                case measure => simp [intOf]; omega
              · have HGB : behB r.cls r.n q.cls q.n = false := by rw [hrc, HBH]; simpa using hq
                have H : Hid (4 = res) := by
                  show _ = _
                  rw [← HK'.out, HA.out]
                  unfold spErr
                  rw [if_neg (by simp [HGV.out])]
                  simp [HGB]
                clear HK' HBH HA HN HGB hrc'
                have hq' : r.n ≤ 100 * q.cls + q.n := by omega
                clear hq
                go_wp2_with fail; go_quiet ((go_at_call 22; with_reducible (first | exact Calls.quiet_of_same (in_is _ _ _ _ hcl _) | exact Calls.quiet_of_same (in_is _ _ _ _ hin _))))
                go_wp2_with fail
                go_quiet (fail)
                go_wp2
                go_ret
                exact ⟨ret_int H.out, by first | exact below_drewN hbwr _ | exact below_drewN (below_drewN hbwr _) _⟩
        · have hcl : inB 1 0 1 = true := by decide
          have hgi : inB r.n 0 (m1 - 1) = givB m0 m1 1 r.n := inB_giv m0 m1 1 r.n (by simp)
          rw [hrc] at c0
          cases hin : inB r.n 0 (m1 - 1)
          · have H : Hid (2 = res) := by
              show _ = _
              rw [← HK'.out]
              unfold spErr
              rw [if_pos (by rw [hrc, ← hgi, hin])]
            clear HK' HN hrc hgi
            go_wp2_with fail; go_quiet ((go_at_call 22; with_reducible (first | exact Calls.quiet_of_same (in_is _ _ _ _ hcl _) | exact Calls.quiet_of_same (in_is _ _ _ _ hin _))))
            go_wp2
            go_ret
            exact ⟨ret_int H.out, below_drewN hbwr _⟩
          · have HGV : Hid (givB m0 m1 r.cls r.n = true) := by show _ = _; rw [hrc, ← hgi, hin]
            clear hgi
            by_cases hk0 : k = 0
            · subst hk0
              have H : Hid (spErr m0 m1 (ahead l (0 + 1)) (l.drop (0 + 1)) = res) := by
                show _ = _
                rw [← HK'.out, HN.out]
                conv => rhs; unfold spErr
                rw [if_neg (by simp [HGV.out])]
                rfl
              simp only [Nat.zero_mul, Nat.add_zero] at c0 c1
              clear HK'
              go_wp2_with fail; go_quiet ((go_at_call 22; with_reducible (first | exact Calls.quiet_of_same (in_is _ _ _ _ hcl _) | exact Calls.quiet_of_same (in_is _ _ _ _ hin _))))
              go_wp2_with fail
              go_quiet (fail)
              go_wp2
              go_roundw
              case rel => exact ⟨0 + 1, by omega, by go_num, below_drewN hbr _, fun q hq => by rw [HN.out] at hq; cases hq; exact HGV.out, H⟩
              case measure => simp [intOf]; omega
            · have HA : Hid (ahead l k = some (l[(k - 1)]'(by omega))) := ahead_of l k (by omega) (by omega)
              have hgq := HP.out _ HA.out
              obtain ⟨b2', off2', hal, hb2', q0, q1⟩ := rg_cells (hl.below hbwr fun _ _ h => h) (k - 1) (by omega)
              simp only [Option.some.injEq, Addr.mk.injEq] at hal
              obtain ⟨rfl, rfl, _⟩ := hal
              generalize l[(k - 1)]'(by omega) = q at *
              have i0 : (0 : Int) ≤ (k : Int) - 1 := by omega
              have i1 : (k : Int) - 1 < (l.length : Int) := by omega
              have i2 : (0 : Int) < (k : Int) := by omega
              have i4 : 0 < k := by omega
              have i6 : 1 ≤ k := by omega
              have i7 : (1 : Int) ≤ (k : Int) := by omega
              have i8 : (k : Int) < (l.length : Int) + 1 := by omega
              have i9 : k - 1 < l.length := by omega
              have i10 : k < l.length + 1 := by omega
              have j1 : IntKind.i64.wrap ((k : Int) - 1) = (k : Int) - 1 := by rw [IntKind.wrap_i64]; omega
              have i5 : decide ((0 : Int) < (k : Int)) = true := by simp; omega
              obtain ⟨bq0, bq1, bq2, bq3⟩ := giv_bounds hgq ha1 hc1
              obtain ⟨br0, br1, br2, br3⟩ := giv_bounds HGV.out ha1 hc1
              have w1 : IntKind.i64.wrap (100 * q.cls) = 100 * q.cls := by rw [IntKind.wrap_i64]; omega
              have w2 : IntKind.i64.wrap (100 * q.cls + q.n) = 100 * q.cls + q.n := by rw [IntKind.wrap_i64]; omega
              have w3 : IntKind.i64.wrap (100 + r.n) = 100 + r.n := by rw [IntKind.wrap_i64]; omega
              have HBH : behB 1 r.n q.cls q.n = decide (100 * q.cls + q.n < 100 + r.n) := by
                rw [Bool.eq_iff_iff]
                simp only [behB, decide_eq_true_eq]
                omega
              have hrc' := hrc
              clear hgq bq0 bq1 bq2 bq3 br0 br1 br2 br3
              by_cases hq : 100 * q.cls + q.n < 100 + r.n
              · have HGB : behB r.cls r.n q.cls q.n = true := by rw [hrc, HBH]; simpa using hq
                have H : Hid (spErr m0 m1 (ahead l (k + 1)) (l.drop (k + 1)) = res) := by
                  show _ = _
                  rw [← HK'.out, HA.out, HN.out]
                  conv => rhs; unfold spErr
                  rw [if_neg (by simp [HGV.out])]
                  simp [HGB]
                clear HK' HBH HA HGB hrc'
                have hq' : ¬ 100 + r.n ≤ 100 * q.cls + q.n := by omega
                clear hq
                go_wp2_with fail; go_quiet ((go_at_call 22; with_reducible (first | exact Calls.quiet_of_same (in_is _ _ _ _ hcl _) | exact Calls.quiet_of_same (in_is _ _ _ _ hin _))))
                go_wp2_with fail
                go_quiet (fail)
                go_wp2
                go_roundw
                case rel => exact ⟨k + 1, by omega, by go_num, below_drewN hbr _, fun q hq => by rw [HN.out] at hq; cases hq; exact HGV.out, H⟩
                case measure => simp [intOf]; omega
              · have HGB : behB r.cls r.n q.cls q.n = false := by rw [hrc, HBH]; simpa using hq
                have H : Hid (4 = res) := by
                  show _ = _
                  rw [← HK'.out, HA.out]
                  unfold spErr
                  rw [if_neg (by simp [HGV.out])]
                  simp [HGB]
                clear HK' HBH HA HN HGB hrc'
                have hq' : 100 + r.n ≤ 100 * q.cls + q.n := by omega
                clear hq
                go_wp2_with fail; go_quiet ((go_at_call 22; with_reducible (first | exact Calls.quiet_of_same (in_is _ _ _ _ hcl _) | exact Calls.quiet_of_same (in_is _ _ _ _ hin _))))
                go_wp2_with fail
                go_quiet (fail)
                go_wp2
                go_ret
                exact ⟨ret_int H.out, by first | exact below_drewN hbwr _ | exact below_drewN (below_drewN hbwr _) _⟩
    · have H : Hid (0 = res) := by
        show _ = _
        rw [← HK.out, List.drop_of_length_le (by omega)]
        cases (ahead l k) <;> rfl
      clear HK
      go_wp2
      go_ret
      exact ⟨ret_int H.out, hbwr⟩
end Go.Proofs.Ytjbjnndmpheedaa
