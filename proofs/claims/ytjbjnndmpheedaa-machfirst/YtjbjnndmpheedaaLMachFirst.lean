/-
  The walk of MachFirst: at the beginning registers and slots have junk, one behind the other.
-/
import Derived.Test.YtjbjnndmpheedaaG5
import Derived.OpenShut
namespace Go.Proofs.Ytjbjnndmpheedaa
open Go.RowKit Go.ChangeShapes Go.WideShapes
set_option linter.unusedVariables false

structure MfS (w w5 : World) (B X M A : Nat) (bv bb b1 b2 b3 b4 : Nat) (pa pb pc : Pl) (w' : World) : Prop where
  low : Below w.heap.size w w'
  old : ∀ q, q < B → w'.heap[q]? = w5.heap[q]?
  pls : Pl3 B pa pb b1 b2 b3 b4 w'
  rF : w'.rowIs X 25 2 (fun q => if q = 0 then .slice (some ⟨bv, 0, none⟩) 1 1 else .slice (some ⟨bb, 0, none⟩) 1 1)
  rO : w'.rowIs (X + 1) 32 3 (fun q => if q = 0 then .slice (some ⟨b1, 0, none⟩) 1 1 else if q = 1 then .slice none 0 0 else .int .i64 3)
  rM : w'.rowIs M 28 2 (fun _ => .int .i64 10)
  rA : w'.rowIs A 37 3 (plF pc)
  mB : M < B
  bX : b1 < X ∧ b2 < X ∧ b3 < X ∧ b4 < X
  xA : X + 1 < A
  lw : w.heap.size ≤ B
  n23 : b2 ≠ b3 ∧ b2 ≠ b4 ∧ b1 ≠ b3 ∧ b1 ≠ b4
section
variable {w w5 : World} {B X M A : Nat} {bv bb b1 b2 b3 b4 : Nat} {pa pb pc : Pl} {w' w2 : World}
theorem MfS.below (h : MfS w w5 B X M A bv bb b1 b2 b3 b4 pa pb pc w') (hb : Below w'.heap.size w' w2) : MfS w w5 B X M A bv bb b1 b2 b3 b4 pa pb pc w2 :=
  ⟨h.low.trans (hb.mono h.low.size), fun q hq => (hb.block q (by have := h.pls.l1; have := h.pls.r1.lt; omega)).trans (h.old q hq), h.pls.agree fun q _ hq => hb.block q hq, h.rF.of_block (hb.block _ h.rF.lt), h.rO.of_block (hb.block _ h.rO.lt), h.rM.of_block (hb.block _ h.rM.lt), h.rA.of_block (hb.block _ h.rA.lt), h.mB, h.bX, h.xA, h.lw, h.n23⟩
/-- A place is written anew. -/
def put3 (w : World) (b : Nat) (p : Pl) : World := ((w.setCell ⟨b, 0, none⟩ (.int .i64 p.kind)).setCell ⟨b, 1, none⟩ (.int .i64 p.cls)).setCell ⟨b, 2, none⟩ (.int .i64 p.n)
theorem put3_row {w : World} {b : Nat} {p q : Pl} (h : w.rowIs b 37 3 (plF q)) : (put3 w b p).rowIs b 37 3 (plF p) := (((h.set 0 _).set 1 _).set 2 _).congr fun i hi => by
  match i, hi with | 0, _ => rfl | 1, _ => rfl | 2, _ => rfl
theorem put3_off {w : World} {b q : Nat} {p : Pl} (h : q ≠ b) : (put3 w b p).heap[q]? = w.heap[q]? := ((Below.heap_setCell _ _ _ _ (by show q ≠ b; exact h)).trans (Below.heap_setCell _ _ _ _ (by show q ≠ b; exact h))).trans (Below.heap_setCell _ _ _ _ (by show q ≠ b; exact h))
theorem put3_low {w w' : World} {B b : Nat} {p : Pl} (h : Below B w w') (hb : B ≤ b) : Below B w (put3 w' b p) := ((h.setCell hb _).setCell hb _).setCell hb _
theorem MfS.setA (h : MfS w w5 B X M A bv bb b1 b2 b3 b4 pa pb pc w') (p : Pl) : MfS w w5 B X M A bv bb b1 b2 b3 b4 pa pb p (put3 w' A p) := by
  have h1 := h.bX
  have h2 := h.xA
  have h3 := h.lw
  have h4 := h.pls.l1
  have h5 := h.mB
  exact ⟨put3_low h.low (by omega), fun q hq => (put3_off (by omega)).trans (h.old q hq), ⟨h.pls.r1.of_block (put3_off (by omega)), h.pls.r2.of_block (put3_off (by omega)), h.pls.r3.of_block (put3_off (by omega)), h.pls.r4.of_block (put3_off (by omega)), h.pls.l1, h.pls.l2, h.pls.l3, h.pls.l4, h.pls.n34⟩, h.rF.of_block (put3_off (by omega)), h.rO.of_block (put3_off (by omega)), h.rM.of_block (put3_off (by omega)), put3_row h.rA, h.mB, h.bX, h.xA, h.lw, h.n23⟩
theorem MfS.set3 (h : MfS w w5 B X M A bv bb b1 b2 b3 b4 pa pb pc w') (p : Pl) : MfS w w5 B X M A bv bb b1 b2 b3 b4 p pb pc (put3 w' b3 p) := by
  have h1 := h.bX
  have h2 := h.xA
  have h3 := h.lw
  have h4 := h.pls.l3
  have h5 := h.mB
  have h6 := h.n23
  have h7 := h.pls.n34
  exact ⟨put3_low h.low (by omega), fun q hq => (put3_off (by omega)).trans (h.old q hq), ⟨h.pls.r1.of_block (put3_off (by omega)), h.pls.r2.of_block (put3_off (by omega)), put3_row h.pls.r3, h.pls.r4.of_block (put3_off (by omega)), h.pls.l1, h.pls.l2, h.pls.l3, h.pls.l4, h.pls.n34⟩, h.rF.of_block (put3_off (by omega)), h.rO.of_block (put3_off (by omega)), h.rM.of_block (put3_off (by omega)), h.rA.of_block (put3_off (by omega)), h.mB, h.bX, h.xA, h.lw, h.n23⟩
theorem MfS.set4 (h : MfS w w5 B X M A bv bb b1 b2 b3 b4 pa pb pc w') (p : Pl) : MfS w w5 B X M A bv bb b1 b2 b3 b4 pa p pc (put3 w' b4 p) := by
  have h1 := h.bX
  have h2 := h.xA
  have h3 := h.lw
  have h4 := h.pls.l4
  have h5 := h.mB
  have h6 := h.n23
  have h7 := h.pls.n34
  exact ⟨put3_low h.low (by omega), fun q hq => (put3_off (by omega)).trans (h.old q hq), ⟨h.pls.r1.of_block (put3_off (by omega)), h.pls.r2.of_block (put3_off (by omega)), h.pls.r3.of_block (put3_off (by omega)), put3_row h.pls.r4, h.pls.l1, h.pls.l2, h.pls.l3, h.pls.l4, h.pls.n34⟩, h.rF.of_block (put3_off (by omega)), h.rO.of_block (put3_off (by omega)), h.rM.of_block (put3_off (by omega)), h.rA.of_block (put3_off (by omega)), h.mB, h.bX, h.xA, h.lw, h.n23⟩
end
theorem eqPl (a b c d e f : Int) (w : World) : (binOp .eql 37 (.agg #[.int .i64 a, .int .i64 b, .int .i64 c]) (.agg #[.int .i64 d, .int .i64 e, .int .i64 f])).run Try.prog w = .ok (.bool (a == d && (b == e && c == f))) w := by
  have hS : Try.prog.underlying 37 = some (.struct (Try.prog.fieldsOf 37)) := by kernel_rfl
  have hp : Try.prog.stoodInHeld 37 = false := by kernel_rfl
  rw [run_eql_struct, show (10000 : Nat) = 9999 + 1 from rfl, run_equalIn_agg w 9999 37 _ _ hS hp]
  simp only [Program.fieldsOf, Try.underlying37]
  go_simp
  by_cases h1 : a = d <;> by_cases h2 : b = e <;> by_cases h3 : c = f <;> simp [h1, h2, h3]
theorem eqPlG : Try.prog.eqGuardType Try.prog.depth 37 = false := by kernel_rfl

theorem mfAt_eq : ∀ k : Nat, k < 13 → ((mfAt k).kind == 1 && ((mfAt k).cls == 0 && (mfAt k).n == 0)) = decide (k = 0) := by decide
def mfI (k : Nat) : Int := if k < 10 then 500 + (k : Int) else 512 + (k : Int)
set_option maxRecDepth 8000 in
set_option maxHeartbeats 16000000 in
theorem machFirst_walk (n : Int) (wn : (Lit.int .i64 n).wf = true) (w : World) :
    Calls Try.prog 6 #[.int .i64 n] w fun e w' => e = .returned (.bool true) ∧ Below w.heap.size w w' := by
  obtain ⟨n0, n1⟩ := bounds_i64 wn
  obtain ⟨p0, p1⟩ := pickedOf_bd n 13 (by decide)
  obtain ⟨k, hk⟩ : ∃ k : Nat, pickedOf n 13 = (k : Int) := ⟨(pickedOf n 13).toNat, by omega⟩
  have hk13 : k < 13 := by omega
  have HPK : Hid (pickedOf n 13 = (k : Int)) := hk
  clear p0 p1 hk
  go_enter Try.func6, Try.ntmps6
  go_wp2_with fail
  refine (big_any w).mono ?_
  rintro e w1 ⟨rfl, hb1⟩
  obtain ⟨W1, hW1⟩ : ∃ W1, W1 = w1.alloc (.cells #[.int .i64 10, .int .i64 10] 28) := ⟨_, rfl⟩
  obtain ⟨M, hM⟩ : ∃ M, w1.heap.size = M := ⟨_, rfl⟩
  have bW1 : Below w1.heap.size w1 W1 := by rw [hW1]; exact (Below.refl _ _).alloc (Nat.le_refl _) _
  have HRM : Hid (W1.rowIs M 28 2 (fun _ => .int .i64 10)) := by
    rw [hW1, ← hM]
    exact World.rowIs_alloc _ _ _ _ fun i hi => by
      simp at hi
      match i, hi with | 0, _ => rfl | 1, _ => rfl
  have HB1 : Hid (Below w.heap.size w W1) := hb1.trans (bW1.mono hb1.size)
  have HW1 : Hid (W1 = w1.alloc (.cells #[.int .i64 10, .int .i64 10] 28)) := hW1
  have HMM : Hid (w1.heap.size = M) := hM
  clear hW1 hM bW1 hb1
  go_upto_region 2 with fail
  rw [← HW1.out, HMM.out]
  clear HW1 HMM
  have HCP := picked_is n 13 (k : Int) W1 HPK.out (by omega) (by omega) (by omega) (by omega)
  --CUT0
  go_wp2_with fail
  refine HCP.mono ?_
  clear HCP
  rintro e w2 ⟨rfl, hw2⟩
  rw [hw2]
  clear hw2 w2
  go_wp2_with fail
  refine (op_bare 2 W1).mono ?_
  rintro e w2 ⟨rfl, bb2⟩
  go_wp2_with fail
  refine (reg_any 0 w2).mono ?_
  rintro e w3 ⟨rfl, bb3⟩
  go_wp2_with fail
  refine (reg_any 0 w3).mono ?_
  rintro e w4 ⟨rfl, bb4⟩
  have hlow4 : Below W1.heap.size W1 w4 := bb2.trans ((bb3.trans (bb4.mono bb3.size)).mono bb2.size)
  have HB4 : Hid (Below w.heap.size w w4 ∧ Below W1.heap.size W1 w4) := ⟨HB1.out.trans (hlow4.mono HB1.out.size), hlow4⟩
  clear bb2 bb3 bb4 hlow4
  have HP : Calls Try.prog 12 #[.agg #[.int .i64 2, .slice none 0 0, .slice none 0 0], .agg #[.int .i64 1, .int .i64 0, .int .i64 0], .agg #[.int .i64 1, .int .i64 0, .int .i64 0], .slice none 0 0] w4 _ := mpair_any 2 none none none 0 0 0 0 0 0 [] [] (rgP 0) (rgP 0) w4 (sl_none _ _ _) (sl_none _ _ _)
  go_wp2_with fail
  refine HP.mono ?_
  clear HP
  rintro e w5 ⟨bv, bb, b1, b2, b3, b4, rfl, hp5⟩
  have HP5 : Hid (PairR w4 (mjBlk 2 [] []) (rgP 0) (rgP 0) bv bb b1 b2 b3 b4 w5) := hp5
  clear hp5
  go_upto_region 4 with fail
  obtain ⟨W6, hW6⟩ : ∃ W6, W6 = (w5.alloc (.cells #[.slice (some ⟨bv, 0, none⟩) 1 1, .slice (some ⟨bb, 0, none⟩) 1 1] 25)).alloc (.cells #[.slice (some ⟨b1, 0, none⟩) 1 1, .slice none 0 0, .int .i64 3] 32) := ⟨_, rfl⟩
  obtain ⟨X, hX⟩ : ∃ X, w5.heap.size = X := ⟨_, rfl⟩
  have HW6 : Hid (W6 = (w5.alloc (.cells #[.slice (some ⟨bv, 0, none⟩) 1 1, .slice (some ⟨bb, 0, none⟩) 1 1] 25)).alloc (.cells #[.slice (some ⟨b1, 0, none⟩) 1 1, .slice none 0 0, .int .i64 3] 32)) := hW6
  have HX5 : Hid (w5.heap.size = X) := hX
  rw [← HW6.out, HX5.out]
  clear hW6 hX
  --CUT1
  have wk : IntKind.i64.wrap ((k : Int) - 10) = (k : Int) - 10 := by rw [IntKind.wrap_i64]; omega
  go_wp2_with fail
  refine (slot_any ((k : Int) - 10) W6).mono ?_
  rintro e w7 ⟨rfl, bb7⟩
  obtain ⟨W8, hW8⟩ : ∃ W8, W8 = w7.alloc (.cells #[.int .i64 2, .int .i64 0, .int .i64 ((k : Int) - 10)] 37) := ⟨_, rfl⟩
  obtain ⟨A, hA⟩ : ∃ A, w7.heap.size = A := ⟨_, rfl⟩
  have hfs : ∃ B, MfS w w5 B X M A bv bb b1 b2 b3 b4 (rgP 0) (rgP 0) (slP ((k : Int) - 10)) W8 ∧ ∃ wq, SlOf wq 1 RInt (.slice (some ⟨bv, 0, none⟩) 1 1) [0] ∧ SlOf wq 3 (RBlk wq) (.slice (some ⟨bb, 0, none⟩) 1 1) [mjBlk 2 [] []] ∧ ∀ w', (∀ q, q < B → w'.heap[q]? = w5.heap[q]?) → CI wq w' := by
    obtain ⟨B, hB4, hp, wq, h1, h2, h3⟩ := HP5.out.pls
    have l1 := hp.r1.lt
    have l2 := hp.r2.lt
    have l3 := hp.r3.lt
    have l4 := hp.r4.lt
    have hl1 := hp.l1
    have hX := HX5.out
    have b56 : Below w5.heap.size w5 W6 := by rw [HW6.out]; exact ((Below.refl _ _).alloc (Nat.le_refl _) _).alloc (by simp) _
    have b78 : Below w7.heap.size w7 W8 := by rw [hW8]; exact (Below.refl _ _).alloc (Nat.le_refl _) _
    have b68 : Below W6.heap.size W6 W8 := bb7.trans (b78.mono bb7.size)
    have b58 : Below w5.heap.size w5 W8 := b56.trans (b68.mono b56.size)
    have s6 : W6.heap.size = X + 2 := by rw [HW6.out]; simp [HX5.out]
    have rF : W6.rowIs X 25 2 (fun q => if q = 0 then .slice (some ⟨bv, 0, none⟩) 1 1 else .slice (some ⟨bb, 0, none⟩) 1 1) := by
      have h := World.rowIs_alloc w5 #[.slice (some ⟨bv, 0, none⟩) 1 1, .slice (some ⟨bb, 0, none⟩) 1 1] 25 (fun q => if q = 0 then .slice (some ⟨bv, 0, none⟩) 1 1 else .slice (some ⟨bb, 0, none⟩) 1 1) fun i hi => by
        simp at hi
        match i, hi with | 0, _ => rfl | 1, _ => rfl
      rw [HX5.out] at h
      rw [HW6.out]
      exact h.alloc _
    have rO : W6.rowIs (X + 1) 32 3 (fun q => if q = 0 then .slice (some ⟨b1, 0, none⟩) 1 1 else if q = 1 then .slice none 0 0 else .int .i64 3) := by
      have h := World.rowIs_alloc (w5.alloc (.cells #[.slice (some ⟨bv, 0, none⟩) 1 1, .slice (some ⟨bb, 0, none⟩) 1 1] 25)) #[.slice (some ⟨b1, 0, none⟩) 1 1, .slice none 0 0, .int .i64 3] 32 (fun q => if q = 0 then .slice (some ⟨b1, 0, none⟩) 1 1 else if q = 1 then .slice none 0 0 else .int .i64 3) fun i hi => by
        simp at hi
        match i, hi with | 0, _ => rfl | 1, _ => rfl | 2, _ => rfl
      have e : (w5.alloc (.cells #[.slice (some ⟨bv, 0, none⟩) 1 1, .slice (some ⟨bb, 0, none⟩) 1 1] 25)).heap.size = X + 1 := by simp [HX5.out]
      rw [e] at h
      rw [HW6.out]
      exact h
    have rA : W8.rowIs A 37 3 (plF (slP ((k : Int) - 10))) := by
      rw [hW8, ← hA]
      exact World.rowIs_alloc _ _ _ _ fun i hi => by
        simp at hi
        match i, hi with | 0, _ => rfl | 1, _ => rfl | 2, _ => rfl
    have rM4 := HRM.out.of_block (HB4.out.2.block _ HRM.out.lt)
    have rM5 := rM4.of_block (HP5.out.low.block _ rM4.lt)
    have ty : ∀ {q1 q2 t1 t2 n1 n2 : Nat} {f1 f2 : Nat → Value}, w5.rowIs q1 t1 n1 f1 → w5.rowIs q2 t2 n2 f2 → t1 ≠ t2 → q1 ≠ q2 := fun h1 h2 ht e => by
      obtain ⟨c1, g1, _⟩ := h1
      obtain ⟨c2, g2, _⟩ := h2
      rw [e, g2] at g1
      simp at g1
      exact ht g1.2.symm
    exact ⟨B, ⟨HB4.out.1.trans ((HP5.out.low.trans (b58.mono HP5.out.low.size)).mono HB4.out.1.size), fun q hq => b58.block q (by omega), hp.agree fun q _ hq => b58.block q hq, rF.of_block (b68.block _ rF.lt), rO.of_block (b68.block _ rO.lt), rM5.of_block (b58.block _ rM5.lt), rA, by have := rM4.lt; omega, ⟨by omega, by omega, by omega, by omega⟩, by have := bb7.size; omega, by have := HB4.out.1.size; omega, ⟨ty hp.r2 hp.r3 (by decide), ty hp.r2 hp.r4 (by decide), ty hp.r1 hp.r3 (by decide), ty hp.r1 hp.r4 (by decide)⟩⟩, wq, h1, h2, h3⟩
  obtain ⟨B, hf8, wq, hq1, hq2, hq3⟩ := hfs
  have HF8 : Hid (MfS w w5 B X M A bv bb b1 b2 b3 b4 (rgP 0) (rgP 0) (slP ((k : Int) - 10)) W8) := hf8
  have HQ : Hid (SlOf wq 1 RInt (.slice (some ⟨bv, 0, none⟩) 1 1) [0] ∧ SlOf wq 3 (RBlk wq) (.slice (some ⟨bb, 0, none⟩) 1 1) [mjBlk 2 [] []] ∧ ∀ w', (∀ q, q < B → w'.heap[q]? = w5.heap[q]?) → CI wq w') := ⟨hq1, hq2, hq3⟩
  have HW8 : Hid (W8 = w7.alloc (.cells #[.int .i64 2, .int .i64 0, .int .i64 ((k : Int) - 10)] 37)) := hW8
  have HAA : Hid (w7.heap.size = A) := hA
  have HCS : Hid (∀ w' pa pb, MfS w w5 B X M A bv bb b1 b2 b3 b4 pa pb (mfAt k) w' → (fun w' => w'.cell? ⟨X + 1, 0, none⟩ = some (.slice (some ⟨b1, 0, none⟩) 1 1) ∧ w'.cell? ⟨b1, 0, none⟩ = some (.slice (some ⟨b2, 0, none⟩) 3 3) ∧ w'.cell? ⟨b2, 0, none⟩ = some (.slice (some ⟨b3, 0, none⟩) 1 1) ∧ w'.cell? ⟨b2, 2, none⟩ = some (.slice (some ⟨b4, 0, none⟩) 1 1) ∧ w'.cell? ⟨A, 0, none⟩ = some (.int .i64 (mfAt k).kind) ∧ w'.cell? ⟨A, 1, none⟩ = some (.int .i64 (mfAt k).cls) ∧ w'.cell? ⟨A, 2, none⟩ = some (.int .i64 (mfAt k).n)) w') := fun w' pa pb h => ⟨h.rO.cell (i := 0) (by omega), h.pls.r1.cell (i := 0) (by omega), h.pls.r2.cell (i := 0) (by omega), h.pls.r2.cell (i := 2) (by omega), h.rA.cell (i := 0) (by omega), h.rA.cell (i := 1) (by omega), h.rA.cell (i := 2) (by omega)⟩
  clear hf8 hq1 hq2 hq3 hW8 hA bb7 HW6 HX5 HP5 HB4 HB1 HRM
  go_upto_region 5 with fail
  rw [← HW8.out, HAA.out]
  clear HW8 HAA
  have m0 := HF8.out.rM.cell (i := 0) (by omega)
  have m1 := HF8.out.rM.cell (i := 1) (by omega)
  go_upto_if 39 with fail
  --CUT2
  go_cut [8] (fun v wz => v = .int .i64 (mfI k) ∧ Hid (MfS w w5 B X M A bv bb b1 b2 b3 b4 (rgP 0) (rgP 0) (mfAt k) wz))
  case first =>
    by_cases hlt : k < 10
    · have hki : (k : Int) < 10 := by omega
      have e1 : mfI k = 500 + (k : Int) := by unfold mfI; rw [if_pos hlt]
      have e2 : mfAt k = rgP k := by unfold mfAt; rw [if_pos hlt]
      have w5k : IntKind.i64.wrap (500 + (k : Int)) = 500 + (k : Int) := by rw [IntKind.wrap_i64]; omega
      go_wp2_with fail
      --CUT3
      refine (reg_any (k : Int) W8).mono ?_
      rintro e w9 ⟨rfl, b9⟩
      have f9 := HF8.out.below b9
      have g0 := (f9.rA).cell (i := 0) (by omega)
      have g1 := (f9.rA).cell (i := 1) (by omega)
      have g2 := (f9.rA).cell (i := 2) (by omega)
      have gz0 := (f9.rA).frozen 0
      have gz1 := (f9.rA).frozen 1
      have gz2 := (f9.rA).frozen 2
      have gl := (f9.rA).lt

      have HF9 : Hid (MfS w w5 B X M A bv bb b1 b2 b3 b4 (rgP 0) (rgP 0) (mfAt k) (put3 w9 A (rgP k))) := by rw [e2]; exact f9.setA (rgP k)
      clear f9 b9
      go_wp2
      go_meet
      exact ⟨by rw [e1], HF9⟩
    · have hki : ¬ (k : Int) < 10 := by omega
      have e1 : mfI k = 512 + (k : Int) := by unfold mfI; rw [if_neg hlt]
      have e2 : mfAt k = slP ((k : Int) - 10) := by unfold mfAt; rw [if_neg hlt]
      have HF9 : Hid (MfS w w5 B X M A bv bb b1 b2 b3 b4 (rgP 0) (rgP 0) (mfAt k) W8) := by rw [e2]; exact HF8.out
      go_wp2
      go_meet
      exact ⟨by rw [e1]; congr 1; omega, HF9⟩
  case rest =>
    obtain ⟨rfl, HF0⟩ := hcut
    have HF : Hid (MfS w w5 B X M A bv bb b1 b2 b3 b4 (rgP 0) (rgP 0) (mfAt k) wc.drew) := HF0.out.below ((Below.refl _ _).drew)
    clear HF8 m0 m1 HF0 wk
    go_upto_region 9 with fail
    --CUT5
    refine wp_region_X (fun w' => w'.cell? ⟨X + 1, 0, none⟩ = some (.slice (some ⟨b1, 0, none⟩) 1 1) ∧ w'.cell? ⟨b1, 0, none⟩ = some (.slice (some ⟨b2, 0, none⟩) 3 3) ∧ w'.cell? ⟨b2, 0, none⟩ = some (.slice (some ⟨b3, 0, none⟩) 1 1) ∧ w'.cell? ⟨b2, 2, none⟩ = some (.slice (some ⟨b4, 0, none⟩) 1 1) ∧ w'.cell? ⟨A, 0, none⟩ = some (.int .i64 (mfAt k).kind) ∧ w'.cell? ⟨A, 1, none⟩ = some (.int .i64 (mfAt k).cls) ∧ w'.cell? ⟨A, 2, none⟩ = some (.int .i64 (mfAt k).n)) 99 (by kernel_rfl) (HCS.out _ _ _ HF.out) (fun hHeld => ?_)
    refine wpXt (v := ?_) 0 rfl (by kernel_rfl) (fun _ _ _ h => h) (by rfl) ?_ hHeld ?_
    rotate_left
    · intro w' hSw
      go_simp <;> with_reducible rfl
    try simp only [Act.put, List.setIfInBounds_toArray, List.set_cons_zero, List.set_cons_succ]
    refine wpXt (v := ?_) 1 rfl (by kernel_rfl) (fun _ _ _ h => h) (by rfl) ?_ hHeld ?_
    rotate_left
    · intro w' hSw
      go_simp <;> with_reducible rfl
    try simp only [Act.put, List.setIfInBounds_toArray, List.set_cons_zero, List.set_cons_succ]
    refine wpXt (v := ?_) 2 rfl (by kernel_rfl) (fun _ _ _ h => h) (by rfl) ?_ hHeld ?_
    rotate_left
    · intro w' hSw
      go_simp <;> with_reducible rfl
    try simp only [Act.put, List.setIfInBounds_toArray, List.set_cons_zero, List.set_cons_succ]
    refine wpXt (v := ?_) 3 rfl (by kernel_rfl) (fun _ _ _ h => h) (by rfl) ?_ hHeld ?_
    rotate_left
    · intro w' hSw
      go_simp <;> with_reducible rfl
    try simp only [Act.put, List.setIfInBounds_toArray, List.set_cons_zero, List.set_cons_succ]
    refine wpXt (v := ?_) 4 rfl (by kernel_rfl) (fun _ _ _ h => h) (by rfl) ?_ hHeld ?_
    rotate_left
    · intro w' hSw
      go_simp <;> with_reducible rfl
    try simp only [Act.put, List.setIfInBounds_toArray, List.set_cons_zero, List.set_cons_succ]
    refine wpXt (v := ?_) 5 rfl (by kernel_rfl) (fun _ _ _ h => h) (by rfl) ?_ hHeld ?_
    rotate_left
    · intro w' hSw
      go_simp <;> with_reducible rfl
    try simp only [Act.put, List.setIfInBounds_toArray, List.set_cons_zero, List.set_cons_succ]
    refine wpXs 6 rfl (by kernel_rfl) (fun K hK => ?_)
    go_simp
    refine (reg_any 0 _).mono ?_
    rintro e w11 ⟨rfl, b11⟩
    have f11 := (HF.out).below b11
    have HF11 : Hid (MfS w w5 B X M A bv bb b1 b2 b3 b4 (rgP 0) (rgP 0) (mfAt k) w11) := f11
    clear b11
    have g0 := (f11.pls.r3).cell (i := 0) (by omega)
    have g1 := (f11.pls.r3).cell (i := 1) (by omega)
    have g2 := (f11.pls.r3).cell (i := 2) (by omega)
    have gz0 := (f11.pls.r3).frozen 0
    have gz1 := (f11.pls.r3).frozen 1
    have gz2 := (f11.pls.r3).frozen 2
    have gl := (f11.pls.r3).lt
    have HF12 : Hid (MfS w w5 B X M A bv bb b1 b2 b3 b4 (rgP 0) (rgP 0) (mfAt k) (put3 w11 b3 (rgP 0))) := f11.set3 (rgP 0)
    clear f11
    refine hK.out _ _ (HCS.out _ _ _ HF11.out) (fun hHeld => ?_)
    clear hK K
    try simp only [Act.put, List.setIfInBounds_toArray, List.set_cons_zero, List.set_cons_succ]
    --CUT6
    refine wpXs 7 rfl (by kernel_rfl) (fun K hK => ?_)
    go_simp
    refine hK.out _ _ (HCS.out _ _ _ HF11.out) (fun hHeld => ?_)
    clear hK K
    try simp only [Act.put, List.setIfInBounds_toArray, List.set_cons_zero, List.set_cons_succ]
    refine wpXs 8 rfl (by kernel_rfl) (fun K hK => ?_)
    go_simp
    refine hK.out _ _ (HCS.out _ _ _ HF12.out) (fun hHeld => ?_)
    clear hK K
    try simp only [Act.put, List.setIfInBounds_toArray, List.set_cons_zero, List.set_cons_succ]
    refine wpAnyX_done (by kernel_rfl) ?_ _

    obtain ⟨w12, hw12⟩ : ∃ w12, w12 = ((w11.setCell ⟨b3, 0, none⟩ (.int .i64 1)).setCell ⟨b3, 1, none⟩ (.int .i64 0)).setCell ⟨b3, 2, none⟩ (.int .i64 0) := ⟨_, rfl⟩
    rw [← hw12]
    have HFd : Hid (MfS w w5 B X M A bv bb b1 b2 b3 b4 (rgP 0) (rgP 0) (mfAt k) w12.drew) := by
      have h : MfS w w5 B X M A bv bb b1 b2 b3 b4 (rgP 0) (rgP 0) (mfAt k) w12 := by rw [hw12]; exact HF12.out
      exact h.below ((Below.refl _ _).drew)
    clear hw12 HF12 HF11 HF hHeld g0 g1 g2 gz0 gz1 gz2 gl
    --CUT7
    go_upto_region 10 with fail
    refine wp_region_X (fun w' => w'.cell? ⟨X + 1, 0, none⟩ = some (.slice (some ⟨b1, 0, none⟩) 1 1) ∧ w'.cell? ⟨b1, 0, none⟩ = some (.slice (some ⟨b2, 0, none⟩) 3 3) ∧ w'.cell? ⟨b2, 0, none⟩ = some (.slice (some ⟨b3, 0, none⟩) 1 1) ∧ w'.cell? ⟨b2, 2, none⟩ = some (.slice (some ⟨b4, 0, none⟩) 1 1) ∧ w'.cell? ⟨A, 0, none⟩ = some (.int .i64 (mfAt k).kind) ∧ w'.cell? ⟨A, 1, none⟩ = some (.int .i64 (mfAt k).cls) ∧ w'.cell? ⟨A, 2, none⟩ = some (.int .i64 (mfAt k).n)) 99 (by kernel_rfl) (HCS.out _ _ _ HFd.out) (fun hHeld => ?_)
    generalize w12.drew = v12 at *
    refine wpXt (v := ?_) 0 rfl (by kernel_rfl) (fun _ _ _ h => h) (by rfl) ?_ hHeld ?_
    rotate_left
    · intro w' hSw
      go_simp <;> with_reducible rfl
    try simp only [Act.put, List.setIfInBounds_toArray, List.set_cons_zero, List.set_cons_succ]
    refine wpXt (v := ?_) 1 rfl (by kernel_rfl) (fun _ _ _ h => h) (by rfl) ?_ hHeld ?_
    rotate_left
    · intro w' hSw
      go_simp <;> with_reducible rfl
    try simp only [Act.put, List.setIfInBounds_toArray, List.set_cons_zero, List.set_cons_succ]
    refine wpXt (v := ?_) 2 rfl (by kernel_rfl) (fun _ _ _ h => h) (by rfl) ?_ hHeld ?_
    rotate_left
    · intro w' hSw
      go_simp <;> with_reducible rfl
    try simp only [Act.put, List.setIfInBounds_toArray, List.set_cons_zero, List.set_cons_succ]
    refine wpXt (v := ?_) 3 rfl (by kernel_rfl) (fun _ _ _ h => h) (by rfl) ?_ hHeld ?_
    rotate_left
    · intro w' hSw
      go_simp <;> with_reducible rfl
    try simp only [Act.put, List.setIfInBounds_toArray, List.set_cons_zero, List.set_cons_succ]
    refine wpXt (v := ?_) 4 rfl (by kernel_rfl) (fun _ _ _ h => h) (by rfl) ?_ hHeld ?_
    rotate_left
    · intro w' hSw
      go_simp <;> with_reducible rfl
    try simp only [Act.put, List.setIfInBounds_toArray, List.set_cons_zero, List.set_cons_succ]
    refine wpXt (v := ?_) 5 rfl (by kernel_rfl) (fun _ _ _ h => h) (by rfl) ?_ hHeld ?_
    rotate_left
    · intro w' hSw
      go_simp <;> with_reducible rfl
    try simp only [Act.put, List.setIfInBounds_toArray, List.set_cons_zero, List.set_cons_succ]
    refine wpXt (v := ?_) 6 rfl (by kernel_rfl) (fun _ _ _ h => h) (by rfl) ?_ hHeld ?_
    rotate_left
    · intro w' hSw
      go_simp <;> with_reducible rfl
    try simp only [Act.put, List.setIfInBounds_toArray, List.set_cons_zero, List.set_cons_succ]
    refine wpXt (v := ?_) 7 rfl (by kernel_rfl) (fun _ _ _ h => h) (by rfl) ?_ hHeld ?_
    rotate_left
    · intro w' hSw
      go_simp <;> with_reducible rfl
    try simp only [Act.put, List.setIfInBounds_toArray, List.set_cons_zero, List.set_cons_succ]
    have g0 := (HFd.out.pls.r4).cell (i := 0) (by omega)
    have g1 := (HFd.out.pls.r4).cell (i := 1) (by omega)
    have g2 := (HFd.out.pls.r4).cell (i := 2) (by omega)
    have gz0 := (HFd.out.pls.r4).frozen 0
    have gz1 := (HFd.out.pls.r4).frozen 1
    have gz2 := (HFd.out.pls.r4).frozen 2
    have gl := (HFd.out.pls.r4).lt
    have HF13 : Hid (MfS w w5 B X M A bv bb b1 b2 b3 b4 (rgP 0) (mfAt k) (mfAt k) (put3 v12 b4 (mfAt k))) := HFd.out.set4 (mfAt k)
    refine wpXs 8 rfl (by kernel_rfl) (fun K hK => ?_)
    go_simp
    refine hK.out _ _ (HCS.out _ _ _ HF13.out) (fun hHeld => ?_)
    clear hK K
    try simp only [Act.put, List.setIfInBounds_toArray, List.set_cons_zero, List.set_cons_succ]
    refine wpAnyX_done (by kernel_rfl) ?_ _

    --CUT8
    obtain ⟨w13, hw13⟩ : ∃ w13, w13 = ((v12.setCell ⟨b4, 0, none⟩ (.int .i64 (mfAt k).kind)).setCell ⟨b4, 1, none⟩ (.int .i64 (mfAt k).cls)).setCell ⟨b4, 2, none⟩ (.int .i64 (mfAt k).n) := ⟨_, rfl⟩
    rw [← hw13]
    have HFe : Hid (MfS w w5 B X M A bv bb b1 b2 b3 b4 (rgP 0) (mfAt k) (mfAt k) w13) := by
      show MfS _ _ _ _ _ _ _ _ _ _ _ _ _ _ _ _
      rw [hw13]
      exact HF13.out
    have heq := eqPl (mfAt k).kind (mfAt k).cls (mfAt k).n 1 0 0
    rw [mfAt_eq k hk13] at heq
    have heg := eqPlG
    have HSA : Hid (∀ w', Below w13.heap.size w13 w' → (fun w' => w'.cell? ⟨A, 0, none⟩ = some (.int .i64 (mfAt k).kind) ∧ w'.cell? ⟨A, 1, none⟩ = some (.int .i64 (mfAt k).cls) ∧ w'.cell? ⟨A, 2, none⟩ = some (.int .i64 (mfAt k).n)) w') := fun w' hh => by
      have h := HFe.out.rA.of_block (hh.block _ HFe.out.rA.lt)
      exact ⟨h.cell (i := 0) (by omega), h.cell (i := 1) (by omega), h.cell (i := 2) (by omega)⟩
    clear hw13 HF13 HFd hHeld g0 g1 g2 gz0 gz1 gz2 gl
    go_upto_region 11 with fail
    --CUTA
    refine wp_region_X (fun w' => w'.cell? ⟨A, 0, none⟩ = some (.int .i64 (mfAt k).kind) ∧ w'.cell? ⟨A, 1, none⟩ = some (.int .i64 (mfAt k).cls) ∧ w'.cell? ⟨A, 2, none⟩ = some (.int .i64 (mfAt k).n)) 99 (by kernel_rfl) (HSA.out _ (Below.refl _ _).drew) (fun hHeld => ?_)
    refine wpXt (v := ?_) 0 rfl (by kernel_rfl) (fun _ _ _ h => h) (by rfl) ?_ hHeld ?_
    rotate_left
    · intro w' hSw
      go_simp <;> with_reducible rfl
    try simp only [Act.put, List.setIfInBounds_toArray, List.set_cons_zero, List.set_cons_succ]
    refine wpXs 1 rfl (by kernel_rfl) (fun K hK => ?_)
    go_simp
    refine (reg_any 0 _).mono ?_
    rintro e w14 ⟨rfl, b14⟩
    have HB14 : Hid (Below w13.heap.size w13 w14) := ((Below.refl _ _).drew).trans b14
    clear b14
    refine hK.out _ _ (HSA.out _ HB14.out) (fun hHeld => ?_)
    clear hK K
    try simp only [Act.put, List.setIfInBounds_toArray, List.set_cons_zero, List.set_cons_succ]
    refine wpXs 2 rfl (by kernel_rfl) (fun K hK => ?_)
    go_simp
    refine hK.out _ _ (HSA.out _ HB14.out) (fun hHeld => ?_)
    clear hK K
    try simp only [Act.put, List.setIfInBounds_toArray, List.set_cons_zero, List.set_cons_succ]
    refine wpAnyX_done (by kernel_rfl) ?_ _

    have HFf : Hid (MfS w w5 B X M A bv bb b1 b2 b3 b4 (rgP 0) (mfAt k) (mfAt k) w14) := HFe.out.below HB14.out
    clear HSA HFe HB14 hHeld heq heg
    --CUTB
    go_upto_if 62 with fail
    go_cut [8] (fun v wz => v = .int .i64 (mfW k) ∧ Hid (MfS w w5 B X M A bv bb b1 b2 b3 b4 (rgP 0) (mfAt k) (mfAt k) wz))
    case first =>
      by_cases hk0 : k = 0
      · subst hk0
        rw [show decide (0 = 0) = true from rfl]
        go_wp2_with fail
        refine (op_bare 1 w14).mono ?_
        rintro e w15 ⟨rfl, b15⟩
        go_wp2_with fail
        refine (made_any 3 1 0 (.slice none 0 0) (.slice none 0 0) [] none 0 0 (mixL 7 [3, 1, 0]) w15 rfl (sl_none _ _ _) rfl).mono ?_
        rintro e w16 ⟨rfl, b16⟩
        have HFg : Hid (MfS w w5 B X M A bv bb b1 b2 b3 b4 (rgP 0) (mfAt 0) (mfAt 0) w16) := (HFf.out.below b15).below b16
        clear b15 b16
        go_wp2
        go_meet
        exact ⟨rfl, HFg⟩
      · rw [show decide (k = 0) = false from decide_eq_false hk0]
        have e1 : mfI k = mfW k := by unfold mfI mfW; rw [if_neg hk0]
        go_wp2
        go_meet
        exact ⟨by rw [e1], HFf⟩
    case rest =>
      obtain ⟨rfl, HFg⟩ := hcut
      have hE := mf_E k hk13
      have hrd := mf_R k hk13
      obtain ⟨want, hwant⟩ : ∃ want, mfW k = want := ⟨_, rfl⟩
      rw [hwant] at hrd ⊢
      obtain ⟨N8, hN8⟩ : ∃ N8, wc.heap.size = N8 := ⟨_, rfl⟩
      have HG0 : Hid (GrS wc N8 (.slice none 0 0) (junkL 500 0) wc) := by rw [← hN8]; exact GrS.nil wc
      have HN8 : Hid (wc.heap.size = N8) := hN8
      have HRD : Hid (machE (mjF []) 10 10 (mjP (rgP 0) (mfAt k)) [] 3 (1 * 1 + 1) = 0 ∧ readsOf (mrunM (mjF []).blocks (mjP (rgP 0) (mfAt k)) [] 3 (junkL 500 40) (fillM (junkL 500 40) 10 10 3) 9) = [[], [], [want]]) := ⟨hE, hrd⟩
      obtain ⟨i3, hi3, hz3, hz31, hz32⟩ := ru_parts ruInfo
      clear hE hrd hwant hN8 HFf
      --CUTC
      go_upto_block 0 with fail
      go_wp2_with fail
      go_loopw [10, 9] (fun i v wr => ∃ (j : Nat) (as' : Option Addr) (cs' : Nat), j ≤ 40 ∧ i = .int .i64 j ∧ v = .slice as' j cs' ∧ Hid (GrS wc N8 (.slice as' j cs') (junkL 500 j) wr)) (fun i _ _ => 40 - (intOf i).toNat)
      case atStart => exact ⟨0, none, 0, by omega, rfl, rfl, HG0⟩
      case round =>
        clear HG0
        obtain ⟨j, as', cs', hj, rfl, rfl, HI⟩ := hrel
        by_cases hlt : j < 40
        · have hji : (j : Int) < 40 := by omega
          have hle := HI.out.le
          have own := HI.out.own
          rw [junkL_len] at own
          have oA := own.alloc (.cells #[.int .i64 (500 + (j : Int))] 3)
          go_upto_region 17 with fail
          go_wp2_with (at_builtin; go_must (refine wpList_append_lies _ rfl _ _ 22 rfl N8 3 i3 (.int .i64 0) 1 8 Try.underlying22 hi3 hz3 hz31 hz32 rfl (by omega) (.slice as' j cs') j _ (by rfl) oA ⟨wr.heap.size, 0, none⟩ 1 1 [.int .i64 (500 + (j : Int))] (by rfl) (by rfl) ?e1 ?e2 (by omega) ?e3 ?e4 ?e5 (wr.heap.size + 1) ?e6 ?_))
          rotate_left
          any_goals (first | (exact ru_news rfl) | rfl | (show Value.oneCell' _ = true; simp [Value.oneCell']) | (intro u hu; simp at hu; subst hu; rfl) | (unfold maxLen; omega) | omega | (simp; omega) | (simp; rfl) | (simp; done))
          intro g cap wb2 hown hgrow hat hgl
          have HP : Hid (GrS wc N8 (.slice (some ⟨g, 0, none⟩) (j + 1) cap) (junkL 500 (j + 1)) wb2) := by
            show GrS _ _ _ _ _
            rw [junkL_succ]
            exact (HI.out.below ((Below.refl _ _).alloc (Nat.le_refl _) _)).push (by rw [junkL_len]; rfl) hgrow hown
          clear hown hgrow hat hgl oA own hle HI
          go_wp2
          go_roundw
          case rel => exact ⟨j + 1, _, _, by omega, by go_num, rfl, HP⟩
          case measure => simp [intOf]; omega
        · have hj40 : j = 40 := by omega
          subst hj40
          have HJ : Hid (SlOf wr 1 RInt (.slice as' 40 cs') (junkL 500 40)) := HI.out.sl (by rw [junkL_len]; decide)
          have blr : Below wc.heap.size wc wr := by rw [HN8.out]; exact HI.out.low
          have fr := HFg.out.below blr
          have c0 := fr.rF.cell (i := 0) (by omega)
          have c1 := fr.rF.cell (i := 1) (by omega)
          have d0 := fr.rO.cell (i := 0) (by omega)
          have d1 := fr.rO.cell (i := 1) (by omega)
          have d2 := fr.rO.cell (i := 2) (by omega)
          have y0 := fr.rM.cell (i := 0) (by omega)
          have y1 := fr.rM.cell (i := 1) (by omega)
          have c0 : wr.cell? ⟨X, 0, none⟩ = some (.slice (some ⟨bv, 0, none⟩) 1 1) := c0
          have c1 : wr.cell? ⟨X, 1, none⟩ = some (.slice (some ⟨bb, 0, none⟩) 1 1) := c1
          have d0 : wr.cell? ⟨X + 1, 0, none⟩ = some (.slice (some ⟨b1, 0, none⟩) 1 1) := d0
          have d1 : wr.cell? ⟨X + 1, 1, none⟩ = some (.slice none 0 0) := d1
          have d2 : wr.cell? ⟨X + 1, 2, none⟩ = some (.int .i64 3) := d2
          have hci := HQ.out.2.2 wr fr.old
          obtain ⟨R, hR⟩ : ∃ R, mrunM (mjF []).blocks (mjP (rgP 0) (mfAt k)) [] 3 (junkL 500 40) (fillM (junkL 500 40) 10 10 3) 9 = R := ⟨_, rfl⟩
          have hrd := HRD.out.2
          rw [hR] at hrd
          obtain ⟨hl3, hl2, hr2⟩ := reads_three hrd
          have HRU := mrun_any (mjF []) 1 1 9 3 10 10 1 0 40 1 1 1 0 cs' 3 (mjP (rgP 0) (mfAt k)) [] (junkL 500 40) (some ⟨bv, 0, none⟩) (some ⟨bb, 0, none⟩) (some ⟨b1, 0, none⟩) none as' HRD.out.1 rfl rfl (by omega) (by omega) wr (hci.sl HQ.out.1 fun _ _ h => h) (hci.sl HQ.out.2.1 hci.blk) (pl3_sl fr.pls) rfl (sl_none _ _ _) rfl HJ.out (junkL_len _ _)
          rw [hR] at HRU
          have HRUN : Calls Try.prog 14 #[.agg #[.slice (some ⟨bv, 0, none⟩) 1 1, .slice (some ⟨bb, 0, none⟩) 1 1], .agg #[.int .i64 10, .int .i64 10], .agg #[.slice (some ⟨b1, 0, none⟩) 1 1, .slice none 0 0, .int .i64 3], .int .i64 3, .slice as' 40 cs', .int .i64 9] wr _ := HRU
          have HRD2 : Hid (R.evs.length = 3 ∧ ∃ h2 : 2 < R.evs.length, R.evs[2].read = [want]) := ⟨hl3, hl2, hr2⟩
          have HBR : Hid (Below w.heap.size w wr) := fr.low
          clear HI HJ blr hR hrd hl3 hl2 hr2 HRU fr hci HFg HN8
          --CUTD
          go_wp2_with fail
          refine HRUN.mono ?_
          clear HRUN c0 c1 d0 d1 d2 y0 y1
          rintro e wf ⟨ae, ne, ce, hne, hnc, rfl, hse, hbf⟩
          have e3 : ne = 3 := hne.trans HRD2.out.1
          subst e3
          obtain ⟨h2, hrd⟩ := HRD2.out.2
          obtain ⟨be, offe, cse, rfl, _, ⟨vr, rfl, hvr⟩, hcell⟩ := hse.at 2 h2
          rw [hrd] at hvr
          obtain ⟨ar, cr, rfl, _⟩ := hvr.out
          have x2 := hcell 2 (by simp)
          simp at x2
          have HVR : Hid (SlOf wf 1 RInt (.slice ar 1 cr) [want]) := hvr
          have HBF : Hid (Below w.heap.size w wf) := HBR.out.trans (hbf.mono HBR.out.size)
          have b9 : Below wf.heap.size wf (wf.alloc (.cells #[.int .i64 want] 3)) := (Below.refl _ _).alloc (Nat.le_refl _) _
          have s9 : SlOf (wf.alloc (.cells #[.int .i64 want] 3)) 1 RInt (.slice (some ⟨wf.heap.size, 0, none⟩) 1 1) [want] := sl_newL [[.int .i64 want]] [want] rfl (by simp) rfl (by simp) (fun i h h' => by
            match i, h with
            | 0, _ => rfl) (by decide)
          have HC := sameInts_true [want] ar (some ⟨wf.heap.size, 0, none⟩) 1 cr 1 (wf.alloc (.cells #[.int .i64 want] 3)) rfl (HVR.out.below b9 fun _ _ h => h) s9
          have HB9 : Hid (Below w.heap.size w (wf.alloc (.cells #[.int .i64 want] 3))) := HBF.out.trans (b9.mono HBF.out.size)
          clear hne hse hbf hcell hrd hvr HRD2 HRD b9 s9
          --CUTE
          go_wp2_with fail
          refine HC.mono ?_
          clear HC x2
          rintro e w10 ⟨rfl, b10⟩
          have HE : Hid (Below w.heap.size w w10) := HB9.out.trans (b10.mono HB9.out.size)
          clear b10
          go_wp2
          go_ret
          exact ⟨rfl, HE.out⟩
end Go.Proofs.Ytjbjnndmpheedaa
