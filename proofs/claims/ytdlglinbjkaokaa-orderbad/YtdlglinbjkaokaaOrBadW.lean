/-
  The walk of OrderBad.
-/
import Derived.Test.YtdlglinbjkaokaaOrQ
import Derived.Test.YtdlglinbjkaokaaMkC
namespace Go.Proofs.Ytdlglinbjkaokaa
open Go.RowKit
set_option linter.unusedVariables false

theorem mach_ok {R : Int} (h1 : 2 ≤ R) (h2 : R ≤ 10) : machErr R R = 0 := by unfold machErr; rw [if_pos ⟨h1, h2, h1, h2⟩]
theorem bad_x (R r : Int) (h0 : 0 ≤ r) (h1 : r < R) : chkE R R 1 (⟨⟨2, 0, 0⟩, ⟨1, 0, r⟩⟩ : Mv) 0 = 0 := by
  simp [chkE, holdO, suitO, regB, slotB, ofRegsB, regsR, h0, h1]
theorem bad_0 (R r : Int) (h1 : 2 ≤ R) (h2 : R ≤ 10) (h3 : 0 ≤ r) (h4 : r < R) : ordE R R 1 [(⟨⟨2, 0, 0⟩, ⟨1, 0, r⟩⟩ : Mv)] [0] = 0 ∧ ordE R R 1 [(⟨⟨2, 0, 0⟩, ⟨1, 0, r⟩⟩ : Mv), (⟨⟨2, 0, 0⟩, ⟨1, 0, r⟩⟩ : Mv)] [0, 0] = 7 ∧ ordE R R 1 [(⟨⟨2, 0, 1⟩, ⟨1, 0, r⟩⟩ : Mv)] [0] = 2 ∧ ordE R R 1 [(⟨⟨2, 0, 0⟩, ⟨1, 0, r⟩⟩ : Mv), (⟨⟨2, 0, 0⟩, ⟨1, 0, r⟩⟩ : Mv)] [1, 1] = 17 ∧ ordE R R 1 [(⟨⟨2, 0, 0⟩, ⟨1, 0, r⟩⟩ : Mv), (⟨⟨2, 0, 0⟩, ⟨1, 0, r⟩⟩ : Mv)] [] = 4 := by
  have hm := mach_ok h1 h2
  have hx := bad_x R r h3 h4
  refine ⟨?_, ?_, ?_, ?_, ?_⟩
  · simp [ordE, hm, ordGo, hx]
  · simp [ordE, hm, ordGo, hx]
  · have : chkE R R 1 (⟨⟨2, 0, 1⟩, ⟨1, 0, r⟩⟩ : Mv) 0 = 2 := by simp [chkE, holdO, regB, slotB, ofRegsB]
    simp [ordE, hm, ordGo, this]
  · have : chkE R R 1 (⟨⟨2, 0, 0⟩, ⟨1, 0, r⟩⟩ : Mv) 1 = 17 := by simp [chkE, holdO, suitO, regB, slotB, ofRegsB, regsR, h3, h4]
    simp [ordE, hm, ordGo, this]
  · simp [ordE, hm]
theorem wf_mx (a b c d e f : Int) (ha : I64 a) (hb : I64 b) (hc : I64 c) (hd : I64 d) (he : I64 e) (hf : I64 f) : PlWf (⟨⟨a, b, c⟩, ⟨d, e, f⟩⟩ : Mv).src ∧ PlWf (⟨⟨a, b, c⟩, ⟨d, e, f⟩⟩ : Mv).dst := ⟨⟨ha, hb, hc⟩, ⟨hd, he, hf⟩⟩
theorem sl_mv1 {w : World} {b : Nat} (a0 a1 a2 a3 a4 a5 : Int) (h : ∀ i, w.cell? ⟨b, i, none⟩ = (#[.int .i64 a0, .int .i64 a1, .int .i64 a2, .int .i64 a3, .int .i64 a4, .int .i64 a5] : Array Value)[i]?) : SlOf w 6 RMv (.slice (some ⟨b, 0, none⟩) 1 1) [⟨⟨a0, a1, a2⟩, ⟨a3, a4, a5⟩⟩] := by
  refine SlOf_one (b := b) (off := 0) (cap := 1) [.int .i64 a0, .int .i64 a1, .int .i64 a2, .int .i64 a3, .int .i64 a4, .int .i64 a5] rfl rfl (fun j hj => ?_)
  rw [Nat.zero_add, h j]
  have : j = 0 ∨ j = 1 ∨ j = 2 ∨ j = 3 ∨ j = 4 ∨ j = 5 := by simp at hj; omega
  rcases this with rfl | rfl | rfl | rfl | rfl | rfl <;> rfl
theorem sl_mv2 {w : World} {b : Nat} (a0 a1 a2 a3 a4 a5 : Int) (h : ∀ i, w.cell? ⟨b, i, none⟩ = (#[.int .i64 a0, .int .i64 a1, .int .i64 a2, .int .i64 a3, .int .i64 a4, .int .i64 a5, .int .i64 a0, .int .i64 a1, .int .i64 a2, .int .i64 a3, .int .i64 a4, .int .i64 a5] : Array Value)[i]?) : SlOf w 6 RMv (.slice (some ⟨b, 0, none⟩) 2 2) [⟨⟨a0, a1, a2⟩, ⟨a3, a4, a5⟩⟩, ⟨⟨a0, a1, a2⟩, ⟨a3, a4, a5⟩⟩] := by
  refine SlOf_two (b := b) (off := 0) (cap := 2) [.int .i64 a0, .int .i64 a1, .int .i64 a2, .int .i64 a3, .int .i64 a4, .int .i64 a5] [.int .i64 a0, .int .i64 a1, .int .i64 a2, .int .i64 a3, .int .i64 a4, .int .i64 a5] rfl rfl rfl rfl (fun j hj => ?_) (fun j hj => ?_)
  · rw [Nat.zero_add, h j]
    have : j = 0 ∨ j = 1 ∨ j = 2 ∨ j = 3 ∨ j = 4 ∨ j = 5 := by simp at hj; omega
    rcases this with rfl | rfl | rfl | rfl | rfl | rfl <;> rfl
  · rw [h]
    have : j = 0 ∨ j = 1 ∨ j = 2 ∨ j = 3 ∨ j = 4 ∨ j = 5 := by simp at hj; omega
    rcases this with rfl | rfl | rfl | rfl | rfl | rfl <;> rfl
theorem sl_i1 {w : World} {b : Nat} (x : Int) (h : ∀ i, w.cell? ⟨b, i, none⟩ = (#[.int .i64 x] : Array Value)[i]?) : SlOf w 1 RInt (.slice (some ⟨b, 0, none⟩) 1 1) [x] := by
  refine SlOf_one (b := b) (off := 0) (cap := 1) [.int .i64 x] rfl rfl (fun j hj => ?_)
  rw [Nat.zero_add, h j]
  have : j = 0 := by simp at hj; omega
  subst this
  rfl
theorem sl_i2 {w : World} {b : Nat} (x y : Int) (h : ∀ i, w.cell? ⟨b, i, none⟩ = (#[.int .i64 x, .int .i64 y] : Array Value)[i]?) : SlOf w 1 RInt (.slice (some ⟨b, 0, none⟩) 2 2) [x, y] := by
  refine SlOf_two (b := b) (off := 0) (cap := 2) [.int .i64 x] [.int .i64 y] rfl rfl rfl rfl (fun j hj => ?_) (fun j hj => ?_)
  · rw [Nat.zero_add, h j]
    have : j = 0 := by simp at hj; omega
    subst this
    rfl
  · rw [h]
    have : j = 0 := by simp at hj; omega
    subst this
    rfl
set_option maxHeartbeats 16000000 in
theorem orderBad_walk (a : Int) (wa : (Lit.int .i64 a).wf = true) (n : Int) (wn : (Lit.int .i64 n).wf = true) (q : Int) (wq : (Lit.int .i64 q).wf = true) (w : World) :
    Calls Try.prog 6 #[.int .i64 a, .int .i64 n, .int .i64 q] w fun e w' => e = .returned (.bool true) ∧ Below w.heap.size w w' := by
  have bds : ∀ x : Int, (Lit.int .i64 x).wf = true → -9223372036854775808 ≤ x ∧ x ≤ 9223372036854775807 := fun x hx => by
    simp only [Lit.wf, IntKind.min, IntKind.max, IntKind.signed, IntKind.bits, Bool.and_eq_true, decide_eq_true_eq, if_true] at hx
    exact ⟨by omega, by omega⟩
  obtain ⟨a1, a2⟩ := bds a wa
  obtain ⟨n1, n2⟩ := bds n wn
  obtain ⟨q1, q2⟩ := bds q wq
  obtain ⟨p0, p1⟩ := pickedOf_bd a 9 (by omega)
  obtain ⟨R, hR⟩ : ∃ R, 2 + pickedOf a 9 = R := ⟨_, rfl⟩
  have hR1 : 2 ≤ R := by omega
  have hR2 : R ≤ 10 := by omega
  obtain ⟨r, hr⟩ : ∃ r, pickedOf n R = r := ⟨_, rfl⟩
  have hr0 : 0 ≤ r ∧ r < R := by rw [← hr]; exact pickedOf_bd n R (by omega)
  obtain ⟨r0, r1⟩ := hr0
  obtain ⟨z, hz⟩ : ∃ z, pickedOf q 4 = z := ⟨_, rfl⟩
  have hz0 : 0 ≤ z ∧ z < 4 := by rw [← hz]; exact pickedOf_bd q 4 (by omega)
  obtain ⟨g0, g7, g2, g17, g4⟩ := bad_0 R r hR1 hR2 r0 r1
  have HG : Hid (ordE R R 1 [(⟨⟨2, 0, 0⟩, ⟨1, 0, r⟩⟩ : Mv)] [0] = 0 ∧ ordE R R 1 [(⟨⟨2, 0, 0⟩, ⟨1, 0, r⟩⟩ : Mv), (⟨⟨2, 0, 0⟩, ⟨1, 0, r⟩⟩ : Mv)] [0, 0] = 7 ∧ ordE R R 1 [(⟨⟨2, 0, 1⟩, ⟨1, 0, r⟩⟩ : Mv)] [0] = 2 ∧ ordE R R 1 [(⟨⟨2, 0, 0⟩, ⟨1, 0, r⟩⟩ : Mv), (⟨⟨2, 0, 0⟩, ⟨1, 0, r⟩⟩ : Mv)] [1, 1] = 17 ∧ ordE R R 1 [(⟨⟨2, 0, 0⟩, ⟨1, 0, r⟩⟩ : Mv), (⟨⟨2, 0, 0⟩, ⟨1, 0, r⟩⟩ : Mv)] [] = 4) := ⟨g0, g7, g2, g17, g4⟩
  have HMA := machine_any a a w a1 a2 a1 a2
  rw [hR] at HMA
  have HPN := fun W' => picked_is n R r W' hr n1 n2 (by omega) (by omega)
  have HPQ := fun W' => picked_is q 4 z W' hz q1 q2 (by omega) (by omega)
  have HWF : Hid (∀ c : Int, c = 0 ∨ c = 1 → PlWf (⟨⟨2, 0, c⟩, ⟨1, 0, r⟩⟩ : Mv).src ∧ PlWf (⟨⟨2, 0, c⟩, ⟨1, 0, r⟩⟩ : Mv).dst) := fun c hc => by
    refine ⟨⟨⟨?_, ?_⟩, ⟨?_, ?_⟩, ⟨?_, ?_⟩⟩, ⟨⟨?_, ?_⟩, ⟨?_, ?_⟩, ⟨?_, ?_⟩⟩⟩ <;> (show _ ≤ (_ : Int)) <;> (try simp only) <;> omega
  clear g0 g7 g2 g17 g4 hR hr hz p0 p1
  go_enter Try.func6, Try.ntmps6
  go_upto_region 4 with (first | (go_at_call 14; refine HMA.mono ?_; rintro e w1 ⟨rfl, hb1⟩) | (go_at_call 15; refine (HPN _).mono ?_; rintro e w' ⟨rfl, rfl⟩))
  --CUT1
  obtain ⟨M, hM⟩ : ∃ M, w1.heap.size = M := ⟨_, rfl⟩
  obtain ⟨P, hP⟩ : ∃ P, M + 1 = P := ⟨_, rfl⟩
  obtain ⟨Q, hQ⟩ : ∃ Q, P + 1 = Q := ⟨_, rfl⟩
  obtain ⟨W4, hW4⟩ : ∃ W4, W4 = ((w1.alloc (.cells #[.int .i64 R, .int .i64 R] 24)).alloc (.cells #[.int .i64 1, .int .i64 0, .int .i64 r] 34)).alloc (.cells #[.int .i64 2, .int .i64 0, .int .i64 0, .int .i64 1, .int .i64 0, .int .i64 r] 36) := ⟨_, rfl⟩
  have hb4 : Below w1.heap.size w1 W4 := by rw [hW4]; exact (((Below.refl _ _).alloc (Nat.le_refl _) _).alloc (by simp) _).alloc (by simp; omega) _
  obtain ⟨t0, t1, t2⟩ := threeO w1 #[.int .i64 R, .int .i64 R] #[.int .i64 1, .int .i64 0, .int .i64 r] #[.int .i64 2, .int .i64 0, .int .i64 0, .int .i64 1, .int .i64 0, .int .i64 r] 24 34 36
  rw [← hW4, hM] at t0 t1 t2
  rw [hP] at t1 t2
  rw [hQ] at t2
  have zW4 : W4.heap.size = Q + 1 := by rw [hW4, ← hQ, ← hP, ← hM]; simp
  have HXC : Hid (∀ w', Below W4.heap.size W4 w' → w'.cell? ⟨M, 0, none⟩ = some (.int .i64 R) ∧ w'.cell? ⟨M, 1, none⟩ = some (.int .i64 R) ∧ w'.cell? ⟨P, 0, none⟩ = some (.int .i64 1) ∧ w'.cell? ⟨P, 1, none⟩ = some (.int .i64 0) ∧ w'.cell? ⟨P, 2, none⟩ = some (.int .i64 r) ∧ w'.cell? ⟨Q, 0, none⟩ = some (.int .i64 2) ∧ w'.cell? ⟨Q, 1, none⟩ = some (.int .i64 0) ∧ w'.cell? ⟨Q, 2, none⟩ = some (.int .i64 0) ∧ w'.cell? ⟨Q, 3, none⟩ = some (.int .i64 1) ∧ w'.cell? ⟨Q, 4, none⟩ = some (.int .i64 0) ∧ w'.cell? ⟨Q, 5, none⟩ = some (.int .i64 r)) := fun w' hh =>
    ⟨(hh.cell (p := ⟨M, 0, none⟩) (by show M < _; omega)).trans (t0 0), (hh.cell (p := ⟨M, 1, none⟩) (by show M < _; omega)).trans (t0 1), (hh.cell (p := ⟨P, 0, none⟩) (by show P < _; omega)).trans (t1 0), (hh.cell (p := ⟨P, 1, none⟩) (by show P < _; omega)).trans (t1 1), (hh.cell (p := ⟨P, 2, none⟩) (by show P < _; omega)).trans (t1 2), (hh.cell (p := ⟨Q, 0, none⟩) (by show Q < _; omega)).trans (t2 0), (hh.cell (p := ⟨Q, 1, none⟩) (by show Q < _; omega)).trans (t2 1), (hh.cell (p := ⟨Q, 2, none⟩) (by show Q < _; omega)).trans (t2 2), (hh.cell (p := ⟨Q, 3, none⟩) (by show Q < _; omega)).trans (t2 3), (hh.cell (p := ⟨Q, 4, none⟩) (by show Q < _; omega)).trans (t2 4), (hh.cell (p := ⟨Q, 5, none⟩) (by show Q < _; omega)).trans (t2 5)⟩
  obtain ⟨a0, a1', p0, p1, p2, x0, x1, x2, x3, x4, x5⟩ := HXC.out W4 (Below.refl _ _)
  have HW4 : Hid (W4 = ((w1.alloc (.cells #[.int .i64 R, .int .i64 R] 24)).alloc (.cells #[.int .i64 1, .int .i64 0, .int .i64 r] 34)).alloc (.cells #[.int .i64 2, .int .i64 0, .int .i64 0, .int .i64 1, .int .i64 0, .int .i64 r] 36)) := hW4
  have HMM : Hid (w1.heap.size = M ∧ M + 1 = P ∧ P + 1 = Q) := ⟨hM, hP, hQ⟩
  have HB1 : Hid (Below w.heap.size w W4) := hb1.trans (hb4.mono hb1.size)
  have l4a : M < W4.heap.size := by omega
  have l4b : P < W4.heap.size := by omega
  have l4c : Q < W4.heap.size := by omega
  have hw5 : Below W4.heap.size W4 ((W4.alloc (.cells #[.int .i64 2, .int .i64 0, .int .i64 0, .int .i64 1, .int .i64 0, .int .i64 r] 36)).alloc (.cells #[.int .i64 0] 3)) := ((Below.refl _ _).alloc (Nat.le_refl _) _).alloc (by simp) _
  obtain ⟨u0, u1⟩ := twoO W4 #[.int .i64 2, .int .i64 0, .int .i64 0, .int .i64 1, .int .i64 0, .int .i64 r] #[.int .i64 0] 36 3
  have HO1 := order_any R R 1 (.slice (some ⟨W4.heap.size, 0, none⟩) 1 1) (.slice (some ⟨W4.heap.size + 1, 0, none⟩) 1 1) [(⟨⟨2, 0, 0⟩, ⟨1, 0, r⟩⟩ : Mv)] [0] _ (sl_mv1 _ _ _ _ _ _ u0) (sl_i1 _ u1) (fun m hm => by rw [List.mem_singleton.1 hm]; exact HWF.out 0 (Or.inl rfl))
  rw [HG.out.1] at HO1
  clear hM hP hQ hW4 t0 t1 t2 hb4 hb1 zW4 u0 u1
  rw [← HW4.out, HMM.out.1, HMM.out.2.1, HMM.out.2.2]
  clear HW4
  --CUT2
  go_wp2_with fail
  refine HO1.mono ?_
  clear HO1 a0 a1' p0 p1 p2 x0 x1 x2 x3 x4 x5
  rintro e w6 ⟨hb6, v6, rfl, -, -⟩
  have hb46 : Below W4.heap.size W4 w6 := hw5.trans (hb6.mono hw5.size)
  obtain ⟨a0, a1', p0, p1, p2, x0, x1, x2, x3, x4, x5⟩ := HXC.out w6 hb46
  have l6a : M < w6.heap.size := by have := hb46.size; omega
  have l6b : P < w6.heap.size := by have := hb46.size; omega
  have l6c : Q < w6.heap.size := by have := hb46.size; omega
  go_upto_region 9 with (go_at_call 15; refine (HPQ _).mono ?_; rintro e w' ⟨rfl, rfl⟩)
  --CUT3
  obtain ⟨W7, hW7⟩ : ∃ W7, W7 = (w6.alloc (.cells #[.int .i64 2, .int .i64 0, .int .i64 0, .int .i64 1, .int .i64 0, .int .i64 r, .int .i64 2, .int .i64 0, .int .i64 0, .int .i64 1, .int .i64 0, .int .i64 r] 36)).alloc (.cells #[.int .i64 0, .int .i64 0] 3) := ⟨_, rfl⟩
  obtain ⟨u0, u1⟩ := twoO w6 #[.int .i64 2, .int .i64 0, .int .i64 0, .int .i64 1, .int .i64 0, .int .i64 r, .int .i64 2, .int .i64 0, .int .i64 0, .int .i64 1, .int .i64 0, .int .i64 r] #[.int .i64 0, .int .i64 0] 36 3
  rw [← hW7] at u0 u1
  have hb67 : Below w6.heap.size w6 W7 := by rw [hW7]; exact ((Below.refl _ _).alloc (Nat.le_refl _) _).alloc (by simp) _
  have hb47 := hb46.trans (hb67.mono hb46.size)
  have HB7 : Hid (Below w.heap.size w W7) := HB1.out.trans (hb47.mono HB1.out.size)
  have HS1 : Hid (SlOf W7 6 RMv (.slice (some ⟨w6.heap.size, 0, none⟩) 2 2) [(⟨⟨2, 0, 0⟩, ⟨1, 0, r⟩⟩ : Mv), (⟨⟨2, 0, 0⟩, ⟨1, 0, r⟩⟩ : Mv)]) := sl_mv2 _ _ _ _ _ _ u0
  have HS2 : Hid (SlOf W7 1 RInt (.slice (some ⟨w6.heap.size + 1, 0, none⟩) 2 2) [0, 0]) := sl_i2 _ _ u1
  have HW7 : Hid (W7 = (w6.alloc (.cells #[.int .i64 2, .int .i64 0, .int .i64 0, .int .i64 1, .int .i64 0, .int .i64 r, .int .i64 2, .int .i64 0, .int .i64 0, .int .i64 1, .int .i64 0, .int .i64 r] 36)).alloc (.cells #[.int .i64 0, .int .i64 0] 3)) := hW7
  obtain ⟨E, hE⟩ : ∃ E, w6.heap.size = E := ⟨_, rfl⟩
  rw [hE] at HS1 HS2
  have HEE : Hid (w6.heap.size = E) := hE
  have hwf2 : ∀ m ∈ [(⟨⟨2, 0, 0⟩, ⟨1, 0, r⟩⟩ : Mv), (⟨⟨2, 0, 0⟩, ⟨1, 0, r⟩⟩ : Mv)], PlWf m.src ∧ PlWf m.dst := fun m hm => by
    have : m = (⟨⟨2, 0, 0⟩, ⟨1, 0, r⟩⟩ : Mv) := by simpa using hm
    rw [this]
    exact HWF.out 0 (Or.inl rfl)
  clear hE hW7 u0 u1 hb67
  rw [← HW7.out, HEE.out]
  clear HW7 HEE a0 a1' p0 p1 p2 x0 x1 x2 x3 x4 x5
  obtain ⟨a0, a1', p0, p1, p2, x0, x1, x2, x3, x4, x5⟩ := HXC.out W7 hb47
  have l7a : M < W7.heap.size := by have := hb47.size; omega
  have l7b : P < W7.heap.size := by have := hb47.size; omega
  --CUT4
  have hz : z = 0 ∨ z = 1 ∨ z = 2 ∨ z = 3 := by omega
  rcases hz with rfl | rfl | rfl | rfl
  · have HO := order_any R R 1 _ _ [(⟨⟨2, 0, 0⟩, ⟨1, 0, r⟩⟩ : Mv), (⟨⟨2, 0, 0⟩, ⟨1, 0, r⟩⟩ : Mv)] [0, 0] W7 HS1.out HS2.out hwf2
    rw [HG.out.2.1] at HO
    go_upto_region 20 with (go_at_call 10; refine HO.mono ?_; clear HO; rintro e w8 ⟨hb8, v8, rfl, hv8, -⟩)
    obtain rfl := hv8 (by decide)
    --CUT5
    go_wp2
    go_ret
    exact ⟨rfl, HB7.out.trans (hb8.mono HB7.out.size)⟩
  · obtain ⟨u0, u1⟩ := twoO W7 #[.int .i64 2, .int .i64 0, .int .i64 1, .int .i64 1, .int .i64 0, .int .i64 r] #[.int .i64 0] 36 3
    have hb78 : Below W7.heap.size W7 ((W7.alloc (.cells #[.int .i64 2, .int .i64 0, .int .i64 1, .int .i64 1, .int .i64 0, .int .i64 r] 36)).alloc (.cells #[.int .i64 0] 3)) := ((Below.refl _ _).alloc (Nat.le_refl _) _).alloc (by simp) _
    have HO := order_any R R 1 _ _ [(⟨⟨2, 0, 1⟩, ⟨1, 0, r⟩⟩ : Mv)] [0] _ (sl_mv1 _ _ _ _ _ _ u0) (sl_i1 _ u1) (fun m hm => by rw [List.mem_singleton.1 hm]; exact HWF.out 1 (Or.inr rfl))
    rw [HG.out.2.2.1] at HO
    clear u0 u1
    go_upto_region 20 with (go_at_call 10; refine HO.mono ?_; clear HO; rintro e w8 ⟨hb8, v8, rfl, hv8, -⟩)
    obtain rfl := hv8 (by decide)
    go_wp2
    go_ret
    exact ⟨rfl, HB7.out.trans ((hb78.trans (hb8.mono hb78.size)).mono HB7.out.size)⟩
  · have u1 := topO W7 #[.int .i64 1, .int .i64 1] 3
    have hb78 : Below W7.heap.size W7 (W7.alloc (.cells #[.int .i64 1, .int .i64 1] 3)) := (Below.refl _ _).alloc (Nat.le_refl _) _
    have HO := order_any R R 1 _ _ [(⟨⟨2, 0, 0⟩, ⟨1, 0, r⟩⟩ : Mv), (⟨⟨2, 0, 0⟩, ⟨1, 0, r⟩⟩ : Mv)] [1, 1] _ (HS1.out.below hb78 fun _ _ h => h) (sl_i2 _ _ u1) hwf2
    rw [HG.out.2.2.2.1] at HO
    clear u1
    go_upto_region 20 with (go_at_call 10; refine HO.mono ?_; clear HO; rintro e w8 ⟨hb8, v8, rfl, hv8, -⟩)
    obtain rfl := hv8 (by decide)
    go_wp2
    go_ret
    exact ⟨rfl, HB7.out.trans ((hb78.trans (hb8.mono hb78.size)).mono HB7.out.size)⟩
  · have HO := order_any R R 1 _ (.slice none 0 0) [(⟨⟨2, 0, 0⟩, ⟨1, 0, r⟩⟩ : Mv), (⟨⟨2, 0, 0⟩, ⟨1, 0, r⟩⟩ : Mv)] [] W7 HS1.out (SlOf_nil _ _ _ _ _) hwf2
    rw [HG.out.2.2.2.2] at HO
    go_upto_region 20 with (go_at_call 10; refine HO.mono ?_; clear HO; rintro e w8 ⟨hb8, v8, rfl, hv8, -⟩)
    obtain rfl := hv8 (by decide)
    go_wp2
    go_ret
    exact ⟨rfl, HB7.out.trans (hb8.mono HB7.out.size)⟩
end Go.Proofs.Ytdlglinbjkaokaa
