/-
  The walk of SourceSwap: two that change places in a loop.
-/
import Derived.Test.YtmanjojjncjaiaaR9
namespace Go.Proofs.Ytmanjojjncjaiaa
open Go.RowKit Go.ChangeShapes Go.WideShapes
set_option linter.unusedVariables false

theorem op_weak (n : Int) (v : Value) (b k c : Nat) (w : World) (hv : v = .slice (some ⟨b, 0, none⟩) k c) :
    Calls Try.prog 15 #[.int .i64 n, v] w fun e w' => e = .returned (.agg #[.int .i64 n, v, .slice none 0 0]) ∧ Below w.heap.size w w' := by
  subst hv
  refine (op_any n b k c w).mono ?_
  rintro e w' ⟨h1, h2⟩
  exact ⟨h1, by rw [h2]; exact (Below.refl _ _).alloc (Nat.le_refl _) _⟩
theorem def_weak (v : Int) (w : World) : Calls Try.prog 16 #[.int .i64 v] w fun e w' => e = .returned (.agg #[.int .i64 2, .int .i64 v, .bool true, .int .i64 1, .int .i64 0]) ∧ Below w.heap.size w w' := by
  refine (def_any v w).mono ?_
  rintro e w' ⟨h1, h2⟩
  exact ⟨h1, by rw [h2]; exact (Below.refl _ _).alloc (Nat.le_refl _) _⟩
theorem use_weak (v : Int) (w : World) : Calls Try.prog 17 #[.int .i64 v] w fun e w' => e = .returned (.agg #[.int .i64 1, .int .i64 v, .bool false, .int .i64 1, .int .i64 0]) ∧ Below w.heap.size w w' := by
  refine (use_any v w).mono ?_
  rintro e w' ⟨h1, h2⟩
  exact ⟨h1, by rw [h2]; exact (Below.refl _ _).alloc (Nat.le_refl _) _⟩
theorem op_bare (n : Int) (w : World) :
    Calls Try.prog 15 #[.int .i64 n, .slice none 0 0] w fun e w' => e = .returned (.agg #[.int .i64 n, .slice none 0 0, .slice none 0 0]) ∧ Below w.heap.size w w' := by
  have hb : Below w.heap.size w (w.alloc (.cells #[.int .i64 n, .slice none 0 0, .slice none 0 0] 51)) := (Below.refl _ _).alloc (Nat.le_refl _) _
  go_enter Try.func15, Try.ntmps15
  go_wp2
  exact bodyPost_ret (v := .agg #[.int .i64 n, .slice none 0 0, .slice none 0 0]) (by simp [results, Try.results15, go_sem]) rfl ⟨rfl, hb⟩

set_option maxHeartbeats 8000000 in
theorem sourceSwap_walk (seed : Int) (ws : (Lit.int .i64 seed).wf = true) (m : Int) (wm : (Lit.int .i64 m).wf = true) (w : World) :
    Calls Try.prog 6 #[.int .i64 seed, .int .i64 m] w fun e w' => e = .returned (.bool true) ∧ Below w.heap.size w w' := by
  obtain ⟨m0, m1⟩ := bounds_i64 wm
  obtain ⟨p0, p1⟩ := pickedOf_bd m 20 (by decide)
  obtain ⟨K, hK⟩ : ∃ K : Nat, pickedOf m 20 = (K : Int) := ⟨(pickedOf m 20).toNat, by omega⟩
  rw [hK] at p0 p1
  have hK20 : K < 20 := by omega
  have HPK : Hid (pickedOf m 20 = (K : Int)) := hK
  have HLOW : Hid (Below w.heap.size w w) := Below.refl _ _
  clear ws wm hK p0 p1
  go_enter Try.func6, Try.ntmps6
  go_wp2_with fail
  obtain ⟨Nw0, hNw0⟩ : ∃ Nw0, Nw0 = w.alloc (.cells #[.int .i64 0, .int .i64 0, .int .i64 0, .int .i64 0] 3) := ⟨_, rfl⟩
  obtain ⟨LV, hLV⟩ : ∃ LV, w.heap.size = LV := ⟨_, rfl⟩
  have zLV : w.heap.size = LV := by rw [← hLV]
  have bNw0 : Below w.heap.size w Nw0 := by rw [hNw0]; exact (Below.refl _ _).alloc (Nat.le_refl _) _
  have zNw0 : (w.alloc (.cells #[.int .i64 0, .int .i64 0, .int .i64 0, .int .i64 0] 3)) = Nw0 := by rw [hNw0]
  have fV := sl_newL (w := w) (c := 4) (R := RInt) (t := 3) (cs := #[.int .i64 0, .int .i64 0, .int .i64 0, .int .i64 0]) (k := 1) [[.int .i64 0], [.int .i64 0], [.int .i64 0], [.int .i64 0]] [0, 0, 0, 0] rfl rfl rfl (by simp) (fun i h h' => match i, h with | 0, _ => rfl | 1, _ => rfl | 2, _ => rfl | 3, _ => rfl) (by simp [longest])
  rw [← hNw0, hLV] at fV
  have HLOW : Hid (Below w.heap.size w Nw0) := HLOW.out.trans (bNw0.mono HLOW.out.size)
  try rw [zLV]
  rw [zNw0]
  clear hNw0 zNw0 bNw0 hLV zLV
  have HC := def_weak 0 Nw0
  refine HC.mono ?_
  clear HC
  rintro e w1 ⟨rfl, bb⟩
  have fV := fV.below bb fun _ _ h => h
  have HLOW : Hid (Below w.heap.size w w1) := HLOW.out.trans (bb.mono HLOW.out.size)
  clear bb
  go_wp2_with fail
  obtain ⟨Nw10, hNw10⟩ : ∃ Nw10, Nw10 = w1.alloc (.cells #[.int .i64 2, .int .i64 0, .bool true, .int .i64 1, .int .i64 0] 53) := ⟨_, rfl⟩
  obtain ⟨O0, hO0⟩ : ∃ O0, w1.heap.size = O0 := ⟨_, rfl⟩
  have zO0 : w1.heap.size = O0 := by rw [← hO0]
  have bNw10 : Below w1.heap.size w1 Nw10 := by rw [hNw10]; exact (Below.refl _ _).alloc (Nat.le_refl _) _
  have zNw10 : (w1.alloc (.cells #[.int .i64 2, .int .i64 0, .bool true, .int .i64 1, .int .i64 0] 53)) = Nw10 := by rw [hNw10]
  have fV := fV.below bNw10 fun _ _ h => h
  have fO0 := sl_newL (w := w1) (c := 1) (R := ROpr) (t := 53) (cs := #[.int .i64 2, .int .i64 0, .bool true, .int .i64 1, .int .i64 0]) (k := 5) [[.int .i64 2, .int .i64 0, .bool true, .int .i64 1, .int .i64 0]] [⟨2, 0, true, 1, 0⟩] rfl rfl rfl (by simp) (fun i h h' => match i, h with | 0, _ => rfl) (by simp [longest])
  rw [← hNw10, hO0] at fO0
  have HLOW : Hid (Below w.heap.size w Nw10) := HLOW.out.trans (bNw10.mono HLOW.out.size)
  try rw [zO0]
  rw [zNw10]
  clear hNw10 zNw10 bNw10 hO0 zO0
  have HC := op_weak 1 (.slice (some ⟨O0, 0, none⟩) 1 1) O0 1 1 Nw10 rfl
  refine HC.mono ?_
  clear HC
  rintro e w2 ⟨rfl, bb⟩
  have fV := fV.below bb fun _ _ h => h
  have fO0 := fO0.below bb fun _ _ h => h
  have HLOW : Hid (Below w.heap.size w w2) := HLOW.out.trans (bb.mono HLOW.out.size)
  clear bb
  go_wp2_with fail
  have HC := def_weak 1 w2
  refine HC.mono ?_
  clear HC
  rintro e w3 ⟨rfl, bb⟩
  have fV := fV.below bb fun _ _ h => h
  have fO0 := fO0.below bb fun _ _ h => h
  have HLOW : Hid (Below w.heap.size w w3) := HLOW.out.trans (bb.mono HLOW.out.size)
  clear bb
  go_wp2_with fail
  obtain ⟨Nw30, hNw30⟩ : ∃ Nw30, Nw30 = w3.alloc (.cells #[.int .i64 2, .int .i64 1, .bool true, .int .i64 1, .int .i64 0] 53) := ⟨_, rfl⟩
  obtain ⟨O1, hO1⟩ : ∃ O1, w3.heap.size = O1 := ⟨_, rfl⟩
  have zO1 : w3.heap.size = O1 := by rw [← hO1]
  have bNw30 : Below w3.heap.size w3 Nw30 := by rw [hNw30]; exact (Below.refl _ _).alloc (Nat.le_refl _) _
  have zNw30 : (w3.alloc (.cells #[.int .i64 2, .int .i64 1, .bool true, .int .i64 1, .int .i64 0] 53)) = Nw30 := by rw [hNw30]
  have fV := fV.below bNw30 fun _ _ h => h
  have fO0 := fO0.below bNw30 fun _ _ h => h
  have fO1 := sl_newL (w := w3) (c := 1) (R := ROpr) (t := 53) (cs := #[.int .i64 2, .int .i64 1, .bool true, .int .i64 1, .int .i64 0]) (k := 5) [[.int .i64 2, .int .i64 1, .bool true, .int .i64 1, .int .i64 0]] [⟨2, 1, true, 1, 0⟩] rfl rfl rfl (by simp) (fun i h h' => match i, h with | 0, _ => rfl) (by simp [longest])
  rw [← hNw30, hO1] at fO1
  have HLOW : Hid (Below w.heap.size w Nw30) := HLOW.out.trans (bNw30.mono HLOW.out.size)
  try rw [zO1]
  rw [zNw30]
  clear hNw30 zNw30 bNw30 hO1 zO1
  have HC := op_weak 2 (.slice (some ⟨O1, 0, none⟩) 1 1) O1 1 1 Nw30 rfl
  refine HC.mono ?_
  clear HC
  rintro e w4 ⟨rfl, bb⟩
  have fV := fV.below bb fun _ _ h => h
  have fO0 := fO0.below bb fun _ _ h => h
  have fO1 := fO1.below bb fun _ _ h => h
  have HLOW : Hid (Below w.heap.size w w4) := HLOW.out.trans (bb.mono HLOW.out.size)
  clear bb
  go_wp2_with fail
  obtain ⟨Nw40, hNw40⟩ : ∃ Nw40, Nw40 = w4.alloc (.cells #[.int .i64 1, .slice (some ⟨O0, 0, none⟩) 1 1, .slice none 0 0, .int .i64 2, .slice (some ⟨O1, 0, none⟩) 1 1, .slice none 0 0] 51) := ⟨_, rfl⟩
  obtain ⟨I0, hI0⟩ : ∃ I0, w4.heap.size = I0 := ⟨_, rfl⟩
  have zI0 : w4.heap.size = I0 := by rw [← hI0]
  have bNw40 : Below w4.heap.size w4 Nw40 := by rw [hNw40]; exact (Below.refl _ _).alloc (Nat.le_refl _) _
  have zNw40 : (w4.alloc (.cells #[.int .i64 1, .slice (some ⟨O0, 0, none⟩) 1 1, .slice none 0 0, .int .i64 2, .slice (some ⟨O1, 0, none⟩) 1 1, .slice none 0 0] 51)) = Nw40 := by rw [hNw40]
  have fV := fV.below bNw40 fun _ _ h => h
  have fO0 := fO0.below bNw40 fun _ _ h => h
  have fO1 := fO1.below bNw40 fun _ _ h => h
  have fI0 := sl_newL (w := w4) (c := 2) (R := (RIns Nw40)) (t := 51) (cs := #[.int .i64 1, .slice (some ⟨O0, 0, none⟩) 1 1, .slice none 0 0, .int .i64 2, .slice (some ⟨O1, 0, none⟩) 1 1, .slice none 0 0]) (k := 3) [[.int .i64 1, .slice (some ⟨O0, 0, none⟩) 1 1, .slice none 0 0], [.int .i64 2, .slice (some ⟨O1, 0, none⟩) 1 1, .slice none 0 0]] [⟨1, [⟨2, 0, true, 1, 0⟩], []⟩, ⟨2, [⟨2, 1, true, 1, 0⟩], []⟩] rfl rfl rfl (by simp) (fun i h h' => match i, h with | 0, _ => ⟨_, _, rfl, fO0, ⟨none, 0, rfl, by simp [longest], Or.inl rfl⟩⟩ | 1, _ => ⟨_, _, rfl, fO1, ⟨none, 0, rfl, by simp [longest], Or.inl rfl⟩⟩) (by simp [longest])
  rw [← hNw40, hI0] at fI0
  have HLOW : Hid (Below w.heap.size w Nw40) := HLOW.out.trans (bNw40.mono HLOW.out.size)
  obtain ⟨Nw41, hNw41⟩ : ∃ Nw41, Nw41 = Nw40.alloc (.cells #[.int .i64 0, .int .i64 1] 3) := ⟨_, rfl⟩
  obtain ⟨A0, hA0⟩ : ∃ A0, Nw40.heap.size = A0 := ⟨_, rfl⟩
  have zA0 : w4.heap.size + 1 = A0 := by rw [← hA0]; simp only [hNw40]; simp
  have bNw41 : Below Nw40.heap.size Nw40 Nw41 := by rw [hNw41]; exact (Below.refl _ _).alloc (Nat.le_refl _) _
  have zNw41 : ((w4.alloc (.cells #[.int .i64 1, .slice (some ⟨O0, 0, none⟩) 1 1, .slice none 0 0, .int .i64 2, .slice (some ⟨O1, 0, none⟩) 1 1, .slice none 0 0] 51)).alloc (.cells #[.int .i64 0, .int .i64 1] 3)) = Nw41 := by rw [hNw41]; simp only [hNw40]
  have fV := fV.below bNw41 fun _ _ h => h
  have fO0 := fO0.below bNw41 fun _ _ h => h
  have fO1 := fO1.below bNw41 fun _ _ h => h
  have fI0 := fI0.below bNw41 (RIns.below bNw41)
  have fA0 := sl_newL (w := Nw40) (c := 2) (R := RInt) (t := 3) (cs := #[.int .i64 0, .int .i64 1]) (k := 1) [[.int .i64 0], [.int .i64 1]] [0, 1] rfl rfl rfl (by simp) (fun i h h' => match i, h with | 0, _ => rfl | 1, _ => rfl) (by simp [longest])
  rw [← hNw41, hA0] at fA0
  have HLOW : Hid (Below w.heap.size w Nw41) := HLOW.out.trans (bNw41.mono HLOW.out.size)
  obtain ⟨Nw42, hNw42⟩ : ∃ Nw42, Nw42 = Nw41.alloc (.cells #[.int .i64 1, .slice (some ⟨A0, 0, none⟩) 2 2] 47) := ⟨_, rfl⟩
  obtain ⟨E0, hE0⟩ : ∃ E0, Nw41.heap.size = E0 := ⟨_, rfl⟩
  have zE0 : w4.heap.size + 1 + 1 = E0 := by rw [← hE0]; simp only [hNw41, hNw40]; simp
  have bNw42 : Below Nw41.heap.size Nw41 Nw42 := by rw [hNw42]; exact (Below.refl _ _).alloc (Nat.le_refl _) _
  have zNw42 : (((w4.alloc (.cells #[.int .i64 1, .slice (some ⟨O0, 0, none⟩) 1 1, .slice none 0 0, .int .i64 2, .slice (some ⟨O1, 0, none⟩) 1 1, .slice none 0 0] 51)).alloc (.cells #[.int .i64 0, .int .i64 1] 3)).alloc (.cells #[.int .i64 1, .slice (some ⟨A0, 0, none⟩) 2 2] 47)) = Nw42 := by rw [hNw42]; simp only [hNw41, hNw40]
  have fV := fV.below bNw42 fun _ _ h => h
  have fO0 := fO0.below bNw42 fun _ _ h => h
  have fO1 := fO1.below bNw42 fun _ _ h => h
  have fI0 := fI0.below bNw42 (RIns.below bNw42)
  have fA0 := fA0.below bNw42 fun _ _ h => h
  have fE0 := sl_newL (w := Nw41) (c := 1) (R := (REdg Nw42)) (t := 47) (cs := #[.int .i64 1, .slice (some ⟨A0, 0, none⟩) 2 2]) (k := 2) [[.int .i64 1, .slice (some ⟨A0, 0, none⟩) 2 2]] [⟨1, [0, 1]⟩] rfl rfl rfl (by simp) (fun i h h' => match i, h with | 0, _ => ⟨_, rfl, fA0⟩) (by simp [longest])
  rw [← hNw42, hE0] at fE0
  have HLOW : Hid (Below w.heap.size w Nw42) := HLOW.out.trans (bNw42.mono HLOW.out.size)
  obtain ⟨Nw43, hNw43⟩ : ∃ Nw43, Nw43 = Nw42.alloc (.cells #[.int .i64 2, .int .i64 3] 3) := ⟨_, rfl⟩
  obtain ⟨P1, hP1⟩ : ∃ P1, Nw42.heap.size = P1 := ⟨_, rfl⟩
  have zP1 : w4.heap.size + 1 + 1 + 1 = P1 := by rw [← hP1]; simp only [hNw42, hNw41, hNw40]; simp
  have bNw43 : Below Nw42.heap.size Nw42 Nw43 := by rw [hNw43]; exact (Below.refl _ _).alloc (Nat.le_refl _) _
  have zNw43 : ((((w4.alloc (.cells #[.int .i64 1, .slice (some ⟨O0, 0, none⟩) 1 1, .slice none 0 0, .int .i64 2, .slice (some ⟨O1, 0, none⟩) 1 1, .slice none 0 0] 51)).alloc (.cells #[.int .i64 0, .int .i64 1] 3)).alloc (.cells #[.int .i64 1, .slice (some ⟨A0, 0, none⟩) 2 2] 47)).alloc (.cells #[.int .i64 2, .int .i64 3] 3)) = Nw43 := by rw [hNw43]; simp only [hNw42, hNw41, hNw40]
  have fV := fV.below bNw43 fun _ _ h => h
  have fO0 := fO0.below bNw43 fun _ _ h => h
  have fO1 := fO1.below bNw43 fun _ _ h => h
  have fI0 := fI0.below bNw43 (RIns.below bNw43)
  have fA0 := fA0.below bNw43 fun _ _ h => h
  have fE0 := fE0.below bNw43 (REdg.below bNw43)
  have fP1 := sl_newL (w := Nw42) (c := 2) (R := RInt) (t := 3) (cs := #[.int .i64 2, .int .i64 3]) (k := 1) [[.int .i64 2], [.int .i64 3]] [2, 3] rfl rfl rfl (by simp) (fun i h h' => match i, h with | 0, _ => rfl | 1, _ => rfl) (by simp [longest])
  rw [← hNw43, hP1] at fP1
  have HLOW : Hid (Below w.heap.size w Nw43) := HLOW.out.trans (bNw43.mono HLOW.out.size)
  try rw [zP1]
  try rw [zE0]
  try rw [zA0]
  try rw [zI0]
  rw [zNw43]
  clear hNw40 zNw40 bNw40 hNw41 zNw41 bNw41 hNw42 zNw42 bNw42 hNw43 zNw43 bNw43 hI0 zI0 hA0 zA0 hE0 zE0 hP1 zP1
  have HC := use_weak 2 Nw43
  refine HC.mono ?_
  clear HC
  rintro e w5 ⟨rfl, bb⟩
  have fV := fV.below bb fun _ _ h => h
  have fO0 := fO0.below bb fun _ _ h => h
  have fO1 := fO1.below bb fun _ _ h => h
  have fI0 := fI0.below bb (RIns.below bb)
  have fA0 := fA0.below bb fun _ _ h => h
  have fE0 := fE0.below bb (REdg.below bb)
  have fP1 := fP1.below bb fun _ _ h => h
  have HLOW : Hid (Below w.heap.size w w5) := HLOW.out.trans (bb.mono HLOW.out.size)
  clear bb
  go_wp2_with fail
  have HC := use_weak 3 w5
  refine HC.mono ?_
  clear HC
  rintro e w6 ⟨rfl, bb⟩
  have fV := fV.below bb fun _ _ h => h
  have fO0 := fO0.below bb fun _ _ h => h
  have fO1 := fO1.below bb fun _ _ h => h
  have fI0 := fI0.below bb (RIns.below bb)
  have fA0 := fA0.below bb fun _ _ h => h
  have fE0 := fE0.below bb (REdg.below bb)
  have fP1 := fP1.below bb fun _ _ h => h
  have HLOW : Hid (Below w.heap.size w w6) := HLOW.out.trans (bb.mono HLOW.out.size)
  clear bb
  go_wp2_with fail
  obtain ⟨Nw60, hNw60⟩ : ∃ Nw60, Nw60 = w6.alloc (.cells #[.int .i64 1, .int .i64 2, .bool false, .int .i64 1, .int .i64 0, .int .i64 1, .int .i64 3, .bool false, .int .i64 1, .int .i64 0] 53) := ⟨_, rfl⟩
  obtain ⟨O2, hO2⟩ : ∃ O2, w6.heap.size = O2 := ⟨_, rfl⟩
  have zO2 : w6.heap.size = O2 := by rw [← hO2]
  have bNw60 : Below w6.heap.size w6 Nw60 := by rw [hNw60]; exact (Below.refl _ _).alloc (Nat.le_refl _) _
  have zNw60 : (w6.alloc (.cells #[.int .i64 1, .int .i64 2, .bool false, .int .i64 1, .int .i64 0, .int .i64 1, .int .i64 3, .bool false, .int .i64 1, .int .i64 0] 53)) = Nw60 := by rw [hNw60]
  have fV := fV.below bNw60 fun _ _ h => h
  have fO0 := fO0.below bNw60 fun _ _ h => h
  have fO1 := fO1.below bNw60 fun _ _ h => h
  have fI0 := fI0.below bNw60 (RIns.below bNw60)
  have fA0 := fA0.below bNw60 fun _ _ h => h
  have fE0 := fE0.below bNw60 (REdg.below bNw60)
  have fP1 := fP1.below bNw60 fun _ _ h => h
  have fO2 := sl_newL (w := w6) (c := 2) (R := ROpr) (t := 53) (cs := #[.int .i64 1, .int .i64 2, .bool false, .int .i64 1, .int .i64 0, .int .i64 1, .int .i64 3, .bool false, .int .i64 1, .int .i64 0]) (k := 5) [[.int .i64 1, .int .i64 2, .bool false, .int .i64 1, .int .i64 0], [.int .i64 1, .int .i64 3, .bool false, .int .i64 1, .int .i64 0]] [⟨1, 2, false, 1, 0⟩, ⟨1, 3, false, 1, 0⟩] rfl rfl rfl (by simp) (fun i h h' => match i, h with | 0, _ => rfl | 1, _ => rfl) (by simp [longest])
  rw [← hNw60, hO2] at fO2
  have HLOW : Hid (Below w.heap.size w Nw60) := HLOW.out.trans (bNw60.mono HLOW.out.size)
  try rw [zO2]
  rw [zNw60]
  clear hNw60 zNw60 bNw60 hO2 zO2
  have HC := op_weak 5 (.slice (some ⟨O2, 0, none⟩) 2 2) O2 2 2 Nw60 rfl
  refine HC.mono ?_
  clear HC
  rintro e w7 ⟨rfl, bb⟩
  have fV := fV.below bb fun _ _ h => h
  have fO0 := fO0.below bb fun _ _ h => h
  have fO1 := fO1.below bb fun _ _ h => h
  have fI0 := fI0.below bb (RIns.below bb)
  have fA0 := fA0.below bb fun _ _ h => h
  have fE0 := fE0.below bb (REdg.below bb)
  have fP1 := fP1.below bb fun _ _ h => h
  have fO2 := fO2.below bb fun _ _ h => h
  have HLOW : Hid (Below w.heap.size w w7) := HLOW.out.trans (bb.mono HLOW.out.size)
  clear bb
  go_upto_region 2 with fail
  obtain ⟨Nw70, hNw70⟩ : ∃ Nw70, Nw70 = w7.alloc (.cells #[.int .i64 5, .slice (some ⟨O2, 0, none⟩) 2 2, .slice none 0 0] 51) := ⟨_, rfl⟩
  obtain ⟨I1, hI1⟩ : ∃ I1, w7.heap.size = I1 := ⟨_, rfl⟩
  have zI1 : w7.heap.size = I1 := by rw [← hI1]
  have bNw70 : Below w7.heap.size w7 Nw70 := by rw [hNw70]; exact (Below.refl _ _).alloc (Nat.le_refl _) _
  have zNw70 : (w7.alloc (.cells #[.int .i64 5, .slice (some ⟨O2, 0, none⟩) 2 2, .slice none 0 0] 51)) = Nw70 := by rw [hNw70]
  have fV := fV.below bNw70 fun _ _ h => h
  have fO0 := fO0.below bNw70 fun _ _ h => h
  have fO1 := fO1.below bNw70 fun _ _ h => h
  have fI0 := fI0.below bNw70 (RIns.below bNw70)
  have fA0 := fA0.below bNw70 fun _ _ h => h
  have fE0 := fE0.below bNw70 (REdg.below bNw70)
  have fP1 := fP1.below bNw70 fun _ _ h => h
  have fO2 := fO2.below bNw70 fun _ _ h => h
  have fI1 := sl_newL (w := w7) (c := 1) (R := (RIns Nw70)) (t := 51) (cs := #[.int .i64 5, .slice (some ⟨O2, 0, none⟩) 2 2, .slice none 0 0]) (k := 3) [[.int .i64 5, .slice (some ⟨O2, 0, none⟩) 2 2, .slice none 0 0]] [⟨5, [⟨1, 2, false, 1, 0⟩, ⟨1, 3, false, 1, 0⟩], []⟩] rfl rfl rfl (by simp) (fun i h h' => match i, h with | 0, _ => ⟨_, _, rfl, fO2, ⟨none, 0, rfl, by simp [longest], Or.inl rfl⟩⟩) (by simp [longest])
  rw [← hNw70, hI1] at fI1
  have HLOW : Hid (Below w.heap.size w Nw70) := HLOW.out.trans (bNw70.mono HLOW.out.size)
  obtain ⟨Nw71, hNw71⟩ : ∃ Nw71, Nw71 = Nw70.alloc (.cells #[.int .i64 3, .int .i64 2] 3) := ⟨_, rfl⟩
  obtain ⟨A1, hA1⟩ : ∃ A1, Nw70.heap.size = A1 := ⟨_, rfl⟩
  have zA1 : w7.heap.size + 1 = A1 := by rw [← hA1]; simp only [hNw70]; simp
  have bNw71 : Below Nw70.heap.size Nw70 Nw71 := by rw [hNw71]; exact (Below.refl _ _).alloc (Nat.le_refl _) _
  have zNw71 : ((w7.alloc (.cells #[.int .i64 5, .slice (some ⟨O2, 0, none⟩) 2 2, .slice none 0 0] 51)).alloc (.cells #[.int .i64 3, .int .i64 2] 3)) = Nw71 := by rw [hNw71]; simp only [hNw70]
  have fV := fV.below bNw71 fun _ _ h => h
  have fO0 := fO0.below bNw71 fun _ _ h => h
  have fO1 := fO1.below bNw71 fun _ _ h => h
  have fI0 := fI0.below bNw71 (RIns.below bNw71)
  have fA0 := fA0.below bNw71 fun _ _ h => h
  have fE0 := fE0.below bNw71 (REdg.below bNw71)
  have fP1 := fP1.below bNw71 fun _ _ h => h
  have fO2 := fO2.below bNw71 fun _ _ h => h
  have fI1 := fI1.below bNw71 (RIns.below bNw71)
  have fA1 := sl_newL (w := Nw70) (c := 2) (R := RInt) (t := 3) (cs := #[.int .i64 3, .int .i64 2]) (k := 1) [[.int .i64 3], [.int .i64 2]] [3, 2] rfl rfl rfl (by simp) (fun i h h' => match i, h with | 0, _ => rfl | 1, _ => rfl) (by simp [longest])
  rw [← hNw71, hA1] at fA1
  have HLOW : Hid (Below w.heap.size w Nw71) := HLOW.out.trans (bNw71.mono HLOW.out.size)
  obtain ⟨Nw72, hNw72⟩ : ∃ Nw72, Nw72 = Nw71.alloc (.cells #[.int .i64 1, .slice (some ⟨A1, 0, none⟩) 2 2] 47) := ⟨_, rfl⟩
  obtain ⟨E1, hE1⟩ : ∃ E1, Nw71.heap.size = E1 := ⟨_, rfl⟩
  have zE1 : w7.heap.size + 1 + 1 = E1 := by rw [← hE1]; simp only [hNw71, hNw70]; simp
  have bNw72 : Below Nw71.heap.size Nw71 Nw72 := by rw [hNw72]; exact (Below.refl _ _).alloc (Nat.le_refl _) _
  have zNw72 : (((w7.alloc (.cells #[.int .i64 5, .slice (some ⟨O2, 0, none⟩) 2 2, .slice none 0 0] 51)).alloc (.cells #[.int .i64 3, .int .i64 2] 3)).alloc (.cells #[.int .i64 1, .slice (some ⟨A1, 0, none⟩) 2 2] 47)) = Nw72 := by rw [hNw72]; simp only [hNw71, hNw70]
  have fV := fV.below bNw72 fun _ _ h => h
  have fO0 := fO0.below bNw72 fun _ _ h => h
  have fO1 := fO1.below bNw72 fun _ _ h => h
  have fI0 := fI0.below bNw72 (RIns.below bNw72)
  have fA0 := fA0.below bNw72 fun _ _ h => h
  have fE0 := fE0.below bNw72 (REdg.below bNw72)
  have fP1 := fP1.below bNw72 fun _ _ h => h
  have fO2 := fO2.below bNw72 fun _ _ h => h
  have fI1 := fI1.below bNw72 (RIns.below bNw72)
  have fA1 := fA1.below bNw72 fun _ _ h => h
  have fE1 := sl_newL (w := Nw71) (c := 1) (R := (REdg Nw72)) (t := 47) (cs := #[.int .i64 1, .slice (some ⟨A1, 0, none⟩) 2 2]) (k := 2) [[.int .i64 1, .slice (some ⟨A1, 0, none⟩) 2 2]] [⟨1, [3, 2]⟩] rfl rfl rfl (by simp) (fun i h h' => match i, h with | 0, _ => ⟨_, rfl, fA1⟩) (by simp [longest])
  rw [← hNw72, hE1] at fE1
  have HLOW : Hid (Below w.heap.size w Nw72) := HLOW.out.trans (bNw72.mono HLOW.out.size)
  obtain ⟨Nw73, hNw73⟩ : ∃ Nw73, Nw73 = Nw72.alloc (.cells #[.slice none 0 0, .slice (some ⟨I0, 0, none⟩) 2 2, .slice (some ⟨E0, 0, none⟩) 1 1, .slice (some ⟨P1, 0, none⟩) 2 2, .slice (some ⟨I1, 0, none⟩) 1 1, .slice (some ⟨E1, 0, none⟩) 1 1] 45) := ⟨_, rfl⟩
  obtain ⟨BB, hBB⟩ : ∃ BB, Nw72.heap.size = BB := ⟨_, rfl⟩
  have zBB : w7.heap.size + 1 + 1 + 1 = BB := by rw [← hBB]; simp only [hNw72, hNw71, hNw70]; simp
  have bNw73 : Below Nw72.heap.size Nw72 Nw73 := by rw [hNw73]; exact (Below.refl _ _).alloc (Nat.le_refl _) _
  have zNw73 : ((((w7.alloc (.cells #[.int .i64 5, .slice (some ⟨O2, 0, none⟩) 2 2, .slice none 0 0] 51)).alloc (.cells #[.int .i64 3, .int .i64 2] 3)).alloc (.cells #[.int .i64 1, .slice (some ⟨A1, 0, none⟩) 2 2] 47)).alloc (.cells #[.slice none 0 0, .slice (some ⟨I0, 0, none⟩) 2 2, .slice (some ⟨E0, 0, none⟩) 1 1, .slice (some ⟨P1, 0, none⟩) 2 2, .slice (some ⟨I1, 0, none⟩) 1 1, .slice (some ⟨E1, 0, none⟩) 1 1] 45)) = Nw73 := by rw [hNw73]; simp only [hNw72, hNw71, hNw70]
  have fV := fV.below bNw73 fun _ _ h => h
  have fO0 := fO0.below bNw73 fun _ _ h => h
  have fO1 := fO1.below bNw73 fun _ _ h => h
  have fI0 := fI0.below bNw73 (RIns.below bNw73)
  have fA0 := fA0.below bNw73 fun _ _ h => h
  have fE0 := fE0.below bNw73 (REdg.below bNw73)
  have fP1 := fP1.below bNw73 fun _ _ h => h
  have fO2 := fO2.below bNw73 fun _ _ h => h
  have fI1 := fI1.below bNw73 (RIns.below bNw73)
  have fA1 := fA1.below bNw73 fun _ _ h => h
  have fE1 := fE1.below bNw73 (REdg.below bNw73)
  have fB := sl_newL (w := Nw72) (c := 2) (R := (RBlk Nw73)) (t := 45) (cs := #[.slice none 0 0, .slice (some ⟨I0, 0, none⟩) 2 2, .slice (some ⟨E0, 0, none⟩) 1 1, .slice (some ⟨P1, 0, none⟩) 2 2, .slice (some ⟨I1, 0, none⟩) 1 1, .slice (some ⟨E1, 0, none⟩) 1 1]) (k := 3) [[.slice none 0 0, .slice (some ⟨I0, 0, none⟩) 2 2, .slice (some ⟨E0, 0, none⟩) 1 1], [.slice (some ⟨P1, 0, none⟩) 2 2, .slice (some ⟨I1, 0, none⟩) 1 1, .slice (some ⟨E1, 0, none⟩) 1 1]] swB rfl rfl rfl (by simp) (fun i h h' => match i, h with | 0, _ => ⟨_, _, _, rfl, ⟨none, 0, rfl, by simp [swB, longest], Or.inl rfl⟩, fI0, fE0⟩ | 1, _ => ⟨_, _, _, rfl, fP1, fI1, fE1⟩) (by simp [longest, swB])
  rw [← hNw73, hBB] at fB
  have HLOW : Hid (Below w.heap.size w Nw73) := HLOW.out.trans (bNw73.mono HLOW.out.size)
  obtain ⟨Nw74, hNw74⟩ : ∃ Nw74, Nw74 = Nw73.alloc (.cells #[.slice (some ⟨LV, 0, none⟩) 4 4, .slice (some ⟨BB, 0, none⟩) 2 2] 25) := ⟨_, rfl⟩
  obtain ⟨FX, hFX⟩ : ∃ FX, Nw73.heap.size = FX := ⟨_, rfl⟩
  have zFX : w7.heap.size + 1 + 1 + 1 + 1 = FX := by rw [← hFX]; simp only [hNw73, hNw72, hNw71, hNw70]; simp
  have bNw74 : Below Nw73.heap.size Nw73 Nw74 := by rw [hNw74]; exact (Below.refl _ _).alloc (Nat.le_refl _) _
  have zNw74 : (((((w7.alloc (.cells #[.int .i64 5, .slice (some ⟨O2, 0, none⟩) 2 2, .slice none 0 0] 51)).alloc (.cells #[.int .i64 3, .int .i64 2] 3)).alloc (.cells #[.int .i64 1, .slice (some ⟨A1, 0, none⟩) 2 2] 47)).alloc (.cells #[.slice none 0 0, .slice (some ⟨I0, 0, none⟩) 2 2, .slice (some ⟨E0, 0, none⟩) 1 1, .slice (some ⟨P1, 0, none⟩) 2 2, .slice (some ⟨I1, 0, none⟩) 1 1, .slice (some ⟨E1, 0, none⟩) 1 1] 45)).alloc (.cells #[.slice (some ⟨LV, 0, none⟩) 4 4, .slice (some ⟨BB, 0, none⟩) 2 2] 25)) = Nw74 := by rw [hNw74]; simp only [hNw73, hNw72, hNw71, hNw70]
  have fV := fV.below bNw74 fun _ _ h => h
  have fO0 := fO0.below bNw74 fun _ _ h => h
  have fO1 := fO1.below bNw74 fun _ _ h => h
  have fI0 := fI0.below bNw74 (RIns.below bNw74)
  have fA0 := fA0.below bNw74 fun _ _ h => h
  have fE0 := fE0.below bNw74 (REdg.below bNw74)
  have fP1 := fP1.below bNw74 fun _ _ h => h
  have fO2 := fO2.below bNw74 fun _ _ h => h
  have fI1 := fI1.below bNw74 (RIns.below bNw74)
  have fA1 := fA1.below bNw74 fun _ _ h => h
  have fE1 := fE1.below bNw74 (REdg.below bNw74)
  have fB := fB.below bNw74 (RBlk.below bNw74)
  have cB0 : Nw74.cell? ⟨FX, 0, none⟩ = some (.slice (some ⟨LV, 0, none⟩) 4 4) := by rw [hNw74, ← hFX]; simp
  have cB1 : Nw74.cell? ⟨FX, 1, none⟩ = some (.slice (some ⟨BB, 0, none⟩) 2 2) := by rw [hNw74, ← hFX]; simp
  have lBX : FX < Nw74.heap.size := by rw [hNw74, ← hFX]; simp
  have HLOW : Hid (Below w.heap.size w Nw74) := HLOW.out.trans (bNw74.mono HLOW.out.size)
  try rw [zFX]
  try rw [zBB]
  try rw [zE1]
  try rw [zA1]
  try rw [zI1]
  rw [zNw74]
  clear hNw70 zNw70 bNw70 hNw71 zNw71 bNw71 hNw72 zNw72 bNw72 hNw73 zNw73 bNw73 hNw74 zNw74 bNw74 hI1 zI1 hA1 zA1 hE1 zE1 hBB zBB hFX zFX
  obtain ⟨WF, hWF⟩ : ∃ WF, Nw74 = WF := ⟨_, rfl⟩
  rw [hWF] at fV fB cB0 cB1 lBX HLOW ⊢
  clear hWF fO0 fO1 fO2 fI0 fI1 fA0 fA1 fE0 fE1 fP1
  have HP := picked_any m 20 WF m0 m1 (by decide) (by decide)
  rw [HPK.out] at HP
  obtain ⟨a, ha⟩ : ∃ a, mixL 7 ([seed, 1, 0] ++ []) = a := ⟨_, rfl⟩
  obtain ⟨b, hb⟩ : ∃ b, mixL 7 ([seed, 2, 0] ++ []) = b := ⟨_, rfl⟩
  obtain ⟨nS, hnS⟩ : ∃ nS, 3 + 2 * (K + 1) = nS := ⟨_, rfl⟩
  have HRUN : Hid ((runM swF.blocks 4 seed nS).evs.length = 2 + (K + 1) ∧ ∃ e, (runM swF.blocks 4 seed nS).evs[2 + K]? = some e ∧ e.read = [pick2 K a b, pick2 K b a]) := by
    obtain ⟨evs, h1, h2, h3⟩ := sw_run seed a b ha hb (K + 1)
    rw [hnS] at h1
    have h1' : runM swF.blocks 4 seed nS = _ := h1
    rw [h1']
    exact ⟨h2, h3 K (by omega)⟩
  have wA : IntKind.i64.wrap ((K : Int) + 1) = (K : Int) + 1 := by rw [IntKind.wrap_i64]; omega
  have wB : IntKind.i64.wrap (2 * ((K : Int) + 1)) = 2 * ((K : Int) + 1) := by rw [IntKind.wrap_i64]; omega
  have wC : IntKind.i64.wrap (3 + 2 * ((K : Int) + 1)) = (nS : Int) := by rw [IntKind.wrap_i64]; omega
  have hnSb : nS ≤ 100 := by omega
  have hd0 : Below WF.heap.size WF WF.drew := (Below.refl _ _).drew
  have HBG := big_any WF.drew
  have HSF : Hid (∀ w', Below WF.heap.size WF w' → (fun w' => w'.cell? ⟨FX, 0, none⟩ = some (.slice (some ⟨LV, 0, none⟩) 4 4) ∧ w'.cell? ⟨FX, 1, none⟩ = some (.slice (some ⟨BB, 0, none⟩) 2 2)) w') := fun w' hh => ⟨(hh.cell lBX).trans cB0, (hh.cell lBX).trans cB1⟩
  have HAB : Hid (mixL 7 ([seed, 1, 0] ++ []) = a ∧ mixL 7 ([seed, 2, 0] ++ []) = b) := ⟨ha, hb⟩
  clear ha hb hnS
  go_upto_region 3 with (go_at_call 13; refine HP.mono ?_; rintro e WF ⟨rfl, rfl⟩)
  clear cB0 cB1
  refine wp_region_X (fun w' => w'.cell? ⟨FX, 0, none⟩ = some (.slice (some ⟨LV, 0, none⟩) 4 4) ∧ w'.cell? ⟨FX, 1, none⟩ = some (.slice (some ⟨BB, 0, none⟩) 2 2)) 99 (by kernel_rfl) (HSF.out _ hd0) (fun hHeld => ?_)
  refine wpXt (v := ?_) 0 rfl (by kernel_rfl) (fun _ _ _ h => h) (by rfl) ?_ hHeld ?_
  rotate_left
  · intro w' hSw
    go_simp <;> with_reducible rfl
  try simp only [Act.put, List.setIfInBounds_toArray, List.set_cons_zero, List.set_cons_succ]
  refine wpXt (v := ?_) 2 rfl (by kernel_rfl) (fun _ _ _ h => h) (by rfl) ?_ hHeld ?_
  rotate_left
  · intro w' hSw
    go_simp <;> with_reducible rfl
  try simp only [Act.put, List.setIfInBounds_toArray, List.set_cons_zero, List.set_cons_succ]
  refine wpXt (v := ?_) 3 rfl (by kernel_rfl) (fun _ _ _ h => h) (by rfl) ?_ hHeld ?_
  rotate_left
  · intro w' hSw
    go_simp <;> with_reducible rfl
  try simp only [Act.put, List.setIfInBounds_toArray, List.set_cons_zero, List.set_cons_succ]
  refine wpXt (v := ?_) 4 rfl (by kernel_rfl) (fun _ _ _ h => h) (by rfl) ?_ hHeld ?_
  rotate_left
  · intro w' hSw
    go_simp <;> with_reducible rfl
  try simp only [Act.put, List.setIfInBounds_toArray, List.set_cons_zero, List.set_cons_succ]
  refine wpXt (v := ?_) 5 rfl (by kernel_rfl) (fun _ _ _ h => h) (by rfl) ?_ hHeld ?_
  rotate_left
  · intro w' hSw
    go_simp <;> with_reducible rfl
  try simp only [Act.put, List.setIfInBounds_toArray, List.set_cons_zero, List.set_cons_succ]
  refine wpXt (v := ?_) 6 rfl (by kernel_rfl) (fun _ _ _ h => h) (by rfl) ?_ hHeld ?_
  rotate_left
  · intro w' hSw
    go_simp <;> with_reducible rfl
  try simp only [Act.put, List.setIfInBounds_toArray, List.set_cons_zero, List.set_cons_succ]
  refine wpXs 1 rfl (by kernel_rfl) (fun K hK => ?_)
  go_simp
  refine HBG.mono ?_
  clear HBG
  rintro e w8 ⟨rfl, bb⟩
  have hb8 : Below WF.heap.size WF w8 := hd0.trans (bb.mono hd0.size)
  have HC := source_any swF 4 2 nS 10 10 seed (some ⟨LV, 0, none⟩) (some ⟨BB, 0, none⟩) 4 2 sw_flow rfl rfl (by omega) w8 (fV.below hb8 fun _ _ h => h) (fB.below hb8 (RBlk.below hb8))
  have HB8 : Hid (Below WF.heap.size WF w8) := hb8
  clear bb hb8
  refine hK.out _ _ (HSF.out _ HB8.out) (fun hHeld => ?_)
  clear hK K
  try simp only [Act.put, List.setIfInBounds_toArray, List.set_cons_zero, List.set_cons_succ]
  refine wpXs 7 rfl (by kernel_rfl) (fun K hK => ?_)
  go_simp
  refine HC.mono ?_
  clear HC
  rintro e w9 ⟨ax, n, cx, hln, hcx, rfl, sx, bb⟩
  have HB9 : Hid (Below WF.heap.size WF w9) := HB8.out.trans (bb.mono HB8.out.size)
  have HSX : Hid (SlOf w9 4 (REv w9) (.slice ax n cx) (runM swF.blocks 4 seed nS).evs ∧ (runM swF.blocks 4 seed nS).evs.length = n) := ⟨sx, hln.symm⟩
  clear sx bb hln
  refine hK.out _ _ (HSF.out _ HB9.out) (fun hHeld => ?_)
  clear hK K
  try simp only [Act.put, List.setIfInBounds_toArray, List.set_cons_zero, List.set_cons_succ]
  refine wpXt (v := ?_) 8 rfl (by kernel_rfl) (fun _ _ _ h => h) (by rfl) ?_ hHeld ?_
  rotate_left
  · intro w' hSw
    go_simp <;> with_reducible rfl
  try simp only [Act.put, List.setIfInBounds_toArray, List.set_cons_zero, List.set_cons_succ]
  refine wpXt (v := ?_) 9 rfl (by kernel_rfl) (fun _ _ _ h => h) (by rfl) ?_ hHeld ?_
  rotate_left
  · intro w' hSw
    go_simp <;> with_reducible rfl
  try simp only [Act.put, List.setIfInBounds_toArray, List.set_cons_zero, List.set_cons_succ]
  refine wpXt (v := ?_) 10 rfl (by kernel_rfl) (fun _ _ _ h => h) (by rfl) ?_ hHeld ?_
  rotate_left
  · intro w' hSw
    go_simp <;> with_reducible rfl
  try simp only [Act.put, List.setIfInBounds_toArray, List.set_cons_zero, List.set_cons_succ]
  refine wpXt (v := ?_) 11 rfl (by kernel_rfl) (fun _ _ _ h => h) (by rfl) ?_ hHeld ?_
  rotate_left
  · intro w' hSw
    go_simp <;> with_reducible rfl
  try simp only [Act.put, List.setIfInBounds_toArray, List.set_cons_zero, List.set_cons_succ]
  refine wpXt (v := ?_) 12 rfl (by kernel_rfl) (fun _ _ _ h => h) (by rfl) ?_ hHeld ?_
  rotate_left
  · intro w' hSw
    go_simp <;> with_reducible rfl
  try simp only [Act.put, List.setIfInBounds_toArray, List.set_cons_zero, List.set_cons_succ]
  refine wpAnyX_done (by kernel_rfl) ?_ _
  obtain ⟨hlen, ev, hev, hrd⟩ := HRUN.out
  have hn : n = 2 + (K + 1) := by rw [← HSX.out.2]; exact hlen
  have hil : 2 + K < (runM swF.blocks 4 seed nS).evs.length := by rw [hlen]; omega
  obtain ⟨bx, ox, ar, cr, hax, lbx, x0, x1, x2, x3, xr⟩ := evt_at HSX.out.1 (2 + K) hil
  subst hax
  have hee : (runM swF.blocks 4 seed nS).evs[2 + K]'hil = ev := by rw [List.getElem?_eq_getElem hil] at hev; exact Option.some.inj hev
  rw [hee, hrd] at x2 xr
  have HX2 : Hid (w9.cell? ⟨bx, ox + (2 + K) * 4 + 2, none⟩ = some (.slice ar 2 cr)) := x2
  have HXR : Hid (SlOf w9 1 RInt (.slice ar 2 cr) [pick2 K a b, pick2 K b a]) := xr
  have HB9' : Hid (Below w.heap.size w w9) := HLOW.out.trans (HB9.out.mono HLOW.out.size)
  have hix : 2 + K < n := by omega
  have q6 : ((n : Int) == 2 + (K : Int) + 1) = true := by simp; omega
  have HNN : Hid (n = 2 + (K + 1)) := hn
  have hn30 : n ≤ 30 := by omega
  clear x0 x1 x2 x3 xr hee hrd hev hil hlen hHeld fV fB hn
  have HC := op_bare 1 w9
  go_wp2_with fail
  refine HC.mono ?_
  clear HC
  rintro e w10 ⟨rfl, c10⟩
  have HC := made_any seed 1 0 (.slice none 0 0) (.slice none 0 0) [] none 0 0 a w10 rfl ⟨none, 0, rfl, by simp [longest], Or.inl rfl⟩ HAB.out.1
  go_wp2_with fail
  refine HC.mono ?_
  clear HC
  rintro e w11 ⟨rfl, c11⟩
  have HC := op_bare 2 w11
  go_wp2_with fail
  refine HC.mono ?_
  clear HC
  rintro e w12 ⟨rfl, c12⟩
  have HC := made_any seed 2 0 (.slice none 0 0) (.slice none 0 0) [] none 0 0 b w12 rfl ⟨none, 0, rfl, by simp [longest], Or.inl rfl⟩ HAB.out.2
  go_wp2_with fail
  refine HC.mono ?_
  clear HC
  rintro e w13 ⟨rfl, c13⟩
  have k13 : Below w9.heap.size w9 w13 := ((c10.trans (c11.mono c10.size)).trans (c12.mono (Nat.le_trans c10.size c11.size))).trans (c13.mono (Nat.le_trans c10.size (Nat.le_trans c11.size c12.size)))
  obtain ⟨W14, hW14⟩ : ∃ W14, W14 = w13.alloc (.cells #[.int .i64 a, .int .i64 b] 3) := ⟨_, rfl⟩
  obtain ⟨G1, hG1⟩ : ∃ G1, w13.heap.size = G1 := ⟨_, rfl⟩
  have c14 : Below w13.heap.size w13 W14 := by rw [hW14]; exact (Below.refl _ _).alloc (Nat.le_refl _) _
  have k14 : Below w9.heap.size w9 W14 := k13.trans (c14.mono k13.size)
  have fW := sl_newL (w := w13) (c := 2) (R := RInt) (t := 3) (cs := #[.int .i64 a, .int .i64 b]) (k := 1) [[.int .i64 a], [.int .i64 b]] [a, b] rfl rfl rfl (by simp) (fun i h h' => match i, h with | 0, _ => rfl | 1, _ => rfl) (by simp [longest])
  rw [← hW14, hG1] at fW
  by_cases hpar : K % 2 = 0
  · have q9 : ((K : Int) % 2 == 1) = false := by simp; omega
    have y2 := (k14.cell (p := ⟨bx, _, none⟩) lbx).trans HX2.out
    have fR : SlOf W14 1 RInt (.slice ar 2 cr) [a, b] := by
      have := HXR.out.below k14 fun _ _ h => h
      unfold pick2 at this
      rw [if_pos hpar, if_pos hpar] at this
      exact this
    have HC := ksame_true [a, b] ar (some ⟨G1, 0, none⟩) 2 cr 2 W14 rfl fR fW
    have HF : Hid (Below w.heap.size w W14) := HB9'.out.trans (k14.mono HB9'.out.size)
    have HW14 : Hid (W14 = w13.alloc (.cells #[.int .i64 a, .int .i64 b] 3)) := hW14
    have HG1 : Hid (w13.heap.size = G1) := hG1
    clear hW14 hG1 c10 c11 c12 c13 c14 k13 k14 fW fR
    go_upto_region 9 with fail
    rw [← HW14.out, HG1.out]
    clear HW14 HG1
    go_wp2_with fail
    refine HC.mono ?_
    clear HC y2
    rintro e w15 ⟨rfl, bb⟩
    have HE : Hid (Below w.heap.size w w15) := HF.out.trans (bb.mono HF.out.size)
    clear bb
    go_wp2
    go_ret
    exact ⟨rfl, HE.out⟩
  · have q9 : ((K : Int) % 2 == 1) = true := by simp; omega
    obtain ⟨W15, hW15⟩ : ∃ W15, W15 = W14.alloc (.cells #[.int .i64 b, .int .i64 a] 3) := ⟨_, rfl⟩
    obtain ⟨G2, hG2⟩ : ∃ G2, W14.heap.size = G2 := ⟨_, rfl⟩
    have c15 : Below W14.heap.size W14 W15 := by rw [hW15]; exact (Below.refl _ _).alloc (Nat.le_refl _) _
    have k15 : Below w9.heap.size w9 W15 := k14.trans (c15.mono k14.size)
    have fW2 := sl_newL (w := W14) (c := 2) (R := RInt) (t := 3) (cs := #[.int .i64 b, .int .i64 a]) (k := 1) [[.int .i64 b], [.int .i64 a]] [b, a] rfl rfl rfl (by simp) (fun i h h' => match i, h with | 0, _ => rfl | 1, _ => rfl) (by simp [longest])
    rw [← hW15, hG2] at fW2
    have y2 := (k15.cell (p := ⟨bx, _, none⟩) lbx).trans HX2.out
    have fR : SlOf W15 1 RInt (.slice ar 2 cr) [b, a] := by
      have := HXR.out.below k15 fun _ _ h => h
      unfold pick2 at this
      rw [if_neg hpar, if_neg hpar] at this
      exact this
    have HC := ksame_true [b, a] ar (some ⟨G2, 0, none⟩) 2 cr 2 W15 rfl fR fW2
    have HF : Hid (Below w.heap.size w W15) := HB9'.out.trans (k15.mono HB9'.out.size)
    have HW14 : Hid (W14 = w13.alloc (.cells #[.int .i64 a, .int .i64 b] 3)) := hW14
    have HG1 : Hid (w13.heap.size = G1) := hG1
    have HW15 : Hid (W15 = W14.alloc (.cells #[.int .i64 b, .int .i64 a] 3)) := hW15
    have HG2 : Hid (W14.heap.size = G2) := hG2
    clear hW14 hG1 hW15 hG2 c10 c11 c12 c13 c14 c15 k13 k14 k15 fW fW2 fR
    go_upto_region 9 with fail
    rw [← HW14.out, HG1.out]
    clear HW14 HG1
    go_upto_region 11 with fail
    rw [← HW15.out, HG2.out]
    clear HW15 HG2
    go_wp2_with fail
    refine HC.mono ?_
    clear HC y2
    rintro e w16 ⟨rfl, bb⟩
    have HE : Hid (Below w.heap.size w w16) := HF.out.trans (bb.mono HF.out.size)
    clear bb
    go_wp2
    go_ret
    exact ⟨rfl, HE.out⟩
end Go.Proofs.Ytmanjojjncjaiaa
