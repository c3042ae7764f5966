/-
  The walk of TakesEdges: the last instruction takes an edge that there is.
-/
import Derived.Test.YtoalfffecboahabTakesEdgesP
namespace Go.Proofs.Ytoalfffecboahab
open Go.RowKit Go.ChangeShapes Go.WideShapes
set_option linter.unusedVariables false

set_option maxRecDepth 8000 in
set_option maxHeartbeats 16000000 in
theorem takesEdges_walk (seed : Int) (ws : (Lit.int .i64 seed).wf = true) (n : Int) (wn : (Lit.int .i64 n).wf = true) (pl : Int) (wpl : (Lit.int .i64 pl).wf = true) (l : List Int) (v : Value) (w : World) (h : SlOf w 1 RInt v l) (hf : l.length * 8 ≤ 140737488351232) :
    Calls Try.prog 3 #[.int .i64 seed, .int .i64 n, .int .i64 pl, v] w fun e w' => e = .returned (.bool true) ∧ Below w.heap.size w w' := by
  obtain ⟨n0, n1⟩ := bounds_i64 wn
  obtain ⟨q0, q1⟩ := bounds_i64 wpl
  obtain ⟨al, cl, rfl, _⟩ := h.out
  obtain ⟨nl, hnl⟩ : ∃ nl, l.length = nl := ⟨_, rfl⟩
  rw [hnl] at h hf ⊢
  obtain ⟨p0, p1⟩ := pickedOf_bd n 4 (by decide)
  obtain ⟨k, hk⟩ : ∃ k : Nat, pickedOf n 4 = (k : Int) := ⟨(pickedOf n 4).toNat, by omega⟩
  have hk4 : k < 4 := by omega
  obtain ⟨ecs, hmk⟩ := make_edT k (by omega)
  have HP := picked_any n 4 w n0 n1 (by decide) (by decide)
  rw [hk] at HP
  have HL : Hid (SlOf w 1 RInt (.slice al nl cl) l ∧ l.length = nl) := ⟨h, hnl⟩
  clear ws wn wpl p0 p1 h hnl hk
  go_enter Try.func3, Try.ntmps3
  go_upto_region 2 with (go_at_call 4; refine HP.mono ?_; rintro e W ⟨rfl, rfl⟩)
  have hB0 : Below W.heap.size W W.drew := (Below.refl _ _).drew
  go_cut [10] (fun x wz => TeB W k x wz)
  case first =>
    refine wp_region_X (fun _ => True) 99 (by kernel_rfl) trivial (fun hHeld => ?_)
    obtain ⟨w0, hw0⟩ : ∃ w0, W.drew = w0 := ⟨_, rfl⟩
    rw [hw0] at hB0 ⊢
    clear hw0
    have hB := hB0
    clear hB0
    refine wpXt (v := ?_) 4 rfl (by kernel_rfl) (fun _ _ _ h => h) (by rfl) ?_ hHeld ?_
    rotate_left
    · intro w' hSw
      go_simp <;> with_reducible rfl
    try simp only [Act.put, List.setIfInBounds_toArray, List.set_cons_zero, List.set_cons_succ]
    refine wpX_tri 0 5 7 rfl rfl rfl (by kernel_rfl) (fun K hK => ?_) (fun K hK => ?_) (fun K hK => ?_)
    · go_simp
      refine (op_bareT 1 _).mono ?_
      rintro e w1 ⟨rfl, bb⟩
      have hB := hB.trans (bb.mono hB.size)
      refine hK.out _ _ trivial (fun hHeld => ?_)
      clear hK K
      try simp only [Act.put, List.setIfInBounds_toArray, List.set_cons_zero, List.set_cons_succ]
      refine wpX_tri 1 5 7 rfl rfl rfl (by kernel_rfl) (fun K hK => ?_) (fun K hK => ?_) (fun K hK => ?_)
      · go_simp
        refine (op_bareT 2 _).mono ?_
        rintro e w2 ⟨rfl, bb⟩
        have hB := hB.trans (bb.mono hB.size)
        refine hK.out _ _ trivial (fun hHeld => ?_)
        clear hK K
        try simp only [Act.put, List.setIfInBounds_toArray, List.set_cons_zero, List.set_cons_succ]
        refine wpX_tri 2 5 7 rfl rfl rfl (by kernel_rfl) (fun K hK => ?_) (fun K hK => ?_) (fun K hK => ?_)
        · go_simp
          refine (op_bareT 3 _).mono ?_
          rintro e w3 ⟨rfl, bb⟩
          have hB := hB.trans (bb.mono hB.size)
          refine hK.out _ _ trivial (fun hHeld => ?_)
          clear hK K
          try simp only [Act.put, List.setIfInBounds_toArray, List.set_cons_zero, List.set_cons_succ]
          refine wpX_tri 3 5 7 rfl rfl rfl (by kernel_rfl) (fun K hK => ?_) (fun K hK => ?_) (fun K hK => ?_)
          · go_simp
            obtain ⟨w4, hnw⟩ : ∃ w4, w4 = w3.alloc (.cells #[.int .i64 1, .slice none 0 0, .slice none 0 0, .int .i64 2, .slice none 0 0, .slice none 0 0, .int .i64 3, .slice none 0 0, .slice none 0 0] 27) := ⟨_, rfl⟩
            obtain ⟨Bi, hBi⟩ : ∃ Bi, w3.heap.size = Bi := ⟨_, rfl⟩
            have bb : Below w3.heap.size w3 w4 := by rw [hnw]; exact (Below.refl _ _).alloc (Nat.le_refl _) _
            have fI := te_new w3 1 2 3 w4 hnw
            rw [hBi] at fI
            have lBi : Bi < w4.heap.size := by rw [hnw, ← hBi]; simp
            have hB := hB.trans (bb.mono hB.size)
            rw [← hnw, hBi]
            refine hK.out _ _ trivial (fun hHeld => ?_)
            clear hK K hnw
            try simp only [Act.put, List.setIfInBounds_toArray, List.set_cons_zero, List.set_cons_succ]
            refine wpX_two 5 7 rfl rfl (by kernel_rfl) (fun K hK => ?_) (fun K hK => ?_)
            · go_simp
              obtain ⟨w5, hnw⟩ : ∃ w5, w5 = w4.alloc (.cells ecs 58) := ⟨_, rfl⟩
              obtain ⟨Be, hBe⟩ : ∃ Be, w4.heap.size = Be := ⟨_, rfl⟩
              have bb : Below w4.heap.size w4 w5 := by rw [hnw]; exact (Below.refl _ _).alloc (Nat.le_refl _) _
              have fI := fI.below bb (RIns.below bb)
              have lBi := Nat.lt_of_lt_of_le lBi bb.size
              have hB := hB.trans (bb.mono hB.size)
              rw [← hnw, hBe]
              refine hK.out _ _ trivial (fun hHeld => ?_)
              clear hK K hnw
              try simp only [Act.put, List.setIfInBounds_toArray, List.set_cons_zero, List.set_cons_succ]
              refine wpXt (v := ?_) 6 rfl (by kernel_rfl) (fun _ _ _ h => h) (by rfl) ?_ hHeld ?_
              rotate_left
              · intro w' hSw
                go_simp <;> with_reducible rfl
              try simp only [Act.put, List.setIfInBounds_toArray, List.set_cons_zero, List.set_cons_succ]
              refine wpXs 7 rfl (by kernel_rfl) (fun K hK => ?_)
              go_simp
              obtain ⟨w6, hnw⟩ : ∃ w6, w6 = w5.alloc (.cells #[.slice none 0 0, .slice none 0 0, .slice none 0 0] 32) := ⟨_, rfl⟩
              obtain ⟨P, hP⟩ : ∃ P, w5.heap.size = P := ⟨_, rfl⟩
              have bb : Below w5.heap.size w5 w6 := by rw [hnw]; exact (Below.refl _ _).alloc (Nat.le_refl _) _
              have fI := fI.below bb (RIns.below bb)
              have lBi := Nat.lt_of_lt_of_le lBi bb.size
              have rP : w6.rowIs P 32 3 (fun _ => .slice none 0 0) := by
                rw [hnw, ← hP]
                exact World.rowIs_alloc _ _ _ _ fun i hi => by
                  simp at hi
                  match i, hi with | 0, _ => rfl | 1, _ => rfl | 2, _ => rfl
              have lP : W.heap.size ≤ P := by rw [← hP]; exact hB.size
              have hPB : P ≠ Bi := by omega
              have hB := hB.trans (bb.mono hB.size)
              rw [← hnw, hP]
              refine hK.out _ _ trivial (fun hHeld => ?_)
              clear hK K hnw
              try simp only [Act.put, List.setIfInBounds_toArray, List.set_cons_zero, List.set_cons_succ]
              have x0 := rP.cell (i := 0) (by omega)
              have x1 := rP.cell (i := 1) (by omega)
              have x2 := rP.cell (i := 2) (by omega)
              have z0 := rP.frozen 0
              have z1 := rP.frozen 1
              have z2 := rP.frozen 2
              have HCUT : Hid (TeB W k _ _) := te_set (k := k) (Be := Be) rP fI hPB hB lP
              refine wpXs 8 rfl (by kernel_rfl) (fun K hK => ?_)
              go_simp
              refine hK.out _ _ trivial (fun hHeld => ?_)
              clear hK K
              try simp only [Act.put, List.setIfInBounds_toArray, List.set_cons_zero, List.set_cons_succ]
              refine wpAnyX_done (by kernel_rfl) ?_ _
              go_wp2
              go_meet
              exact HCUT.out
            · go_simp
              obtain ⟨w7, hnw⟩ : ∃ w7, w7 = w4.alloc (.cells #[.slice none 0 0, .slice none 0 0, .slice none 0 0] 32) := ⟨_, rfl⟩
              obtain ⟨P, hP⟩ : ∃ P, w4.heap.size = P := ⟨_, rfl⟩
              have bb : Below w4.heap.size w4 w7 := by rw [hnw]; exact (Below.refl _ _).alloc (Nat.le_refl _) _
              have fI := fI.below bb (RIns.below bb)
              have lBi := Nat.lt_of_lt_of_le lBi bb.size
              have rP : w7.rowIs P 32 3 (fun _ => .slice none 0 0) := by
                rw [hnw, ← hP]
                exact World.rowIs_alloc _ _ _ _ fun i hi => by
                  simp at hi
                  match i, hi with | 0, _ => rfl | 1, _ => rfl | 2, _ => rfl
              have lP : W.heap.size ≤ P := by rw [← hP]; exact hB.size
              have hPB : P ≠ Bi := by omega
              have hB := hB.trans (bb.mono hB.size)
              rw [← hnw, hP]
              refine hK.out _ _ trivial (fun hHeld => ?_)
              clear hK K hnw
              try simp only [Act.put, List.setIfInBounds_toArray, List.set_cons_zero, List.set_cons_succ]
              refine wpXs 5 rfl (by kernel_rfl) (fun K hK => ?_)
              go_simp
              obtain ⟨w8, hnw⟩ : ∃ w8, w8 = w7.alloc (.cells ecs 58) := ⟨_, rfl⟩
              obtain ⟨Be, hBe⟩ : ∃ Be, w7.heap.size = Be := ⟨_, rfl⟩
              have bb : Below w7.heap.size w7 w8 := by rw [hnw]; exact (Below.refl _ _).alloc (Nat.le_refl _) _
              have fI := fI.below bb (RIns.below bb)
              have lBi := Nat.lt_of_lt_of_le lBi bb.size
              have hPl := rP.lt
              have rP := rP.of_block (bb.block _ rP.lt)
              have hB := hB.trans (bb.mono hB.size)
              rw [← hnw, hBe]
              refine hK.out _ _ trivial (fun hHeld => ?_)
              clear hK K hnw
              try simp only [Act.put, List.setIfInBounds_toArray, List.set_cons_zero, List.set_cons_succ]
              refine wpXt (v := ?_) 6 rfl (by kernel_rfl) (fun _ _ _ h => h) (by rfl) ?_ hHeld ?_
              rotate_left
              · intro w' hSw
                go_simp <;> with_reducible rfl
              try simp only [Act.put, List.setIfInBounds_toArray, List.set_cons_zero, List.set_cons_succ]
              have x0 := rP.cell (i := 0) (by omega)
              have x1 := rP.cell (i := 1) (by omega)
              have x2 := rP.cell (i := 2) (by omega)
              have z0 := rP.frozen 0
              have z1 := rP.frozen 1
              have z2 := rP.frozen 2
              have HCUT : Hid (TeB W k _ _) := te_set (k := k) (Be := Be) rP fI hPB hB lP
              refine wpXs 8 rfl (by kernel_rfl) (fun K hK => ?_)
              go_simp
              refine hK.out _ _ trivial (fun hHeld => ?_)
              clear hK K
              try simp only [Act.put, List.setIfInBounds_toArray, List.set_cons_zero, List.set_cons_succ]
              refine wpAnyX_done (by kernel_rfl) ?_ _
              go_wp2
              go_meet
              exact HCUT.out
          · go_simp
            obtain ⟨w9, hnw⟩ : ∃ w9, w9 = w3.alloc (.cells ecs 58) := ⟨_, rfl⟩
            obtain ⟨Be, hBe⟩ : ∃ Be, w3.heap.size = Be := ⟨_, rfl⟩
            have bb : Below w3.heap.size w3 w9 := by rw [hnw]; exact (Below.refl _ _).alloc (Nat.le_refl _) _
            have hB := hB.trans (bb.mono hB.size)
            rw [← hnw, hBe]
            refine hK.out _ _ trivial (fun hHeld => ?_)
            clear hK K hnw
            try simp only [Act.put, List.setIfInBounds_toArray, List.set_cons_zero, List.set_cons_succ]
            refine wpX_two 3 7 rfl rfl (by kernel_rfl) (fun K hK => ?_) (fun K hK => ?_)
            · go_simp
              obtain ⟨w10, hnw⟩ : ∃ w10, w10 = w9.alloc (.cells #[.int .i64 1, .slice none 0 0, .slice none 0 0, .int .i64 2, .slice none 0 0, .slice none 0 0, .int .i64 3, .slice none 0 0, .slice none 0 0] 27) := ⟨_, rfl⟩
              obtain ⟨Bi, hBi⟩ : ∃ Bi, w9.heap.size = Bi := ⟨_, rfl⟩
              have bb : Below w9.heap.size w9 w10 := by rw [hnw]; exact (Below.refl _ _).alloc (Nat.le_refl _) _
              have fI := te_new w9 1 2 3 w10 hnw
              rw [hBi] at fI
              have lBi : Bi < w10.heap.size := by rw [hnw, ← hBi]; simp
              have hB := hB.trans (bb.mono hB.size)
              rw [← hnw, hBi]
              refine hK.out _ _ trivial (fun hHeld => ?_)
              clear hK K hnw
              try simp only [Act.put, List.setIfInBounds_toArray, List.set_cons_zero, List.set_cons_succ]
              refine wpXt (v := ?_) 6 rfl (by kernel_rfl) (fun _ _ _ h => h) (by rfl) ?_ hHeld ?_
              rotate_left
              · intro w' hSw
                go_simp <;> with_reducible rfl
              try simp only [Act.put, List.setIfInBounds_toArray, List.set_cons_zero, List.set_cons_succ]
              refine wpXs 7 rfl (by kernel_rfl) (fun K hK => ?_)
              go_simp
              obtain ⟨w11, hnw⟩ : ∃ w11, w11 = w10.alloc (.cells #[.slice none 0 0, .slice none 0 0, .slice none 0 0] 32) := ⟨_, rfl⟩
              obtain ⟨P, hP⟩ : ∃ P, w10.heap.size = P := ⟨_, rfl⟩
              have bb : Below w10.heap.size w10 w11 := by rw [hnw]; exact (Below.refl _ _).alloc (Nat.le_refl _) _
              have fI := fI.below bb (RIns.below bb)
              have lBi := Nat.lt_of_lt_of_le lBi bb.size
              have rP : w11.rowIs P 32 3 (fun _ => .slice none 0 0) := by
                rw [hnw, ← hP]
                exact World.rowIs_alloc _ _ _ _ fun i hi => by
                  simp at hi
                  match i, hi with | 0, _ => rfl | 1, _ => rfl | 2, _ => rfl
              have lP : W.heap.size ≤ P := by rw [← hP]; exact hB.size
              have hPB : P ≠ Bi := by omega
              have hB := hB.trans (bb.mono hB.size)
              rw [← hnw, hP]
              refine hK.out _ _ trivial (fun hHeld => ?_)
              clear hK K hnw
              try simp only [Act.put, List.setIfInBounds_toArray, List.set_cons_zero, List.set_cons_succ]
              have x0 := rP.cell (i := 0) (by omega)
              have x1 := rP.cell (i := 1) (by omega)
              have x2 := rP.cell (i := 2) (by omega)
              have z0 := rP.frozen 0
              have z1 := rP.frozen 1
              have z2 := rP.frozen 2
              have HCUT : Hid (TeB W k _ _) := te_set (k := k) (Be := Be) rP fI hPB hB lP
              refine wpXs 8 rfl (by kernel_rfl) (fun K hK => ?_)
              go_simp
              refine hK.out _ _ trivial (fun hHeld => ?_)
              clear hK K
              try simp only [Act.put, List.setIfInBounds_toArray, List.set_cons_zero, List.set_cons_succ]
              refine wpAnyX_done (by kernel_rfl) ?_ _
              go_wp2
              go_meet
              exact HCUT.out
            · go_simp
              obtain ⟨w12, hnw⟩ : ∃ w12, w12 = w9.alloc (.cells #[.slice none 0 0, .slice none 0 0, .slice none 0 0] 32) := ⟨_, rfl⟩
              obtain ⟨P, hP⟩ : ∃ P, w9.heap.size = P := ⟨_, rfl⟩
              have bb : Below w9.heap.size w9 w12 := by rw [hnw]; exact (Below.refl _ _).alloc (Nat.le_refl _) _
              have rP : w12.rowIs P 32 3 (fun _ => .slice none 0 0) := by
                rw [hnw, ← hP]
                exact World.rowIs_alloc _ _ _ _ fun i hi => by
                  simp at hi
                  match i, hi with | 0, _ => rfl | 1, _ => rfl | 2, _ => rfl
              have lP : W.heap.size ≤ P := by rw [← hP]; exact hB.size
              have hB := hB.trans (bb.mono hB.size)
              rw [← hnw, hP]
              refine hK.out _ _ trivial (fun hHeld => ?_)
              clear hK K hnw
              try simp only [Act.put, List.setIfInBounds_toArray, List.set_cons_zero, List.set_cons_succ]
              refine wpXs 3 rfl (by kernel_rfl) (fun K hK => ?_)
              go_simp
              obtain ⟨w13, hnw⟩ : ∃ w13, w13 = w12.alloc (.cells #[.int .i64 1, .slice none 0 0, .slice none 0 0, .int .i64 2, .slice none 0 0, .slice none 0 0, .int .i64 3, .slice none 0 0, .slice none 0 0] 27) := ⟨_, rfl⟩
              obtain ⟨Bi, hBi⟩ : ∃ Bi, w12.heap.size = Bi := ⟨_, rfl⟩
              have bb : Below w12.heap.size w12 w13 := by rw [hnw]; exact (Below.refl _ _).alloc (Nat.le_refl _) _
              have hPl := rP.lt
              have rP := rP.of_block (bb.block _ rP.lt)
              have fI := te_new w12 1 2 3 w13 hnw
              rw [hBi] at fI
              have lBi : Bi < w13.heap.size := by rw [hnw, ← hBi]; simp
              have hPB : P ≠ Bi := by omega
              have hB := hB.trans (bb.mono hB.size)
              rw [← hnw, hBi]
              refine hK.out _ _ trivial (fun hHeld => ?_)
              clear hK K hnw
              try simp only [Act.put, List.setIfInBounds_toArray, List.set_cons_zero, List.set_cons_succ]
              refine wpXt (v := ?_) 6 rfl (by kernel_rfl) (fun _ _ _ h => h) (by rfl) ?_ hHeld ?_
              rotate_left
              · intro w' hSw
                go_simp <;> with_reducible rfl
              try simp only [Act.put, List.setIfInBounds_toArray, List.set_cons_zero, List.set_cons_succ]
              have x0 := rP.cell (i := 0) (by omega)
              have x1 := rP.cell (i := 1) (by omega)
              have x2 := rP.cell (i := 2) (by omega)
              have z0 := rP.frozen 0
              have z1 := rP.frozen 1
              have z2 := rP.frozen 2
              have HCUT : Hid (TeB W k _ _) := te_set (k := k) (Be := Be) rP fI hPB hB lP
              refine wpXs 8 rfl (by kernel_rfl) (fun K hK => ?_)
              go_simp
              refine hK.out _ _ trivial (fun hHeld => ?_)
              clear hK K
              try simp only [Act.put, List.setIfInBounds_toArray, List.set_cons_zero, List.set_cons_succ]
              refine wpAnyX_done (by kernel_rfl) ?_ _
              go_wp2
              go_meet
              exact HCUT.out
          · go_simp
            obtain ⟨w14, hnw⟩ : ∃ w14, w14 = w3.alloc (.cells #[.slice none 0 0, .slice none 0 0, .slice none 0 0] 32) := ⟨_, rfl⟩
            obtain ⟨P, hP⟩ : ∃ P, w3.heap.size = P := ⟨_, rfl⟩
            have bb : Below w3.heap.size w3 w14 := by rw [hnw]; exact (Below.refl _ _).alloc (Nat.le_refl _) _
            have rP : w14.rowIs P 32 3 (fun _ => .slice none 0 0) := by
              rw [hnw, ← hP]
              exact World.rowIs_alloc _ _ _ _ fun i hi => by
                simp at hi
                match i, hi with | 0, _ => rfl | 1, _ => rfl | 2, _ => rfl
            have lP : W.heap.size ≤ P := by rw [← hP]; exact hB.size
            have hB := hB.trans (bb.mono hB.size)
            rw [← hnw, hP]
            refine hK.out _ _ trivial (fun hHeld => ?_)
            clear hK K hnw
            try simp only [Act.put, List.setIfInBounds_toArray, List.set_cons_zero, List.set_cons_succ]
            refine wpX_two 3 5 rfl rfl (by kernel_rfl) (fun K hK => ?_) (fun K hK => ?_)
            · go_simp
              obtain ⟨w15, hnw⟩ : ∃ w15, w15 = w14.alloc (.cells #[.int .i64 1, .slice none 0 0, .slice none 0 0, .int .i64 2, .slice none 0 0, .slice none 0 0, .int .i64 3, .slice none 0 0, .slice none 0 0] 27) := ⟨_, rfl⟩
              obtain ⟨Bi, hBi⟩ : ∃ Bi, w14.heap.size = Bi := ⟨_, rfl⟩
              have bb : Below w14.heap.size w14 w15 := by rw [hnw]; exact (Below.refl _ _).alloc (Nat.le_refl _) _
              have hPl := rP.lt
              have rP := rP.of_block (bb.block _ rP.lt)
              have fI := te_new w14 1 2 3 w15 hnw
              rw [hBi] at fI
              have lBi : Bi < w15.heap.size := by rw [hnw, ← hBi]; simp
              have hPB : P ≠ Bi := by omega
              have hB := hB.trans (bb.mono hB.size)
              rw [← hnw, hBi]
              refine hK.out _ _ trivial (fun hHeld => ?_)
              clear hK K hnw
              try simp only [Act.put, List.setIfInBounds_toArray, List.set_cons_zero, List.set_cons_succ]
              refine wpXs 5 rfl (by kernel_rfl) (fun K hK => ?_)
              go_simp
              obtain ⟨w16, hnw⟩ : ∃ w16, w16 = w15.alloc (.cells ecs 58) := ⟨_, rfl⟩
              obtain ⟨Be, hBe⟩ : ∃ Be, w15.heap.size = Be := ⟨_, rfl⟩
              have bb : Below w15.heap.size w15 w16 := by rw [hnw]; exact (Below.refl _ _).alloc (Nat.le_refl _) _
              have fI := fI.below bb (RIns.below bb)
              have lBi := Nat.lt_of_lt_of_le lBi bb.size
              have hPl := rP.lt
              have rP := rP.of_block (bb.block _ rP.lt)
              have hB := hB.trans (bb.mono hB.size)
              rw [← hnw, hBe]
              refine hK.out _ _ trivial (fun hHeld => ?_)
              clear hK K hnw
              try simp only [Act.put, List.setIfInBounds_toArray, List.set_cons_zero, List.set_cons_succ]
              refine wpXt (v := ?_) 6 rfl (by kernel_rfl) (fun _ _ _ h => h) (by rfl) ?_ hHeld ?_
              rotate_left
              · intro w' hSw
                go_simp <;> with_reducible rfl
              try simp only [Act.put, List.setIfInBounds_toArray, List.set_cons_zero, List.set_cons_succ]
              have x0 := rP.cell (i := 0) (by omega)
              have x1 := rP.cell (i := 1) (by omega)
              have x2 := rP.cell (i := 2) (by omega)
              have z0 := rP.frozen 0
              have z1 := rP.frozen 1
              have z2 := rP.frozen 2
              have HCUT : Hid (TeB W k _ _) := te_set (k := k) (Be := Be) rP fI hPB hB lP
              refine wpXs 8 rfl (by kernel_rfl) (fun K hK => ?_)
              go_simp
              refine hK.out _ _ trivial (fun hHeld => ?_)
              clear hK K
              try simp only [Act.put, List.setIfInBounds_toArray, List.set_cons_zero, List.set_cons_succ]
              refine wpAnyX_done (by kernel_rfl) ?_ _
              go_wp2
              go_meet
              exact HCUT.out
            · go_simp
              obtain ⟨w17, hnw⟩ : ∃ w17, w17 = w14.alloc (.cells ecs 58) := ⟨_, rfl⟩
              obtain ⟨Be, hBe⟩ : ∃ Be, w14.heap.size = Be := ⟨_, rfl⟩
              have bb : Below w14.heap.size w14 w17 := by rw [hnw]; exact (Below.refl _ _).alloc (Nat.le_refl _) _
              have hPl := rP.lt
              have rP := rP.of_block (bb.block _ rP.lt)
              have hB := hB.trans (bb.mono hB.size)
              rw [← hnw, hBe]
              refine hK.out _ _ trivial (fun hHeld => ?_)
              clear hK K hnw
              try simp only [Act.put, List.setIfInBounds_toArray, List.set_cons_zero, List.set_cons_succ]
              refine wpXs 3 rfl (by kernel_rfl) (fun K hK => ?_)
              go_simp
              obtain ⟨w18, hnw⟩ : ∃ w18, w18 = w17.alloc (.cells #[.int .i64 1, .slice none 0 0, .slice none 0 0, .int .i64 2, .slice none 0 0, .slice none 0 0, .int .i64 3, .slice none 0 0, .slice none 0 0] 27) := ⟨_, rfl⟩
              obtain ⟨Bi, hBi⟩ : ∃ Bi, w17.heap.size = Bi := ⟨_, rfl⟩
              have bb : Below w17.heap.size w17 w18 := by rw [hnw]; exact (Below.refl _ _).alloc (Nat.le_refl _) _
              have hPl := rP.lt
              have rP := rP.of_block (bb.block _ rP.lt)
              have fI := te_new w17 1 2 3 w18 hnw
              rw [hBi] at fI
              have lBi : Bi < w18.heap.size := by rw [hnw, ← hBi]; simp
              have hPB : P ≠ Bi := by omega
              have hB := hB.trans (bb.mono hB.size)
              rw [← hnw, hBi]
              refine hK.out _ _ trivial (fun hHeld => ?_)
              clear hK K hnw
              try simp only [Act.put, List.setIfInBounds_toArray, List.set_cons_zero, List.set_cons_succ]
              refine wpXt (v := ?_) 6 rfl (by kernel_rfl) (fun _ _ _ h => h) (by rfl) ?_ hHeld ?_
              rotate_left
              · intro w' hSw
                go_simp <;> with_reducible rfl
              try simp only [Act.put, List.setIfInBounds_toArray, List.set_cons_zero, List.set_cons_succ]
              have x0 := rP.cell (i := 0) (by omega)
              have x1 := rP.cell (i := 1) (by omega)
              have x2 := rP.cell (i := 2) (by omega)
              have z0 := rP.frozen 0
              have z1 := rP.frozen 1
              have z2 := rP.frozen 2
              have HCUT : Hid (TeB W k _ _) := te_set (k := k) (Be := Be) rP fI hPB hB lP
              refine wpXs 8 rfl (by kernel_rfl) (fun K hK => ?_)
              go_simp
              refine hK.out _ _ trivial (fun hHeld => ?_)
              clear hK K
              try simp only [Act.put, List.setIfInBounds_toArray, List.set_cons_zero, List.set_cons_succ]
              refine wpAnyX_done (by kernel_rfl) ?_ _
              go_wp2
              go_meet
              exact HCUT.out
        · go_simp
          obtain ⟨w19, hnw⟩ : ∃ w19, w19 = w2.alloc (.cells ecs 58) := ⟨_, rfl⟩
          obtain ⟨Be, hBe⟩ : ∃ Be, w2.heap.size = Be := ⟨_, rfl⟩
          have bb : Below w2.heap.size w2 w19 := by rw [hnw]; exact (Below.refl _ _).alloc (Nat.le_refl _) _
          have hB := hB.trans (bb.mono hB.size)
          rw [← hnw, hBe]
          refine hK.out _ _ trivial (fun hHeld => ?_)
          clear hK K hnw
          try simp only [Act.put, List.setIfInBounds_toArray, List.set_cons_zero, List.set_cons_succ]
          refine wpX_two 2 7 rfl rfl (by kernel_rfl) (fun K hK => ?_) (fun K hK => ?_)
          · go_simp
            refine (op_bareT 3 _).mono ?_
            rintro e w20 ⟨rfl, bb⟩
            have hB := hB.trans (bb.mono hB.size)
            refine hK.out _ _ trivial (fun hHeld => ?_)
            clear hK K
            try simp only [Act.put, List.setIfInBounds_toArray, List.set_cons_zero, List.set_cons_succ]
            refine wpX_two 3 7 rfl rfl (by kernel_rfl) (fun K hK => ?_) (fun K hK => ?_)
            · go_simp
              obtain ⟨w21, hnw⟩ : ∃ w21, w21 = w20.alloc (.cells #[.int .i64 1, .slice none 0 0, .slice none 0 0, .int .i64 2, .slice none 0 0, .slice none 0 0, .int .i64 3, .slice none 0 0, .slice none 0 0] 27) := ⟨_, rfl⟩
              obtain ⟨Bi, hBi⟩ : ∃ Bi, w20.heap.size = Bi := ⟨_, rfl⟩
              have bb : Below w20.heap.size w20 w21 := by rw [hnw]; exact (Below.refl _ _).alloc (Nat.le_refl _) _
              have fI := te_new w20 1 2 3 w21 hnw
              rw [hBi] at fI
              have lBi : Bi < w21.heap.size := by rw [hnw, ← hBi]; simp
              have hB := hB.trans (bb.mono hB.size)
              rw [← hnw, hBi]
              refine hK.out _ _ trivial (fun hHeld => ?_)
              clear hK K hnw
              try simp only [Act.put, List.setIfInBounds_toArray, List.set_cons_zero, List.set_cons_succ]
              refine wpXt (v := ?_) 6 rfl (by kernel_rfl) (fun _ _ _ h => h) (by rfl) ?_ hHeld ?_
              rotate_left
              · intro w' hSw
                go_simp <;> with_reducible rfl
              try simp only [Act.put, List.setIfInBounds_toArray, List.set_cons_zero, List.set_cons_succ]
              refine wpXs 7 rfl (by kernel_rfl) (fun K hK => ?_)
              go_simp
              obtain ⟨w22, hnw⟩ : ∃ w22, w22 = w21.alloc (.cells #[.slice none 0 0, .slice none 0 0, .slice none 0 0] 32) := ⟨_, rfl⟩
              obtain ⟨P, hP⟩ : ∃ P, w21.heap.size = P := ⟨_, rfl⟩
              have bb : Below w21.heap.size w21 w22 := by rw [hnw]; exact (Below.refl _ _).alloc (Nat.le_refl _) _
              have fI := fI.below bb (RIns.below bb)
              have lBi := Nat.lt_of_lt_of_le lBi bb.size
              have rP : w22.rowIs P 32 3 (fun _ => .slice none 0 0) := by
                rw [hnw, ← hP]
                exact World.rowIs_alloc _ _ _ _ fun i hi => by
                  simp at hi
                  match i, hi with | 0, _ => rfl | 1, _ => rfl | 2, _ => rfl
              have lP : W.heap.size ≤ P := by rw [← hP]; exact hB.size
              have hPB : P ≠ Bi := by omega
              have hB := hB.trans (bb.mono hB.size)
              rw [← hnw, hP]
              refine hK.out _ _ trivial (fun hHeld => ?_)
              clear hK K hnw
              try simp only [Act.put, List.setIfInBounds_toArray, List.set_cons_zero, List.set_cons_succ]
              have x0 := rP.cell (i := 0) (by omega)
              have x1 := rP.cell (i := 1) (by omega)
              have x2 := rP.cell (i := 2) (by omega)
              have z0 := rP.frozen 0
              have z1 := rP.frozen 1
              have z2 := rP.frozen 2
              have HCUT : Hid (TeB W k _ _) := te_set (k := k) (Be := Be) rP fI hPB hB lP
              refine wpXs 8 rfl (by kernel_rfl) (fun K hK => ?_)
              go_simp
              refine hK.out _ _ trivial (fun hHeld => ?_)
              clear hK K
              try simp only [Act.put, List.setIfInBounds_toArray, List.set_cons_zero, List.set_cons_succ]
              refine wpAnyX_done (by kernel_rfl) ?_ _
              go_wp2
              go_meet
              exact HCUT.out
            · go_simp
              obtain ⟨w23, hnw⟩ : ∃ w23, w23 = w20.alloc (.cells #[.slice none 0 0, .slice none 0 0, .slice none 0 0] 32) := ⟨_, rfl⟩
              obtain ⟨P, hP⟩ : ∃ P, w20.heap.size = P := ⟨_, rfl⟩
              have bb : Below w20.heap.size w20 w23 := by rw [hnw]; exact (Below.refl _ _).alloc (Nat.le_refl _) _
              have rP : w23.rowIs P 32 3 (fun _ => .slice none 0 0) := by
                rw [hnw, ← hP]
                exact World.rowIs_alloc _ _ _ _ fun i hi => by
                  simp at hi
                  match i, hi with | 0, _ => rfl | 1, _ => rfl | 2, _ => rfl
              have lP : W.heap.size ≤ P := by rw [← hP]; exact hB.size
              have hB := hB.trans (bb.mono hB.size)
              rw [← hnw, hP]
              refine hK.out _ _ trivial (fun hHeld => ?_)
              clear hK K hnw
              try simp only [Act.put, List.setIfInBounds_toArray, List.set_cons_zero, List.set_cons_succ]
              refine wpXs 3 rfl (by kernel_rfl) (fun K hK => ?_)
              go_simp
              obtain ⟨w24, hnw⟩ : ∃ w24, w24 = w23.alloc (.cells #[.int .i64 1, .slice none 0 0, .slice none 0 0, .int .i64 2, .slice none 0 0, .slice none 0 0, .int .i64 3, .slice none 0 0, .slice none 0 0] 27) := ⟨_, rfl⟩
              obtain ⟨Bi, hBi⟩ : ∃ Bi, w23.heap.size = Bi := ⟨_, rfl⟩
              have bb : Below w23.heap.size w23 w24 := by rw [hnw]; exact (Below.refl _ _).alloc (Nat.le_refl _) _
              have hPl := rP.lt
              have rP := rP.of_block (bb.block _ rP.lt)
              have fI := te_new w23 1 2 3 w24 hnw
              rw [hBi] at fI
              have lBi : Bi < w24.heap.size := by rw [hnw, ← hBi]; simp
              have hPB : P ≠ Bi := by omega
              have hB := hB.trans (bb.mono hB.size)
              rw [← hnw, hBi]
              refine hK.out _ _ trivial (fun hHeld => ?_)
              clear hK K hnw
              try simp only [Act.put, List.setIfInBounds_toArray, List.set_cons_zero, List.set_cons_succ]
              refine wpXt (v := ?_) 6 rfl (by kernel_rfl) (fun _ _ _ h => h) (by rfl) ?_ hHeld ?_
              rotate_left
              · intro w' hSw
                go_simp <;> with_reducible rfl
              try simp only [Act.put, List.setIfInBounds_toArray, List.set_cons_zero, List.set_cons_succ]
              have x0 := rP.cell (i := 0) (by omega)
              have x1 := rP.cell (i := 1) (by omega)
              have x2 := rP.cell (i := 2) (by omega)
              have z0 := rP.frozen 0
              have z1 := rP.frozen 1
              have z2 := rP.frozen 2
              have HCUT : Hid (TeB W k _ _) := te_set (k := k) (Be := Be) rP fI hPB hB lP
              refine wpXs 8 rfl (by kernel_rfl) (fun K hK => ?_)
              go_simp
              refine hK.out _ _ trivial (fun hHeld => ?_)
              clear hK K
              try simp only [Act.put, List.setIfInBounds_toArray, List.set_cons_zero, List.set_cons_succ]
              refine wpAnyX_done (by kernel_rfl) ?_ _
              go_wp2
              go_meet
              exact HCUT.out
          · go_simp
            obtain ⟨w25, hnw⟩ : ∃ w25, w25 = w19.alloc (.cells #[.slice none 0 0, .slice none 0 0, .slice none 0 0] 32) := ⟨_, rfl⟩
            obtain ⟨P, hP⟩ : ∃ P, w19.heap.size = P := ⟨_, rfl⟩
            have bb : Below w19.heap.size w19 w25 := by rw [hnw]; exact (Below.refl _ _).alloc (Nat.le_refl _) _
            have rP : w25.rowIs P 32 3 (fun _ => .slice none 0 0) := by
              rw [hnw, ← hP]
              exact World.rowIs_alloc _ _ _ _ fun i hi => by
                simp at hi
                match i, hi with | 0, _ => rfl | 1, _ => rfl | 2, _ => rfl
            have lP : W.heap.size ≤ P := by rw [← hP]; exact hB.size
            have hB := hB.trans (bb.mono hB.size)
            rw [← hnw, hP]
            refine hK.out _ _ trivial (fun hHeld => ?_)
            clear hK K hnw
            try simp only [Act.put, List.setIfInBounds_toArray, List.set_cons_zero, List.set_cons_succ]
            refine wpXs 2 rfl (by kernel_rfl) (fun K hK => ?_)
            go_simp
            refine (op_bareT 3 _).mono ?_
            rintro e w26 ⟨rfl, bb⟩
            have hPl := rP.lt
            have rP := rP.of_block (bb.block _ rP.lt)
            have hB := hB.trans (bb.mono hB.size)
            refine hK.out _ _ trivial (fun hHeld => ?_)
            clear hK K
            try simp only [Act.put, List.setIfInBounds_toArray, List.set_cons_zero, List.set_cons_succ]
            refine wpXs 3 rfl (by kernel_rfl) (fun K hK => ?_)
            go_simp
            obtain ⟨w27, hnw⟩ : ∃ w27, w27 = w26.alloc (.cells #[.int .i64 1, .slice none 0 0, .slice none 0 0, .int .i64 2, .slice none 0 0, .slice none 0 0, .int .i64 3, .slice none 0 0, .slice none 0 0] 27) := ⟨_, rfl⟩
            obtain ⟨Bi, hBi⟩ : ∃ Bi, w26.heap.size = Bi := ⟨_, rfl⟩
            have bb : Below w26.heap.size w26 w27 := by rw [hnw]; exact (Below.refl _ _).alloc (Nat.le_refl _) _
            have hPl := rP.lt
            have rP := rP.of_block (bb.block _ rP.lt)
            have fI := te_new w26 1 2 3 w27 hnw
            rw [hBi] at fI
            have lBi : Bi < w27.heap.size := by rw [hnw, ← hBi]; simp
            have hPB : P ≠ Bi := by omega
            have hB := hB.trans (bb.mono hB.size)
            rw [← hnw, hBi]
            refine hK.out _ _ trivial (fun hHeld => ?_)
            clear hK K hnw
            try simp only [Act.put, List.setIfInBounds_toArray, List.set_cons_zero, List.set_cons_succ]
            refine wpXt (v := ?_) 6 rfl (by kernel_rfl) (fun _ _ _ h => h) (by rfl) ?_ hHeld ?_
            rotate_left
            · intro w' hSw
              go_simp <;> with_reducible rfl
            try simp only [Act.put, List.setIfInBounds_toArray, List.set_cons_zero, List.set_cons_succ]
            have x0 := rP.cell (i := 0) (by omega)
            have x1 := rP.cell (i := 1) (by omega)
            have x2 := rP.cell (i := 2) (by omega)
            have z0 := rP.frozen 0
            have z1 := rP.frozen 1
            have z2 := rP.frozen 2
            have HCUT : Hid (TeB W k _ _) := te_set (k := k) (Be := Be) rP fI hPB hB lP
            refine wpXs 8 rfl (by kernel_rfl) (fun K hK => ?_)
            go_simp
            refine hK.out _ _ trivial (fun hHeld => ?_)
            clear hK K
            try simp only [Act.put, List.setIfInBounds_toArray, List.set_cons_zero, List.set_cons_succ]
            refine wpAnyX_done (by kernel_rfl) ?_ _
            go_wp2
            go_meet
            exact HCUT.out
        · go_simp
          obtain ⟨w28, hnw⟩ : ∃ w28, w28 = w2.alloc (.cells #[.slice none 0 0, .slice none 0 0, .slice none 0 0] 32) := ⟨_, rfl⟩
          obtain ⟨P, hP⟩ : ∃ P, w2.heap.size = P := ⟨_, rfl⟩
          have bb : Below w2.heap.size w2 w28 := by rw [hnw]; exact (Below.refl _ _).alloc (Nat.le_refl _) _
          have rP : w28.rowIs P 32 3 (fun _ => .slice none 0 0) := by
            rw [hnw, ← hP]
            exact World.rowIs_alloc _ _ _ _ fun i hi => by
              simp at hi
              match i, hi with | 0, _ => rfl | 1, _ => rfl | 2, _ => rfl
          have lP : W.heap.size ≤ P := by rw [← hP]; exact hB.size
          have hB := hB.trans (bb.mono hB.size)
          rw [← hnw, hP]
          refine hK.out _ _ trivial (fun hHeld => ?_)
          clear hK K hnw
          try simp only [Act.put, List.setIfInBounds_toArray, List.set_cons_zero, List.set_cons_succ]
          refine wpX_two 2 5 rfl rfl (by kernel_rfl) (fun K hK => ?_) (fun K hK => ?_)
          · go_simp
            refine (op_bareT 3 _).mono ?_
            rintro e w29 ⟨rfl, bb⟩
            have hPl := rP.lt
            have rP := rP.of_block (bb.block _ rP.lt)
            have hB := hB.trans (bb.mono hB.size)
            refine hK.out _ _ trivial (fun hHeld => ?_)
            clear hK K
            try simp only [Act.put, List.setIfInBounds_toArray, List.set_cons_zero, List.set_cons_succ]
            refine wpX_two 3 5 rfl rfl (by kernel_rfl) (fun K hK => ?_) (fun K hK => ?_)
            · go_simp
              obtain ⟨w30, hnw⟩ : ∃ w30, w30 = w29.alloc (.cells #[.int .i64 1, .slice none 0 0, .slice none 0 0, .int .i64 2, .slice none 0 0, .slice none 0 0, .int .i64 3, .slice none 0 0, .slice none 0 0] 27) := ⟨_, rfl⟩
              obtain ⟨Bi, hBi⟩ : ∃ Bi, w29.heap.size = Bi := ⟨_, rfl⟩
              have bb : Below w29.heap.size w29 w30 := by rw [hnw]; exact (Below.refl _ _).alloc (Nat.le_refl _) _
              have hPl := rP.lt
              have rP := rP.of_block (bb.block _ rP.lt)
              have fI := te_new w29 1 2 3 w30 hnw
              rw [hBi] at fI
              have lBi : Bi < w30.heap.size := by rw [hnw, ← hBi]; simp
              have hPB : P ≠ Bi := by omega
              have hB := hB.trans (bb.mono hB.size)
              rw [← hnw, hBi]
              refine hK.out _ _ trivial (fun hHeld => ?_)
              clear hK K hnw
              try simp only [Act.put, List.setIfInBounds_toArray, List.set_cons_zero, List.set_cons_succ]
              refine wpXs 5 rfl (by kernel_rfl) (fun K hK => ?_)
              go_simp
              obtain ⟨w31, hnw⟩ : ∃ w31, w31 = w30.alloc (.cells ecs 58) := ⟨_, rfl⟩
              obtain ⟨Be, hBe⟩ : ∃ Be, w30.heap.size = Be := ⟨_, rfl⟩
              have bb : Below w30.heap.size w30 w31 := by rw [hnw]; exact (Below.refl _ _).alloc (Nat.le_refl _) _
              have fI := fI.below bb (RIns.below bb)
              have lBi := Nat.lt_of_lt_of_le lBi bb.size
              have hPl := rP.lt
              have rP := rP.of_block (bb.block _ rP.lt)
              have hB := hB.trans (bb.mono hB.size)
              rw [← hnw, hBe]
              refine hK.out _ _ trivial (fun hHeld => ?_)
              clear hK K hnw
              try simp only [Act.put, List.setIfInBounds_toArray, List.set_cons_zero, List.set_cons_succ]
              refine wpXt (v := ?_) 6 rfl (by kernel_rfl) (fun _ _ _ h => h) (by rfl) ?_ hHeld ?_
              rotate_left
              · intro w' hSw
                go_simp <;> with_reducible rfl
              try simp only [Act.put, List.setIfInBounds_toArray, List.set_cons_zero, List.set_cons_succ]
              have x0 := rP.cell (i := 0) (by omega)
              have x1 := rP.cell (i := 1) (by omega)
              have x2 := rP.cell (i := 2) (by omega)
              have z0 := rP.frozen 0
              have z1 := rP.frozen 1
              have z2 := rP.frozen 2
              have HCUT : Hid (TeB W k _ _) := te_set (k := k) (Be := Be) rP fI hPB hB lP
              refine wpXs 8 rfl (by kernel_rfl) (fun K hK => ?_)
              go_simp
              refine hK.out _ _ trivial (fun hHeld => ?_)
              clear hK K
              try simp only [Act.put, List.setIfInBounds_toArray, List.set_cons_zero, List.set_cons_succ]
              refine wpAnyX_done (by kernel_rfl) ?_ _
              go_wp2
              go_meet
              exact HCUT.out
            · go_simp
              obtain ⟨w32, hnw⟩ : ∃ w32, w32 = w29.alloc (.cells ecs 58) := ⟨_, rfl⟩
              obtain ⟨Be, hBe⟩ : ∃ Be, w29.heap.size = Be := ⟨_, rfl⟩
              have bb : Below w29.heap.size w29 w32 := by rw [hnw]; exact (Below.refl _ _).alloc (Nat.le_refl _) _
              have hPl := rP.lt
              have rP := rP.of_block (bb.block _ rP.lt)
              have hB := hB.trans (bb.mono hB.size)
              rw [← hnw, hBe]
              refine hK.out _ _ trivial (fun hHeld => ?_)
              clear hK K hnw
              try simp only [Act.put, List.setIfInBounds_toArray, List.set_cons_zero, List.set_cons_succ]
              refine wpXs 3 rfl (by kernel_rfl) (fun K hK => ?_)
              go_simp
              obtain ⟨w33, hnw⟩ : ∃ w33, w33 = w32.alloc (.cells #[.int .i64 1, .slice none 0 0, .slice none 0 0, .int .i64 2, .slice none 0 0, .slice none 0 0, .int .i64 3, .slice none 0 0, .slice none 0 0] 27) := ⟨_, rfl⟩
              obtain ⟨Bi, hBi⟩ : ∃ Bi, w32.heap.size = Bi := ⟨_, rfl⟩
              have bb : Below w32.heap.size w32 w33 := by rw [hnw]; exact (Below.refl _ _).alloc (Nat.le_refl _) _
              have hPl := rP.lt
              have rP := rP.of_block (bb.block _ rP.lt)
              have fI := te_new w32 1 2 3 w33 hnw
              rw [hBi] at fI
              have lBi : Bi < w33.heap.size := by rw [hnw, ← hBi]; simp
              have hPB : P ≠ Bi := by omega
              have hB := hB.trans (bb.mono hB.size)
              rw [← hnw, hBi]
              refine hK.out _ _ trivial (fun hHeld => ?_)
              clear hK K hnw
              try simp only [Act.put, List.setIfInBounds_toArray, List.set_cons_zero, List.set_cons_succ]
              refine wpXt (v := ?_) 6 rfl (by kernel_rfl) (fun _ _ _ h => h) (by rfl) ?_ hHeld ?_
              rotate_left
              · intro w' hSw
                go_simp <;> with_reducible rfl
              try simp only [Act.put, List.setIfInBounds_toArray, List.set_cons_zero, List.set_cons_succ]
              have x0 := rP.cell (i := 0) (by omega)
              have x1 := rP.cell (i := 1) (by omega)
              have x2 := rP.cell (i := 2) (by omega)
              have z0 := rP.frozen 0
              have z1 := rP.frozen 1
              have z2 := rP.frozen 2
              have HCUT : Hid (TeB W k _ _) := te_set (k := k) (Be := Be) rP fI hPB hB lP
              refine wpXs 8 rfl (by kernel_rfl) (fun K hK => ?_)
              go_simp
              refine hK.out _ _ trivial (fun hHeld => ?_)
              clear hK K
              try simp only [Act.put, List.setIfInBounds_toArray, List.set_cons_zero, List.set_cons_succ]
              refine wpAnyX_done (by kernel_rfl) ?_ _
              go_wp2
              go_meet
              exact HCUT.out
          · go_simp
            obtain ⟨w34, hnw⟩ : ∃ w34, w34 = w28.alloc (.cells ecs 58) := ⟨_, rfl⟩
            obtain ⟨Be, hBe⟩ : ∃ Be, w28.heap.size = Be := ⟨_, rfl⟩
            have bb : Below w28.heap.size w28 w34 := by rw [hnw]; exact (Below.refl _ _).alloc (Nat.le_refl _) _
            have hPl := rP.lt
            have rP := rP.of_block (bb.block _ rP.lt)
            have hB := hB.trans (bb.mono hB.size)
            rw [← hnw, hBe]
            refine hK.out _ _ trivial (fun hHeld => ?_)
            clear hK K hnw
            try simp only [Act.put, List.setIfInBounds_toArray, List.set_cons_zero, List.set_cons_succ]
            refine wpXs 2 rfl (by kernel_rfl) (fun K hK => ?_)
            go_simp
            refine (op_bareT 3 _).mono ?_
            rintro e w35 ⟨rfl, bb⟩
            have hPl := rP.lt
            have rP := rP.of_block (bb.block _ rP.lt)
            have hB := hB.trans (bb.mono hB.size)
            refine hK.out _ _ trivial (fun hHeld => ?_)
            clear hK K
            try simp only [Act.put, List.setIfInBounds_toArray, List.set_cons_zero, List.set_cons_succ]
            refine wpXs 3 rfl (by kernel_rfl) (fun K hK => ?_)
            go_simp
            obtain ⟨w36, hnw⟩ : ∃ w36, w36 = w35.alloc (.cells #[.int .i64 1, .slice none 0 0, .slice none 0 0, .int .i64 2, .slice none 0 0, .slice none 0 0, .int .i64 3, .slice none 0 0, .slice none 0 0] 27) := ⟨_, rfl⟩
            obtain ⟨Bi, hBi⟩ : ∃ Bi, w35.heap.size = Bi := ⟨_, rfl⟩
            have bb : Below w35.heap.size w35 w36 := by rw [hnw]; exact (Below.refl _ _).alloc (Nat.le_refl _) _
            have hPl := rP.lt
            have rP := rP.of_block (bb.block _ rP.lt)
            have fI := te_new w35 1 2 3 w36 hnw
            rw [hBi] at fI
            have lBi : Bi < w36.heap.size := by rw [hnw, ← hBi]; simp
            have hPB : P ≠ Bi := by omega
            have hB := hB.trans (bb.mono hB.size)
            rw [← hnw, hBi]
            refine hK.out _ _ trivial (fun hHeld => ?_)
            clear hK K hnw
            try simp only [Act.put, List.setIfInBounds_toArray, List.set_cons_zero, List.set_cons_succ]
            refine wpXt (v := ?_) 6 rfl (by kernel_rfl) (fun _ _ _ h => h) (by rfl) ?_ hHeld ?_
            rotate_left
            · intro w' hSw
              go_simp <;> with_reducible rfl
            try simp only [Act.put, List.setIfInBounds_toArray, List.set_cons_zero, List.set_cons_succ]
            have x0 := rP.cell (i := 0) (by omega)
            have x1 := rP.cell (i := 1) (by omega)
            have x2 := rP.cell (i := 2) (by omega)
            have z0 := rP.frozen 0
            have z1 := rP.frozen 1
            have z2 := rP.frozen 2
            have HCUT : Hid (TeB W k _ _) := te_set (k := k) (Be := Be) rP fI hPB hB lP
            refine wpXs 8 rfl (by kernel_rfl) (fun K hK => ?_)
            go_simp
            refine hK.out _ _ trivial (fun hHeld => ?_)
            clear hK K
            try simp only [Act.put, List.setIfInBounds_toArray, List.set_cons_zero, List.set_cons_succ]
            refine wpAnyX_done (by kernel_rfl) ?_ _
            go_wp2
            go_meet
            exact HCUT.out
      · go_simp
        obtain ⟨w37, hnw⟩ : ∃ w37, w37 = w1.alloc (.cells ecs 58) := ⟨_, rfl⟩
        obtain ⟨Be, hBe⟩ : ∃ Be, w1.heap.size = Be := ⟨_, rfl⟩
        have bb : Below w1.heap.size w1 w37 := by rw [hnw]; exact (Below.refl _ _).alloc (Nat.le_refl _) _
        have hB := hB.trans (bb.mono hB.size)
        rw [← hnw, hBe]
        refine hK.out _ _ trivial (fun hHeld => ?_)
        clear hK K hnw
        try simp only [Act.put, List.setIfInBounds_toArray, List.set_cons_zero, List.set_cons_succ]
        refine wpX_two 1 7 rfl rfl (by kernel_rfl) (fun K hK => ?_) (fun K hK => ?_)
        · go_simp
          refine (op_bareT 2 _).mono ?_
          rintro e w38 ⟨rfl, bb⟩
          have hB := hB.trans (bb.mono hB.size)
          refine hK.out _ _ trivial (fun hHeld => ?_)
          clear hK K
          try simp only [Act.put, List.setIfInBounds_toArray, List.set_cons_zero, List.set_cons_succ]
          refine wpX_two 2 7 rfl rfl (by kernel_rfl) (fun K hK => ?_) (fun K hK => ?_)
          · go_simp
            refine (op_bareT 3 _).mono ?_
            rintro e w39 ⟨rfl, bb⟩
            have hB := hB.trans (bb.mono hB.size)
            refine hK.out _ _ trivial (fun hHeld => ?_)
            clear hK K
            try simp only [Act.put, List.setIfInBounds_toArray, List.set_cons_zero, List.set_cons_succ]
            refine wpX_two 3 7 rfl rfl (by kernel_rfl) (fun K hK => ?_) (fun K hK => ?_)
            · go_simp
              obtain ⟨w40, hnw⟩ : ∃ w40, w40 = w39.alloc (.cells #[.int .i64 1, .slice none 0 0, .slice none 0 0, .int .i64 2, .slice none 0 0, .slice none 0 0, .int .i64 3, .slice none 0 0, .slice none 0 0] 27) := ⟨_, rfl⟩
              obtain ⟨Bi, hBi⟩ : ∃ Bi, w39.heap.size = Bi := ⟨_, rfl⟩
              have bb : Below w39.heap.size w39 w40 := by rw [hnw]; exact (Below.refl _ _).alloc (Nat.le_refl _) _
              have fI := te_new w39 1 2 3 w40 hnw
              rw [hBi] at fI
              have lBi : Bi < w40.heap.size := by rw [hnw, ← hBi]; simp
              have hB := hB.trans (bb.mono hB.size)
              rw [← hnw, hBi]
              refine hK.out _ _ trivial (fun hHeld => ?_)
              clear hK K hnw
              try simp only [Act.put, List.setIfInBounds_toArray, List.set_cons_zero, List.set_cons_succ]
              refine wpXt (v := ?_) 6 rfl (by kernel_rfl) (fun _ _ _ h => h) (by rfl) ?_ hHeld ?_
              rotate_left
              · intro w' hSw
                go_simp <;> with_reducible rfl
              try simp only [Act.put, List.setIfInBounds_toArray, List.set_cons_zero, List.set_cons_succ]
              refine wpXs 7 rfl (by kernel_rfl) (fun K hK => ?_)
              go_simp
              obtain ⟨w41, hnw⟩ : ∃ w41, w41 = w40.alloc (.cells #[.slice none 0 0, .slice none 0 0, .slice none 0 0] 32) := ⟨_, rfl⟩
              obtain ⟨P, hP⟩ : ∃ P, w40.heap.size = P := ⟨_, rfl⟩
              have bb : Below w40.heap.size w40 w41 := by rw [hnw]; exact (Below.refl _ _).alloc (Nat.le_refl _) _
              have fI := fI.below bb (RIns.below bb)
              have lBi := Nat.lt_of_lt_of_le lBi bb.size
              have rP : w41.rowIs P 32 3 (fun _ => .slice none 0 0) := by
                rw [hnw, ← hP]
                exact World.rowIs_alloc _ _ _ _ fun i hi => by
                  simp at hi
                  match i, hi with | 0, _ => rfl | 1, _ => rfl | 2, _ => rfl
              have lP : W.heap.size ≤ P := by rw [← hP]; exact hB.size
              have hPB : P ≠ Bi := by omega
              have hB := hB.trans (bb.mono hB.size)
              rw [← hnw, hP]
              refine hK.out _ _ trivial (fun hHeld => ?_)
              clear hK K hnw
              try simp only [Act.put, List.setIfInBounds_toArray, List.set_cons_zero, List.set_cons_succ]
              have x0 := rP.cell (i := 0) (by omega)
              have x1 := rP.cell (i := 1) (by omega)
              have x2 := rP.cell (i := 2) (by omega)
              have z0 := rP.frozen 0
              have z1 := rP.frozen 1
              have z2 := rP.frozen 2
              have HCUT : Hid (TeB W k _ _) := te_set (k := k) (Be := Be) rP fI hPB hB lP
              refine wpXs 8 rfl (by kernel_rfl) (fun K hK => ?_)
              go_simp
              refine hK.out _ _ trivial (fun hHeld => ?_)
              clear hK K
              try simp only [Act.put, List.setIfInBounds_toArray, List.set_cons_zero, List.set_cons_succ]
              refine wpAnyX_done (by kernel_rfl) ?_ _
              go_wp2
              go_meet
              exact HCUT.out
            · go_simp
              obtain ⟨w42, hnw⟩ : ∃ w42, w42 = w39.alloc (.cells #[.slice none 0 0, .slice none 0 0, .slice none 0 0] 32) := ⟨_, rfl⟩
              obtain ⟨P, hP⟩ : ∃ P, w39.heap.size = P := ⟨_, rfl⟩
              have bb : Below w39.heap.size w39 w42 := by rw [hnw]; exact (Below.refl _ _).alloc (Nat.le_refl _) _
              have rP : w42.rowIs P 32 3 (fun _ => .slice none 0 0) := by
                rw [hnw, ← hP]
                exact World.rowIs_alloc _ _ _ _ fun i hi => by
                  simp at hi
                  match i, hi with | 0, _ => rfl | 1, _ => rfl | 2, _ => rfl
              have lP : W.heap.size ≤ P := by rw [← hP]; exact hB.size
              have hB := hB.trans (bb.mono hB.size)
              rw [← hnw, hP]
              refine hK.out _ _ trivial (fun hHeld => ?_)
              clear hK K hnw
              try simp only [Act.put, List.setIfInBounds_toArray, List.set_cons_zero, List.set_cons_succ]
              refine wpXs 3 rfl (by kernel_rfl) (fun K hK => ?_)
              go_simp
              obtain ⟨w43, hnw⟩ : ∃ w43, w43 = w42.alloc (.cells #[.int .i64 1, .slice none 0 0, .slice none 0 0, .int .i64 2, .slice none 0 0, .slice none 0 0, .int .i64 3, .slice none 0 0, .slice none 0 0] 27) := ⟨_, rfl⟩
              obtain ⟨Bi, hBi⟩ : ∃ Bi, w42.heap.size = Bi := ⟨_, rfl⟩
              have bb : Below w42.heap.size w42 w43 := by rw [hnw]; exact (Below.refl _ _).alloc (Nat.le_refl _) _
              have hPl := rP.lt
              have rP := rP.of_block (bb.block _ rP.lt)
              have fI := te_new w42 1 2 3 w43 hnw
              rw [hBi] at fI
              have lBi : Bi < w43.heap.size := by rw [hnw, ← hBi]; simp
              have hPB : P ≠ Bi := by omega
              have hB := hB.trans (bb.mono hB.size)
              rw [← hnw, hBi]
              refine hK.out _ _ trivial (fun hHeld => ?_)
              clear hK K hnw
              try simp only [Act.put, List.setIfInBounds_toArray, List.set_cons_zero, List.set_cons_succ]
              refine wpXt (v := ?_) 6 rfl (by kernel_rfl) (fun _ _ _ h => h) (by rfl) ?_ hHeld ?_
              rotate_left
              · intro w' hSw
                go_simp <;> with_reducible rfl
              try simp only [Act.put, List.setIfInBounds_toArray, List.set_cons_zero, List.set_cons_succ]
              have x0 := rP.cell (i := 0) (by omega)
              have x1 := rP.cell (i := 1) (by omega)
              have x2 := rP.cell (i := 2) (by omega)
              have z0 := rP.frozen 0
              have z1 := rP.frozen 1
              have z2 := rP.frozen 2
              have HCUT : Hid (TeB W k _ _) := te_set (k := k) (Be := Be) rP fI hPB hB lP
              refine wpXs 8 rfl (by kernel_rfl) (fun K hK => ?_)
              go_simp
              refine hK.out _ _ trivial (fun hHeld => ?_)
              clear hK K
              try simp only [Act.put, List.setIfInBounds_toArray, List.set_cons_zero, List.set_cons_succ]
              refine wpAnyX_done (by kernel_rfl) ?_ _
              go_wp2
              go_meet
              exact HCUT.out
          · go_simp
            obtain ⟨w44, hnw⟩ : ∃ w44, w44 = w38.alloc (.cells #[.slice none 0 0, .slice none 0 0, .slice none 0 0] 32) := ⟨_, rfl⟩
            obtain ⟨P, hP⟩ : ∃ P, w38.heap.size = P := ⟨_, rfl⟩
            have bb : Below w38.heap.size w38 w44 := by rw [hnw]; exact (Below.refl _ _).alloc (Nat.le_refl _) _
            have rP : w44.rowIs P 32 3 (fun _ => .slice none 0 0) := by
              rw [hnw, ← hP]
              exact World.rowIs_alloc _ _ _ _ fun i hi => by
                simp at hi
                match i, hi with | 0, _ => rfl | 1, _ => rfl | 2, _ => rfl
            have lP : W.heap.size ≤ P := by rw [← hP]; exact hB.size
            have hB := hB.trans (bb.mono hB.size)
            rw [← hnw, hP]
            refine hK.out _ _ trivial (fun hHeld => ?_)
            clear hK K hnw
            try simp only [Act.put, List.setIfInBounds_toArray, List.set_cons_zero, List.set_cons_succ]
            refine wpXs 2 rfl (by kernel_rfl) (fun K hK => ?_)
            go_simp
            refine (op_bareT 3 _).mono ?_
            rintro e w45 ⟨rfl, bb⟩
            have hPl := rP.lt
            have rP := rP.of_block (bb.block _ rP.lt)
            have hB := hB.trans (bb.mono hB.size)
            refine hK.out _ _ trivial (fun hHeld => ?_)
            clear hK K
            try simp only [Act.put, List.setIfInBounds_toArray, List.set_cons_zero, List.set_cons_succ]
            refine wpXs 3 rfl (by kernel_rfl) (fun K hK => ?_)
            go_simp
            obtain ⟨w46, hnw⟩ : ∃ w46, w46 = w45.alloc (.cells #[.int .i64 1, .slice none 0 0, .slice none 0 0, .int .i64 2, .slice none 0 0, .slice none 0 0, .int .i64 3, .slice none 0 0, .slice none 0 0] 27) := ⟨_, rfl⟩
            obtain ⟨Bi, hBi⟩ : ∃ Bi, w45.heap.size = Bi := ⟨_, rfl⟩
            have bb : Below w45.heap.size w45 w46 := by rw [hnw]; exact (Below.refl _ _).alloc (Nat.le_refl _) _
            have hPl := rP.lt
            have rP := rP.of_block (bb.block _ rP.lt)
            have fI := te_new w45 1 2 3 w46 hnw
            rw [hBi] at fI
            have lBi : Bi < w46.heap.size := by rw [hnw, ← hBi]; simp
            have hPB : P ≠ Bi := by omega
            have hB := hB.trans (bb.mono hB.size)
            rw [← hnw, hBi]
            refine hK.out _ _ trivial (fun hHeld => ?_)
            clear hK K hnw
            try simp only [Act.put, List.setIfInBounds_toArray, List.set_cons_zero, List.set_cons_succ]
            refine wpXt (v := ?_) 6 rfl (by kernel_rfl) (fun _ _ _ h => h) (by rfl) ?_ hHeld ?_
            rotate_left
            · intro w' hSw
              go_simp <;> with_reducible rfl
            try simp only [Act.put, List.setIfInBounds_toArray, List.set_cons_zero, List.set_cons_succ]
            have x0 := rP.cell (i := 0) (by omega)
            have x1 := rP.cell (i := 1) (by omega)
            have x2 := rP.cell (i := 2) (by omega)
            have z0 := rP.frozen 0
            have z1 := rP.frozen 1
            have z2 := rP.frozen 2
            have HCUT : Hid (TeB W k _ _) := te_set (k := k) (Be := Be) rP fI hPB hB lP
            refine wpXs 8 rfl (by kernel_rfl) (fun K hK => ?_)
            go_simp
            refine hK.out _ _ trivial (fun hHeld => ?_)
            clear hK K
            try simp only [Act.put, List.setIfInBounds_toArray, List.set_cons_zero, List.set_cons_succ]
            refine wpAnyX_done (by kernel_rfl) ?_ _
            go_wp2
            go_meet
            exact HCUT.out
        · go_simp
          obtain ⟨w47, hnw⟩ : ∃ w47, w47 = w37.alloc (.cells #[.slice none 0 0, .slice none 0 0, .slice none 0 0] 32) := ⟨_, rfl⟩
          obtain ⟨P, hP⟩ : ∃ P, w37.heap.size = P := ⟨_, rfl⟩
          have bb : Below w37.heap.size w37 w47 := by rw [hnw]; exact (Below.refl _ _).alloc (Nat.le_refl _) _
          have rP : w47.rowIs P 32 3 (fun _ => .slice none 0 0) := by
            rw [hnw, ← hP]
            exact World.rowIs_alloc _ _ _ _ fun i hi => by
              simp at hi
              match i, hi with | 0, _ => rfl | 1, _ => rfl | 2, _ => rfl
          have lP : W.heap.size ≤ P := by rw [← hP]; exact hB.size
          have hB := hB.trans (bb.mono hB.size)
          rw [← hnw, hP]
          refine hK.out _ _ trivial (fun hHeld => ?_)
          clear hK K hnw
          try simp only [Act.put, List.setIfInBounds_toArray, List.set_cons_zero, List.set_cons_succ]
          refine wpXs 1 rfl (by kernel_rfl) (fun K hK => ?_)
          go_simp
          refine (op_bareT 2 _).mono ?_
          rintro e w48 ⟨rfl, bb⟩
          have hPl := rP.lt
          have rP := rP.of_block (bb.block _ rP.lt)
          have hB := hB.trans (bb.mono hB.size)
          refine hK.out _ _ trivial (fun hHeld => ?_)
          clear hK K
          try simp only [Act.put, List.setIfInBounds_toArray, List.set_cons_zero, List.set_cons_succ]
          refine wpXs 2 rfl (by kernel_rfl) (fun K hK => ?_)
          go_simp
          refine (op_bareT 3 _).mono ?_
          rintro e w49 ⟨rfl, bb⟩
          have hPl := rP.lt
          have rP := rP.of_block (bb.block _ rP.lt)
          have hB := hB.trans (bb.mono hB.size)
          refine hK.out _ _ trivial (fun hHeld => ?_)
          clear hK K
          try simp only [Act.put, List.setIfInBounds_toArray, List.set_cons_zero, List.set_cons_succ]
          refine wpXs 3 rfl (by kernel_rfl) (fun K hK => ?_)
          go_simp
          obtain ⟨w50, hnw⟩ : ∃ w50, w50 = w49.alloc (.cells #[.int .i64 1, .slice none 0 0, .slice none 0 0, .int .i64 2, .slice none 0 0, .slice none 0 0, .int .i64 3, .slice none 0 0, .slice none 0 0] 27) := ⟨_, rfl⟩
          obtain ⟨Bi, hBi⟩ : ∃ Bi, w49.heap.size = Bi := ⟨_, rfl⟩
          have bb : Below w49.heap.size w49 w50 := by rw [hnw]; exact (Below.refl _ _).alloc (Nat.le_refl _) _
          have hPl := rP.lt
          have rP := rP.of_block (bb.block _ rP.lt)
          have fI := te_new w49 1 2 3 w50 hnw
          rw [hBi] at fI
          have lBi : Bi < w50.heap.size := by rw [hnw, ← hBi]; simp
          have hPB : P ≠ Bi := by omega
          have hB := hB.trans (bb.mono hB.size)
          rw [← hnw, hBi]
          refine hK.out _ _ trivial (fun hHeld => ?_)
          clear hK K hnw
          try simp only [Act.put, List.setIfInBounds_toArray, List.set_cons_zero, List.set_cons_succ]
          refine wpXt (v := ?_) 6 rfl (by kernel_rfl) (fun _ _ _ h => h) (by rfl) ?_ hHeld ?_
          rotate_left
          · intro w' hSw
            go_simp <;> with_reducible rfl
          try simp only [Act.put, List.setIfInBounds_toArray, List.set_cons_zero, List.set_cons_succ]
          have x0 := rP.cell (i := 0) (by omega)
          have x1 := rP.cell (i := 1) (by omega)
          have x2 := rP.cell (i := 2) (by omega)
          have z0 := rP.frozen 0
          have z1 := rP.frozen 1
          have z2 := rP.frozen 2
          have HCUT : Hid (TeB W k _ _) := te_set (k := k) (Be := Be) rP fI hPB hB lP
          refine wpXs 8 rfl (by kernel_rfl) (fun K hK => ?_)
          go_simp
          refine hK.out _ _ trivial (fun hHeld => ?_)
          clear hK K
          try simp only [Act.put, List.setIfInBounds_toArray, List.set_cons_zero, List.set_cons_succ]
          refine wpAnyX_done (by kernel_rfl) ?_ _
          go_wp2
          go_meet
          exact HCUT.out
      · go_simp
        obtain ⟨w51, hnw⟩ : ∃ w51, w51 = w1.alloc (.cells #[.slice none 0 0, .slice none 0 0, .slice none 0 0] 32) := ⟨_, rfl⟩
        obtain ⟨P, hP⟩ : ∃ P, w1.heap.size = P := ⟨_, rfl⟩
        have bb : Below w1.heap.size w1 w51 := by rw [hnw]; exact (Below.refl _ _).alloc (Nat.le_refl _) _
        have rP : w51.rowIs P 32 3 (fun _ => .slice none 0 0) := by
          rw [hnw, ← hP]
          exact World.rowIs_alloc _ _ _ _ fun i hi => by
            simp at hi
            match i, hi with | 0, _ => rfl | 1, _ => rfl | 2, _ => rfl
        have lP : W.heap.size ≤ P := by rw [← hP]; exact hB.size
        have hB := hB.trans (bb.mono hB.size)
        rw [← hnw, hP]
        refine hK.out _ _ trivial (fun hHeld => ?_)
        clear hK K hnw
        try simp only [Act.put, List.setIfInBounds_toArray, List.set_cons_zero, List.set_cons_succ]
        refine wpX_two 1 5 rfl rfl (by kernel_rfl) (fun K hK => ?_) (fun K hK => ?_)
        · go_simp
          refine (op_bareT 2 _).mono ?_
          rintro e w52 ⟨rfl, bb⟩
          have hPl := rP.lt
          have rP := rP.of_block (bb.block _ rP.lt)
          have hB := hB.trans (bb.mono hB.size)
          refine hK.out _ _ trivial (fun hHeld => ?_)
          clear hK K
          try simp only [Act.put, List.setIfInBounds_toArray, List.set_cons_zero, List.set_cons_succ]
          refine wpX_two 2 5 rfl rfl (by kernel_rfl) (fun K hK => ?_) (fun K hK => ?_)
          · go_simp
            refine (op_bareT 3 _).mono ?_
            rintro e w53 ⟨rfl, bb⟩
            have hPl := rP.lt
            have rP := rP.of_block (bb.block _ rP.lt)
            have hB := hB.trans (bb.mono hB.size)
            refine hK.out _ _ trivial (fun hHeld => ?_)
            clear hK K
            try simp only [Act.put, List.setIfInBounds_toArray, List.set_cons_zero, List.set_cons_succ]
            refine wpX_two 3 5 rfl rfl (by kernel_rfl) (fun K hK => ?_) (fun K hK => ?_)
            · go_simp
              obtain ⟨w54, hnw⟩ : ∃ w54, w54 = w53.alloc (.cells #[.int .i64 1, .slice none 0 0, .slice none 0 0, .int .i64 2, .slice none 0 0, .slice none 0 0, .int .i64 3, .slice none 0 0, .slice none 0 0] 27) := ⟨_, rfl⟩
              obtain ⟨Bi, hBi⟩ : ∃ Bi, w53.heap.size = Bi := ⟨_, rfl⟩
              have bb : Below w53.heap.size w53 w54 := by rw [hnw]; exact (Below.refl _ _).alloc (Nat.le_refl _) _
              have hPl := rP.lt
              have rP := rP.of_block (bb.block _ rP.lt)
              have fI := te_new w53 1 2 3 w54 hnw
              rw [hBi] at fI
              have lBi : Bi < w54.heap.size := by rw [hnw, ← hBi]; simp
              have hPB : P ≠ Bi := by omega
              have hB := hB.trans (bb.mono hB.size)
              rw [← hnw, hBi]
              refine hK.out _ _ trivial (fun hHeld => ?_)
              clear hK K hnw
              try simp only [Act.put, List.setIfInBounds_toArray, List.set_cons_zero, List.set_cons_succ]
              refine wpXs 5 rfl (by kernel_rfl) (fun K hK => ?_)
              go_simp
              obtain ⟨w55, hnw⟩ : ∃ w55, w55 = w54.alloc (.cells ecs 58) := ⟨_, rfl⟩
              obtain ⟨Be, hBe⟩ : ∃ Be, w54.heap.size = Be := ⟨_, rfl⟩
              have bb : Below w54.heap.size w54 w55 := by rw [hnw]; exact (Below.refl _ _).alloc (Nat.le_refl _) _
              have fI := fI.below bb (RIns.below bb)
              have lBi := Nat.lt_of_lt_of_le lBi bb.size
              have hPl := rP.lt
              have rP := rP.of_block (bb.block _ rP.lt)
              have hB := hB.trans (bb.mono hB.size)
              rw [← hnw, hBe]
              refine hK.out _ _ trivial (fun hHeld => ?_)
              clear hK K hnw
              try simp only [Act.put, List.setIfInBounds_toArray, List.set_cons_zero, List.set_cons_succ]
              refine wpXt (v := ?_) 6 rfl (by kernel_rfl) (fun _ _ _ h => h) (by rfl) ?_ hHeld ?_
              rotate_left
              · intro w' hSw
                go_simp <;> with_reducible rfl
              try simp only [Act.put, List.setIfInBounds_toArray, List.set_cons_zero, List.set_cons_succ]
              have x0 := rP.cell (i := 0) (by omega)
              have x1 := rP.cell (i := 1) (by omega)
              have x2 := rP.cell (i := 2) (by omega)
              have z0 := rP.frozen 0
              have z1 := rP.frozen 1
              have z2 := rP.frozen 2
              have HCUT : Hid (TeB W k _ _) := te_set (k := k) (Be := Be) rP fI hPB hB lP
              refine wpXs 8 rfl (by kernel_rfl) (fun K hK => ?_)
              go_simp
              refine hK.out _ _ trivial (fun hHeld => ?_)
              clear hK K
              try simp only [Act.put, List.setIfInBounds_toArray, List.set_cons_zero, List.set_cons_succ]
              refine wpAnyX_done (by kernel_rfl) ?_ _
              go_wp2
              go_meet
              exact HCUT.out
            · go_simp
              obtain ⟨w56, hnw⟩ : ∃ w56, w56 = w53.alloc (.cells ecs 58) := ⟨_, rfl⟩
              obtain ⟨Be, hBe⟩ : ∃ Be, w53.heap.size = Be := ⟨_, rfl⟩
              have bb : Below w53.heap.size w53 w56 := by rw [hnw]; exact (Below.refl _ _).alloc (Nat.le_refl _) _
              have hPl := rP.lt
              have rP := rP.of_block (bb.block _ rP.lt)
              have hB := hB.trans (bb.mono hB.size)
              rw [← hnw, hBe]
              refine hK.out _ _ trivial (fun hHeld => ?_)
              clear hK K hnw
              try simp only [Act.put, List.setIfInBounds_toArray, List.set_cons_zero, List.set_cons_succ]
              refine wpXs 3 rfl (by kernel_rfl) (fun K hK => ?_)
              go_simp
              obtain ⟨w57, hnw⟩ : ∃ w57, w57 = w56.alloc (.cells #[.int .i64 1, .slice none 0 0, .slice none 0 0, .int .i64 2, .slice none 0 0, .slice none 0 0, .int .i64 3, .slice none 0 0, .slice none 0 0] 27) := ⟨_, rfl⟩
              obtain ⟨Bi, hBi⟩ : ∃ Bi, w56.heap.size = Bi := ⟨_, rfl⟩
              have bb : Below w56.heap.size w56 w57 := by rw [hnw]; exact (Below.refl _ _).alloc (Nat.le_refl _) _
              have hPl := rP.lt
              have rP := rP.of_block (bb.block _ rP.lt)
              have fI := te_new w56 1 2 3 w57 hnw
              rw [hBi] at fI
              have lBi : Bi < w57.heap.size := by rw [hnw, ← hBi]; simp
              have hPB : P ≠ Bi := by omega
              have hB := hB.trans (bb.mono hB.size)
              rw [← hnw, hBi]
              refine hK.out _ _ trivial (fun hHeld => ?_)
              clear hK K hnw
              try simp only [Act.put, List.setIfInBounds_toArray, List.set_cons_zero, List.set_cons_succ]
              refine wpXt (v := ?_) 6 rfl (by kernel_rfl) (fun _ _ _ h => h) (by rfl) ?_ hHeld ?_
              rotate_left
              · intro w' hSw
                go_simp <;> with_reducible rfl
              try simp only [Act.put, List.setIfInBounds_toArray, List.set_cons_zero, List.set_cons_succ]
              have x0 := rP.cell (i := 0) (by omega)
              have x1 := rP.cell (i := 1) (by omega)
              have x2 := rP.cell (i := 2) (by omega)
              have z0 := rP.frozen 0
              have z1 := rP.frozen 1
              have z2 := rP.frozen 2
              have HCUT : Hid (TeB W k _ _) := te_set (k := k) (Be := Be) rP fI hPB hB lP
              refine wpXs 8 rfl (by kernel_rfl) (fun K hK => ?_)
              go_simp
              refine hK.out _ _ trivial (fun hHeld => ?_)
              clear hK K
              try simp only [Act.put, List.setIfInBounds_toArray, List.set_cons_zero, List.set_cons_succ]
              refine wpAnyX_done (by kernel_rfl) ?_ _
              go_wp2
              go_meet
              exact HCUT.out
          · go_simp
            obtain ⟨w58, hnw⟩ : ∃ w58, w58 = w52.alloc (.cells ecs 58) := ⟨_, rfl⟩
            obtain ⟨Be, hBe⟩ : ∃ Be, w52.heap.size = Be := ⟨_, rfl⟩
            have bb : Below w52.heap.size w52 w58 := by rw [hnw]; exact (Below.refl _ _).alloc (Nat.le_refl _) _
            have hPl := rP.lt
            have rP := rP.of_block (bb.block _ rP.lt)
            have hB := hB.trans (bb.mono hB.size)
            rw [← hnw, hBe]
            refine hK.out _ _ trivial (fun hHeld => ?_)
            clear hK K hnw
            try simp only [Act.put, List.setIfInBounds_toArray, List.set_cons_zero, List.set_cons_succ]
            refine wpXs 2 rfl (by kernel_rfl) (fun K hK => ?_)
            go_simp
            refine (op_bareT 3 _).mono ?_
            rintro e w59 ⟨rfl, bb⟩
            have hPl := rP.lt
            have rP := rP.of_block (bb.block _ rP.lt)
            have hB := hB.trans (bb.mono hB.size)
            refine hK.out _ _ trivial (fun hHeld => ?_)
            clear hK K
            try simp only [Act.put, List.setIfInBounds_toArray, List.set_cons_zero, List.set_cons_succ]
            refine wpXs 3 rfl (by kernel_rfl) (fun K hK => ?_)
            go_simp
            obtain ⟨w60, hnw⟩ : ∃ w60, w60 = w59.alloc (.cells #[.int .i64 1, .slice none 0 0, .slice none 0 0, .int .i64 2, .slice none 0 0, .slice none 0 0, .int .i64 3, .slice none 0 0, .slice none 0 0] 27) := ⟨_, rfl⟩
            obtain ⟨Bi, hBi⟩ : ∃ Bi, w59.heap.size = Bi := ⟨_, rfl⟩
            have bb : Below w59.heap.size w59 w60 := by rw [hnw]; exact (Below.refl _ _).alloc (Nat.le_refl _) _
            have hPl := rP.lt
            have rP := rP.of_block (bb.block _ rP.lt)
            have fI := te_new w59 1 2 3 w60 hnw
            rw [hBi] at fI
            have lBi : Bi < w60.heap.size := by rw [hnw, ← hBi]; simp
            have hPB : P ≠ Bi := by omega
            have hB := hB.trans (bb.mono hB.size)
            rw [← hnw, hBi]
            refine hK.out _ _ trivial (fun hHeld => ?_)
            clear hK K hnw
            try simp only [Act.put, List.setIfInBounds_toArray, List.set_cons_zero, List.set_cons_succ]
            refine wpXt (v := ?_) 6 rfl (by kernel_rfl) (fun _ _ _ h => h) (by rfl) ?_ hHeld ?_
            rotate_left
            · intro w' hSw
              go_simp <;> with_reducible rfl
            try simp only [Act.put, List.setIfInBounds_toArray, List.set_cons_zero, List.set_cons_succ]
            have x0 := rP.cell (i := 0) (by omega)
            have x1 := rP.cell (i := 1) (by omega)
            have x2 := rP.cell (i := 2) (by omega)
            have z0 := rP.frozen 0
            have z1 := rP.frozen 1
            have z2 := rP.frozen 2
            have HCUT : Hid (TeB W k _ _) := te_set (k := k) (Be := Be) rP fI hPB hB lP
            refine wpXs 8 rfl (by kernel_rfl) (fun K hK => ?_)
            go_simp
            refine hK.out _ _ trivial (fun hHeld => ?_)
            clear hK K
            try simp only [Act.put, List.setIfInBounds_toArray, List.set_cons_zero, List.set_cons_succ]
            refine wpAnyX_done (by kernel_rfl) ?_ _
            go_wp2
            go_meet
            exact HCUT.out
        · go_simp
          obtain ⟨w61, hnw⟩ : ∃ w61, w61 = w51.alloc (.cells ecs 58) := ⟨_, rfl⟩
          obtain ⟨Be, hBe⟩ : ∃ Be, w51.heap.size = Be := ⟨_, rfl⟩
          have bb : Below w51.heap.size w51 w61 := by rw [hnw]; exact (Below.refl _ _).alloc (Nat.le_refl _) _
          have hPl := rP.lt
          have rP := rP.of_block (bb.block _ rP.lt)
          have hB := hB.trans (bb.mono hB.size)
          rw [← hnw, hBe]
          refine hK.out _ _ trivial (fun hHeld => ?_)
          clear hK K hnw
          try simp only [Act.put, List.setIfInBounds_toArray, List.set_cons_zero, List.set_cons_succ]
          refine wpXs 1 rfl (by kernel_rfl) (fun K hK => ?_)
          go_simp
          refine (op_bareT 2 _).mono ?_
          rintro e w62 ⟨rfl, bb⟩
          have hPl := rP.lt
          have rP := rP.of_block (bb.block _ rP.lt)
          have hB := hB.trans (bb.mono hB.size)
          refine hK.out _ _ trivial (fun hHeld => ?_)
          clear hK K
          try simp only [Act.put, List.setIfInBounds_toArray, List.set_cons_zero, List.set_cons_succ]
          refine wpXs 2 rfl (by kernel_rfl) (fun K hK => ?_)
          go_simp
          refine (op_bareT 3 _).mono ?_
          rintro e w63 ⟨rfl, bb⟩
          have hPl := rP.lt
          have rP := rP.of_block (bb.block _ rP.lt)
          have hB := hB.trans (bb.mono hB.size)
          refine hK.out _ _ trivial (fun hHeld => ?_)
          clear hK K
          try simp only [Act.put, List.setIfInBounds_toArray, List.set_cons_zero, List.set_cons_succ]
          refine wpXs 3 rfl (by kernel_rfl) (fun K hK => ?_)
          go_simp
          obtain ⟨w64, hnw⟩ : ∃ w64, w64 = w63.alloc (.cells #[.int .i64 1, .slice none 0 0, .slice none 0 0, .int .i64 2, .slice none 0 0, .slice none 0 0, .int .i64 3, .slice none 0 0, .slice none 0 0] 27) := ⟨_, rfl⟩
          obtain ⟨Bi, hBi⟩ : ∃ Bi, w63.heap.size = Bi := ⟨_, rfl⟩
          have bb : Below w63.heap.size w63 w64 := by rw [hnw]; exact (Below.refl _ _).alloc (Nat.le_refl _) _
          have hPl := rP.lt
          have rP := rP.of_block (bb.block _ rP.lt)
          have fI := te_new w63 1 2 3 w64 hnw
          rw [hBi] at fI
          have lBi : Bi < w64.heap.size := by rw [hnw, ← hBi]; simp
          have hPB : P ≠ Bi := by omega
          have hB := hB.trans (bb.mono hB.size)
          rw [← hnw, hBi]
          refine hK.out _ _ trivial (fun hHeld => ?_)
          clear hK K hnw
          try simp only [Act.put, List.setIfInBounds_toArray, List.set_cons_zero, List.set_cons_succ]
          refine wpXt (v := ?_) 6 rfl (by kernel_rfl) (fun _ _ _ h => h) (by rfl) ?_ hHeld ?_
          rotate_left
          · intro w' hSw
            go_simp <;> with_reducible rfl
          try simp only [Act.put, List.setIfInBounds_toArray, List.set_cons_zero, List.set_cons_succ]
          have x0 := rP.cell (i := 0) (by omega)
          have x1 := rP.cell (i := 1) (by omega)
          have x2 := rP.cell (i := 2) (by omega)
          have z0 := rP.frozen 0
          have z1 := rP.frozen 1
          have z2 := rP.frozen 2
          have HCUT : Hid (TeB W k _ _) := te_set (k := k) (Be := Be) rP fI hPB hB lP
          refine wpXs 8 rfl (by kernel_rfl) (fun K hK => ?_)
          go_simp
          refine hK.out _ _ trivial (fun hHeld => ?_)
          clear hK K
          try simp only [Act.put, List.setIfInBounds_toArray, List.set_cons_zero, List.set_cons_succ]
          refine wpAnyX_done (by kernel_rfl) ?_ _
          go_wp2
          go_meet
          exact HCUT.out
    · go_simp
      obtain ⟨w65, hnw⟩ : ∃ w65, w65 = w0.alloc (.cells ecs 58) := ⟨_, rfl⟩
      obtain ⟨Be, hBe⟩ : ∃ Be, w0.heap.size = Be := ⟨_, rfl⟩
      have bb : Below w0.heap.size w0 w65 := by rw [hnw]; exact (Below.refl _ _).alloc (Nat.le_refl _) _
      have hB := hB.trans (bb.mono hB.size)
      rw [← hnw, hBe]
      refine hK.out _ _ trivial (fun hHeld => ?_)
      clear hK K hnw
      try simp only [Act.put, List.setIfInBounds_toArray, List.set_cons_zero, List.set_cons_succ]
      refine wpX_two 0 7 rfl rfl (by kernel_rfl) (fun K hK => ?_) (fun K hK => ?_)
      · go_simp
        refine (op_bareT 1 _).mono ?_
        rintro e w66 ⟨rfl, bb⟩
        have hB := hB.trans (bb.mono hB.size)
        refine hK.out _ _ trivial (fun hHeld => ?_)
        clear hK K
        try simp only [Act.put, List.setIfInBounds_toArray, List.set_cons_zero, List.set_cons_succ]
        refine wpX_two 1 7 rfl rfl (by kernel_rfl) (fun K hK => ?_) (fun K hK => ?_)
        · go_simp
          refine (op_bareT 2 _).mono ?_
          rintro e w67 ⟨rfl, bb⟩
          have hB := hB.trans (bb.mono hB.size)
          refine hK.out _ _ trivial (fun hHeld => ?_)
          clear hK K
          try simp only [Act.put, List.setIfInBounds_toArray, List.set_cons_zero, List.set_cons_succ]
          refine wpX_two 2 7 rfl rfl (by kernel_rfl) (fun K hK => ?_) (fun K hK => ?_)
          · go_simp
            refine (op_bareT 3 _).mono ?_
            rintro e w68 ⟨rfl, bb⟩
            have hB := hB.trans (bb.mono hB.size)
            refine hK.out _ _ trivial (fun hHeld => ?_)
            clear hK K
            try simp only [Act.put, List.setIfInBounds_toArray, List.set_cons_zero, List.set_cons_succ]
            refine wpX_two 3 7 rfl rfl (by kernel_rfl) (fun K hK => ?_) (fun K hK => ?_)
            · go_simp
              obtain ⟨w69, hnw⟩ : ∃ w69, w69 = w68.alloc (.cells #[.int .i64 1, .slice none 0 0, .slice none 0 0, .int .i64 2, .slice none 0 0, .slice none 0 0, .int .i64 3, .slice none 0 0, .slice none 0 0] 27) := ⟨_, rfl⟩
              obtain ⟨Bi, hBi⟩ : ∃ Bi, w68.heap.size = Bi := ⟨_, rfl⟩
              have bb : Below w68.heap.size w68 w69 := by rw [hnw]; exact (Below.refl _ _).alloc (Nat.le_refl _) _
              have fI := te_new w68 1 2 3 w69 hnw
              rw [hBi] at fI
              have lBi : Bi < w69.heap.size := by rw [hnw, ← hBi]; simp
              have hB := hB.trans (bb.mono hB.size)
              rw [← hnw, hBi]
              refine hK.out _ _ trivial (fun hHeld => ?_)
              clear hK K hnw
              try simp only [Act.put, List.setIfInBounds_toArray, List.set_cons_zero, List.set_cons_succ]
              refine wpXt (v := ?_) 6 rfl (by kernel_rfl) (fun _ _ _ h => h) (by rfl) ?_ hHeld ?_
              rotate_left
              · intro w' hSw
                go_simp <;> with_reducible rfl
              try simp only [Act.put, List.setIfInBounds_toArray, List.set_cons_zero, List.set_cons_succ]
              refine wpXs 7 rfl (by kernel_rfl) (fun K hK => ?_)
              go_simp
              obtain ⟨w70, hnw⟩ : ∃ w70, w70 = w69.alloc (.cells #[.slice none 0 0, .slice none 0 0, .slice none 0 0] 32) := ⟨_, rfl⟩
              obtain ⟨P, hP⟩ : ∃ P, w69.heap.size = P := ⟨_, rfl⟩
              have bb : Below w69.heap.size w69 w70 := by rw [hnw]; exact (Below.refl _ _).alloc (Nat.le_refl _) _
              have fI := fI.below bb (RIns.below bb)
              have lBi := Nat.lt_of_lt_of_le lBi bb.size
              have rP : w70.rowIs P 32 3 (fun _ => .slice none 0 0) := by
                rw [hnw, ← hP]
                exact World.rowIs_alloc _ _ _ _ fun i hi => by
                  simp at hi
                  match i, hi with | 0, _ => rfl | 1, _ => rfl | 2, _ => rfl
              have lP : W.heap.size ≤ P := by rw [← hP]; exact hB.size
              have hPB : P ≠ Bi := by omega
              have hB := hB.trans (bb.mono hB.size)
              rw [← hnw, hP]
              refine hK.out _ _ trivial (fun hHeld => ?_)
              clear hK K hnw
              try simp only [Act.put, List.setIfInBounds_toArray, List.set_cons_zero, List.set_cons_succ]
              have x0 := rP.cell (i := 0) (by omega)
              have x1 := rP.cell (i := 1) (by omega)
              have x2 := rP.cell (i := 2) (by omega)
              have z0 := rP.frozen 0
              have z1 := rP.frozen 1
              have z2 := rP.frozen 2
              have HCUT : Hid (TeB W k _ _) := te_set (k := k) (Be := Be) rP fI hPB hB lP
              refine wpXs 8 rfl (by kernel_rfl) (fun K hK => ?_)
              go_simp
              refine hK.out _ _ trivial (fun hHeld => ?_)
              clear hK K
              try simp only [Act.put, List.setIfInBounds_toArray, List.set_cons_zero, List.set_cons_succ]
              refine wpAnyX_done (by kernel_rfl) ?_ _
              go_wp2
              go_meet
              exact HCUT.out
            · go_simp
              obtain ⟨w71, hnw⟩ : ∃ w71, w71 = w68.alloc (.cells #[.slice none 0 0, .slice none 0 0, .slice none 0 0] 32) := ⟨_, rfl⟩
              obtain ⟨P, hP⟩ : ∃ P, w68.heap.size = P := ⟨_, rfl⟩
              have bb : Below w68.heap.size w68 w71 := by rw [hnw]; exact (Below.refl _ _).alloc (Nat.le_refl _) _
              have rP : w71.rowIs P 32 3 (fun _ => .slice none 0 0) := by
                rw [hnw, ← hP]
                exact World.rowIs_alloc _ _ _ _ fun i hi => by
                  simp at hi
                  match i, hi with | 0, _ => rfl | 1, _ => rfl | 2, _ => rfl
              have lP : W.heap.size ≤ P := by rw [← hP]; exact hB.size
              have hB := hB.trans (bb.mono hB.size)
              rw [← hnw, hP]
              refine hK.out _ _ trivial (fun hHeld => ?_)
              clear hK K hnw
              try simp only [Act.put, List.setIfInBounds_toArray, List.set_cons_zero, List.set_cons_succ]
              refine wpXs 3 rfl (by kernel_rfl) (fun K hK => ?_)
              go_simp
              obtain ⟨w72, hnw⟩ : ∃ w72, w72 = w71.alloc (.cells #[.int .i64 1, .slice none 0 0, .slice none 0 0, .int .i64 2, .slice none 0 0, .slice none 0 0, .int .i64 3, .slice none 0 0, .slice none 0 0] 27) := ⟨_, rfl⟩
              obtain ⟨Bi, hBi⟩ : ∃ Bi, w71.heap.size = Bi := ⟨_, rfl⟩
              have bb : Below w71.heap.size w71 w72 := by rw [hnw]; exact (Below.refl _ _).alloc (Nat.le_refl _) _
              have hPl := rP.lt
              have rP := rP.of_block (bb.block _ rP.lt)
              have fI := te_new w71 1 2 3 w72 hnw
              rw [hBi] at fI
              have lBi : Bi < w72.heap.size := by rw [hnw, ← hBi]; simp
              have hPB : P ≠ Bi := by omega
              have hB := hB.trans (bb.mono hB.size)
              rw [← hnw, hBi]
              refine hK.out _ _ trivial (fun hHeld => ?_)
              clear hK K hnw
              try simp only [Act.put, List.setIfInBounds_toArray, List.set_cons_zero, List.set_cons_succ]
              refine wpXt (v := ?_) 6 rfl (by kernel_rfl) (fun _ _ _ h => h) (by rfl) ?_ hHeld ?_
              rotate_left
              · intro w' hSw
                go_simp <;> with_reducible rfl
              try simp only [Act.put, List.setIfInBounds_toArray, List.set_cons_zero, List.set_cons_succ]
              have x0 := rP.cell (i := 0) (by omega)
              have x1 := rP.cell (i := 1) (by omega)
              have x2 := rP.cell (i := 2) (by omega)
              have z0 := rP.frozen 0
              have z1 := rP.frozen 1
              have z2 := rP.frozen 2
              have HCUT : Hid (TeB W k _ _) := te_set (k := k) (Be := Be) rP fI hPB hB lP
              refine wpXs 8 rfl (by kernel_rfl) (fun K hK => ?_)
              go_simp
              refine hK.out _ _ trivial (fun hHeld => ?_)
              clear hK K
              try simp only [Act.put, List.setIfInBounds_toArray, List.set_cons_zero, List.set_cons_succ]
              refine wpAnyX_done (by kernel_rfl) ?_ _
              go_wp2
              go_meet
              exact HCUT.out
          · go_simp
            obtain ⟨w73, hnw⟩ : ∃ w73, w73 = w67.alloc (.cells #[.slice none 0 0, .slice none 0 0, .slice none 0 0] 32) := ⟨_, rfl⟩
            obtain ⟨P, hP⟩ : ∃ P, w67.heap.size = P := ⟨_, rfl⟩
            have bb : Below w67.heap.size w67 w73 := by rw [hnw]; exact (Below.refl _ _).alloc (Nat.le_refl _) _
            have rP : w73.rowIs P 32 3 (fun _ => .slice none 0 0) := by
              rw [hnw, ← hP]
              exact World.rowIs_alloc _ _ _ _ fun i hi => by
                simp at hi
                match i, hi with | 0, _ => rfl | 1, _ => rfl | 2, _ => rfl
            have lP : W.heap.size ≤ P := by rw [← hP]; exact hB.size
            have hB := hB.trans (bb.mono hB.size)
            rw [← hnw, hP]
            refine hK.out _ _ trivial (fun hHeld => ?_)
            clear hK K hnw
            try simp only [Act.put, List.setIfInBounds_toArray, List.set_cons_zero, List.set_cons_succ]
            refine wpXs 2 rfl (by kernel_rfl) (fun K hK => ?_)
            go_simp
            refine (op_bareT 3 _).mono ?_
            rintro e w74 ⟨rfl, bb⟩
            have hPl := rP.lt
            have rP := rP.of_block (bb.block _ rP.lt)
            have hB := hB.trans (bb.mono hB.size)
            refine hK.out _ _ trivial (fun hHeld => ?_)
            clear hK K
            try simp only [Act.put, List.setIfInBounds_toArray, List.set_cons_zero, List.set_cons_succ]
            refine wpXs 3 rfl (by kernel_rfl) (fun K hK => ?_)
            go_simp
            obtain ⟨w75, hnw⟩ : ∃ w75, w75 = w74.alloc (.cells #[.int .i64 1, .slice none 0 0, .slice none 0 0, .int .i64 2, .slice none 0 0, .slice none 0 0, .int .i64 3, .slice none 0 0, .slice none 0 0] 27) := ⟨_, rfl⟩
            obtain ⟨Bi, hBi⟩ : ∃ Bi, w74.heap.size = Bi := ⟨_, rfl⟩
            have bb : Below w74.heap.size w74 w75 := by rw [hnw]; exact (Below.refl _ _).alloc (Nat.le_refl _) _
            have hPl := rP.lt
            have rP := rP.of_block (bb.block _ rP.lt)
            have fI := te_new w74 1 2 3 w75 hnw
            rw [hBi] at fI
            have lBi : Bi < w75.heap.size := by rw [hnw, ← hBi]; simp
            have hPB : P ≠ Bi := by omega
            have hB := hB.trans (bb.mono hB.size)
            rw [← hnw, hBi]
            refine hK.out _ _ trivial (fun hHeld => ?_)
            clear hK K hnw
            try simp only [Act.put, List.setIfInBounds_toArray, List.set_cons_zero, List.set_cons_succ]
            refine wpXt (v := ?_) 6 rfl (by kernel_rfl) (fun _ _ _ h => h) (by rfl) ?_ hHeld ?_
            rotate_left
            · intro w' hSw
              go_simp <;> with_reducible rfl
            try simp only [Act.put, List.setIfInBounds_toArray, List.set_cons_zero, List.set_cons_succ]
            have x0 := rP.cell (i := 0) (by omega)
            have x1 := rP.cell (i := 1) (by omega)
            have x2 := rP.cell (i := 2) (by omega)
            have z0 := rP.frozen 0
            have z1 := rP.frozen 1
            have z2 := rP.frozen 2
            have HCUT : Hid (TeB W k _ _) := te_set (k := k) (Be := Be) rP fI hPB hB lP
            refine wpXs 8 rfl (by kernel_rfl) (fun K hK => ?_)
            go_simp
            refine hK.out _ _ trivial (fun hHeld => ?_)
            clear hK K
            try simp only [Act.put, List.setIfInBounds_toArray, List.set_cons_zero, List.set_cons_succ]
            refine wpAnyX_done (by kernel_rfl) ?_ _
            go_wp2
            go_meet
            exact HCUT.out
        · go_simp
          obtain ⟨w76, hnw⟩ : ∃ w76, w76 = w66.alloc (.cells #[.slice none 0 0, .slice none 0 0, .slice none 0 0] 32) := ⟨_, rfl⟩
          obtain ⟨P, hP⟩ : ∃ P, w66.heap.size = P := ⟨_, rfl⟩
          have bb : Below w66.heap.size w66 w76 := by rw [hnw]; exact (Below.refl _ _).alloc (Nat.le_refl _) _
          have rP : w76.rowIs P 32 3 (fun _ => .slice none 0 0) := by
            rw [hnw, ← hP]
            exact World.rowIs_alloc _ _ _ _ fun i hi => by
              simp at hi
              match i, hi with | 0, _ => rfl | 1, _ => rfl | 2, _ => rfl
          have lP : W.heap.size ≤ P := by rw [← hP]; exact hB.size
          have hB := hB.trans (bb.mono hB.size)
          rw [← hnw, hP]
          refine hK.out _ _ trivial (fun hHeld => ?_)
          clear hK K hnw
          try simp only [Act.put, List.setIfInBounds_toArray, List.set_cons_zero, List.set_cons_succ]
          refine wpXs 1 rfl (by kernel_rfl) (fun K hK => ?_)
          go_simp
          refine (op_bareT 2 _).mono ?_
          rintro e w77 ⟨rfl, bb⟩
          have hPl := rP.lt
          have rP := rP.of_block (bb.block _ rP.lt)
          have hB := hB.trans (bb.mono hB.size)
          refine hK.out _ _ trivial (fun hHeld => ?_)
          clear hK K
          try simp only [Act.put, List.setIfInBounds_toArray, List.set_cons_zero, List.set_cons_succ]
          refine wpXs 2 rfl (by kernel_rfl) (fun K hK => ?_)
          go_simp
          refine (op_bareT 3 _).mono ?_
          rintro e w78 ⟨rfl, bb⟩
          have hPl := rP.lt
          have rP := rP.of_block (bb.block _ rP.lt)
          have hB := hB.trans (bb.mono hB.size)
          refine hK.out _ _ trivial (fun hHeld => ?_)
          clear hK K
          try simp only [Act.put, List.setIfInBounds_toArray, List.set_cons_zero, List.set_cons_succ]
          refine wpXs 3 rfl (by kernel_rfl) (fun K hK => ?_)
          go_simp
          obtain ⟨w79, hnw⟩ : ∃ w79, w79 = w78.alloc (.cells #[.int .i64 1, .slice none 0 0, .slice none 0 0, .int .i64 2, .slice none 0 0, .slice none 0 0, .int .i64 3, .slice none 0 0, .slice none 0 0] 27) := ⟨_, rfl⟩
          obtain ⟨Bi, hBi⟩ : ∃ Bi, w78.heap.size = Bi := ⟨_, rfl⟩
          have bb : Below w78.heap.size w78 w79 := by rw [hnw]; exact (Below.refl _ _).alloc (Nat.le_refl _) _
          have hPl := rP.lt
          have rP := rP.of_block (bb.block _ rP.lt)
          have fI := te_new w78 1 2 3 w79 hnw
          rw [hBi] at fI
          have lBi : Bi < w79.heap.size := by rw [hnw, ← hBi]; simp
          have hPB : P ≠ Bi := by omega
          have hB := hB.trans (bb.mono hB.size)
          rw [← hnw, hBi]
          refine hK.out _ _ trivial (fun hHeld => ?_)
          clear hK K hnw
          try simp only [Act.put, List.setIfInBounds_toArray, List.set_cons_zero, List.set_cons_succ]
          refine wpXt (v := ?_) 6 rfl (by kernel_rfl) (fun _ _ _ h => h) (by rfl) ?_ hHeld ?_
          rotate_left
          · intro w' hSw
            go_simp <;> with_reducible rfl
          try simp only [Act.put, List.setIfInBounds_toArray, List.set_cons_zero, List.set_cons_succ]
          have x0 := rP.cell (i := 0) (by omega)
          have x1 := rP.cell (i := 1) (by omega)
          have x2 := rP.cell (i := 2) (by omega)
          have z0 := rP.frozen 0
          have z1 := rP.frozen 1
          have z2 := rP.frozen 2
          have HCUT : Hid (TeB W k _ _) := te_set (k := k) (Be := Be) rP fI hPB hB lP
          refine wpXs 8 rfl (by kernel_rfl) (fun K hK => ?_)
          go_simp
          refine hK.out _ _ trivial (fun hHeld => ?_)
          clear hK K
          try simp only [Act.put, List.setIfInBounds_toArray, List.set_cons_zero, List.set_cons_succ]
          refine wpAnyX_done (by kernel_rfl) ?_ _
          go_wp2
          go_meet
          exact HCUT.out
      · go_simp
        obtain ⟨w80, hnw⟩ : ∃ w80, w80 = w65.alloc (.cells #[.slice none 0 0, .slice none 0 0, .slice none 0 0] 32) := ⟨_, rfl⟩
        obtain ⟨P, hP⟩ : ∃ P, w65.heap.size = P := ⟨_, rfl⟩
        have bb : Below w65.heap.size w65 w80 := by rw [hnw]; exact (Below.refl _ _).alloc (Nat.le_refl _) _
        have rP : w80.rowIs P 32 3 (fun _ => .slice none 0 0) := by
          rw [hnw, ← hP]
          exact World.rowIs_alloc _ _ _ _ fun i hi => by
            simp at hi
            match i, hi with | 0, _ => rfl | 1, _ => rfl | 2, _ => rfl
        have lP : W.heap.size ≤ P := by rw [← hP]; exact hB.size
        have hB := hB.trans (bb.mono hB.size)
        rw [← hnw, hP]
        refine hK.out _ _ trivial (fun hHeld => ?_)
        clear hK K hnw
        try simp only [Act.put, List.setIfInBounds_toArray, List.set_cons_zero, List.set_cons_succ]
        refine wpXs 0 rfl (by kernel_rfl) (fun K hK => ?_)
        go_simp
        refine (op_bareT 1 _).mono ?_
        rintro e w81 ⟨rfl, bb⟩
        have hPl := rP.lt
        have rP := rP.of_block (bb.block _ rP.lt)
        have hB := hB.trans (bb.mono hB.size)
        refine hK.out _ _ trivial (fun hHeld => ?_)
        clear hK K
        try simp only [Act.put, List.setIfInBounds_toArray, List.set_cons_zero, List.set_cons_succ]
        refine wpXs 1 rfl (by kernel_rfl) (fun K hK => ?_)
        go_simp
        refine (op_bareT 2 _).mono ?_
        rintro e w82 ⟨rfl, bb⟩
        have hPl := rP.lt
        have rP := rP.of_block (bb.block _ rP.lt)
        have hB := hB.trans (bb.mono hB.size)
        refine hK.out _ _ trivial (fun hHeld => ?_)
        clear hK K
        try simp only [Act.put, List.setIfInBounds_toArray, List.set_cons_zero, List.set_cons_succ]
        refine wpXs 2 rfl (by kernel_rfl) (fun K hK => ?_)
        go_simp
        refine (op_bareT 3 _).mono ?_
        rintro e w83 ⟨rfl, bb⟩
        have hPl := rP.lt
        have rP := rP.of_block (bb.block _ rP.lt)
        have hB := hB.trans (bb.mono hB.size)
        refine hK.out _ _ trivial (fun hHeld => ?_)
        clear hK K
        try simp only [Act.put, List.setIfInBounds_toArray, List.set_cons_zero, List.set_cons_succ]
        refine wpXs 3 rfl (by kernel_rfl) (fun K hK => ?_)
        go_simp
        obtain ⟨w84, hnw⟩ : ∃ w84, w84 = w83.alloc (.cells #[.int .i64 1, .slice none 0 0, .slice none 0 0, .int .i64 2, .slice none 0 0, .slice none 0 0, .int .i64 3, .slice none 0 0, .slice none 0 0] 27) := ⟨_, rfl⟩
        obtain ⟨Bi, hBi⟩ : ∃ Bi, w83.heap.size = Bi := ⟨_, rfl⟩
        have bb : Below w83.heap.size w83 w84 := by rw [hnw]; exact (Below.refl _ _).alloc (Nat.le_refl _) _
        have hPl := rP.lt
        have rP := rP.of_block (bb.block _ rP.lt)
        have fI := te_new w83 1 2 3 w84 hnw
        rw [hBi] at fI
        have lBi : Bi < w84.heap.size := by rw [hnw, ← hBi]; simp
        have hPB : P ≠ Bi := by omega
        have hB := hB.trans (bb.mono hB.size)
        rw [← hnw, hBi]
        refine hK.out _ _ trivial (fun hHeld => ?_)
        clear hK K hnw
        try simp only [Act.put, List.setIfInBounds_toArray, List.set_cons_zero, List.set_cons_succ]
        refine wpXt (v := ?_) 6 rfl (by kernel_rfl) (fun _ _ _ h => h) (by rfl) ?_ hHeld ?_
        rotate_left
        · intro w' hSw
          go_simp <;> with_reducible rfl
        try simp only [Act.put, List.setIfInBounds_toArray, List.set_cons_zero, List.set_cons_succ]
        have x0 := rP.cell (i := 0) (by omega)
        have x1 := rP.cell (i := 1) (by omega)
        have x2 := rP.cell (i := 2) (by omega)
        have z0 := rP.frozen 0
        have z1 := rP.frozen 1
        have z2 := rP.frozen 2
        have HCUT : Hid (TeB W k _ _) := te_set (k := k) (Be := Be) rP fI hPB hB lP
        refine wpXs 8 rfl (by kernel_rfl) (fun K hK => ?_)
        go_simp
        refine hK.out _ _ trivial (fun hHeld => ?_)
        clear hK K
        try simp only [Act.put, List.setIfInBounds_toArray, List.set_cons_zero, List.set_cons_succ]
        refine wpAnyX_done (by kernel_rfl) ?_ _
        go_wp2
        go_meet
        exact HCUT.out
    · go_simp
      obtain ⟨w85, hnw⟩ : ∃ w85, w85 = w0.alloc (.cells #[.slice none 0 0, .slice none 0 0, .slice none 0 0] 32) := ⟨_, rfl⟩
      obtain ⟨P, hP⟩ : ∃ P, w0.heap.size = P := ⟨_, rfl⟩
      have bb : Below w0.heap.size w0 w85 := by rw [hnw]; exact (Below.refl _ _).alloc (Nat.le_refl _) _
      have rP : w85.rowIs P 32 3 (fun _ => .slice none 0 0) := by
        rw [hnw, ← hP]
        exact World.rowIs_alloc _ _ _ _ fun i hi => by
          simp at hi
          match i, hi with | 0, _ => rfl | 1, _ => rfl | 2, _ => rfl
      have lP : W.heap.size ≤ P := by rw [← hP]; exact hB.size
      have hB := hB.trans (bb.mono hB.size)
      rw [← hnw, hP]
      refine hK.out _ _ trivial (fun hHeld => ?_)
      clear hK K hnw
      try simp only [Act.put, List.setIfInBounds_toArray, List.set_cons_zero, List.set_cons_succ]
      refine wpX_two 0 5 rfl rfl (by kernel_rfl) (fun K hK => ?_) (fun K hK => ?_)
      · go_simp
        refine (op_bareT 1 _).mono ?_
        rintro e w86 ⟨rfl, bb⟩
        have hPl := rP.lt
        have rP := rP.of_block (bb.block _ rP.lt)
        have hB := hB.trans (bb.mono hB.size)
        refine hK.out _ _ trivial (fun hHeld => ?_)
        clear hK K
        try simp only [Act.put, List.setIfInBounds_toArray, List.set_cons_zero, List.set_cons_succ]
        refine wpX_two 1 5 rfl rfl (by kernel_rfl) (fun K hK => ?_) (fun K hK => ?_)
        · go_simp
          refine (op_bareT 2 _).mono ?_
          rintro e w87 ⟨rfl, bb⟩
          have hPl := rP.lt
          have rP := rP.of_block (bb.block _ rP.lt)
          have hB := hB.trans (bb.mono hB.size)
          refine hK.out _ _ trivial (fun hHeld => ?_)
          clear hK K
          try simp only [Act.put, List.setIfInBounds_toArray, List.set_cons_zero, List.set_cons_succ]
          refine wpX_two 2 5 rfl rfl (by kernel_rfl) (fun K hK => ?_) (fun K hK => ?_)
          · go_simp
            refine (op_bareT 3 _).mono ?_
            rintro e w88 ⟨rfl, bb⟩
            have hPl := rP.lt
            have rP := rP.of_block (bb.block _ rP.lt)
            have hB := hB.trans (bb.mono hB.size)
            refine hK.out _ _ trivial (fun hHeld => ?_)
            clear hK K
            try simp only [Act.put, List.setIfInBounds_toArray, List.set_cons_zero, List.set_cons_succ]
            refine wpX_two 3 5 rfl rfl (by kernel_rfl) (fun K hK => ?_) (fun K hK => ?_)
            · go_simp
              obtain ⟨w89, hnw⟩ : ∃ w89, w89 = w88.alloc (.cells #[.int .i64 1, .slice none 0 0, .slice none 0 0, .int .i64 2, .slice none 0 0, .slice none 0 0, .int .i64 3, .slice none 0 0, .slice none 0 0] 27) := ⟨_, rfl⟩
              obtain ⟨Bi, hBi⟩ : ∃ Bi, w88.heap.size = Bi := ⟨_, rfl⟩
              have bb : Below w88.heap.size w88 w89 := by rw [hnw]; exact (Below.refl _ _).alloc (Nat.le_refl _) _
              have hPl := rP.lt
              have rP := rP.of_block (bb.block _ rP.lt)
              have fI := te_new w88 1 2 3 w89 hnw
              rw [hBi] at fI
              have lBi : Bi < w89.heap.size := by rw [hnw, ← hBi]; simp
              have hPB : P ≠ Bi := by omega
              have hB := hB.trans (bb.mono hB.size)
              rw [← hnw, hBi]
              refine hK.out _ _ trivial (fun hHeld => ?_)
              clear hK K hnw
              try simp only [Act.put, List.setIfInBounds_toArray, List.set_cons_zero, List.set_cons_succ]
              refine wpXs 5 rfl (by kernel_rfl) (fun K hK => ?_)
              go_simp
              obtain ⟨w90, hnw⟩ : ∃ w90, w90 = w89.alloc (.cells ecs 58) := ⟨_, rfl⟩
              obtain ⟨Be, hBe⟩ : ∃ Be, w89.heap.size = Be := ⟨_, rfl⟩
              have bb : Below w89.heap.size w89 w90 := by rw [hnw]; exact (Below.refl _ _).alloc (Nat.le_refl _) _
              have fI := fI.below bb (RIns.below bb)
              have lBi := Nat.lt_of_lt_of_le lBi bb.size
              have hPl := rP.lt
              have rP := rP.of_block (bb.block _ rP.lt)
              have hB := hB.trans (bb.mono hB.size)
              rw [← hnw, hBe]
              refine hK.out _ _ trivial (fun hHeld => ?_)
              clear hK K hnw
              try simp only [Act.put, List.setIfInBounds_toArray, List.set_cons_zero, List.set_cons_succ]
              refine wpXt (v := ?_) 6 rfl (by kernel_rfl) (fun _ _ _ h => h) (by rfl) ?_ hHeld ?_
              rotate_left
              · intro w' hSw
                go_simp <;> with_reducible rfl
              try simp only [Act.put, List.setIfInBounds_toArray, List.set_cons_zero, List.set_cons_succ]
              have x0 := rP.cell (i := 0) (by omega)
              have x1 := rP.cell (i := 1) (by omega)
              have x2 := rP.cell (i := 2) (by omega)
              have z0 := rP.frozen 0
              have z1 := rP.frozen 1
              have z2 := rP.frozen 2
              have HCUT : Hid (TeB W k _ _) := te_set (k := k) (Be := Be) rP fI hPB hB lP
              refine wpXs 8 rfl (by kernel_rfl) (fun K hK => ?_)
              go_simp
              refine hK.out _ _ trivial (fun hHeld => ?_)
              clear hK K
              try simp only [Act.put, List.setIfInBounds_toArray, List.set_cons_zero, List.set_cons_succ]
              refine wpAnyX_done (by kernel_rfl) ?_ _
              go_wp2
              go_meet
              exact HCUT.out
            · go_simp
              obtain ⟨w91, hnw⟩ : ∃ w91, w91 = w88.alloc (.cells ecs 58) := ⟨_, rfl⟩
              obtain ⟨Be, hBe⟩ : ∃ Be, w88.heap.size = Be := ⟨_, rfl⟩
              have bb : Below w88.heap.size w88 w91 := by rw [hnw]; exact (Below.refl _ _).alloc (Nat.le_refl _) _
              have hPl := rP.lt
              have rP := rP.of_block (bb.block _ rP.lt)
              have hB := hB.trans (bb.mono hB.size)
              rw [← hnw, hBe]
              refine hK.out _ _ trivial (fun hHeld => ?_)
              clear hK K hnw
              try simp only [Act.put, List.setIfInBounds_toArray, List.set_cons_zero, List.set_cons_succ]
              refine wpXs 3 rfl (by kernel_rfl) (fun K hK => ?_)
              go_simp
              obtain ⟨w92, hnw⟩ : ∃ w92, w92 = w91.alloc (.cells #[.int .i64 1, .slice none 0 0, .slice none 0 0, .int .i64 2, .slice none 0 0, .slice none 0 0, .int .i64 3, .slice none 0 0, .slice none 0 0] 27) := ⟨_, rfl⟩
              obtain ⟨Bi, hBi⟩ : ∃ Bi, w91.heap.size = Bi := ⟨_, rfl⟩
              have bb : Below w91.heap.size w91 w92 := by rw [hnw]; exact (Below.refl _ _).alloc (Nat.le_refl _) _
              have hPl := rP.lt
              have rP := rP.of_block (bb.block _ rP.lt)
              have fI := te_new w91 1 2 3 w92 hnw
              rw [hBi] at fI
              have lBi : Bi < w92.heap.size := by rw [hnw, ← hBi]; simp
              have hPB : P ≠ Bi := by omega
              have hB := hB.trans (bb.mono hB.size)
              rw [← hnw, hBi]
              refine hK.out _ _ trivial (fun hHeld => ?_)
              clear hK K hnw
              try simp only [Act.put, List.setIfInBounds_toArray, List.set_cons_zero, List.set_cons_succ]
              refine wpXt (v := ?_) 6 rfl (by kernel_rfl) (fun _ _ _ h => h) (by rfl) ?_ hHeld ?_
              rotate_left
              · intro w' hSw
                go_simp <;> with_reducible rfl
              try simp only [Act.put, List.setIfInBounds_toArray, List.set_cons_zero, List.set_cons_succ]
              have x0 := rP.cell (i := 0) (by omega)
              have x1 := rP.cell (i := 1) (by omega)
              have x2 := rP.cell (i := 2) (by omega)
              have z0 := rP.frozen 0
              have z1 := rP.frozen 1
              have z2 := rP.frozen 2
              have HCUT : Hid (TeB W k _ _) := te_set (k := k) (Be := Be) rP fI hPB hB lP
              refine wpXs 8 rfl (by kernel_rfl) (fun K hK => ?_)
              go_simp
              refine hK.out _ _ trivial (fun hHeld => ?_)
              clear hK K
              try simp only [Act.put, List.setIfInBounds_toArray, List.set_cons_zero, List.set_cons_succ]
              refine wpAnyX_done (by kernel_rfl) ?_ _
              go_wp2
              go_meet
              exact HCUT.out
          · go_simp
            obtain ⟨w93, hnw⟩ : ∃ w93, w93 = w87.alloc (.cells ecs 58) := ⟨_, rfl⟩
            obtain ⟨Be, hBe⟩ : ∃ Be, w87.heap.size = Be := ⟨_, rfl⟩
            have bb : Below w87.heap.size w87 w93 := by rw [hnw]; exact (Below.refl _ _).alloc (Nat.le_refl _) _
            have hPl := rP.lt
            have rP := rP.of_block (bb.block _ rP.lt)
            have hB := hB.trans (bb.mono hB.size)
            rw [← hnw, hBe]
            refine hK.out _ _ trivial (fun hHeld => ?_)
            clear hK K hnw
            try simp only [Act.put, List.setIfInBounds_toArray, List.set_cons_zero, List.set_cons_succ]
            refine wpXs 2 rfl (by kernel_rfl) (fun K hK => ?_)
            go_simp
            refine (op_bareT 3 _).mono ?_
            rintro e w94 ⟨rfl, bb⟩
            have hPl := rP.lt
            have rP := rP.of_block (bb.block _ rP.lt)
            have hB := hB.trans (bb.mono hB.size)
            refine hK.out _ _ trivial (fun hHeld => ?_)
            clear hK K
            try simp only [Act.put, List.setIfInBounds_toArray, List.set_cons_zero, List.set_cons_succ]
            refine wpXs 3 rfl (by kernel_rfl) (fun K hK => ?_)
            go_simp
            obtain ⟨w95, hnw⟩ : ∃ w95, w95 = w94.alloc (.cells #[.int .i64 1, .slice none 0 0, .slice none 0 0, .int .i64 2, .slice none 0 0, .slice none 0 0, .int .i64 3, .slice none 0 0, .slice none 0 0] 27) := ⟨_, rfl⟩
            obtain ⟨Bi, hBi⟩ : ∃ Bi, w94.heap.size = Bi := ⟨_, rfl⟩
            have bb : Below w94.heap.size w94 w95 := by rw [hnw]; exact (Below.refl _ _).alloc (Nat.le_refl _) _
            have hPl := rP.lt
            have rP := rP.of_block (bb.block _ rP.lt)
            have fI := te_new w94 1 2 3 w95 hnw
            rw [hBi] at fI
            have lBi : Bi < w95.heap.size := by rw [hnw, ← hBi]; simp
            have hPB : P ≠ Bi := by omega
            have hB := hB.trans (bb.mono hB.size)
            rw [← hnw, hBi]
            refine hK.out _ _ trivial (fun hHeld => ?_)
            clear hK K hnw
            try simp only [Act.put, List.setIfInBounds_toArray, List.set_cons_zero, List.set_cons_succ]
            refine wpXt (v := ?_) 6 rfl (by kernel_rfl) (fun _ _ _ h => h) (by rfl) ?_ hHeld ?_
            rotate_left
            · intro w' hSw
              go_simp <;> with_reducible rfl
            try simp only [Act.put, List.setIfInBounds_toArray, List.set_cons_zero, List.set_cons_succ]
            have x0 := rP.cell (i := 0) (by omega)
            have x1 := rP.cell (i := 1) (by omega)
            have x2 := rP.cell (i := 2) (by omega)
            have z0 := rP.frozen 0
            have z1 := rP.frozen 1
            have z2 := rP.frozen 2
            have HCUT : Hid (TeB W k _ _) := te_set (k := k) (Be := Be) rP fI hPB hB lP
            refine wpXs 8 rfl (by kernel_rfl) (fun K hK => ?_)
            go_simp
            refine hK.out _ _ trivial (fun hHeld => ?_)
            clear hK K
            try simp only [Act.put, List.setIfInBounds_toArray, List.set_cons_zero, List.set_cons_succ]
            refine wpAnyX_done (by kernel_rfl) ?_ _
            go_wp2
            go_meet
            exact HCUT.out
        · go_simp
          obtain ⟨w96, hnw⟩ : ∃ w96, w96 = w86.alloc (.cells ecs 58) := ⟨_, rfl⟩
          obtain ⟨Be, hBe⟩ : ∃ Be, w86.heap.size = Be := ⟨_, rfl⟩
          have bb : Below w86.heap.size w86 w96 := by rw [hnw]; exact (Below.refl _ _).alloc (Nat.le_refl _) _
          have hPl := rP.lt
          have rP := rP.of_block (bb.block _ rP.lt)
          have hB := hB.trans (bb.mono hB.size)
          rw [← hnw, hBe]
          refine hK.out _ _ trivial (fun hHeld => ?_)
          clear hK K hnw
          try simp only [Act.put, List.setIfInBounds_toArray, List.set_cons_zero, List.set_cons_succ]
          refine wpXs 1 rfl (by kernel_rfl) (fun K hK => ?_)
          go_simp
          refine (op_bareT 2 _).mono ?_
          rintro e w97 ⟨rfl, bb⟩
          have hPl := rP.lt
          have rP := rP.of_block (bb.block _ rP.lt)
          have hB := hB.trans (bb.mono hB.size)
          refine hK.out _ _ trivial (fun hHeld => ?_)
          clear hK K
          try simp only [Act.put, List.setIfInBounds_toArray, List.set_cons_zero, List.set_cons_succ]
          refine wpXs 2 rfl (by kernel_rfl) (fun K hK => ?_)
          go_simp
          refine (op_bareT 3 _).mono ?_
          rintro e w98 ⟨rfl, bb⟩
          have hPl := rP.lt
          have rP := rP.of_block (bb.block _ rP.lt)
          have hB := hB.trans (bb.mono hB.size)
          refine hK.out _ _ trivial (fun hHeld => ?_)
          clear hK K
          try simp only [Act.put, List.setIfInBounds_toArray, List.set_cons_zero, List.set_cons_succ]
          refine wpXs 3 rfl (by kernel_rfl) (fun K hK => ?_)
          go_simp
          obtain ⟨w99, hnw⟩ : ∃ w99, w99 = w98.alloc (.cells #[.int .i64 1, .slice none 0 0, .slice none 0 0, .int .i64 2, .slice none 0 0, .slice none 0 0, .int .i64 3, .slice none 0 0, .slice none 0 0] 27) := ⟨_, rfl⟩
          obtain ⟨Bi, hBi⟩ : ∃ Bi, w98.heap.size = Bi := ⟨_, rfl⟩
          have bb : Below w98.heap.size w98 w99 := by rw [hnw]; exact (Below.refl _ _).alloc (Nat.le_refl _) _
          have hPl := rP.lt
          have rP := rP.of_block (bb.block _ rP.lt)
          have fI := te_new w98 1 2 3 w99 hnw
          rw [hBi] at fI
          have lBi : Bi < w99.heap.size := by rw [hnw, ← hBi]; simp
          have hPB : P ≠ Bi := by omega
          have hB := hB.trans (bb.mono hB.size)
          rw [← hnw, hBi]
          refine hK.out _ _ trivial (fun hHeld => ?_)
          clear hK K hnw
          try simp only [Act.put, List.setIfInBounds_toArray, List.set_cons_zero, List.set_cons_succ]
          refine wpXt (v := ?_) 6 rfl (by kernel_rfl) (fun _ _ _ h => h) (by rfl) ?_ hHeld ?_
          rotate_left
          · intro w' hSw
            go_simp <;> with_reducible rfl
          try simp only [Act.put, List.setIfInBounds_toArray, List.set_cons_zero, List.set_cons_succ]
          have x0 := rP.cell (i := 0) (by omega)
          have x1 := rP.cell (i := 1) (by omega)
          have x2 := rP.cell (i := 2) (by omega)
          have z0 := rP.frozen 0
          have z1 := rP.frozen 1
          have z2 := rP.frozen 2
          have HCUT : Hid (TeB W k _ _) := te_set (k := k) (Be := Be) rP fI hPB hB lP
          refine wpXs 8 rfl (by kernel_rfl) (fun K hK => ?_)
          go_simp
          refine hK.out _ _ trivial (fun hHeld => ?_)
          clear hK K
          try simp only [Act.put, List.setIfInBounds_toArray, List.set_cons_zero, List.set_cons_succ]
          refine wpAnyX_done (by kernel_rfl) ?_ _
          go_wp2
          go_meet
          exact HCUT.out
      · go_simp
        obtain ⟨w100, hnw⟩ : ∃ w100, w100 = w85.alloc (.cells ecs 58) := ⟨_, rfl⟩
        obtain ⟨Be, hBe⟩ : ∃ Be, w85.heap.size = Be := ⟨_, rfl⟩
        have bb : Below w85.heap.size w85 w100 := by rw [hnw]; exact (Below.refl _ _).alloc (Nat.le_refl _) _
        have hPl := rP.lt
        have rP := rP.of_block (bb.block _ rP.lt)
        have hB := hB.trans (bb.mono hB.size)
        rw [← hnw, hBe]
        refine hK.out _ _ trivial (fun hHeld => ?_)
        clear hK K hnw
        try simp only [Act.put, List.setIfInBounds_toArray, List.set_cons_zero, List.set_cons_succ]
        refine wpXs 0 rfl (by kernel_rfl) (fun K hK => ?_)
        go_simp
        refine (op_bareT 1 _).mono ?_
        rintro e w101 ⟨rfl, bb⟩
        have hPl := rP.lt
        have rP := rP.of_block (bb.block _ rP.lt)
        have hB := hB.trans (bb.mono hB.size)
        refine hK.out _ _ trivial (fun hHeld => ?_)
        clear hK K
        try simp only [Act.put, List.setIfInBounds_toArray, List.set_cons_zero, List.set_cons_succ]
        refine wpXs 1 rfl (by kernel_rfl) (fun K hK => ?_)
        go_simp
        refine (op_bareT 2 _).mono ?_
        rintro e w102 ⟨rfl, bb⟩
        have hPl := rP.lt
        have rP := rP.of_block (bb.block _ rP.lt)
        have hB := hB.trans (bb.mono hB.size)
        refine hK.out _ _ trivial (fun hHeld => ?_)
        clear hK K
        try simp only [Act.put, List.setIfInBounds_toArray, List.set_cons_zero, List.set_cons_succ]
        refine wpXs 2 rfl (by kernel_rfl) (fun K hK => ?_)
        go_simp
        refine (op_bareT 3 _).mono ?_
        rintro e w103 ⟨rfl, bb⟩
        have hPl := rP.lt
        have rP := rP.of_block (bb.block _ rP.lt)
        have hB := hB.trans (bb.mono hB.size)
        refine hK.out _ _ trivial (fun hHeld => ?_)
        clear hK K
        try simp only [Act.put, List.setIfInBounds_toArray, List.set_cons_zero, List.set_cons_succ]
        refine wpXs 3 rfl (by kernel_rfl) (fun K hK => ?_)
        go_simp
        obtain ⟨w104, hnw⟩ : ∃ w104, w104 = w103.alloc (.cells #[.int .i64 1, .slice none 0 0, .slice none 0 0, .int .i64 2, .slice none 0 0, .slice none 0 0, .int .i64 3, .slice none 0 0, .slice none 0 0] 27) := ⟨_, rfl⟩
        obtain ⟨Bi, hBi⟩ : ∃ Bi, w103.heap.size = Bi := ⟨_, rfl⟩
        have bb : Below w103.heap.size w103 w104 := by rw [hnw]; exact (Below.refl _ _).alloc (Nat.le_refl _) _
        have hPl := rP.lt
        have rP := rP.of_block (bb.block _ rP.lt)
        have fI := te_new w103 1 2 3 w104 hnw
        rw [hBi] at fI
        have lBi : Bi < w104.heap.size := by rw [hnw, ← hBi]; simp
        have hPB : P ≠ Bi := by omega
        have hB := hB.trans (bb.mono hB.size)
        rw [← hnw, hBi]
        refine hK.out _ _ trivial (fun hHeld => ?_)
        clear hK K hnw
        try simp only [Act.put, List.setIfInBounds_toArray, List.set_cons_zero, List.set_cons_succ]
        refine wpXt (v := ?_) 6 rfl (by kernel_rfl) (fun _ _ _ h => h) (by rfl) ?_ hHeld ?_
        rotate_left
        · intro w' hSw
          go_simp <;> with_reducible rfl
        try simp only [Act.put, List.setIfInBounds_toArray, List.set_cons_zero, List.set_cons_succ]
        have x0 := rP.cell (i := 0) (by omega)
        have x1 := rP.cell (i := 1) (by omega)
        have x2 := rP.cell (i := 2) (by omega)
        have z0 := rP.frozen 0
        have z1 := rP.frozen 1
        have z2 := rP.frozen 2
        have HCUT : Hid (TeB W k _ _) := te_set (k := k) (Be := Be) rP fI hPB hB lP
        refine wpXs 8 rfl (by kernel_rfl) (fun K hK => ?_)
        go_simp
        refine hK.out _ _ trivial (fun hHeld => ?_)
        clear hK K
        try simp only [Act.put, List.setIfInBounds_toArray, List.set_cons_zero, List.set_cons_succ]
        refine wpAnyX_done (by kernel_rfl) ?_ _
        go_wp2
        go_meet
        exact HCUT.out

  case rest =>
    obtain ⟨P, Bi, Be, rfl, rP, fI, hB⟩ := hcut
    clear hB0 hmk
    obtain ⟨j0, j1⟩ := pickedOf_bd pl 5 (by decide)
    obtain ⟨J, hJ⟩ : ∃ J : Nat, pickedOf pl 5 = (J : Int) := ⟨(pickedOf pl 5).toNat, by omega⟩
    have hJ5 : J < 5 := by omega
    have HPJ := picked_any pl 5 wc q0 q1 (by decide) (by decide)
    rw [hJ] at HPJ
    obtain ⟨r1, hr1⟩ : ∃ r1, takesM seed [teX 1, teX 2, teX 3] k ((J : Int) - 1) l = r1 := ⟨_, rfl⟩
    have c0 : wc.cell? ⟨P, 0, none⟩ = some (.slice none 0 0) := rP.cell (i := 0) (by omega)
    have c1 : wc.cell? ⟨P, 1, none⟩ = some (.slice (some ⟨Bi, 0, none⟩) 3 3) := rP.cell (i := 1) (by omega)
    have c2 : wc.cell? ⟨P, 2, none⟩ = some (.slice (some ⟨Be, 0, none⟩) k k) := rP.cell (i := 2) (by omega)
    have HC := takes_any seed [teX 1, teX 2, teX 3] (.slice none 0 0) (some ⟨Bi, 0, none⟩) (some ⟨Be, 0, none⟩) 3 3 k k ((J : Int) - 1) l al nl cl r1 wc fI rfl (by unfold longest; omega) HL.out.2 (HL.out.1.below hB fun _ _ h => h) hr1
    have HR1 : Hid (takesM seed [teX 1, teX 2, teX 3] k ((J : Int) - 1) l = r1) := hr1
    have HB : Hid (Below W.heap.size W wc) := hB
    clear hJ j0 j1 hr1 rP fI hB
    go_upto_region 4 with (go_at_call 4; refine HPJ.mono ?_; rintro e wc ⟨rfl, rfl⟩)
    go_wp2_with fail
    refine HC.mono ?_
    clear HC c0 c1 c2
    rintro e w1 ⟨rfl, bb⟩
    have hB1 : Below W.heap.size W w1 := HB.out.trans (bb.mono HB.out.size)
    obtain ⟨ecs1, hmk1⟩ := make_edT 1 (by omega)
    have e1 : ((1 : Nat) : Int) = 1 := rfl
    rw [e1] at hmk1
    obtain ⟨W5, hW5⟩ : ∃ W5, W5 = w1.alloc (.cells #[.int .i64 0, .slice none 0 0, .slice none 0 0] 27) := ⟨_, rfl⟩
    obtain ⟨W6, hW6⟩ : ∃ W6, W6 = W5.alloc (.cells ecs1 58) := ⟨_, rfl⟩
    have b5 : Below w1.heap.size w1 W5 := by rw [hW5]; exact (Below.refl _ _).alloc (Nat.le_refl _) _
    have b6 : Below W5.heap.size W5 W6 := by rw [hW6]; exact (Below.refl _ _).alloc (Nat.le_refl _) _
    have b7 : Below W.heap.size W W6 := (hB1.trans (b5.mono hB1.size)).trans (b6.mono (Nat.le_trans hB1.size b5.size))
    have fX := (te_one w1 W5 hW5).below b6 (RIns.below b6)
    have z5 : w1.heap.size + 1 = W5.heap.size := by rw [hW5]; simp
    have HC := takes_any seed [teX 0] (.slice none 0 0) (some ⟨w1.heap.size, 0, none⟩) (some ⟨W5.heap.size, 0, none⟩) 1 1 1 1 0 l al nl cl 0 W6 fX rfl (by simp [longest]) HL.out.2 (HL.out.1.below b7 fun _ _ h => h) (te_first _ _ _)
    have HW5 : Hid (W5 = w1.alloc (.cells #[.int .i64 0, .slice none 0 0, .slice none 0 0] 27)) := hW5
    have HW6 : Hid (W6 = W5.alloc (.cells ecs1 58)) := hW6
    have HZ5 : Hid (w1.heap.size + 1 = W5.heap.size) := z5
    have HB7 : Hid (Below W.heap.size W W6) := b7
    clear hW5 hW6 z5 b5 b6 b7 fX bb hB1 e1
    go_wp2_with fail
    rw [HZ5.out, ← HW5.out, ← HW6.out]
    refine HC.mono ?_
    clear HC
    rintro e w8 ⟨rfl, bb⟩
    have HB8 : Hid (Below W.heap.size W w8) := HB7.out.trans (bb.mono HB7.out.size)
    clear bb hmk1
    by_cases hi2 : J = 3
    · by_cases hk0 : k = 0
      · have hr := HR1.out
        rw [te_none _ _ _ _ (Or.inr hk0)] at hr
        subst hr hi2 hk0
        go_wp2
        go_ret
        exact ⟨rfl, HB8.out⟩
      · have hr := te_some seed k l hk0
        have hr1 := HR1.out
        have e2 : ((J : Int) - 1) = 2 := by omega
        rw [e2] at hr1
        rw [hr1] at hr
        subst hi2
        have g1 : decide (0 ≤ r1) = true := by simp [hr.1]
        have g2 : decide (r1 < (k : Int)) = true := by simp [hr.2]
        have g0 : ((k : Int) == 0) = false := by simp [hk0]
        clear hr1 e2 HR1
        go_wp2
        go_ret
        exact ⟨rfl, HB8.out⟩
    · have hr := HR1.out
      rw [te_none _ _ _ _ (Or.inl (by omega))] at hr
      subst hr
      have g0 : ((J : Int) - 1 == 2) = false := by simp; omega
      go_wp2
      go_ret
      exact ⟨rfl, HB8.out⟩
end Go.Proofs.Ytoalfffecboahab
