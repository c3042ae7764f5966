/-
  The walk of GroupsRing: what a loop hands on to itself is one group with what it began with, where nothing is needed twice.
-/
import Derived.Test.YtdlnofjmonpmgaaG12
import Derived.Test.YtdlnofjmonpmgaaN4
import Derived.Deep.QuietTactic
import Derived.BigQuiet
import Derived.OpenShut
namespace Go.Proofs.Ytdlnofjmonpmgaa
open Go.RowKit
set_option linter.unusedVariables false

set_option maxRecDepth 8000 in
set_option maxHeartbeats 8000000 in
theorem groupsRing_walk (c : Int) (wc0 : (Lit.int .i64 c).wf = true) (w : World) :
    Calls Try.prog 5 #[.int .i64 c] w fun e w' => e = .returned (.bool true) ∧ Below w.heap.size w w' := by
  obtain ⟨p0, p1⟩ := pickedOf_bd c 20 (by omega)
  obtain ⟨c0, c1⟩ := bounds_i64 wc0
  go_enter Try.func5, Try.ntmps5
  go_wp2_with fail
  refine (picked_any _ _ _ c0 c1 (by omega) (by omega)).mono ?_
  rintro e w ⟨rfl, rfl⟩
  generalize pickedOf c 20 = kk at *
  obtain ⟨a, rfl⟩ : ∃ a : Nat, kk = a := ⟨kk.toNat, by omega⟩
  have ha : a < 20 := by omega
  have wk : IntKind.i64.wrap (1 + (a : Int)) = 1 + (a : Int) := by rw [IntKind.wrap_i64]; omega
  clear p0 p1
  go_wp2_with fail
  refine (ring_is _ (a + 1) _ (by omega) (by omega) (by omega)).mono ?_
  clear wk
  rintro e w1 ⟨gv, cv, gi, ci, eb, ab, ob, rfl, hR1, hb1⟩
  go_upto_region 3 with fail
  obtain ⟨W, hW⟩ : ∃ W, W = w1.alloc (.cells #[.slice (some ⟨gv, 0, none⟩) (a + 1 + 2) cv, .slice (some ⟨w.heap.size + 1 + 1 + 1 + 1 + 1 + 1 + 1 + 1 + 1 + 1 + 1 + 1 + 1 + 1 + 1 + 1 + 1 + 1, 0, none⟩) 4 4] 30) := ⟨_, rfl⟩
  obtain ⟨Y, hY⟩ : ∃ Y, w1.heap.size = Y := ⟨_, rfl⟩
  have hbW : Below w1.heap.size w1 W := by rw [hW]; exact (Below.refl _ _).alloc (Nat.le_refl _) _
  have rY : W.rowIs Y 30 2 (fun q => if q = 0 then .slice (some ⟨gv, 0, none⟩) (a + 1 + 2) cv else .slice (some ⟨w.heap.size + 1 + 1 + 1 + 1 + 1 + 1 + 1 + 1 + 1 + 1 + 1 + 1 + 1 + 1 + 1 + 1 + 1 + 1, 0, none⟩) 4 4) := by
    rw [hW, ← hY]
    exact World.rowIs_alloc _ _ _ _ fun i hi => by
      simp at hi
      match i, hi with | 0, _ => rfl | 1, _ => rfl
  have RW := hR1.below hbW
  obtain ⟨sv1, sb1⟩ := RW.sl (by omega) (by simp; omega) (SlOf_nil _ _ _ none 0) RW.i1 RW.a0
  rw [List.length_replicate] at sv1
  have hYM : w.heap.size + 1 + 1 + 1 + 1 + 1 + 1 + 1 + 1 + 1 + 1 + 1 + 1 + 1 + 1 + 1 + 1 + 1 + 1 < Y := by
    have := hR1.big
    omega
  have HR : Hid (RingAt w.heap.size (a + 1) gv cv gi ci eb ab ob (List.replicate (a + 1 + 2) 0) (.slice none 0 0) (.slice (some ⟨w.heap.size + 1 + 1 + 1 + 1 + 1 + 1 + 1 + 1 + 1 + 1 + 1 + 1, 0, none⟩) 1 1) 1 (.slice (some ⟨w.heap.size + 1 + 1 + 1 + 1 + 1 + 1, 0, none⟩) 1 1) (ringW w) W) := RW
  have HB0 : Hid (Below w.heap.size w W) := hb1.trans (hbW.mono hb1.size)
  have HY0 : Hid (W.rowIs Y 30 2 (fun q => if q = 0 then .slice (some ⟨gv, 0, none⟩) (a + 1 + 2) cv else .slice (some ⟨w.heap.size + 1 + 1 + 1 + 1 + 1 + 1 + 1 + 1 + 1 + 1 + 1 + 1 + 1 + 1 + 1 + 1 + 1 + 1, 0, none⟩) 4 4)) := rY
  have HYM : Hid (w.heap.size + 1 + 1 + 1 + 1 + 1 + 1 + 1 + 1 + 1 + 1 + 1 + 1 + 1 + 1 + 1 + 1 + 1 + 1 < Y) := hYM
  have HS1 : Hid (SlOf W 1 RInt (.slice (some ⟨gv, 0, none⟩) (a + 1 + 2) cv) (rgF a).values ∧ SlOf W 3 (RBlk W) (.slice (some ⟨w.heap.size + 1 + 1 + 1 + 1 + 1 + 1 + 1 + 1 + 1 + 1 + 1 + 1 + 1 + 1 + 1 + 1 + 1 + 1, 0, none⟩) 4 4) (rgF a).blocks) := ⟨sv1, sb1⟩
  rw [← hW, hY]
  clear hW hY hbW rY RW hR1 hb1 sv1 sb1 hYM
  obtain ⟨B18, hB18⟩ : ∃ B, w.heap.size + 1 + 1 + 1 + 1 + 1 + 1 + 1 + 1 + 1 + 1 + 1 + 1 + 1 + 1 + 1 + 1 + 1 + 1 = B := ⟨_, rfl⟩
  have HB18 : Hid (w.heap.size + 1 + 1 + 1 + 1 + 1 + 1 + 1 + 1 + 1 + 1 + 1 + 1 + 1 + 1 + 1 + 1 + 1 + 1 = B18) := hB18
  rw [hB18] at HY0 HS1
  rw [hB18]
  clear hB18
  have HS : Hid (∀ w', Below W.heap.size W w' → (fun w' => w'.cell? ⟨Y, 0, none⟩ = some (.slice (some ⟨gv, 0, none⟩) (a + 1 + 2) cv) ∧ w'.cell? ⟨Y, 1, none⟩ = some (.slice (some ⟨B18, 0, none⟩) 4 4)) w') := fun w' hh => by
    have r := HY0.out.of_block (hh.block _ HY0.out.lt)
    exact ⟨r.cell (i := 0) (by omega), r.cell (i := 1) (by omega)⟩
  have hbd : Below W.heap.size W W.drew := (Below.refl _ _).drew
  have HG1 : Hid (∀ w', Below W.heap.size W w' → Calls Try.prog 9 #[.agg #[.slice (some ⟨gv, 0, none⟩) (a + 1 + 2) cv, .slice (some ⟨B18, 0, none⟩) 4 4], .agg #[.int .i64 10, .int .i64 10]] w' fun e w'' => ∃ L I O, e = .returned (.tuple #[.slice (some ⟨L, 0, none⟩) (a + 1 + 2) (a + 1 + 2), .int .i64 0]) ∧ w''.rowIs L 3 (a + 1 + 2) (fun i => .int .i64 (groupsM (a + 1 + 2) (spansM (rgF a).blocks (a + 1 + 2) I O 4) (rgF a).blocks i : Nat)) ∧ ((∀ b v, v < a + 1 + 2 → (I b v = true ↔ NeedIn (rgF a).blocks b v)) ∧ ∀ b v, v < a + 1 + 2 → (O b v = true ↔ NeedOut (rgF a).blocks b v)) ∧ (∃ T, GInv (a + 1 + 2) (spansM (rgF a).blocks (a + 1 + 2) I O 4) (groupsM (a + 1 + 2) (spansM (rgF a).blocks (a + 1 + 2) I O 4) (rgF a).blocks) T) ∧ w'.heap.size ≤ L ∧ Below w'.heap.size w' w'') := fun w' hh => groups_any (rgF a) (a + 1 + 2) 4 10 10 _ _ _ _ (rg_flow a ha) (by simp [rgF, ringG]) (by simp [rgF, ringG]) w' (HS1.out.1.below hh fun _ _ h => h) (HS1.out.2.below hh (RBlk.below hh))
  --CUT1
  refine wp_region_X (fun w' => w'.cell? ⟨Y, 0, none⟩ = some (.slice (some ⟨gv, 0, none⟩) (a + 1 + 2) cv) ∧ w'.cell? ⟨Y, 1, none⟩ = some (.slice (some ⟨B18, 0, none⟩) 4 4)) 99 (by kernel_rfl) (HS.out _ hbd) (fun hHeld => ?_)
  refine wpXt (v := ?_) 0 rfl (by kernel_rfl) (fun _ _ _ h => h) (by rfl) ?_ hHeld ?_
  rotate_left
  · intro w' hSw
    go_simp <;> with_reducible rfl
  try simp only [Act.put, List.setIfInBounds_toArray, List.set_cons_zero, List.set_cons_succ]
  refine wpXs 1 rfl (by kernel_rfl) (fun K hK => ?_)
  go_simp
  refine (big_any _).mono ?_
  rintro e v1 ⟨rfl, hb1⟩
  have hW1 : Below W.heap.size W v1 := hbd.trans (hb1.mono hbd.size)
  refine hK.out _ _ (HS.out _ hW1) (fun hHeld => ?_)
  clear hK K
  try simp only [Act.put, List.setIfInBounds_toArray, List.set_cons_zero, List.set_cons_succ]
  refine wpXs 2 rfl (by kernel_rfl) (fun K hK => ?_)
  go_simp
  refine (HG1.out _ hW1).mono ?_
  rintro e w4 ⟨L, I, O, rfl, hrl, htold, _, hLl, hb2⟩
  have hW4 : Below W.heap.size W w4 := hW1.trans (hb2.mono hW1.size)
  have hLl : W.heap.size ≤ L := Nat.le_trans hW1.size hLl
  refine hK.out _ _ (HS.out _ hW4) (fun hHeld => ?_)
  clear hK K
  try simp only [Act.put, List.setIfInBounds_toArray, List.set_cons_zero, List.set_cons_succ]
  clear hW1 hb1 hb2
  refine wpXt (v := ?_) 3 rfl (by kernel_rfl) (fun _ _ _ h => h) (by rfl) ?_ hHeld ?_
  rotate_left
  · intro w' hSw
    go_simp <;> with_reducible rfl
  try simp only [Act.put, List.setIfInBounds_toArray, List.set_cons_zero, List.set_cons_succ]
  refine wpXt (v := ?_) 4 rfl (by kernel_rfl) (fun _ _ _ h => h) (by rfl) ?_ hHeld ?_
  rotate_left
  · intro w' hSw
    go_simp <;> with_reducible rfl
  try simp only [Act.put, List.setIfInBounds_toArray, List.set_cons_zero, List.set_cons_succ]
  refine wpXt (v := ?_) 5 rfl (by kernel_rfl) (fun _ _ _ h => h) (by rfl) ?_ hHeld ?_
  rotate_left
  · intro w' hSw
    go_simp <;> with_reducible rfl
  try simp only [Act.put, List.setIfInBounds_toArray, List.set_cons_zero, List.set_cons_succ]
  refine wpXs 6 rfl (by kernel_rfl) (fun K hK => ?_)
  go_simp
  refine hK.out _ _ hHeld (fun hHeld => ?_)
  clear hK K
  try simp only [Act.put, List.setIfInBounds_toArray, List.set_cons_zero, List.set_cons_succ]
  refine wpXs 7 rfl (by kernel_rfl) (fun K hK => ?_)
  go_simp
  refine hK.out _ _ hHeld (fun hHeld => ?_)
  clear hK K
  try simp only [Act.put, List.setIfInBounds_toArray, List.set_cons_zero, List.set_cons_succ]
  refine wpAnyX_done (by kernel_rfl) ?_ _
  have HW4 : Hid (Below W.heap.size W w4) := hW4
  have hq := rg_groups ha htold _ rfl
  have HQ : Hid (w4.rowIs L 3 (a + 1 + 2) (fun i => .int .i64 (groupsM (a + 1 + 2) (spansM (rgF a).blocks (a + 1 + 2) I O 4) (rgF a).blocks i : Nat)) ∧ W.heap.size ≤ L ∧ groupsM (a + 1 + 2) (spansM (rgF a).blocks (a + 1 + 2) I O 4) (rgF a).blocks 0 = 0 ∧ groupsM (a + 1 + 2) (spansM (rgF a).blocks (a + 1 + 2) I O 4) (rgF a).blocks 1 = 0 ∧ groupsM (a + 1 + 2) (spansM (rgF a).blocks (a + 1 + 2) I O 4) (rgF a).blocks (a + 2) = 0) := ⟨hrl, hLl, hq.1, hq.2.1, hq.2.2⟩
  clear hq hrl hLl htold hW4 HG1 hbd hHeld
  have R4 := HR.out.below HW4.out
  have y1 := (HS.out w4 HW4.out).2
  have n1 : w4.cell? ⟨B18, 10, none⟩ = some (.slice (some ⟨w.heap.size + 1 + 1 + 1 + 1 + 1 + 1 + 1 + 1 + 1 + 1 + 1 + 1 + 1 + 1 + 1 + 1 + 1, 0, none⟩) 1 1) := by rw [← HB18.out]; exact R4.r1.cell (i := 10) (by omega)
  have i1 : w4.cell? ⟨w.heap.size + 1 + 1 + 1 + 1 + 1 + 1 + 1 + 1 + 1 + 1 + 1 + 1 + 1 + 1 + 1 + 1 + 1, 1, none⟩ = some (.slice (some ⟨w.heap.size + 1 + 1 + 1 + 1 + 1 + 1 + 1 + 1 + 1 + 1 + 1 + 1 + 1 + 1 + 1, 0, none⟩) 1 1) := blk_at (R4.st (w.heap.size + 1 + 1 + 1 + 1 + 1 + 1 + 1 + 1 + 1 + 1 + 1 + 1 + 1 + 1 + 1 + 1 + 1) (by omega) (by omega) (by omega)) (ringW_17 w) 1 (by simp)
  have o1 : w4.cell? ⟨w.heap.size + 1 + 1 + 1 + 1 + 1 + 1 + 1 + 1 + 1 + 1 + 1 + 1 + 1 + 1 + 1, 1, none⟩ = some (.int .i64 1) := blk_at (R4.st (w.heap.size + 1 + 1 + 1 + 1 + 1 + 1 + 1 + 1 + 1 + 1 + 1 + 1 + 1 + 1 + 1) (by omega) (by omega) (by omega)) (ringW_15 w) 1 (by simp)
  have oz : w4.frozen? ⟨w.heap.size + 1 + 1 + 1 + 1 + 1 + 1 + 1 + 1 + 1 + 1 + 1 + 1 + 1 + 1 + 1, 1, none⟩ = false := blk_frozenL ((R4.st (w.heap.size + 1 + 1 + 1 + 1 + 1 + 1 + 1 + 1 + 1 + 1 + 1 + 1 + 1 + 1 + 1) (by omega) (by omega) (by omega)).trans (ringW_15 w)) 1
  obtain ⟨sv, sb⟩ := R4.rs.slR (by omega) (by simp; omega) (SlOf_nil _ _ _ none 0) R4.rs.i1R R4.rs.a0R
  rw [List.length_replicate] at sv
  have hlW : Y < W.heap.size := HY0.out.lt
  have hBL : w.heap.size + 1 + 1 + 1 + 1 + 1 + 1 + 1 + 1 + 1 + 1 + 1 + 1 + 1 + 1 + 1 + 1 + 1 + 1 < L := by have := HQ.out.2.1; have := HYM.out; omega
  have hBY : w.heap.size + 1 + 1 + 1 + 1 + 1 + 1 + 1 + 1 + 1 + 1 + 1 + 1 + 1 + 1 + 1 + 1 + 1 + 1 < Y := HYM.out
  have HBW0 : Hid (Below w.heap.size w (w4.setCell ⟨w.heap.size + 1 + 1 + 1 + 1 + 1 + 1 + 1 + 1 + 1 + 1 + 1 + 1 + 1 + 1 + 1, 1, none⟩ (.int .i64 0))) := (HB0.out.trans (HW4.out.mono HB0.out.size)).setCell (by simp; omega) _
  have rY4 : (w4.setCell ⟨w.heap.size + 1 + 1 + 1 + 1 + 1 + 1 + 1 + 1 + 1 + 1 + 1 + 1 + 1 + 1 + 1, 1, none⟩ (.int .i64 0)).rowIs Y 30 2 (fun q => if q = 0 then .slice (some ⟨gv, 0, none⟩) (a + 1 + 2) cv else .slice (some ⟨B18, 0, none⟩) 4 4) := (HY0.out.of_block (HW4.out.block _ HY0.out.lt)).setOther (fun e => by simp only at e; omega) _
  have rL4 := HQ.out.1.setOther (a := ⟨w.heap.size + 1 + 1 + 1 + 1 + 1 + 1 + 1 + 1 + 1 + 1 + 1 + 1 + 1 + 1 + 1, 1, none⟩) (fun e => by simp only at e; omega) (.int .i64 0)
  rw [HB18.out] at sb
  clear R4 hlW hBL hBY HR HW4 HYM HB0
  generalize w.heap.size + 1 + 1 + 1 + 1 + 1 + 1 + 1 + 1 + 1 + 1 + 1 + 1 + 1 + 1 + 1 + 1 + 1 = B17 at *
  generalize w.heap.size + 1 + 1 + 1 + 1 + 1 + 1 + 1 + 1 + 1 + 1 + 1 + 1 + 1 + 1 + 1 = B15 at *
  obtain ⟨W5, hW5⟩ : ∃ W5, W5 = w4.setCell ⟨B15, 1, none⟩ (.int .i64 0) := ⟨_, rfl⟩
  rw [← hW5] at sv sb HBW0 rY4 rL4
  have HW5 : Hid (W5 = w4.setCell ⟨B15, 1, none⟩ (.int .i64 0)) := hW5
  have HSV : Hid (SlOf W5 1 RInt (.slice (some ⟨gv, 0, none⟩) (a + 1 + 2) cv) (rsF (a + 1)).values ∧ SlOf W5 3 (RBlk W5) (.slice (some ⟨B18, 0, none⟩) 4 4) (rsF (a + 1)).blocks) := ⟨sv, sb⟩
  have HY5 : Hid (W5.rowIs Y 30 2 (fun q => if q = 0 then .slice (some ⟨gv, 0, none⟩) (a + 1 + 2) cv else .slice (some ⟨B18, 0, none⟩) 4 4)) := rY4
  have HL5 : Hid (W5.rowIs L 3 (a + 1 + 2) (fun i => .int .i64 (groupsM (a + 1 + 2) (spansM (rgF a).blocks (a + 1 + 2) I O 4) (rgF a).blocks i : Nat))) := rL4
  clear sv sb rY4 rL4 hW5
  --CUT2
  go_upto_region 5 with fail
  rw [← HW5.out]
  clear HW5 y1 n1 i1 o1 oz
  have HS5 : Hid (∀ w', Below W5.heap.size W5 w' → (fun w' => w'.cell? ⟨Y, 0, none⟩ = some (.slice (some ⟨gv, 0, none⟩) (a + 1 + 2) cv) ∧ w'.cell? ⟨Y, 1, none⟩ = some (.slice (some ⟨B18, 0, none⟩) 4 4)) w') := fun w' hh => by
    have r := HY5.out.of_block (hh.block _ HY5.out.lt)
    exact ⟨r.cell (i := 0) (by omega), r.cell (i := 1) (by omega)⟩
  have hbd : Below W5.heap.size W5 W5.drew := (Below.refl _ _).drew
  have HG1 : Hid (∀ w', Below W5.heap.size W5 w' → Calls Try.prog 9 #[.agg #[.slice (some ⟨gv, 0, none⟩) (a + 1 + 2) cv, .slice (some ⟨B18, 0, none⟩) 4 4], .agg #[.int .i64 10, .int .i64 10]] w' fun e w'' => ∃ L I O, e = .returned (.tuple #[.slice (some ⟨L, 0, none⟩) (a + 1 + 2) (a + 1 + 2), .int .i64 0]) ∧ w''.rowIs L 3 (a + 1 + 2) (fun i => .int .i64 (groupsM (a + 1 + 2) (spansM (rsF (a + 1)).blocks (a + 1 + 2) I O 4) (rsF (a + 1)).blocks i : Nat)) ∧ ((∀ b v, v < a + 1 + 2 → (I b v = true ↔ NeedIn (rsF (a + 1)).blocks b v)) ∧ ∀ b v, v < a + 1 + 2 → (O b v = true ↔ NeedOut (rsF (a + 1)).blocks b v)) ∧ (∃ T, GInv (a + 1 + 2) (spansM (rsF (a + 1)).blocks (a + 1 + 2) I O 4) (groupsM (a + 1 + 2) (spansM (rsF (a + 1)).blocks (a + 1 + 2) I O 4) (rsF (a + 1)).blocks) T) ∧ w'.heap.size ≤ L ∧ Below w'.heap.size w' w'') := fun w' hh => groups_any (rsF (a + 1)) (a + 1 + 2) 4 10 10 _ _ _ _ (rs_flow a ha) (by simp [rsF]) (by simp [rsF]) w' (HSV.out.1.below hh fun _ _ h => h) (HSV.out.2.below hh (RBlk.below hh))
  refine wp_region_X (fun w' => w'.cell? ⟨Y, 0, none⟩ = some (.slice (some ⟨gv, 0, none⟩) (a + 1 + 2) cv) ∧ w'.cell? ⟨Y, 1, none⟩ = some (.slice (some ⟨B18, 0, none⟩) 4 4)) 99 (by kernel_rfl) (HS5.out _ hbd) (fun hHeld => ?_)
  refine wpXt (v := ?_) 0 rfl (by kernel_rfl) (fun _ _ _ h => h) (by rfl) ?_ hHeld ?_
  rotate_left
  · intro w' hSw
    go_simp <;> with_reducible rfl
  try simp only [Act.put, List.setIfInBounds_toArray, List.set_cons_zero, List.set_cons_succ]
  refine wpXs 1 rfl (by kernel_rfl) (fun K hK => ?_)
  go_simp
  refine (big_any _).mono ?_
  rintro e v1 ⟨rfl, hb1⟩
  have hW1 : Below W5.heap.size W5 v1 := hbd.trans (hb1.mono hbd.size)
  refine hK.out _ _ (HS5.out _ hW1) (fun hHeld => ?_)
  clear hK K
  try simp only [Act.put, List.setIfInBounds_toArray, List.set_cons_zero, List.set_cons_succ]
  refine wpXs 2 rfl (by kernel_rfl) (fun K hK => ?_)
  go_simp
  refine (HG1.out _ hW1).mono ?_
  rintro e w6 ⟨L2, I2, O2, rfl, hrl, htold, _, hLl2, hb2⟩
  have hW6 : Below W5.heap.size W5 w6 := hW1.trans (hb2.mono hW1.size)
  have hLl2 : W5.heap.size ≤ L2 := Nat.le_trans hW1.size hLl2
  refine hK.out _ _ (HS5.out _ hW6) (fun hHeld => ?_)
  clear hK K
  try simp only [Act.put, List.setIfInBounds_toArray, List.set_cons_zero, List.set_cons_succ]
  clear hW1 hb1 hb2
  refine wpXt (v := ?_) 3 rfl (by kernel_rfl) (fun _ _ _ h => h) (by rfl) ?_ hHeld ?_
  rotate_left
  · intro w' hSw
    go_simp <;> with_reducible rfl
  try simp only [Act.put, List.setIfInBounds_toArray, List.set_cons_zero, List.set_cons_succ]
  refine wpXt (v := ?_) 4 rfl (by kernel_rfl) (fun _ _ _ h => h) (by rfl) ?_ hHeld ?_
  rotate_left
  · intro w' hSw
    go_simp <;> with_reducible rfl
  try simp only [Act.put, List.setIfInBounds_toArray, List.set_cons_zero, List.set_cons_succ]
  refine wpXt (v := ?_) 5 rfl (by kernel_rfl) (fun _ _ _ h => h) (by rfl) ?_ hHeld ?_
  rotate_left
  · intro w' hSw
    go_simp <;> with_reducible rfl
  try simp only [Act.put, List.setIfInBounds_toArray, List.set_cons_zero, List.set_cons_succ]
  refine wpXs 6 rfl (by kernel_rfl) (fun K hK => ?_)
  go_simp
  refine hK.out _ _ hHeld (fun hHeld => ?_)
  clear hK K
  try simp only [Act.put, List.setIfInBounds_toArray, List.set_cons_zero, List.set_cons_succ]
  refine wpXs 7 rfl (by kernel_rfl) (fun K hK => ?_)
  go_simp
  refine hK.out _ _ hHeld (fun hHeld => ?_)
  clear hK K
  try simp only [Act.put, List.setIfInBounds_toArray, List.set_cons_zero, List.set_cons_succ]
  refine wpAnyX_done (by kernel_rfl) ?_ _
  have hq := rs_groups ha htold _ rfl
  have rL6 := HL5.out.of_block (hW6.block _ HL5.out.lt)
  have g0 : w6.cell? ⟨L, 0, none⟩ = some (.int .i64 0) := (rL6.cell (i := 0) (by omega)).trans (by rw [HQ.out.2.2.1]; rfl)
  have g1 : w6.cell? ⟨L, 1, none⟩ = some (.int .i64 0) := (rL6.cell (i := 1) (by omega)).trans (by rw [HQ.out.2.2.2.1]; rfl)
  have g2 : w6.cell? ⟨L, a + 2, none⟩ = some (.int .i64 0) := (rL6.cell (i := a + 2) (by omega)).trans (by rw [HQ.out.2.2.2.2]; rfl)
  have k1 : w6.cell? ⟨L2, 1, none⟩ = some (.int .i64 1) := (hrl.cell (i := 1) (by omega)).trans (by rw [hq.1]; rfl)
  have k2 : w6.cell? ⟨L2, a + 2, none⟩ = some (.int .i64 1) := (hrl.cell (i := a + 2) (by omega)).trans (by rw [hq.2]; rfl)
  have HE : Hid (Below w.heap.size w w6) := HBW0.out.trans (hW6.mono HBW0.out.size)
  have q1 : IntKind.i64.wrap (1 + (a : Int)) = 1 + (a : Int) := by rw [IntKind.wrap_i64]; omega
  have q2 : IntKind.i64.wrap (1 + (a : Int) + 2) = 1 + (a : Int) + 2 := by rw [IntKind.wrap_i64]; omega
  have q3 : IntKind.i64.wrap (1 + (a : Int) + 1) = 1 + (a : Int) + 1 := by rw [IntKind.wrap_i64]; omega
  have q4 : (1 + (a : Int) + 1).toNat = a + 2 := by omega
  have q5 : ((a + 1 + 2 : Nat) : Int) = 1 + (a : Int) + 2 := by omega
  have q6 : (0 : Int) ≤ 1 + (a : Int) + 1 := by omega
  have q7 : 1 + (a : Int) + 1 < ((a + 1 + 2 : Nat) : Int) := by omega
  have q8 : (a : Int) + 1 + 2 = 1 + (a : Int) + 2 := by omega
  have q9 : 1 + (a : Int) + 1 < (a : Int) + 1 + 2 := by omega
  have q10 : (0 : Int) < (a : Int) + 1 + 2 := by omega
  have q11 : (1 : Int) < (a : Int) + 1 + 2 := by omega
  clear hq hrl hLl2 htold hW6 rL6 HG1 hbd hHeld HQ HL5
  --CUT3
  go_wp2
  --CUT4
  go_ret
  exact ⟨rfl, HE.out⟩
end Go.Proofs.Ytdlnofjmonpmgaa
