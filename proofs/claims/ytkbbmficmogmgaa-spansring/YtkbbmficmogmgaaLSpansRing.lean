/-
  The walk of SpansRing: what is read behind a loop is needed all through it.
-/
import Derived.Test.YtkbbmficmogmgaaN4
import Derived.Test.YtkbbmficmogmgaaV9
import Derived.Test.YtkbbmficmogmgaaN5
import Derived.Test.YtkbbmficmogmgaaD2
import Derived.Deep.DeepCutAuto
import Derived.Deep.CutBlock
import Derived.OpenShut
namespace Go.Proofs.Ytkbbmficmogmgaa
open Go.RowKit
set_option linter.unusedVariables false

theorem rowS_atR {w : World} {g n c nb : Nat} {F : Nat → List Int} (h : SlOf w 1 (RRow w) (.slice (some ⟨g, 0, none⟩) n c) ((List.range nb).map F)) (k : Nat) (hk : k < nb) : ∃ a' c', g < w.heap.size ∧ w.cell? ⟨g, k, none⟩ = some (.slice a' (F k).length c') ∧ SlOf w 1 RInt (.slice a' (F k).length c') (F k) ∧ (F k).length ≤ longest := by
  obtain ⟨b, off, a', c', e, hb, hc, hs, hl⟩ := rows_at h (k : Int) (by omega) (by simp; omega)
  simp only [Option.some.injEq, Addr.mk.injEq] at e
  obtain ⟨rfl, rfl, _⟩ := e
  have ek : ((List.range nb).map F).getD k [] = F k := by simp [List.getD, hk]
  rw [Int.toNat_natCast, Nat.zero_add] at hc
  rw [Int.toNat_natCast] at hs hl
  rw [ek] at hc hs hl
  exact ⟨a', c', hb, hc, hs, hl⟩
theorem two_sl (w : World) (x0 x1 : Int) (t : Nat) : SlOf (w.alloc (.cells #[.int .i64 x0, .int .i64 x1] t)) 1 RInt (.slice (some ⟨w.heap.size, 0, none⟩) 2 2) [x0, x1] := by
  have r : (w.alloc (.cells #[.int .i64 x0, .int .i64 x1] t)).rowIs w.heap.size t 2 (fun i => .int .i64 ([x0, x1].getD i 0)) := World.rowIs_alloc _ _ _ _ fun i hi => by
    simp at hi
    match i, hi with | 0, _ => rfl | 1, _ => rfl
  refine ⟨_, 2, rfl, by unfold longest; simp, Or.inr ⟨w.heap.size, 0, rfl, fun i hi => ?_⟩⟩
  have hi' : i < 2 := by simpa using hi
  refine ⟨[.int .i64 ([x0, x1].getD i 0)], rfl, ?_, fun j hj => ?_⟩
  · unfold RInt
    match i, hi' with | 0, _ => rfl | 1, _ => rfl
  · have : j = 0 := by simp at hj; exact hj
    subst this
    simp only [Nat.mul_one, Nat.add_zero, Nat.zero_add, List.getElem_cons_zero]
    exact r.cell hi'
/-- The sets in their box. -/
def RsCut (f : Fn) (nv : Nat) (W3 : World) (x e : Value) (wz : World) : Prop := ∃ Z ga gb I O, x = .pointer (some ⟨Z, 0, none⟩) ∧ e = .int .i64 0 ∧ wz.rowIs Z 50 2 (fun q => if q = 0 then .slice (some ⟨ga, 0, none⟩) 4 4 else .slice (some ⟨gb, 0, none⟩) 4 4) ∧ SlOf wz 1 (RRow wz) (.slice (some ⟨ga, 0, none⟩) 4 4) ((List.range 4).map fun b => rowL nv (I b)) ∧ SlOf wz 1 (RRow wz) (.slice (some ⟨gb, 0, none⟩) 4 4) ((List.range 4).map fun b => rowL nv (O b)) ∧ Told3 f.blocks nv I O ∧ Below W3.heap.size W3 wz
theorem rsCut_new {f : Fn} {nv B ga gb : Nat} {W3 v : World} {I O : Tb} (hB : B ≤ v.heap.size) (hk : ∀ w'', (∀ b, B ≤ b → b < v.heap.size → w''.heap[b]? = v.heap[b]?) → SlOf w'' 1 (RRow w'') (.slice (some ⟨ga, 0, none⟩) 4 4) ((List.range 4).map fun b => rowL nv (I b)) ∧ SlOf w'' 1 (RRow w'') (.slice (some ⟨gb, 0, none⟩) 4 4) ((List.range 4).map fun b => rowL nv (O b))) (ht : Told3 f.blocks nv I O) (hb : Below W3.heap.size W3 v) : RsCut f nv W3 (.pointer (some ⟨v.heap.size, 0, none⟩)) (.int .i64 0) (v.alloc (.cells #[.slice (some ⟨ga, 0, none⟩) 4 4, .slice (some ⟨gb, 0, none⟩) 4 4] 50)) := by
  obtain ⟨h1, h2⟩ := hk (v.alloc (.cells #[.slice (some ⟨ga, 0, none⟩) 4 4, .slice (some ⟨gb, 0, none⟩) 4 4] 50)) fun b _ h => Below.heap_alloc _ _ _ h
  refine ⟨_, ga, gb, I, O, rfl, rfl, World.rowIs_alloc _ _ _ _ fun i hi => ?_, h1, h2, ht, hb.alloc hb.size _⟩
  simp at hi
  match i, hi with | 0, _ => rfl | 1, _ => rfl
theorem rsCut_set {f : Fn} {nv B ga gb Z : Nat} {W3 v : World} {I O : Tb} (hZ : Z < B) (hk : ∀ w'', (∀ b, B ≤ b → b < v.heap.size → w''.heap[b]? = v.heap[b]?) → SlOf w'' 1 (RRow w'') (.slice (some ⟨ga, 0, none⟩) 4 4) ((List.range 4).map fun b => rowL nv (I b)) ∧ SlOf w'' 1 (RRow w'') (.slice (some ⟨gb, 0, none⟩) 4 4) ((List.range 4).map fun b => rowL nv (O b))) (ht : Told3 f.blocks nv I O) (hb : Below W3.heap.size W3 v) (hr : v.rowIs Z 50 2 (fun _ => .slice none 0 0)) (hlZ : W3.heap.size ≤ Z) : RsCut f nv W3 (.pointer (some ⟨Z, 0, none⟩)) (.int .i64 0) ((v.setCell ⟨Z, 0, none⟩ (.slice (some ⟨ga, 0, none⟩) 4 4)).setCell ⟨Z, 1, none⟩ (.slice (some ⟨gb, 0, none⟩) 4 4)) := by
  obtain ⟨h1, h2⟩ := hk ((v.setCell ⟨Z, 0, none⟩ (.slice (some ⟨ga, 0, none⟩) 4 4)).setCell ⟨Z, 1, none⟩ (.slice (some ⟨gb, 0, none⟩) 4 4)) fun b hb _ => by rw [Below.heap_setCell _ _ _ _ (by simp; omega), Below.heap_setCell _ _ _ _ (by simp; omega)]
  refine ⟨_, ga, gb, I, O, rfl, rfl, ((hr.set 0 _).set 1 _).congr fun i hi => ?_, h1, h2, ht, (hb.setCell hlZ _).setCell hlZ _⟩
  match i, hi with | 0, _ => rfl | 1, _ => rfl
theorem eqSpan (c1 n1 c2 n2 : Int) (w : World) : (binOp .eql 64 (.agg #[.int .i64 c1, .int .i64 n1]) (.agg #[.int .i64 c2, .int .i64 n2])).run Try.prog w = .ok (.bool (c1 == c2 && n1 == n2)) w := by
  have hS : Try.prog.underlying 64 = some (.struct (Try.prog.fieldsOf 64)) := by kernel_rfl
  have hp : Try.prog.stoodInHeld 64 = false := by kernel_rfl
  rw [run_eql_struct, show (10000 : Nat) = 9999 + 1 from rfl, run_equalIn_agg w 9999 64 _ _ hS hp]
  simp only [Program.fieldsOf, Try.underlying64]
  go_simp
  by_cases h1 : c1 = c2 <;> by_cases h2 : n1 = n2 <;> simp [h1, h2]
theorem eqSpanG : Try.prog.eqGuardType Try.prog.depth 64 = false := by kernel_rfl
set_option maxRecDepth 8000 in
set_option maxHeartbeats 8000000 in
theorem spansRing_walk (c : Int) (wc0 : (Lit.int .i64 c).wf = true) (w : World) :
    Calls Try.prog 8 #[.int .i64 c] w fun e w' => e = .returned (.bool true) ∧ Below w.heap.size w w' := by
  obtain ⟨p0, p1⟩ := pickedOf_bd c 20 (by omega)
  obtain ⟨c0, c1⟩ := bounds_i64 wc0
  go_enter Try.func8, Try.ntmps8
  go_wp2_with fail
  refine (picked_any _ _ _ c0 c1 (by omega) (by omega)).mono ?_
  rintro e w ⟨rfl, rfl⟩
  generalize pickedOf c 20 = kk at *
  obtain ⟨a, rfl⟩ : ∃ a : Nat, kk = a := ⟨kk.toNat, by omega⟩
  have ha : a < 20 := by omega
  have wk : IntKind.i64.wrap (1 + (a : Int)) = 1 + (a : Int) := by rw [IntKind.wrap_i64]; omega
  clear p0 p1
  go_wp2_with fail
  refine (ring_is _ (a + 1) _ (by omega) (by omega) (by omega)).mono ?_
  clear wk
  rintro e w1 ⟨gv, cv, gi, ci, eb, ab, ob, rfl, hR1, hb1⟩
  go_upto_region 3 with fail
  obtain ⟨W, hW⟩ : ∃ W, W = w1.alloc (.cells #[.slice (some ⟨gv, 0, none⟩) (a + 1 + 2) cv, .slice (some ⟨w.heap.size + 1 + 1 + 1 + 1 + 1 + 1 + 1 + 1 + 1 + 1 + 1 + 1 + 1 + 1 + 1 + 1 + 1 + 1, 0, none⟩) 4 4] 30) := ⟨_, rfl⟩
  obtain ⟨Y, hY⟩ : ∃ Y, w1.heap.size = Y := ⟨_, rfl⟩
  have hbW : Below w1.heap.size w1 W := by rw [hW]; exact (Below.refl _ _).alloc (Nat.le_refl _) _
  have rY : W.rowIs Y 30 2 (fun q => if q = 0 then .slice (some ⟨gv, 0, none⟩) (a + 1 + 2) cv else .slice (some ⟨w.heap.size + 1 + 1 + 1 + 1 + 1 + 1 + 1 + 1 + 1 + 1 + 1 + 1 + 1 + 1 + 1 + 1 + 1 + 1, 0, none⟩) 4 4) := by
    rw [hW, ← hY]
    exact World.rowIs_alloc _ _ _ _ fun i hi => by
      simp at hi
      match i, hi with | 0, _ => rfl | 1, _ => rfl
  have RW := hR1.below hbW
  have y1 : W.cell? ⟨Y, 1, none⟩ = some (.slice (some ⟨w.heap.size + 1 + 1 + 1 + 1 + 1 + 1 + 1 + 1 + 1 + 1 + 1 + 1 + 1 + 1 + 1 + 1 + 1 + 1, 0, none⟩) 4 4) := rY.cell (i := 1) (by omega)
  have n1 : W.cell? ⟨w.heap.size + 1 + 1 + 1 + 1 + 1 + 1 + 1 + 1 + 1 + 1 + 1 + 1 + 1 + 1 + 1 + 1 + 1 + 1, 10, none⟩ = some (.slice (some ⟨w.heap.size + 1 + 1 + 1 + 1 + 1 + 1 + 1 + 1 + 1 + 1 + 1 + 1 + 1 + 1 + 1 + 1 + 1, 0, none⟩) 1 1) := RW.r1.cell (i := 10) (by omega)
  have i1 : W.cell? ⟨w.heap.size + 1 + 1 + 1 + 1 + 1 + 1 + 1 + 1 + 1 + 1 + 1 + 1 + 1 + 1 + 1 + 1 + 1, 1, none⟩ = some (.slice (some ⟨w.heap.size + 1 + 1 + 1 + 1 + 1 + 1 + 1 + 1 + 1 + 1 + 1 + 1 + 1 + 1 + 1, 0, none⟩) 1 1) := blk_at (RW.st (w.heap.size + 1 + 1 + 1 + 1 + 1 + 1 + 1 + 1 + 1 + 1 + 1 + 1 + 1 + 1 + 1 + 1 + 1) (by omega) (by omega) (by omega)) (ringW_17 w) 1 (by simp)
  have o1 : W.cell? ⟨w.heap.size + 1 + 1 + 1 + 1 + 1 + 1 + 1 + 1 + 1 + 1 + 1 + 1 + 1 + 1 + 1, 1, none⟩ = some (.int .i64 1) := blk_at (RW.st (w.heap.size + 1 + 1 + 1 + 1 + 1 + 1 + 1 + 1 + 1 + 1 + 1 + 1 + 1 + 1 + 1) (by omega) (by omega) (by omega)) (ringW_15 w) 1 (by simp)
  have oz : W.frozen? ⟨w.heap.size + 1 + 1 + 1 + 1 + 1 + 1 + 1 + 1 + 1 + 1 + 1 + 1 + 1 + 1 + 1, 1, none⟩ = false := blk_frozenL ((RW.st (w.heap.size + 1 + 1 + 1 + 1 + 1 + 1 + 1 + 1 + 1 + 1 + 1 + 1 + 1 + 1 + 1) (by omega) (by omega) (by omega)).trans (ringW_15 w)) 1
  obtain ⟨sv, sb⟩ := RW.rs.slR (by omega) (by simp; omega) (SlOf_nil _ _ _ none 0) RW.rs.i1R RW.rs.a0R
  rw [List.length_replicate] at sv
  have hYM : w.heap.size + 1 + 1 + 1 + 1 + 1 + 1 + 1 + 1 + 1 + 1 + 1 + 1 + 1 + 1 + 1 + 1 + 1 + 1 < Y := by
    have := hR1.big
    omega
  have HBW0 : Hid (Below w.heap.size w (W.setCell ⟨w.heap.size + 1 + 1 + 1 + 1 + 1 + 1 + 1 + 1 + 1 + 1 + 1 + 1 + 1 + 1 + 1, 1, none⟩ (.int .i64 0))) := (hb1.trans (hbW.mono hb1.size)).setCell (by simp; omega) _
  generalize hB18 : w.heap.size + 1 + 1 + 1 + 1 + 1 + 1 + 1 + 1 + 1 + 1 + 1 + 1 + 1 + 1 + 1 + 1 + 1 + 1 = B18 at *
  generalize hB17 : w.heap.size + 1 + 1 + 1 + 1 + 1 + 1 + 1 + 1 + 1 + 1 + 1 + 1 + 1 + 1 + 1 + 1 + 1 = B17 at *
  generalize hB15 : w.heap.size + 1 + 1 + 1 + 1 + 1 + 1 + 1 + 1 + 1 + 1 + 1 + 1 + 1 + 1 + 1 = B15 at *
  have hYB : B15 ≠ Y := by omega
  rw [← hW, hY]
  obtain ⟨W3, hW3⟩ : ∃ W3, W3 = W.setCell ⟨B15, 1, none⟩ (.int .i64 0) := ⟨_, rfl⟩
  rw [← hW3] at sv sb HBW0
  have rY3 := rY.setOther (a := ⟨B15, 1, none⟩) (fun e => hYB e.symm) (.int .i64 0)
  rw [← hW3] at rY3
  have HRY : Hid (W3.rowIs Y 30 2 (fun q => if q = 0 then .slice (some ⟨gv, 0, none⟩) (a + 1 + 2) cv else .slice (some ⟨B18, 0, none⟩) 4 4)) := rY3
  have HSV : Hid (SlOf W3 1 RInt (.slice (some ⟨gv, 0, none⟩) (a + 1 + 2) cv) (rsF (a + 1)).values ∧ SlOf W3 3 (RBlk W3) (.slice (some ⟨B18, 0, none⟩) 4 4) (rsF (a + 1)).blocks) := ⟨sv, sb⟩
  have HW3 : Hid (W3 = W.setCell ⟨B15, 1, none⟩ (.int .i64 0)) := hW3
  clear hW hY hbW rY RW hR1 hb1 sv sb hYM hB18 hB17 hB15 hYB hW3 rY3
  go_upto_region 4 with fail
  rw [← HW3.out]
  clear HW3 y1 n1 i1 o1 oz
  have HS : Hid (∀ w', Below W3.heap.size W3 w' → w'.cell? ⟨Y, 0, none⟩ = some (.slice (some ⟨gv, 0, none⟩) (a + 1 + 2) cv) ∧ w'.cell? ⟨Y, 1, none⟩ = some (.slice (some ⟨B18, 0, none⟩) 4 4)) := fun w' hh => by
    have r := HRY.out.of_block (hh.block _ HRY.out.lt)
    exact ⟨r.cell (i := 0) (by omega), r.cell (i := 1) (by omega)⟩
  have HCT : Hid (∀ w', Below W3.heap.size W3 w' → Calls Try.prog 14 #[.agg #[.slice (some ⟨gv, 0, none⟩) (a + 1 + 2) cv, .slice (some ⟨B18, 0, none⟩) 4 4], .agg #[.int .i64 10, .int .i64 10]] w' fun e w'' => ∃ g1 g2 I O, e = .returned (.tuple #[.agg #[.slice (some ⟨g1, 0, none⟩) 4 4, .slice (some ⟨g2, 0, none⟩) 4 4], .int .i64 0]) ∧ (∀ w3, (∀ b, w'.heap.size ≤ b → b < w''.heap.size → w3.heap[b]? = w''.heap[b]?) → SlOf w3 1 (RRow w3) (.slice (some ⟨g1, 0, none⟩) 4 4) ((List.range 4).map fun b => rowL (a + 1 + 2) (I b)) ∧ SlOf w3 1 (RRow w3) (.slice (some ⟨g2, 0, none⟩) 4 4) ((List.range 4).map fun b => rowL (a + 1 + 2) (O b))) ∧ Told3 (rsF (a + 1)).blocks (a + 1 + 2) I O ∧ Below w'.heap.size w' w'') := fun w' hh => sets_kept (rsF (a + 1)) (a + 1 + 2) 4 10 10 _ _ _ _ (rs_flow a ha) (by simp [rsF]) (by simp [rsF]) w' (HSV.out.1.below hh fun _ _ h => h) (HSV.out.2.below hh (RBlk.below hh))
  have HCS : Hid (∀ w', Below W3.heap.size W3 w' → Calls Try.prog 17 #[.agg #[.slice (some ⟨gv, 0, none⟩) (a + 1 + 2) cv, .slice (some ⟨B18, 0, none⟩) 4 4], .agg #[.int .i64 10, .int .i64 10]] w' fun e w'' => ∃ R vs I O, e = .returned (.tuple #[.slice (some ⟨R, 0, none⟩) (a + 1 + 2) (a + 1 + 2), .int .i64 0]) ∧ PSp w'' R (a + 1 + 2) vs (spansM (rsF (a + 1)).blocks (a + 1 + 2) I O 4) ∧ ((∀ b v, v < a + 1 + 2 → (I b v = true ↔ NeedIn (rsF (a + 1)).blocks b v)) ∧ ∀ b v, v < a + 1 + 2 → (O b v = true ↔ NeedOut (rsF (a + 1)).blocks b v)) ∧ w'.heap.size ≤ R ∧ Below w'.heap.size w' w'') := fun w' hh => spans_any (rsF (a + 1)) (a + 1 + 2) 4 10 10 _ _ _ _ (rs_flow a ha) (by simp [rsF]) (by simp [rsF]) w' (HSV.out.1.below hh fun _ _ h => h) (HSV.out.2.below hh (RBlk.below hh))
  have hbd : Below W3.heap.size W3 W3.drew := (Below.refl _ _).drew
  go_cut [5, 6] (fun x e wz => RsCut (rsF (a + 1)) (a + 1 + 2) W3 x e wz)
  case first =>
    refine wp_region_X (fun w' => w'.cell? ⟨Y, 0, none⟩ = some (.slice (some ⟨gv, 0, none⟩) (a + 1 + 2) cv) ∧ w'.cell? ⟨Y, 1, none⟩ = some (.slice (some ⟨B18, 0, none⟩) 4 4)) 99 (by kernel_rfl) (HS.out _ hbd) (fun hHeld => ?_)
    refine wpX_takeg0 (v := ?_) (by kernel_rfl) (fun _ _ _ h => h) (by rfl) ?_ hHeld ?_
    rotate_left
    · intro w' hSw
      go_simp <;> with_reducible rfl
    try simp only [Act.put, List.setIfInBounds_toArray, List.set_cons_zero, List.set_cons_succ]
    refine wpAnyX_both (i := 1) (k := 6) rfl rfl (by kernel_rfl) (fun K hK => ?_) (fun K hK => ?_)
    · go_simp
      refine (big_any _).mono ?_
      rintro e v1 ⟨rfl, hb1⟩
      have hW1 : Below W3.heap.size W3 v1 := (hbd).trans (hb1.mono (hbd).size)
      refine hK.out _ _ (HS.out _ hW1) (fun hHeld => ?_)
      clear hK K
      try simp only [Act.put, List.setIfInBounds_toArray, List.set_cons_zero, List.set_cons_succ]
      refine wpAnyX_both (i := 2) (k := 6) rfl rfl (by kernel_rfl) (fun K hK => ?_) (fun K hK => ?_)
      · go_simp
        refine (HCT.out _ (hW1)).mono ?_
        rintro e v2 ⟨ga, gb, I, O, rfl, hkp, htold, hb2⟩
        have hW2 : Below W3.heap.size W3 v2 := (hW1).trans (hb2.mono (hW1).size)
        refine hK.out _ _ (HS.out _ hW2) (fun hHeld => ?_)
        clear hK K
        try simp only [Act.put, List.setIfInBounds_toArray, List.set_cons_zero, List.set_cons_succ]
        refine wpX_takeg3 (v := ?_) (by kernel_rfl) (fun _ _ _ h => h) (by rfl) ?_ hHeld ?_
        rotate_left
        · intro w' hSw
          go_simp <;> with_reducible rfl
        try simp only [Act.put, List.setIfInBounds_toArray, List.set_cons_zero, List.set_cons_succ]
        refine wpX_takeg4 (v := ?_) (by kernel_rfl) (fun _ _ _ h => h) (by rfl) ?_ hHeld ?_
        rotate_left
        · intro w' hSw
          go_simp <;> with_reducible rfl
        try simp only [Act.put, List.setIfInBounds_toArray, List.set_cons_zero, List.set_cons_succ]
        refine wpX_takeg5 (v := ?_) (by kernel_rfl) (fun _ _ _ h => h) (by rfl) ?_ hHeld ?_
        rotate_left
        · intro w' hSw
          go_simp <;> with_reducible rfl
        try simp only [Act.put, List.setIfInBounds_toArray, List.set_cons_zero, List.set_cons_succ]
        have HBE : Hid (RsCut (rsF (a + 1)) (a + 1 + 2) W3 (.pointer (some ⟨v2.heap.size, 0, none⟩)) (.int .i64 0) (v2.alloc (.cells #[.slice (some ⟨ga, 0, none⟩) 4 4, .slice (some ⟨gb, 0, none⟩) 4 4] 50))) := rsCut_new hb2.size hkp htold hW2
        refine wpX_step6 (by kernel_rfl) (fun K hK => ?_)
        go_simp
        refine hK.out _ _ (HS.out _ (hW2.alloc hW2.size _)) (fun hHeld => ?_)
        clear hK K
        try simp only [Act.put, List.setIfInBounds_toArray, List.set_cons_zero, List.set_cons_succ]
        refine wpX_step7 (by kernel_rfl) (fun K hK => ?_)
        go_simp
        refine hK.out _ _ (HS.out _ (hW2.alloc hW2.size _)) (fun hHeld => ?_)
        clear hK K
        try simp only [Act.put, List.setIfInBounds_toArray, List.set_cons_zero, List.set_cons_succ]
        refine wpX_step8 (by kernel_rfl) (fun K hK => ?_)
        go_simp
        refine hK.out _ _ (HS.out _ (hW2.alloc hW2.size _)) (fun hHeld => ?_)
        clear hK K
        try simp only [Act.put, List.setIfInBounds_toArray, List.set_cons_zero, List.set_cons_succ]
        refine wpAnyX_done (by kernel_rfl) ?_ _
        go_wp2
        go_meet
        exact HBE.out
      · go_simp
        have hWa : Below W3.heap.size W3 (v1.alloc (.cells #[.slice none 0 0, .slice none 0 0] 50)) := hW1.alloc hW1.size _
        refine hK.out _ _ (HS.out _ hWa) (fun hHeld => ?_)
        clear hK K
        try simp only [Act.put, List.setIfInBounds_toArray, List.set_cons_zero, List.set_cons_succ]
        refine wpX_step2 (by kernel_rfl) (fun K hK => ?_)
        go_simp
        refine (HCT.out _ (hWa)).mono ?_
        rintro e v2 ⟨ga, gb, I, O, rfl, hkp, htold, hb2⟩
        have hW2 : Below W3.heap.size W3 v2 := (hWa).trans (hb2.mono (hWa).size)
        refine hK.out _ _ (HS.out _ hW2) (fun hHeld => ?_)
        clear hK K
        try simp only [Act.put, List.setIfInBounds_toArray, List.set_cons_zero, List.set_cons_succ]
        refine wpX_takeg3 (v := ?_) (by kernel_rfl) (fun _ _ _ h => h) (by rfl) ?_ hHeld ?_
        rotate_left
        · intro w' hSw
          go_simp <;> with_reducible rfl
        try simp only [Act.put, List.setIfInBounds_toArray, List.set_cons_zero, List.set_cons_succ]
        refine wpX_takeg4 (v := ?_) (by kernel_rfl) (fun _ _ _ h => h) (by rfl) ?_ hHeld ?_
        rotate_left
        · intro w' hSw
          go_simp <;> with_reducible rfl
        try simp only [Act.put, List.setIfInBounds_toArray, List.set_cons_zero, List.set_cons_succ]
        refine wpX_takeg5 (v := ?_) (by kernel_rfl) (fun _ _ _ h => h) (by rfl) ?_ hHeld ?_
        rotate_left
        · intro w' hSw
          go_simp <;> with_reducible rfl
        try simp only [Act.put, List.setIfInBounds_toArray, List.set_cons_zero, List.set_cons_succ]
        have hrz : (v1.alloc (.cells #[.slice none 0 0, .slice none 0 0] 50)).rowIs v1.heap.size 50 2 (fun _ => .slice none 0 0) := World.rowIs_alloc _ _ _ _ fun i hi => by
          simp at hi
          match i, hi with | 0, _ => rfl | 1, _ => rfl
        have hr2 := hrz.of_block (hb2.block _ hrz.lt)
        have lZ : W3.heap.size ≤ v1.heap.size := hW1.size
        have hZB : v1.heap.size < ((v1.alloc (.cells #[.slice none 0 0, .slice none 0 0] 50))).heap.size := hrz.lt
        have c0 := hr2.cell (i := 0) (by omega)
        have z0 := hr2.frozen 0
        have c1 := hr2.cell (i := 1) (by omega)
        have z1 := hr2.frozen 1
        have HBE : Hid (RsCut (rsF (a + 1)) (a + 1 + 2) W3 (.pointer (some ⟨v1.heap.size, 0, none⟩)) (.int .i64 0) ((v2.setCell ⟨v1.heap.size, 0, none⟩ (.slice (some ⟨ga, 0, none⟩) 4 4)).setCell ⟨v1.heap.size, 1, none⟩ (.slice (some ⟨gb, 0, none⟩) 4 4))) := rsCut_set hZB hkp htold hW2 hr2 lZ
        have hX0 : Below W3.heap.size W3 ((v2.setCell ⟨v1.heap.size, 0, none⟩ (.slice (some ⟨ga, 0, none⟩) 4 4)).setCell ⟨v1.heap.size, 1, none⟩ (.slice (some ⟨gb, 0, none⟩) 4 4)) := (hW2.setCell lZ _).setCell lZ _
        refine wpX_step7 (by kernel_rfl) (fun K hK => ?_)
        go_simp
        refine hK.out _ _ (HS.out _ hX0) (fun hHeld => ?_)
        clear hK K
        try simp only [Act.put, List.setIfInBounds_toArray, List.set_cons_zero, List.set_cons_succ]
        refine wpX_step8 (by kernel_rfl) (fun K hK => ?_)
        go_simp
        refine hK.out _ _ (HS.out _ hX0) (fun hHeld => ?_)
        clear hK K
        try simp only [Act.put, List.setIfInBounds_toArray, List.set_cons_zero, List.set_cons_succ]
        refine wpAnyX_done (by kernel_rfl) ?_ _
        go_wp2
        go_meet
        exact HBE.out
    · go_simp
      have hWa : Below W3.heap.size W3 (W3.alloc (.cells #[.slice none 0 0, .slice none 0 0] 50)).drew := ((Below.refl W3.heap.size W3).alloc (Nat.le_refl _) _).drew
      refine hK.out _ _ (HS.out _ hWa) (fun hHeld => ?_)
      clear hK K
      try simp only [Act.put, List.setIfInBounds_toArray, List.set_cons_zero, List.set_cons_succ]
      refine wpX_step1 (by kernel_rfl) (fun K hK => ?_)
      go_simp
      refine (big_any _).mono ?_
      rintro e v1 ⟨rfl, hb1⟩
      have hW1 : Below W3.heap.size W3 v1 := (hWa).trans (hb1.mono (hWa).size)
      refine hK.out _ _ (HS.out _ hW1) (fun hHeld => ?_)
      clear hK K
      try simp only [Act.put, List.setIfInBounds_toArray, List.set_cons_zero, List.set_cons_succ]
      refine wpX_step2 (by kernel_rfl) (fun K hK => ?_)
      go_simp
      refine (HCT.out _ (hW1)).mono ?_
      rintro e v2 ⟨ga, gb, I, O, rfl, hkp, htold, hb2⟩
      have hW2 : Below W3.heap.size W3 v2 := (hW1).trans (hb2.mono (hW1).size)
      refine hK.out _ _ (HS.out _ hW2) (fun hHeld => ?_)
      clear hK K
      try simp only [Act.put, List.setIfInBounds_toArray, List.set_cons_zero, List.set_cons_succ]
      refine wpX_takeg3 (v := ?_) (by kernel_rfl) (fun _ _ _ h => h) (by rfl) ?_ hHeld ?_
      rotate_left
      · intro w' hSw
        go_simp <;> with_reducible rfl
      try simp only [Act.put, List.setIfInBounds_toArray, List.set_cons_zero, List.set_cons_succ]
      refine wpX_takeg4 (v := ?_) (by kernel_rfl) (fun _ _ _ h => h) (by rfl) ?_ hHeld ?_
      rotate_left
      · intro w' hSw
        go_simp <;> with_reducible rfl
      try simp only [Act.put, List.setIfInBounds_toArray, List.set_cons_zero, List.set_cons_succ]
      refine wpX_takeg5 (v := ?_) (by kernel_rfl) (fun _ _ _ h => h) (by rfl) ?_ hHeld ?_
      rotate_left
      · intro w' hSw
        go_simp <;> with_reducible rfl
      try simp only [Act.put, List.setIfInBounds_toArray, List.set_cons_zero, List.set_cons_succ]
      have hrz : (W3.alloc (.cells #[.slice none 0 0, .slice none 0 0] 50)).drew.rowIs W3.heap.size 50 2 (fun _ => .slice none 0 0) := World.rowIs_alloc _ _ _ _ fun i hi => by
        simp at hi
        match i, hi with | 0, _ => rfl | 1, _ => rfl
      have hr1 := hrz.of_block (hb1.block _ hrz.lt)
      have hr2 := hr1.of_block (hb2.block _ hr1.lt)
      have lZ : W3.heap.size ≤ W3.heap.size := Nat.le_refl _
      have hZB : W3.heap.size < v1.heap.size := hr1.lt
      have c0 := hr2.cell (i := 0) (by omega)
      have z0 := hr2.frozen 0
      have c1 := hr2.cell (i := 1) (by omega)
      have z1 := hr2.frozen 1
      have HBE : Hid (RsCut (rsF (a + 1)) (a + 1 + 2) W3 (.pointer (some ⟨W3.heap.size, 0, none⟩)) (.int .i64 0) ((v2.setCell ⟨W3.heap.size, 0, none⟩ (.slice (some ⟨ga, 0, none⟩) 4 4)).setCell ⟨W3.heap.size, 1, none⟩ (.slice (some ⟨gb, 0, none⟩) 4 4))) := rsCut_set hZB hkp htold hW2 hr2 lZ
      have hX0 : Below W3.heap.size W3 ((v2.setCell ⟨W3.heap.size, 0, none⟩ (.slice (some ⟨ga, 0, none⟩) 4 4)).setCell ⟨W3.heap.size, 1, none⟩ (.slice (some ⟨gb, 0, none⟩) 4 4)) := (hW2.setCell lZ _).setCell lZ _
      refine wpX_step7 (by kernel_rfl) (fun K hK => ?_)
      go_simp
      refine hK.out _ _ (HS.out _ hX0) (fun hHeld => ?_)
      clear hK K
      try simp only [Act.put, List.setIfInBounds_toArray, List.set_cons_zero, List.set_cons_succ]
      refine wpX_step8 (by kernel_rfl) (fun K hK => ?_)
      go_simp
      refine hK.out _ _ (HS.out _ hX0) (fun hHeld => ?_)
      clear hK K
      try simp only [Act.put, List.setIfInBounds_toArray, List.set_cons_zero, List.set_cons_succ]
      refine wpAnyX_done (by kernel_rfl) ?_ _
      go_wp2
      go_meet
      exact HBE.out
  case rest =>
    clear hbd HCT
    obtain ⟨Z, ga, gb, I, O, rfl, rfl, rZ, s1, s2, htold, hcut⟩ := hcut
    have HT : Hid (rowL (a + 1 + 2) (I 2) = [0, 1] ∧ rowL (a + 1 + 2) (O 2) = [0, (a : Int) + 2]) := by
      have h1 := told_is (k := 6) (fun b hb v hv => rs_closed a ha b (by simpa [rsF] using hb) v hv) htold
      have h2 := rs_rows a ha
      exact ⟨(rowL_congr fun v hv => (h1 2 v hv).1).trans h2.1, (rowL_congr fun v hv => (h1 2 v hv).2).trans h2.2⟩
    obtain ⟨ai, ci', lga, ri, si, _⟩ := rowS_atR s1 2 (by omega)
    obtain ⟨ao, co', lgb, ro, so, _⟩ := rowS_atR s2 2 (by omega)
    rw [HT.out.1] at ri si
    rw [HT.out.2] at ro so
    have HSI : Hid (SlOf wc 1 RInt (.slice ai 2 ci') [0, 1]) := si
    have HSO : Hid (SlOf wc 1 RInt (.slice ao 2 co') [0, (a : Int) + 2]) := so
    have ri' : wc.cell? ⟨ga, 2, none⟩ = some (.slice ai 2 ci') := ri
    have ro' : wc.cell? ⟨gb, 2, none⟩ = some (.slice ao 2 co') := ro
    have lZ := rZ.lt
    have z0' : wc.cell? ⟨Z, 0, none⟩ = some (.slice (some ⟨ga, 0, none⟩) 4 4) := rZ.cell (i := 0) (by omega)
    have z1' : wc.cell? ⟨Z, 1, none⟩ = some (.slice (some ⟨gb, 0, none⟩) 4 4) := rZ.cell (i := 1) (by omega)
    clear rZ s1 s2 htold HT ri ro si so
    go_upto_region 5 with fail
    have HSF : Hid (∀ w', Below wc.heap.size wc w' → (fun w' => w'.cell? ⟨Y, 0, none⟩ = some (.slice (some ⟨gv, 0, none⟩) (a + 1 + 2) cv) ∧ w'.cell? ⟨Y, 1, none⟩ = some (.slice (some ⟨B18, 0, none⟩) 4 4)) w') := fun w' hh => HS.out _ (hcut.trans (hh.mono hcut.size))
    have hbd : Below wc.heap.size wc wc.drew := (Below.refl _ _).drew
    refine wp_region_X (fun w' => w'.cell? ⟨Y, 0, none⟩ = some (.slice (some ⟨gv, 0, none⟩) (a + 1 + 2) cv) ∧ w'.cell? ⟨Y, 1, none⟩ = some (.slice (some ⟨B18, 0, none⟩) 4 4)) 99 (by kernel_rfl) (HSF.out _ hbd) (fun hHeld => ?_)
    refine wpX_takeg0 (v := ?_) (by kernel_rfl) (fun _ _ _ h => h) (by rfl) ?_ hHeld ?_
    rotate_left
    · intro w' hSw
      go_simp <;> with_reducible rfl
    try simp only [Act.put, List.setIfInBounds_toArray, List.set_cons_zero, List.set_cons_succ]
    refine wpX_step1 (by kernel_rfl) (fun K hK => ?_)
    go_simp
    refine (big_any _).mono ?_
    rintro e w4 ⟨rfl, hb4⟩
    have hc4 : Below wc.heap.size wc w4 := hbd.trans (hb4.mono hbd.size)
    refine hK.out _ _ (HSF.out _ hc4) (fun hHeld => ?_)
    clear hK K
    try simp only [Act.put, List.setIfInBounds_toArray, List.set_cons_zero, List.set_cons_succ]
    refine wpX_step2 (by kernel_rfl) (fun K hK => ?_)
    go_simp
    refine (HCS.out _ (hcut.trans (hc4.mono hcut.size))).mono ?_
    rintro e w5 ⟨R, vs, I2, O2, rfl, hps, htold2, hRl, hb5⟩
    have hc5 : Below wc.heap.size wc w5 := hc4.trans (hb5.mono hc4.size)
    refine hK.out _ _ (HSF.out _ hc5) (fun hHeld => ?_)
    clear hK K
    try simp only [Act.put, List.setIfInBounds_toArray, List.set_cons_zero, List.set_cons_succ]
    refine wpX_takeg3 (v := ?_) (by kernel_rfl) (fun _ _ _ h => h) (by rfl) ?_ hHeld ?_
    rotate_left
    · intro w' hSw
      go_simp <;> with_reducible rfl
    try simp only [Act.put, List.setIfInBounds_toArray, List.set_cons_zero, List.set_cons_succ]
    refine wpX_takeg4 (v := ?_) (by kernel_rfl) (fun _ _ _ h => h) (by rfl) ?_ hHeld ?_
    rotate_left
    · intro w' hSw
      go_simp <;> with_reducible rfl
    try simp only [Act.put, List.setIfInBounds_toArray, List.set_cons_zero, List.set_cons_succ]
    refine wpX_takeg5 (v := ?_) (by kernel_rfl) (fun _ _ _ h => h) (by rfl) ?_ hHeld ?_
    rotate_left
    · intro w' hSw
      go_simp <;> with_reducible rfl
    try simp only [Act.put, List.setIfInBounds_toArray, List.set_cons_zero, List.set_cons_succ]
    refine wpX_takeg6 (v := ?_) (by kernel_rfl) (fun _ _ _ h => h) (by rfl) ?_ hHeld ?_
    rotate_left
    · intro w' hSw
      go_simp <;> with_reducible rfl
    try simp only [Act.put, List.setIfInBounds_toArray, List.set_cons_zero, List.set_cons_succ]
    refine wpX_takeg7 (v := ?_) (by kernel_rfl) (fun _ _ _ h => h) (by rfl) ?_ hHeld ?_
    rotate_left
    · intro w' hSw
      go_simp <;> with_reducible rfl
    try simp only [Act.put, List.setIfInBounds_toArray, List.set_cons_zero, List.set_cons_succ]
    refine wpAnyX_done (by kernel_rfl) ?_ _
    have HSP : Hid (spansM (rsF (a + 1)).blocks (a + 1 + 2) I2 O2 4 0 = [(2, 14 + 2 * (a : Int))]) := by
      have h1 := told_is (k := 6) (fun b hb v hv => rs_closed a ha b (by simpa [rsF] using hb) v hv) htold2
      show _ = _
      rw [spansM_congr (I' := fun b v => needN (rsF (a + 1)).blocks 6 b v) (O' := fun b v => outN (rsF (a + 1)).blocks 6 b v) h1 4]
      exact rs_span a ha
    have hrow := hps.row.cell (i := 0) (by omega)
    have own := hps.own 0 (by omega)
    rw [HSP.out] at own
    obtain ⟨g, cg, hvk, _, lgg, gc, _⟩ := own_rowL own (by simp)
    rw [hvk] at hrow
    have gc0 := gc 0 (by simp [cS])
    have gc1 := gc 1 (by simp [cS])
    have lR := hps.row.lt
    simp only [List.flatMap_cons, List.flatMap_nil, cS, List.append_nil, List.getElem_cons_zero, List.getElem_cons_succ, List.length_singleton] at gc0 gc1 hrow
    have x0 := (hc5.cell (p := ⟨Z, 0, none⟩) lZ).trans z0'
    have x1 := (hc5.cell (p := ⟨Z, 1, none⟩) lZ).trans z1'
    have x2 := (hc5.cell (p := ⟨ga, 2, none⟩) lga).trans ri'
    have x3 := (hc5.cell (p := ⟨gb, 2, none⟩) lgb).trans ro'
    have y0 := (HS.out _ (hcut.trans (hc5.mono hcut.size))).1
    have HB5 : Hid (Below w.heap.size w w5) := (HBW0.out.trans (hcut.mono HBW0.out.size)).trans (hc5.mono (Nat.le_trans HBW0.out.size hcut.size))
    have lZ5 := Nat.lt_of_lt_of_le lZ hc5.size
    have lga5 := Nat.lt_of_lt_of_le lga hc5.size
    have lgb5 := Nat.lt_of_lt_of_le lgb hc5.size
    have HSI5 : Hid (SlOf w5 1 RInt (.slice ai 2 ci') [0, 1]) := HSI.out.below hc5 fun _ _ h => h
    have HSO5 : Hid (SlOf w5 1 RInt (.slice ao 2 co') [0, (a : Int) + 2]) := HSO.out.below hc5 fun _ _ h => h
    clear hps htold2 hb5 hc5 hc4 hb4 hbd own gc hvk HSF HCS HSP hHeld hcut HSI HSO z0' z1' ri' ro' lZ lga lgb hRl
    go_upto_region 8 with fail
    obtain ⟨W6, hW6⟩ : ∃ W6, W6 = w5.alloc (.cells #[.int .i64 0, .int .i64 1] 3) := ⟨_, rfl⟩
    have hb6 : Below w5.heap.size w5 W6 := by rw [hW6]; exact (Below.refl _ _).alloc (Nat.le_refl _) _
    have HC1 := sameInts_true [0, 1] ai (some ⟨w5.heap.size, 0, none⟩) 2 ci' 2 W6 rfl (HSI5.out.below hb6 fun _ _ h => h) (by rw [hW6]; exact two_sl w5 0 1 3)
    rw [hW6] at HC1
    have wk2 : IntKind.i64.wrap (1 + (a : Int) + 1) = (a : Int) + 2 := by rw [IntKind.wrap_i64]; omega
    have w1' : IntKind.i64.wrap (2 * (1 + (a : Int))) = 2 * (1 + (a : Int)) := by rw [IntKind.wrap_i64]; omega
    have w2' : IntKind.i64.wrap (10 + 2 * (1 + (a : Int))) = 10 + 2 * (1 + (a : Int)) := by rw [IntKind.wrap_i64]; omega
    have w3' : IntKind.i64.wrap (10 + 2 * (1 + (a : Int)) + 2) = 14 + 2 * (a : Int) := by rw [IntKind.wrap_i64]; omega
    have eqr := eqSpan
    have eqg := eqSpanG
    go_wp2_with fail
    refine HC1.mono ?_
    clear HC1
    rintro e w7 ⟨rfl, hb7⟩
    rw [← hW6] at hb7
    have hb57 : Below w5.heap.size w5 w7 := hb6.trans (hb7.mono hb6.size)
    have a1 := (hb57.cell (p := ⟨Z, 1, none⟩) lZ5).trans x1
    have a3 := (hb57.cell (p := ⟨gb, 2, none⟩) lgb5).trans x3
    have a4 := (hb57.cell (p := ⟨R, 0, none⟩) lR).trans hrow
    have a5 := (hb57.cell (p := ⟨g, 0, none⟩) lgg).trans gc0
    have a6 := (hb57.cell (p := ⟨g, 1, none⟩) lgg).trans gc1
    have lR7 := Nat.lt_of_lt_of_le lR hb57.size
    have lg7 := Nat.lt_of_lt_of_le lgg hb57.size
    have HB7 : Hid (Below w.heap.size w w7) := HB5.out.trans (hb57.mono HB5.out.size)
    have hb8 : Below w7.heap.size w7 (w7.alloc (.cells #[.int .i64 0, .int .i64 ((a : Int) + 2)] 3)) := (Below.refl _ _).alloc (Nat.le_refl _) _
    have HC2 := sameInts_true [0, (a : Int) + 2] ao (some ⟨w7.heap.size, 0, none⟩) 2 co' 2 (w7.alloc (.cells #[.int .i64 0, .int .i64 ((a : Int) + 2)] 3)) rfl ((HSO5.out.below hb57 fun _ _ h => h).below hb8 fun _ _ h => h) (two_sl w7 0 ((a : Int) + 2) 3)
    clear hW6 hb6 hb7 hb57 x0 x1 x2 x3 y0 hrow gc0 gc1 HSI5 HSO5
    go_wp2_with fail
    refine HC2.mono ?_
    clear HC2
    rintro e w9 ⟨rfl, hb9⟩
    have hb79 : Below w7.heap.size w7 w9 := hb8.trans (hb9.mono hb8.size)
    have b4 := (hb79.cell (p := ⟨R, 0, none⟩) lR7).trans a4
    have b5 := (hb79.cell (p := ⟨g, 0, none⟩) lg7).trans a5
    have b6 := (hb79.cell (p := ⟨g, 1, none⟩) lg7).trans a6
    have HB9 : Hid (Below w.heap.size w w9) := HB7.out.trans (hb79.mono HB7.out.size)
    clear hb8 hb9 hb79 a1 a3 a4 a5 a6
    go_wp2
    go_ret
    exact ⟨rfl, HB9.out⟩

end Go.Proofs.Ytkbbmficmogmgaa
