/-
  The walk of GroupsReuse: what is reused, and not needed behind that, is one group with what reuses it.
-/
import Derived.Test.YtdlnofjmonpmgaaG13
import Derived.Deep.QuietTactic
import Derived.BigQuiet
import Derived.OpenShut
namespace Go.Proofs.Ytdlnofjmonpmgaa
open Go.RowKit Go.Lib
set_option linter.unusedVariables false

section
variable {P : Program} {o : Oper} {a : Act} {w w' : World} {K : Act → World → Prop} {Q : Exit → Act → World → Prop}
theorem wpO_appendG (s x : Operand) (t : TypeId) (ho : o.op = .call { callee := .builtin .append, args := #[s, x], argTypes := #[t, t] }) {v1 v2 v : Value} (h1 : a.eval s = v1) (h2 : a.eval x = v2) (hr : (Builtin.append_ #[t, t] o.type #[v1, v2]).run P w = .ok v w') (hK : K (a.put o.dst v) w') : Oper.wp P o a w K Q := by
  unfold Oper.wp execOp
  simp only [ho, resolve, invoke, builtin, Sem.run_bind, Sem.run_pure, Result.andThen_ok, List.map_toArray, List.map_cons, List.map_nil, h1, h2, hr]
  exact hK
end
theorem insInfoG : ∃ i, Try.prog.info? 55 = some i ∧ i.zero = some (.agg #[.int .i64 0, .slice none 0 0, .slice none 0 0]) ∧ i.size = 3 ∧ i.bytes = 56 := by
  obtain ⟨i, hi, hz⟩ := Option.map_eq_some_iff.1 infoIn
  simp only [Prod.mk.injEq] at hz
  exact ⟨i, hi, hz.1, hz.2.1, hz.2.2⟩
/-- What the walk knows ahead of the call: the function in its box. -/
def RvAt (j : Nat) (late : Bool) (Y : Nat) (gv cv N : Nat) (w : World) : Prop := w.rowIs Y 30 2 (fun q => if q = 0 then .slice (some ⟨gv, 0, none⟩) (j + 2) cv else .slice (some ⟨N + 1, 0, none⟩) 1 1) ∧ SlOf w 1 RInt (.slice (some ⟨gv, 0, none⟩) (j + 2) cv) (rvF j late).values ∧ SlOf w 3 (RBlk w) (.slice (some ⟨N + 1, 0, none⟩) 1 1) (rvF j late).blocks

set_option maxRecDepth 8000 in
set_option maxHeartbeats 16000000 in
theorem groupsReuse_walk (c : Int) (wc : (Lit.int .i64 c).wf = true) (late : Bool) (w : World) :
    Calls Try.prog 6 #[.int .i64 c, .bool late] w fun e w' => e = .returned (.bool true) ∧ Below w.heap.size w w' := by
  obtain ⟨p0, p1⟩ := pickedOf_bd c 10 (by omega)
  obtain ⟨c0, c1⟩ := bounds_i64 wc
  go_enter Try.func6, Try.ntmps6
  go_wp2_with fail
  refine (picked_any _ _ _ c0 c1 (by omega) (by omega)).mono ?_
  rintro e w ⟨rfl, rfl⟩
  generalize pickedOf c 10 = kk at *
  obtain ⟨j, rfl⟩ : ∃ j : Nat, kk = j := ⟨kk.toNat, by omega⟩
  have hk : j < 10 := by omega
  have wk : IntKind.i64.wrap (2 + (j : Int)) = 2 + (j : Int) := by rw [IntKind.wrap_i64]; omega
  have ek : ((j + 2 : Nat) : Int) = 2 + (j : Int) := by omega
  obtain ⟨N, hN⟩ : ∃ N, w.heap.size = N := ⟨_, rfl⟩
  have HCL := line_any (j + 2) w (by omega) (by omega)
  rw [ek, hN] at HCL
  have HN : Hid (w.heap.size = N) := hN
  clear p0 p1 ek hN
  go_wp2_with fail
  refine HCL.mono ?_
  clear HCL wk
  rintro e w1 ⟨vv, vi, ob, rfl, hL, hb1⟩
  obtain ⟨gv, cv, rfl, gv1, gv2, _, _⟩ := own_rowL hL.ov (by omega)
  obtain ⟨gi, ci, rfl, gi1, gi2, gi3, _⟩ := own_rowL hL.oi (by omega)
  go_upto_region 3 with fail
  obtain ⟨W, hW⟩ : ∃ W, W = w1.alloc (.cells #[.slice (some ⟨gv, 0, none⟩) (j + 2) cv, .slice (some ⟨N + 1, 0, none⟩) 1 1] 30) := ⟨_, rfl⟩
  obtain ⟨Y, hY⟩ : ∃ Y, w1.heap.size = Y := ⟨_, rfl⟩
  have hbW : Below w1.heap.size w1 W := by rw [hW]; exact (Below.refl _ _).alloc (Nat.le_refl _) _
  have rY : W.rowIs Y 30 2 (fun q => if q = 0 then .slice (some ⟨gv, 0, none⟩) (j + 2) cv else .slice (some ⟨N + 1, 0, none⟩) 1 1) := by
    rw [hW, ← hY]
    exact World.rowIs_alloc _ _ _ _ fun i hi => by
      simp at hi
      match i, hi with | 0, _ => rfl | 1, _ => rfl
  have hT : LineT N (j + 2) 1 (.slice (some ⟨gv, 0, none⟩) (j + 2) cv) (.slice (some ⟨gi, 0, none⟩) (j + 2) ci) ob W := (LineT.of hL).keep hbW.size fun b _ h => hbW.block b h
  have HB0 : Hid (Below N w W) := by
    have h := hb1.size
    rw [HN.out] at h
    exact hb1.trans (hbW.mono h)
  have HT0 : Hid (LineT N (j + 2) 1 (.slice (some ⟨gv, 0, none⟩) (j + 2) cv) (.slice (some ⟨gi, 0, none⟩) (j + 2) ci) ob W ∧ W.rowIs Y 30 2 (fun q => if q = 0 then .slice (some ⟨gv, 0, none⟩) (j + 2) cv else .slice (some ⟨N + 1, 0, none⟩) 1 1)) := ⟨hT, rY⟩
  have HOB : Hid (∀ k, k < j + 2 → ob k < Y ∧ N + 1 + 1 + 1 ≤ ob k) := fun k hk => ⟨by rw [← hY]; exact (hL.obs k hk).lt, (hL.obs k hk).base⟩
  have HGI : Hid (N + 1 < gi ∧ gi < Y ∧ N + 1 < Y) := ⟨by omega, by omega, by omega⟩
  rw [← hW, hY]
  clear hW hY hbW rY hT hL hb1 gv1 gv2 gi1 gi2 gi3
  --CUT1
  go_wp2_with fail
  go_loopw [7] (fun i wr => ∃ t : Nat, 1 ≤ t ∧ t ≤ j + 2 ∧ i = .int .i64 t ∧ Hid (LineT N (j + 2) t (.slice (some ⟨gv, 0, none⟩) (j + 2) cv) (.slice (some ⟨gi, 0, none⟩) (j + 2) ci) ob wr ∧ wr.rowIs Y 30 2 (fun q => if q = 0 then .slice (some ⟨gv, 0, none⟩) (j + 2) cv else .slice (some ⟨N + 1, 0, none⟩) 1 1) ∧ Below N w wr)) (fun i _ => j + 2 - (intOf i).toNat)
  case atStart => exact ⟨1, Nat.le_refl _, by omega, rfl, HT0.out.1, HT0.out.2, HB0.out⟩
  case round =>
    clear HB0 HT0
    obtain ⟨t, ht1, ht2, rfl, HJ⟩ := hrel
    by_cases htn : t < j + 2
    · have K := HJ.out.1.obs t htn
      have y1 : wr.cell? ⟨Y, 1, none⟩ = some (.slice (some ⟨N + 1, 0, none⟩) 1 1) := HJ.out.2.1.cell (i := 1) (by omega)
      have n1 : wr.cell? ⟨N + 1, 1, none⟩ = some (.slice (some ⟨gi, 0, none⟩) (j + 2) ci) := HJ.out.1.r1.cell (i := 1) (by omega)
      have hm : (lnO t).length = 2 := by unfold lnO; rw [if_neg (by omega)]; rfl
      have i1 : wr.cell? ⟨gi, t * 3 + 1, none⟩ = some (.slice (some ⟨ob t, 0, none⟩) 2 2) := by
        obtain ⟨g, c', e, _, _, gi3, _⟩ := own_rowL HJ.out.1.oi (by omega)
        simp only [Value.slice.injEq, Option.some.injEq, Addr.mk.injEq] at e
        obtain ⟨⟨rfl, _⟩, _⟩ := e
        have hl : (lnXs ob (j + 2)).length = (j + 2) * 3 := by
          unfold lnXs
          rw [flat_length (fun j => lnX (ob j) j) 3 (fun _ => rfl), List.length_range]
        have h1 := gi3 (t * 3 + 1) (by omega)
        have h2 := flat_at (fun j => lnX (ob j) j) 3 (fun _ => rfl) (List.range (j + 2)) t 1 (by simpa using htn) (by omega)
        rw [h1, ← List.getElem?_eq_getElem]
        show (lnXs ob (j + 2))[t * 3 + 1]? = _
        unfold lnXs
        rw [h2]
        simp [lnX, hm]
      have o1 : wr.cell? ⟨ob t, 8, none⟩ = some (.int .i64 1) := by
        have kb := K.blk
        have e1 : lnB t t = lnO t := by unfold lnB; rw [if_neg (by omega)]
        have e3 : lnO t = [⟨1, (t : Int) - 1, false, 1, 0⟩, ⟨2, t, true, 1, 0⟩] := by unfold lnO; rw [if_neg (by omega)]
        rw [e1, e3] at kb
        exact blk_cellL kb 8 (by simp [cO])
      have oz : wr.frozen? ⟨ob t, 8, none⟩ = false := blk_frozenL K.blk _
      have HN2 : Hid (LineT N (j + 2) (t + 1) (.slice (some ⟨gv, 0, none⟩) (j + 2) cv) (.slice (some ⟨gi, 0, none⟩) (j + 2) ci) ob (wr.setCell ⟨ob t, 8, none⟩ (.int .i64 5)) ∧ (wr.setCell ⟨ob t, 8, none⟩ (.int .i64 5)).rowIs Y 30 2 (fun q => if q = 0 then .slice (some ⟨gv, 0, none⟩) (j + 2) cv else .slice (some ⟨N + 1, 0, none⟩) 1 1) ∧ Below N w (wr.setCell ⟨ob t, 8, none⟩ (.int .i64 5))) := by
        have h := HOB.out t htn
        exact ⟨HJ.out.1.set ht1 htn, HJ.out.2.1.setOther (by simp; omega) _, HJ.out.2.2.setCell (by simp; omega) _⟩
      have d1 : (t : Int) < 2 + (j : Int) := by omega
      have d2 : (t : Int) < (j : Int) + 2 := by omega
      have d3 : t < j + 2 + 1 := by omega
      obtain ⟨B, hB⟩ : ∃ B, ob t = B := ⟨_, rfl⟩
      rw [hB] at i1 o1 oz HN2
      clear K hm hB HJ
      --CUT2
      go_wp2
      go_roundw
      case rel => exact ⟨t + 1, by omega, by omega, by go_num, HN2.out⟩
      case measure => simp [intOf]; omega
    · have ht : t = j + 2 := by omega
      subst ht
      have hsl := HJ.out.1.sl (by omega)
      have HF0 : Hid (RvAt j false Y gv cv N wr ∧ Below N w wr) := ⟨⟨HJ.out.2.1, hsl⟩, HJ.out.2.2⟩
      have d1 : ¬ ((j : Int) + 2 < 2 + (j : Int)) := by omega
      clear hsl
      cases late
      · clear HJ HOB
        go_upto_region 9 with fail
        --CUT3
        have HS : Hid (∀ w', Below wr.heap.size wr w' → (fun w' => w'.cell? ⟨Y, 0, none⟩ = some (.slice (some ⟨gv, 0, none⟩) (j + 2) cv) ∧ w'.cell? ⟨Y, 1, none⟩ = some (.slice (some ⟨N + 1, 0, none⟩) 1 1)) w') := fun w' hh => by
          have r := HF0.out.1.1.of_block (hh.block _ HF0.out.1.1.lt)
          exact ⟨r.cell (i := 0) (by omega), r.cell (i := 1) (by omega)⟩
        have hbd : Below wr.heap.size wr wr.drew := (Below.refl _ _).drew
        have HG1 : Hid (∀ w', Below wr.heap.size wr w' → Calls Try.prog 9 #[.agg #[.slice (some ⟨gv, 0, none⟩) (j + 2) cv, .slice (some ⟨N + 1, 0, none⟩) 1 1], .agg #[.int .i64 10, .int .i64 10]] w' fun e w'' => ∃ L I O, e = .returned (.tuple #[.slice (some ⟨L, 0, none⟩) (j + 2) (j + 2), .int .i64 0]) ∧ w''.rowIs L 3 (j + 2) (fun i => .int .i64 (groupsM (j + 2) (spansM (rvF j false).blocks (j + 2) I O 1) (rvF j false).blocks i : Nat)) ∧ ((∀ b v, v < j + 2 → (I b v = true ↔ NeedIn (rvF j false).blocks b v)) ∧ ∀ b v, v < j + 2 → (O b v = true ↔ NeedOut (rvF j false).blocks b v)) ∧ (∃ T, GInv (j + 2) (spansM (rvF j false).blocks (j + 2) I O 1) (groupsM (j + 2) (spansM (rvF j false).blocks (j + 2) I O 1) (rvF j false).blocks) T) ∧ w'.heap.size ≤ L ∧ Below w'.heap.size w' w'') := fun w' hh => groups_any (rvF j false) (j + 2) 1 10 10 _ _ _ _ (rv_flow j hk false) (by simp [rvF]) (by simp [rvF]) w' (HF0.out.1.2.1.below hh fun _ _ h => h) (HF0.out.1.2.2.below hh (RBlk.below hh))
        refine wp_region_X (fun w' => w'.cell? ⟨Y, 0, none⟩ = some (.slice (some ⟨gv, 0, none⟩) (j + 2) cv) ∧ w'.cell? ⟨Y, 1, none⟩ = some (.slice (some ⟨N + 1, 0, none⟩) 1 1)) 99 (by kernel_rfl) (HS.out _ hbd) (fun hHeld => ?_)
        refine wpXt (v := ?_) 0 rfl (by kernel_rfl) (fun _ _ _ h => h) (by rfl) ?_ hHeld ?_
        rotate_left
        · intro w' hSw
          go_simp <;> with_reducible rfl
        try simp only [Act.put, List.setIfInBounds_toArray, List.set_cons_zero, List.set_cons_succ]
        refine wpXs 1 rfl (by kernel_rfl) (fun K hK => ?_)
        go_simp
        refine (big_any _).mono ?_
        rintro e v1 ⟨rfl, hb1⟩
        have hW1 : Below wr.heap.size wr v1 := hbd.trans (hb1.mono hbd.size)
        refine hK.out _ _ (HS.out _ hW1) (fun hHeld => ?_)
        clear hK K
        try simp only [Act.put, List.setIfInBounds_toArray, List.set_cons_zero, List.set_cons_succ]
        refine wpXs 2 rfl (by kernel_rfl) (fun K hK => ?_)
        go_simp
        refine (HG1.out _ hW1).mono ?_
        rintro e w6 ⟨L, I, O, rfl, hrl, htold, _, hLl, hb2⟩
        have hW6 : Below wr.heap.size wr w6 := hW1.trans (hb2.mono hW1.size)
        refine hK.out _ _ (HS.out _ hW6) (fun hHeld => ?_)
        clear hK K
        try simp only [Act.put, List.setIfInBounds_toArray, List.set_cons_zero, List.set_cons_succ]
        clear hW1 hb1 hb2
        refine wpXt (v := ?_) 3 rfl (by kernel_rfl) (fun _ _ _ h => h) (by rfl) ?_ hHeld ?_
        rotate_left
        · intro w' hSw
          go_simp <;> with_reducible rfl
        try simp only [Act.put, List.setIfInBounds_toArray, List.set_cons_zero, List.set_cons_succ]
        refine wpXt (v := ?_) 4 rfl (by kernel_rfl) (fun _ _ _ h => h) (by rfl) ?_ hHeld ?_
        rotate_left
        · intro w' hSw
          go_simp <;> with_reducible rfl
        try simp only [Act.put, List.setIfInBounds_toArray, List.set_cons_zero, List.set_cons_succ]
        refine wpXt (v := ?_) 5 rfl (by kernel_rfl) (fun _ _ _ h => h) (by rfl) ?_ hHeld ?_
        rotate_left
        · intro w' hSw
          go_simp <;> with_reducible rfl
        try simp only [Act.put, List.setIfInBounds_toArray, List.set_cons_zero, List.set_cons_succ]
        refine wpXs 6 rfl (by kernel_rfl) (fun K hK => ?_)
        go_simp
        refine hK.out _ _ hHeld (fun hHeld => ?_)
        clear hK K
        try simp only [Act.put, List.setIfInBounds_toArray, List.set_cons_zero, List.set_cons_succ]
        refine wpXs 7 rfl (by kernel_rfl) (fun K hK => ?_)
        go_simp
        refine hK.out _ _ hHeld (fun hHeld => ?_)
        clear hK K
        try simp only [Act.put, List.setIfInBounds_toArray, List.set_cons_zero, List.set_cons_succ]
        refine wpAnyX_done (by kernel_rfl) ?_ _
        have HL : Hid (∀ w', Below w6.heap.size w6 w' → ∀ v, v < j + 2 → w'.cell? ⟨L, v, none⟩ = some (.int .i64 (if false = true ∧ v ≠ 0 then 1 else 0 : Nat))) := fun w' hh v hv => (hh.cell (p := ⟨L, v, none⟩) hrl.lt).trans ((hrl.cell hv).trans (by rw [rv_groups hk false htold v hv]))
        have HB6 : Hid (Below N w w6) := HF0.out.2.trans (hW6.mono (by have h := HF0.out.2.size; rw [HN.out] at h; exact h))
        have k0 := HL.out w6 (Below.refl _ _) 0 (by omega)
        rw [if_neg (by rintro ⟨_, h⟩; exact h rfl)] at k0
        have q1 : ((j : Int) + 2 == 2 + (j : Int)) = true := by simp; omega
        have q2 : (j : Int) + 2 = 2 + (j : Int) := by omega
        have q3 : (0 : Int) < (j : Int) + 2 := by omega
        clear hrl htold hLl hW6 hbd hHeld HS HG1
        --CUT6false
        go_wp2_with fail
        clear k0
        go_loopw [4, 10] (fun r i wr => ∃ v : Nat, 1 ≤ v ∧ v ≤ j + 2 ∧ i = .int .i64 v ∧ Hid (Below w6.heap.size w6 wr)) (fun _ i _ => j + 2 - (intOf i).toNat)
        case atStart => exact ⟨1, Nat.le_refl _, by omega, rfl, Below.refl _ _⟩
        case round =>
          obtain ⟨v, hv1, hv2, rfl, HBR⟩ := hrel
          by_cases hvn : v < j + 2
          · have x0 : wr.cell? ⟨L, v, none⟩ = some (.int .i64 0) := (HL.out wr HBR.out v hvn).trans (by rw [if_neg (fun h => by cases h.1)]; rfl)
            have d1 : (v : Int) < 2 + (j : Int) := by omega
            have d2 : (v : Int) < (j : Int) + 2 := by omega
            have d3 : v < j + 2 + 1 := by omega
            go_wp2
            go_roundw
            case rel => exact ⟨v + 1, by omega, by omega, by go_num, HBR⟩
            case measure => simp [intOf]; omega
          · have ev : v = j + 2 := by omega
            subst ev
            have HE : Hid (Below w.heap.size w wr) := by
              have h := HB6.out.size
              rw [HN.out] at h ⊢
              exact HB6.out.trans (HBR.out.mono h)
            clear HBR
            go_wp2
            go_ret
            exact ⟨rfl, HE.out⟩
      · clear HF0
        obtain ⟨Wd, hWd⟩ : ∃ Wd, Wd = wr.drew := ⟨_, rfl⟩
        have hbd0 : Below wr.heap.size wr Wd := by rw [hWd]; exact (Below.refl _ _).drew
        obtain ⟨u, hu⟩ : ∃ u, wr.heap.size = u := ⟨_, rfl⟩
        have zWd : Wd.heap.size = u := by rw [hWd, ← hu]; rfl
        obtain ⟨V1, hV1⟩ : ∃ V1, V1 = Wd.alloc (.cells #[.int .i64 1, .int .i64 0, .bool false, .int .i64 1, .int .i64 0] 51) := ⟨_, rfl⟩
        obtain ⟨V2, hV2⟩ : ∃ V2, V2 = V1.alloc (.cells #[.int .i64 1, .int .i64 0, .bool false, .int .i64 1, .int .i64 0] 51) := ⟨_, rfl⟩
        obtain ⟨V3, hV3⟩ : ∃ V3, V3 = V2.alloc (.cells #[.int .i64 0, .slice (some ⟨u + 1, 0, none⟩) 1 1, .slice none 0 0] 55) := ⟨_, rfl⟩
        obtain ⟨V4, hV4⟩ : ∃ V4, V4 = V3.alloc (.cells #[.int .i64 0, .slice (some ⟨u + 1, 0, none⟩) 1 1, .slice none 0 0] 55) := ⟨_, rfl⟩
        have zV1 : V1.heap.size = u + 1 := by rw [hV1, ← zWd]; simp
        have zV2 : V2.heap.size = u + 1 + 1 := by rw [hV2, ← zV1]; simp
        have zV3 : V3.heap.size = u + 1 + 1 + 1 := by rw [hV3, ← zV2]; simp
        have b1 : Below u wr V1 := by rw [hV1, ← hu]; exact hbd0.alloc (by rw [zWd]; omega) _
        have b2 : Below u wr V2 := by rw [hV2]; exact b1.alloc (by omega) _
        have b3 : Below u wr V3 := by rw [hV3]; exact b2.alloc (by omega) _
        have b4 : Below u wr V4 := by rw [hV4]; exact b3.alloc (by omega) _
        have oi3 : V3.ownsRow (N + 1 + 1 + 1) 55 3 (.slice (some ⟨gi, 0, none⟩) (j + 2) ci) (j + 2) (lnXs ob (j + 2)) := own_keep HJ.out.1.oi fun g _ _ h => b3.block g (by omega)
        have oi4 : V4.ownsRow (N + 1 + 1 + 1) 55 3 (.slice (some ⟨gi, 0, none⟩) (j + 2) ci) (j + 2) (lnXs ob (j + 2)) := own_keep HJ.out.1.oi fun g _ _ h => b4.block g (by omega)
        obtain ⟨iI, hiI, ziI, siI, biI⟩ := insInfoG
        have hnews : ∀ q x, ([.int .i64 0, .slice (some ⟨u + 1, 0, none⟩) 1 1, .slice none 0 0] : List Value)[q]? = some x → V4.cell? ((⟨u + 1 + 1 + 1, 0, none⟩ : Addr).add q) = some x := by
          rw [hV4, ← zV3]
          exact World.news_of_block (cs := #[.int .i64 0, .slice (some ⟨u + 1, 0, none⟩) 1 1, .slice none 0 0]) (t := 55) (fr := (0, 0)) (heap_alloc_new V3 _)
        have hltN : N + 1 < wr.heap.size := HJ.out.1.r1.lt
        obtain ⟨g, cap, V5, hr5, ho5, hg5, hat⟩ := run_append_lies (P := Try.prog) V4 41 41 (N + 1 + 1 + 1) 55 iI _ 3 56 Try.underlying41 hiI ziI siI biI rfl (by decide) (.slice (some ⟨gi, 0, none⟩) (j + 2) ci) (j + 2) _ oi4 ⟨u + 1 + 1 + 1, 0, none⟩ 1 1 [.int .i64 0, .slice (some ⟨u + 1, 0, none⟩) 1 1, .slice none 0 0] rfl hnews (by intro x hx; simp at hx; rcases hx with h | h | h <;> (rw [h]; rfl)) (by omega) (by unfold maxLen; omega) (by omega) (by have := b4.size; have := HOB.out 0 (by omega); have := HJ.out.2.1.lt; omega) _ rfl
        have hk5 : ∀ b, b < u → b ≠ gi → V5.heap[b]? = wr.heap[b]? := fun b hb hne => (hg5.block b (by have := b4.size; omega) (fun e => hne (by simp [Value.ownBlock] at e; exact e))).trans (b4.block b hb)
        have hlY : Y < u := by rw [← hu]; exact HJ.out.2.1.lt
        have hGI := HGI.out
        have hu1 : V5.heap[u + 1]? = some (.cells #[.int .i64 1, .int .i64 0, .bool false, .int .i64 1, .int .i64 0] 51) := by
          rw [hg5.block (u + 1) (by rw [hV4]; simp; omega) (fun e => by simp [Value.ownBlock] at e; omega), hV4, Below.heap_alloc _ _ _ (by omega), hV3, Below.heap_alloc _ _ _ (by omega), hV2, ← zV1]
          exact heap_alloc_new V1 _
        obtain ⟨V6, hV6⟩ : ∃ V6, V6 = V5.setCell ⟨N + 1, 1, none⟩ (.slice (some ⟨g, 0, none⟩) (j + 2 + 1) cap) := ⟨_, rfl⟩
        have rN5 : V5.rowIs (N + 1) 44 3 (fun q => if q = 1 then .slice (some ⟨gi, 0, none⟩) (j + 2) ci else .slice none 0 0) := HJ.out.1.r1.of_block (hk5 _ (by omega) (by omega))
        have rY5 : V5.rowIs Y 30 2 (fun q => if q = 0 then .slice (some ⟨gv, 0, none⟩) (j + 2) cv else .slice (some ⟨N + 1, 0, none⟩) 1 1) := HJ.out.2.1.of_block (hk5 _ (by omega) (by omega))
        have kN6 : ∀ b, b ≠ N + 1 → V6.heap[b]? = V5.heap[b]? := fun b hb => by rw [hV6]; exact Below.heap_setCell _ _ _ _ hb
        have rN6 : V6.rowIs (N + 1) 44 3 (fun q => if q = 1 then .slice (some ⟨g, 0, none⟩) (j + 2 + 1) cap else .slice none 0 0) := by
          rw [hV6]
          exact (rN5.set 1 _).congr fun q _ => by split <;> rfl
        have ho6 : V6.ownsRow (N + 1 + 1 + 1) 55 3 (.slice (some ⟨g, 0, none⟩) (j + 2 + 1) cap) (j + 2 + 1) (lnXs ob (j + 2) ++ [.int .i64 0, .slice (some ⟨u + 1, 0, none⟩) 1 1, .slice none 0 0]) := own_keep ho5 fun b _ h _ => kN6 b (by omega)
        have hz6 : wr.heap.size ≤ V6.heap.size := by
          rw [hV6]
          have h1 := hg5.size
          have h2 := b4.size
          simp [World.setCell]
          omega
        have hsl := LineT.slL HJ.out.1 (by omega) hz6 (fun b hb h1 h2 => (kN6 b h1).trans (hk5 b (by omega) (fun e => h2 (by simp [Value.ownBlock, e])))) ho6 ((kN6 (u + 1) (by omega)).trans hu1) rN6
        have HF1 : Hid (RvAt j true Y gv cv N V6 ∧ Below N w V6) := by
          refine ⟨⟨rY5.of_block (kN6 _ (by omega)), hsl⟩, ?_⟩
          have h1 : Below N w V4 := HJ.out.2.2.trans (b4.mono (by have := HJ.out.2.2.size; omega))
          have h2 : Below N w V5 := h1.grown hg5 (by have := h1.size; have := b4.size; have := HN.out; omega) fun q hq => by simp [Value.ownBlock] at hq; omega
          rw [hV6]
          exact h2.setCell (by simp) _
        have SFA : ∀ W' : World, (∀ b, b < u → b ≠ gi → W'.heap[b]? = wr.heap[b]?) → (fun w' => w'.cell? ⟨Y, 1, none⟩ = some (.slice (some ⟨N + 1, 0, none⟩) 1 1) ∧ w'.cell? ⟨N + 1, 1, none⟩ = some (.slice (some ⟨gi, 0, none⟩) (j + 2) ci) ∧ w'.frozen? ⟨N + 1, 1, none⟩ = false) W' := fun W' h => ⟨(World.cell?_of_block (a := ⟨Y, 1, none⟩) (h Y hlY (by omega))).trans (HJ.out.2.1.cell (i := 1) (by omega)), (World.cell?_of_block (a := ⟨N + 1, 1, none⟩) (h (N + 1) (by omega) (by omega))).trans (HJ.out.1.r1.cell (i := 1) (by omega)), (World.frozen?_of_block (a := ⟨N + 1, 1, none⟩) (h (N + 1) (by omega) (by omega))).trans (HJ.out.1.r1.frozen 1)⟩
        have hs0 : (fun w' => w'.cell? ⟨Y, 1, none⟩ = some (.slice (some ⟨N + 1, 0, none⟩) 1 1) ∧ w'.cell? ⟨N + 1, 1, none⟩ = some (.slice (some ⟨gi, 0, none⟩) (j + 2) ci) ∧ w'.frozen? ⟨N + 1, 1, none⟩ = false) Wd := SFA _ fun b hb _ => hbd0.block b (by omega)
        have hs1 : (fun w' => w'.cell? ⟨Y, 1, none⟩ = some (.slice (some ⟨N + 1, 0, none⟩) 1 1) ∧ w'.cell? ⟨N + 1, 1, none⟩ = some (.slice (some ⟨gi, 0, none⟩) (j + 2) ci) ∧ w'.frozen? ⟨N + 1, 1, none⟩ = false) V1 := SFA _ fun b hb _ => b1.block b hb
        have hs2 : (fun w' => w'.cell? ⟨Y, 1, none⟩ = some (.slice (some ⟨N + 1, 0, none⟩) 1 1) ∧ w'.cell? ⟨N + 1, 1, none⟩ = some (.slice (some ⟨gi, 0, none⟩) (j + 2) ci) ∧ w'.frozen? ⟨N + 1, 1, none⟩ = false) V2 := SFA _ fun b hb _ => b2.block b hb
        have hs3 : (fun w' => w'.cell? ⟨Y, 1, none⟩ = some (.slice (some ⟨N + 1, 0, none⟩) 1 1) ∧ w'.cell? ⟨N + 1, 1, none⟩ = some (.slice (some ⟨gi, 0, none⟩) (j + 2) ci) ∧ w'.frozen? ⟨N + 1, 1, none⟩ = false) V3 := SFA _ fun b hb _ => b3.block b hb
        have hs4 : (fun w' => w'.cell? ⟨Y, 1, none⟩ = some (.slice (some ⟨N + 1, 0, none⟩) 1 1) ∧ w'.cell? ⟨N + 1, 1, none⟩ = some (.slice (some ⟨gi, 0, none⟩) (j + 2) ci) ∧ w'.frozen? ⟨N + 1, 1, none⟩ = false) V4 := SFA _ fun b hb _ => b4.block b hb
        have hs5 : (fun w' => w'.cell? ⟨Y, 1, none⟩ = some (.slice (some ⟨N + 1, 0, none⟩) 1 1) ∧ w'.cell? ⟨N + 1, 1, none⟩ = some (.slice (some ⟨gi, 0, none⟩) (j + 2) ci) ∧ w'.frozen? ⟨N + 1, 1, none⟩ = false) V5 := SFA _ hk5
        have HSS : Hid ((fun w' => w'.cell? ⟨Y, 1, none⟩ = some (.slice (some ⟨N + 1, 0, none⟩) 1 1) ∧ w'.cell? ⟨N + 1, 1, none⟩ = some (.slice (some ⟨gi, 0, none⟩) (j + 2) ci) ∧ w'.frozen? ⟨N + 1, 1, none⟩ = false) Wd ∧ (fun w' => w'.cell? ⟨Y, 1, none⟩ = some (.slice (some ⟨N + 1, 0, none⟩) 1 1) ∧ w'.cell? ⟨N + 1, 1, none⟩ = some (.slice (some ⟨gi, 0, none⟩) (j + 2) ci) ∧ w'.frozen? ⟨N + 1, 1, none⟩ = false) V1 ∧ (fun w' => w'.cell? ⟨Y, 1, none⟩ = some (.slice (some ⟨N + 1, 0, none⟩) 1 1) ∧ w'.cell? ⟨N + 1, 1, none⟩ = some (.slice (some ⟨gi, 0, none⟩) (j + 2) ci) ∧ w'.frozen? ⟨N + 1, 1, none⟩ = false) V2 ∧ (fun w' => w'.cell? ⟨Y, 1, none⟩ = some (.slice (some ⟨N + 1, 0, none⟩) 1 1) ∧ w'.cell? ⟨N + 1, 1, none⟩ = some (.slice (some ⟨gi, 0, none⟩) (j + 2) ci) ∧ w'.frozen? ⟨N + 1, 1, none⟩ = false) V3 ∧ (fun w' => w'.cell? ⟨Y, 1, none⟩ = some (.slice (some ⟨N + 1, 0, none⟩) 1 1) ∧ w'.cell? ⟨N + 1, 1, none⟩ = some (.slice (some ⟨gi, 0, none⟩) (j + 2) ci) ∧ w'.frozen? ⟨N + 1, 1, none⟩ = false) V4 ∧ (fun w' => w'.cell? ⟨Y, 1, none⟩ = some (.slice (some ⟨N + 1, 0, none⟩) 1 1) ∧ w'.cell? ⟨N + 1, 1, none⟩ = some (.slice (some ⟨gi, 0, none⟩) (j + 2) ci) ∧ w'.frozen? ⟨N + 1, 1, none⟩ = false) V5) := ⟨hs0, hs1, hs2, hs3, hs4, hs5⟩
        have HVS : Hid (Wd = wr.drew ∧ V1 = Wd.alloc (.cells #[.int .i64 1, .int .i64 0, .bool false, .int .i64 1, .int .i64 0] 51) ∧ V2 = V1.alloc (.cells #[.int .i64 1, .int .i64 0, .bool false, .int .i64 1, .int .i64 0] 51) ∧ V3 = V2.alloc (.cells #[.int .i64 0, .slice (some ⟨u + 1, 0, none⟩) 1 1, .slice none 0 0] 55) ∧ V4 = V3.alloc (.cells #[.int .i64 0, .slice (some ⟨u + 1, 0, none⟩) 1 1, .slice none 0 0] 55) ∧ V6 = V5.setCell ⟨N + 1, 1, none⟩ (.slice (some ⟨g, 0, none⟩) (j + 2 + 1) cap) ∧ V1.heap.size = u + 1 ∧ V3.heap.size = u + 1 + 1 + 1) := ⟨hWd, hV1, hV2, hV3, hV4, hV6, zV1, zV3⟩
        clear hWd hbd0 hu zWd hV1 hV2 hV3 hV4 zV1 zV2 zV3 b1 b2 b3 b4 oi3 oi4 hiI ziI siI biI hnews hltN ho5 hg5 hat hk5 hlY hGI hu1 hV6 rN5 rY5 kN6 rN6 ho6 hz6 hsl SFA hs0 hs1 hs2 hs3 hs4 hs5 HJ HOB
        go_upto_region 8 with fail
        --CUT4
        refine wp_region_X (fun w' => w'.cell? ⟨Y, 1, none⟩ = some (.slice (some ⟨N + 1, 0, none⟩) 1 1) ∧ w'.cell? ⟨N + 1, 1, none⟩ = some (.slice (some ⟨gi, 0, none⟩) (j + 2) ci) ∧ w'.frozen? ⟨N + 1, 1, none⟩ = false) 14 (by kernel_rfl) (by rw [← HVS.out.1]; exact HSS.out.1) (fun hHeld => ?_)
        rw [← HVS.out.1] at hHeld ⊢
        refine wpXt (v := ?_) 0 rfl (by kernel_rfl) (fun _ _ _ h => h) (by rfl) ?_ hHeld ?_
        rotate_left
        · intro w' hSw
          go_simp <;> with_reducible rfl
        try simp only [Act.put, List.setIfInBounds_toArray, List.set_cons_zero, List.set_cons_succ]
        refine wpXt (v := ?_) 1 rfl (by kernel_rfl) (fun _ _ _ h => h) (by rfl) ?_ hHeld ?_
        rotate_left
        · intro w' hSw
          go_simp <;> with_reducible rfl
        try simp only [Act.put, List.setIfInBounds_toArray, List.set_cons_zero, List.set_cons_succ]
        refine wpXt (v := ?_) 2 rfl (by kernel_rfl) (fun _ _ _ h => h) (by rfl) ?_ hHeld ?_
        rotate_left
        · intro w' hSw
          go_simp <;> with_reducible rfl
        try simp only [Act.put, List.setIfInBounds_toArray, List.set_cons_zero, List.set_cons_succ]
        refine wpXt (v := ?_) 3 rfl (by kernel_rfl) (fun _ _ _ h => h) (by rfl) ?_ hHeld ?_
        rotate_left
        · intro w' hSw
          go_simp <;> with_reducible rfl
        try simp only [Act.put, List.setIfInBounds_toArray, List.set_cons_zero, List.set_cons_succ]
        refine wpXt (v := ?_) 4 rfl (by kernel_rfl) (fun _ _ _ h => h) (by rfl) ?_ hHeld ?_
        rotate_left
        · intro w' hSw
          go_simp <;> with_reducible rfl
        try simp only [Act.put, List.setIfInBounds_toArray, List.set_cons_zero, List.set_cons_succ]
        refine wpXt (v := ?_) 5 rfl (by kernel_rfl) (fun _ _ _ h => h) (by rfl) ?_ hHeld ?_
        rotate_left
        · intro w' hSw
          go_simp <;> with_reducible rfl
        try simp only [Act.put, List.setIfInBounds_toArray, List.set_cons_zero, List.set_cons_succ]
        refine wpXt (v := ?_) 6 rfl (by kernel_rfl) (fun _ _ _ h => h) (by rfl) ?_ hHeld ?_
        rotate_left
        · intro w' hSw
          go_simp <;> with_reducible rfl
        try simp only [Act.put, List.setIfInBounds_toArray, List.set_cons_zero, List.set_cons_succ]
        --CUTa
        refine wpXs 7 rfl (by kernel_rfl) (fun K hK => ?_)
        go_simp
        refine (use_any _ _).mono ?_
        rintro e v1 ⟨rfl, rfl⟩
        rw [← HVS.out.2.1]
        refine hK.out _ _ HSS.out.2.1 (fun hHeld => ?_)
        clear hK K
        try simp only [Act.put, List.setIfInBounds_toArray, List.set_cons_zero, List.set_cons_succ]
        --CUTb
        refine wpXs 8 rfl (by kernel_rfl) (fun K hK => ?_)
        go_simp
        rw [← HVS.out.2.2.1, HVS.out.2.2.2.2.2.2.1]
        refine hK.out _ _ HSS.out.2.2.1 (fun hHeld => ?_)
        clear hK K
        try simp only [Act.put, List.setIfInBounds_toArray, List.set_cons_zero, List.set_cons_succ]
        --CUTc
        refine wpXs 9 rfl (by kernel_rfl) (fun K hK => ?_)
        go_simp
        refine (op_any _ _ _ _ _).mono ?_
        rintro e v1 ⟨rfl, rfl⟩
        rw [← HVS.out.2.2.2.1]
        refine hK.out _ _ HSS.out.2.2.2.1 (fun hHeld => ?_)
        clear hK K
        try simp only [Act.put, List.setIfInBounds_toArray, List.set_cons_zero, List.set_cons_succ]
        --CUTd
        refine wpXs 10 rfl (by kernel_rfl) (fun K hK => ?_)
        go_simp
        rw [← HVS.out.2.2.2.2.1, HVS.out.2.2.2.2.2.2.2]
        refine hK.out _ _ HSS.out.2.2.2.2.1 (fun hHeld => ?_)
        clear hK K
        try simp only [Act.put, List.setIfInBounds_toArray, List.set_cons_zero, List.set_cons_succ]
        --CUTe
        refine wpXs 11 rfl (by kernel_rfl) (fun K hK => ?_)
        rw [if_pos (by rfl)]
        refine wpO_appendG _ _ _ rfl rfl rfl hr5 ?_
        refine hK.out _ _ HSS.out.2.2.2.2.2 (fun hHeld => ?_)
        clear hK K
        try simp only [Act.put, List.setIfInBounds_toArray, List.set_cons_zero, List.set_cons_succ]
        --CUTf
        refine wpXs 12 rfl (by kernel_rfl) (fun K hK => ?_)
        go_simp
        refine hK.out _ _ hHeld (fun hHeld => ?_)
        clear hK K
        try simp only [Act.put, List.setIfInBounds_toArray, List.set_cons_zero, List.set_cons_succ]
        refine wpXt (v := ?_) 13 rfl (by kernel_rfl) (fun _ _ _ h => h) (by rfl) ?_ hHeld ?_
        rotate_left
        · intro w' hSw
          go_simp <;> with_reducible rfl
        try simp only [Act.put, List.setIfInBounds_toArray, List.set_cons_zero, List.set_cons_succ]
        refine wpXl 14 rfl (by kernel_rfl) rfl (by kernel_rfl) (fun K hK => ?_)
        go_simp
        refine hK.out _ _ ?_
        clear hK K
        rw [← HVS.out.2.2.2.2.2.1]
        --CUT5
        go_upto_region 9 with fail
        have HS : Hid (∀ w', Below V6.heap.size V6 w' → (fun w' => w'.cell? ⟨Y, 0, none⟩ = some (.slice (some ⟨gv, 0, none⟩) (j + 2) cv) ∧ w'.cell? ⟨Y, 1, none⟩ = some (.slice (some ⟨N + 1, 0, none⟩) 1 1)) w') := fun w' hh => by
          have r := HF1.out.1.1.of_block (hh.block _ HF1.out.1.1.lt)
          exact ⟨r.cell (i := 0) (by omega), r.cell (i := 1) (by omega)⟩
        have hbd : Below V6.heap.size V6 V6.drew := (Below.refl _ _).drew
        have HG1 : Hid (∀ w', Below V6.heap.size V6 w' → Calls Try.prog 9 #[.agg #[.slice (some ⟨gv, 0, none⟩) (j + 2) cv, .slice (some ⟨N + 1, 0, none⟩) 1 1], .agg #[.int .i64 10, .int .i64 10]] w' fun e w'' => ∃ L I O, e = .returned (.tuple #[.slice (some ⟨L, 0, none⟩) (j + 2) (j + 2), .int .i64 0]) ∧ w''.rowIs L 3 (j + 2) (fun i => .int .i64 (groupsM (j + 2) (spansM (rvF j true).blocks (j + 2) I O 1) (rvF j true).blocks i : Nat)) ∧ ((∀ b v, v < j + 2 → (I b v = true ↔ NeedIn (rvF j true).blocks b v)) ∧ ∀ b v, v < j + 2 → (O b v = true ↔ NeedOut (rvF j true).blocks b v)) ∧ (∃ T, GInv (j + 2) (spansM (rvF j true).blocks (j + 2) I O 1) (groupsM (j + 2) (spansM (rvF j true).blocks (j + 2) I O 1) (rvF j true).blocks) T) ∧ w'.heap.size ≤ L ∧ Below w'.heap.size w' w'') := fun w' hh => groups_any (rvF j true) (j + 2) 1 10 10 _ _ _ _ (rv_flow j hk true) (by simp [rvF]) (by simp [rvF]) w' (HF1.out.1.2.1.below hh fun _ _ h => h) (HF1.out.1.2.2.below hh (RBlk.below hh))
        refine wp_region_X (fun w' => w'.cell? ⟨Y, 0, none⟩ = some (.slice (some ⟨gv, 0, none⟩) (j + 2) cv) ∧ w'.cell? ⟨Y, 1, none⟩ = some (.slice (some ⟨N + 1, 0, none⟩) 1 1)) 99 (by kernel_rfl) (HS.out _ hbd) (fun hHeld => ?_)
        refine wpXt (v := ?_) 0 rfl (by kernel_rfl) (fun _ _ _ h => h) (by rfl) ?_ hHeld ?_
        rotate_left
        · intro w' hSw
          go_simp <;> with_reducible rfl
        try simp only [Act.put, List.setIfInBounds_toArray, List.set_cons_zero, List.set_cons_succ]
        refine wpXs 1 rfl (by kernel_rfl) (fun K hK => ?_)
        go_simp
        refine (big_any _).mono ?_
        rintro e v1 ⟨rfl, hb1⟩
        have hW1 : Below V6.heap.size V6 v1 := hbd.trans (hb1.mono hbd.size)
        refine hK.out _ _ (HS.out _ hW1) (fun hHeld => ?_)
        clear hK K
        try simp only [Act.put, List.setIfInBounds_toArray, List.set_cons_zero, List.set_cons_succ]
        refine wpXs 2 rfl (by kernel_rfl) (fun K hK => ?_)
        go_simp
        refine (HG1.out _ hW1).mono ?_
        rintro e w6 ⟨L, I, O, rfl, hrl, htold, _, hLl, hb2⟩
        have hW6 : Below V6.heap.size V6 w6 := hW1.trans (hb2.mono hW1.size)
        refine hK.out _ _ (HS.out _ hW6) (fun hHeld => ?_)
        clear hK K
        try simp only [Act.put, List.setIfInBounds_toArray, List.set_cons_zero, List.set_cons_succ]
        clear hW1 hb1 hb2
        refine wpXt (v := ?_) 3 rfl (by kernel_rfl) (fun _ _ _ h => h) (by rfl) ?_ hHeld ?_
        rotate_left
        · intro w' hSw
          go_simp <;> with_reducible rfl
        try simp only [Act.put, List.setIfInBounds_toArray, List.set_cons_zero, List.set_cons_succ]
        refine wpXt (v := ?_) 4 rfl (by kernel_rfl) (fun _ _ _ h => h) (by rfl) ?_ hHeld ?_
        rotate_left
        · intro w' hSw
          go_simp <;> with_reducible rfl
        try simp only [Act.put, List.setIfInBounds_toArray, List.set_cons_zero, List.set_cons_succ]
        refine wpXt (v := ?_) 5 rfl (by kernel_rfl) (fun _ _ _ h => h) (by rfl) ?_ hHeld ?_
        rotate_left
        · intro w' hSw
          go_simp <;> with_reducible rfl
        try simp only [Act.put, List.setIfInBounds_toArray, List.set_cons_zero, List.set_cons_succ]
        refine wpXs 6 rfl (by kernel_rfl) (fun K hK => ?_)
        go_simp
        refine hK.out _ _ hHeld (fun hHeld => ?_)
        clear hK K
        try simp only [Act.put, List.setIfInBounds_toArray, List.set_cons_zero, List.set_cons_succ]
        refine wpXs 7 rfl (by kernel_rfl) (fun K hK => ?_)
        go_simp
        refine hK.out _ _ hHeld (fun hHeld => ?_)
        clear hK K
        try simp only [Act.put, List.setIfInBounds_toArray, List.set_cons_zero, List.set_cons_succ]
        refine wpAnyX_done (by kernel_rfl) ?_ _
        have HL : Hid (∀ w', Below w6.heap.size w6 w' → ∀ v, v < j + 2 → w'.cell? ⟨L, v, none⟩ = some (.int .i64 (if true = true ∧ v ≠ 0 then 1 else 0 : Nat))) := fun w' hh v hv => (hh.cell (p := ⟨L, v, none⟩) hrl.lt).trans ((hrl.cell hv).trans (by rw [rv_groups hk true htold v hv]))
        have HB6 : Hid (Below N w w6) := HF1.out.2.trans (hW6.mono (by have h := HF1.out.2.size; rw [HN.out] at h; exact h))
        have k0 := HL.out w6 (Below.refl _ _) 0 (by omega)
        rw [if_neg (by rintro ⟨_, h⟩; exact h rfl)] at k0
        have q1 : ((j : Int) + 2 == 2 + (j : Int)) = true := by simp; omega
        have q2 : (j : Int) + 2 = 2 + (j : Int) := by omega
        have q3 : (0 : Int) < (j : Int) + 2 := by omega
        clear hrl htold hLl hW6 hbd hHeld HS HG1
        --CUT6true
        go_wp2_with fail
        clear k0
        go_loopw [4, 10] (fun r i wr => ∃ v : Nat, 1 ≤ v ∧ v ≤ j + 2 ∧ i = .int .i64 v ∧ Hid (Below w6.heap.size w6 wr)) (fun _ i _ => j + 2 - (intOf i).toNat)
        case atStart => exact ⟨1, Nat.le_refl _, by omega, rfl, Below.refl _ _⟩
        case round =>
          obtain ⟨v, hv1, hv2, rfl, HBR⟩ := hrel
          by_cases hvn : v < j + 2
          · have x0 : wr.cell? ⟨L, v, none⟩ = some (.int .i64 1) := (HL.out wr HBR.out v hvn).trans (by have h0 : ¬ v = 0 := (by omega); simp [h0])
            have d1 : (v : Int) < 2 + (j : Int) := by omega
            have d2 : (v : Int) < (j : Int) + 2 := by omega
            have d3 : v < j + 2 + 1 := by omega
            go_wp2
            go_roundw
            case rel => exact ⟨v + 1, by omega, by omega, by go_num, HBR⟩
            case measure => simp [intOf]; omega
          · have ev : v = j + 2 := by omega
            subst ev
            have HE : Hid (Below w.heap.size w wr) := by
              have h := HB6.out.size
              rw [HN.out] at h ⊢
              exact HB6.out.trans (HBR.out.mono h)
            clear HBR
            go_wp2
            go_ret
            exact ⟨rfl, HE.out⟩
end Go.Proofs.Ytdlnofjmonpmgaa
