/-
  The contract of 'handOn': params take the values of args, all at once.
  The walk's state: its box, the values, and the events so far, each with a list of its own.
-/
import Derived.Test.YtmkloakahefjiaaR3
namespace Go.Proofs.Ytmkloakahefjiaa
open Go.RowKit
set_option linter.unusedVariables false

theorem sets_take : ∀ (ps gs now : List Int) (j : Nat) (h : j < ps.length) (h2 : j < gs.length), setsM (ps.take (j + 1)) (gs.take (j + 1)) now = (setsM (ps.take j) (gs.take j) now).set (ps.getD j 0).toNat (gs.getD j 0)
  | [], _, _, _, h, _ => by simp at h
  | _ :: _, [], _, _, _, h2 => by simp at h2
  | p :: ps, g :: gs, now, 0, _, _ => by simp [setsM]
  | p :: ps, g :: gs, now, j + 1, h, h2 => by
    have ih := sets_take ps gs (now.set p.toNat g) j (by simpa using h) (by simpa using h2)
    simp only [List.take_succ_cons, setsM] at ih ⊢
    rw [ih]
    rfl
theorem make_capR (n : Nat) (hn : n ≤ 1000) (w : World) : (Instr.makeSlice 22 (.int .i64 0) (.int .i64 (n : Int))).run Try.prog w = .ok (.slice (some ⟨w.heap.size, 0, none⟩) 0 n) (w.alloc (.cells (madeCells #[.int .i64 0] n) 3)) := by
  obtain ⟨i3, hi3, hz3, hz31, hz32⟩ := ru_parts ruInfo
  have h := run_make (P := Try.prog) w 22 3 i3 (.int .i64 0) Try.underlying22 hi3 hz3 .i64 .i64 0 (n : Int) (by omega) (by omega) (by rw [hz32]; omega) (by omega)
  rw [hz31] at h
  have e : (Value.int .i64 0).cells = #[.int .i64 0] := rfl
  rw [e, Int.toNat_natCast] at h
  simp only [Nat.mul_one] at h
  exact h
/-- A row that was just made, with room. -/
theorem gr_made (w : World) (n : Nat) (hn : n ≤ 1000) : GrS w w.heap.size (.slice (some ⟨w.heap.size, 0, none⟩) 0 n) [] (w.alloc (.cells (madeCells #[.int .i64 0] n) 3)) := by
  obtain ⟨c, hc, hcs, hcx⟩ := World.rowIs_made w (.int .i64 0) n 3
  exact ⟨⟨rfl, Or.inr ⟨w.heap.size, n, c, rfl, Nat.le_refl _, hc, Nat.zero_le _, by unfold maxLen; omega, by omega, rfl⟩⟩, (Below.refl _ _).alloc (Nat.le_refl _) _, by simp⟩
/-- Where a block's params lie. -/
theorem blk_par {w : World} {ab : Option Addr} {nb cb : Nat} {bs : List Blk} (h : SlOf w 3 (RBlk w) (.slice ab nb cb) bs) (t : Nat) (ht : t < bs.length) : ∃ b off vp, ab = some ⟨b, off, none⟩ ∧ b < w.heap.size ∧ w.cell? ⟨b, off + t * 3, none⟩ = some vp ∧ SlOf w 1 RInt vp bs[t].params := by
  obtain ⟨b, off, cs, h1, h2, ⟨vp, vi, ve, rfl, hp, hi, he⟩, h4⟩ := h.at t ht
  have c0 := h4 0 (by simp)
  simp at c0
  exact ⟨b, off, vp, h1, block_lt c0, c0, hp⟩

set_option maxHeartbeats 8000000 in
theorem whand_any (X Y nv nb cb na ca t : Nat) (vv ve : Value) (seed left : Int) (now args : List Int) (bs : List Blk) (ab aa : Option Addr) (wb w : World) (hx : w.rowIs X 37 6 (wkRow vv (.slice ab nb cb) seed left (.slice (some ⟨Y, 0, none⟩) nv nv) ve)) (hy : w.rowIs Y 3 nv (nowF now)) (hXY : X ≠ Y) (hln : now.length = nv) (hwb : Below wb.heap.size wb w) (hY : wb.heap.size ≤ Y) (hbs : SlOf wb 3 (RBlk wb) (.slice ab nb cb) bs) (hnb : bs.length = nb) (ht : t < nb) (has : SlOf wb 1 RInt (.slice aa na ca) args) (hna : args.length = na) (hnp : (bs[t]'(by omega)).params.length = na) (hd : ∀ v ∈ args, 0 ≤ v ∧ v < (nv : Int)) (hp : ∀ v ∈ (bs[t]'(by omega)).params, 0 ≤ v ∧ v < (nv : Int)) (hna2 : na ≤ 1000) (hnv : nv ≤ 1000) (hnb2 : nb ≤ 1000) :
    Calls Try.prog 19 #[.pointer (some ⟨X, 0, none⟩), .agg #[.int .i64 t, .slice aa na ca]] w fun e w' => e = .returned (.tuple #[]) ∧ w'.rowIs Y 3 nv (nowF (handM now (bs[t]'(by omega)).params args)) ∧ w.grownBy w' (some Y) := by
  obtain ⟨i3, hi3, hz3, hz31, hz32⟩ := ru_parts ruInfo
  have hmk := make_capR na hna2
  obtain ⟨b5, off5, vp, rfl, lb5, t0, hps⟩ := blk_par hbs t (by omega)
  obtain ⟨ps, hps2⟩ : ∃ ps, (bs[t]'(by omega)).params = ps := ⟨_, rfl⟩
  rw [hps2] at hnp hp hps ⊢
  obtain ⟨ap, cp, rfl, _⟩ := hps.out
  obtain ⟨np, hnp2⟩ : ∃ np, ps.length = np := ⟨_, rfl⟩
  rw [hnp2] at hps t0
  have hnpa : np = na := by omega
  subst hnpa
  obtain ⟨N, hN⟩ : ∃ N, w.heap.size = N := ⟨_, rfl⟩
  obtain ⟨W, hW⟩ : ∃ W, W = w.alloc (.cells #[.int .i64 (t : Int), .slice aa np ca] 55) := ⟨_, rfl⟩
  have zW : W.heap.size = N + 1 := by rw [hW, ← hN]; simp
  have bW : Below w.heap.size w W := by rw [hW]; exact (Below.refl _ _).alloc (Nat.le_refl _) _
  obtain ⟨W1, hW1⟩ : ∃ W1, W1 = W.alloc (.cells (madeCells #[.int .i64 0] np) 3) := ⟨_, rfl⟩
  have g1 : GrS W (N + 1) (.slice (some ⟨N + 1, 0, none⟩) 0 np) [] W1 := by
    have := gr_made W np hna2
    rw [zW] at this
    rw [hW1]
    exact this
  have c0 : W.cell? ⟨N, 0, none⟩ = some (.int .i64 (t : Int)) := by rw [hW, ← hN]; simp
  have c1 : W.cell? ⟨N, 1, none⟩ = some (.slice aa np ca) := by rw [hW, ← hN]; simp
  have d1 : W1.cell? ⟨N, 1, none⟩ = some (.slice aa np ca) := (g1.low.cell (by simp)).trans c1
  have lX : X < N := by rw [← hN]; exact hx.lt
  have lY : Y < N := by rw [← hN]; exact hy.lt
  have HX : Hid (W.rowIs X 37 6 (wkRow vv (.slice (some ⟨b5, off5, none⟩) nb cb) seed left (.slice (some ⟨Y, 0, none⟩) nv nv) ve)) := hx.of_block (bW.block _ hx.lt)
  have HY : Hid (W.rowIs Y 3 nv (nowF now)) := hy.of_block (bW.block _ hy.lt)
  have HWB : Hid (Below wb.heap.size wb W) := hwb.trans (bW.mono hwb.size)
  have lwb : wb.heap.size ≤ N := by rw [← hN]; exact hwb.size
  have HAS : Hid (SlOf wb 1 RInt (.slice aa np ca) args ∧ args.length = np) := ⟨has, hna⟩
  have HPS : Hid (SlOf wb 1 RInt (.slice ap np cp) ps ∧ ps.length = np) := ⟨hps, hnp2⟩
  have HT0 : Hid (wb.cell? ⟨b5, off5 + t * 3, none⟩ = some (.slice ap np cp)) := t0
  have HC0 : Hid (W.cell? ⟨N, 0, none⟩ = some (.int .i64 (t : Int))) := c0
  have HD : Hid (∀ v ∈ args, 0 ≤ v ∧ v < (nv : Int)) := hd
  have HPD : Hid (∀ v ∈ ps, 0 ≤ v ∧ v < (nv : Int)) := hp
  have HLN : Hid (now.length = nv) := hln
  have HG0 : Hid (GrS W (N + 1) (.slice (some ⟨N + 1, 0, none⟩) 0 np) [] W1) := g1
  have HW : Hid (W = w.alloc (.cells #[.int .i64 (t : Int), .slice aa np ca] 55)) := hW
  have HW1 : Hid (W1 = W.alloc (.cells (madeCells #[.int .i64 0] np) 3)) := hW1
  have HN : Hid (w.heap.size = N) := hN
  have HZ : Hid (W.heap.size = N + 1) := zW
  have HBW : Hid (Below w.heap.size w W) := bW
  clear hx hy hwb hbs hnb hps2 hnp hps hnp2 has hna hd hp hln hN hW hW1 zW bW g1 t0 c0
  go_enter Try.func19, Try.ntmps19
  go_upto_region 1 with fail
  rw [← HW.out, HN.out]
  clear HW
  go_upto_region 2 with fail
  rw [← HW1.out, HZ.out]
  clear HW1 hmk c1
  go_wp2_with fail
  clear d1
  go_loopw [16, 4] (fun i s wr => ∃ (j : Nat) (as' : Option Addr) (cs' : Nat), j ≤ np ∧ i = .int .i64 j ∧ s = .slice as' j cs' ∧ Hid (GrS W (N + 1) (.slice as' j cs') ((args.take j).map fun v => now.getD v.toNat 0) wr)) (fun i _ _ => np - (intOf i).toNat)
  case atStart => exact ⟨0, _, _, Nat.zero_le _, rfl, rfl, by simpa using HG0⟩
  case round =>
    clear HG0
    obtain ⟨j, as', cs', hj, rfl, rfl, HI⟩ := hrel
    by_cases hlt : j < np
    · have hjl : j < args.length := by rw [HAS.out.2]; exact hlt
      obtain ⟨b1, o1, rfl, hb1, e0⟩ := ru_at HAS.out.1 j hjl
      have lwW : wb.heap.size ≤ N + 1 := by omega
      have e1 := (HI.out.low.cell (p := ⟨b1, o1 + j, none⟩) (show b1 < N + 1 by omega)).trans ((HWB.out.cell (p := ⟨b1, o1 + j, none⟩) hb1).trans e0)
      have hdo := HD.out args[j] (List.getElem_mem hjl)
      have eg : args.getD j 0 = args[j] := by rw [List.getD_eq_getElem?_getD, List.getElem?_eq_getElem hjl]; rfl
      have ht : Hid ((args.take (j + 1)).map (fun v => now.getD v.toNat 0) = (args.take j).map (fun v => now.getD v.toNat 0) ++ [now.getD (args[j]).toNat 0]) := by
        show _ = _
        rw [List.take_succ_eq_append_getElem hjl, List.map_append]
        rfl
      have HTL : Hid (((args.take j).map fun v => now.getD v.toNat 0).length = j) := by show _ = _; rw [List.length_map, List.length_take]; omega
      rw [eg] at e1
      clear e0 eg
      generalize args[j] = v at *
      obtain ⟨V, hV⟩ : ∃ V : Nat, v = V := ⟨v.toNat, by omega⟩
      subst hV
      rw [Int.toNat_natCast] at ht
      have v1 : V < nv := by omega
      have d4 : wr.cell? ⟨X, 4, none⟩ = some (.slice (some ⟨Y, 0, none⟩) nv nv) := (HI.out.low.cell (show X < N + 1 by omega)).trans (HX.out.cell (i := 4) (by omega))
      have y1 : wr.cell? ⟨Y, V, none⟩ = some (.int .i64 (now.getD V 0)) := (HI.out.low.cell (show Y < N + 1 by omega)).trans (HY.out.cell v1)
      generalize now.getD V 0 = x at *
      generalize (args.take j).map (fun v => now.getD v.toNat 0) = gl at *
      have hle := HI.out.le
      have own := HI.out.own
      rw [HTL.out] at own
      have oA := own.alloc (.cells #[.int .i64 x] 3)
      clear hdo
      go_wp2_with (at_builtin; go_must (refine wpList_append_lies _ rfl _ _ 22 rfl (N + 1) 3 i3 (.int .i64 0) 1 8 Try.underlying22 hi3 hz3 hz31 hz32 rfl (by omega) (.slice as' j cs') j _ (by rfl) oA ⟨wr.heap.size, 0, none⟩ 1 1 [.int .i64 x] (by rfl) (by rfl) ?e1 ?e2 (by omega) ?e3 ?e4 ?e5 (wr.heap.size + 1) ?e6 ?_))
      rotate_left
      any_goals (first | (exact ru_news rfl) | rfl | (show Value.oneCell' _ = true; simp [Value.oneCell']) | (intro u hu; simp at hu; subst hu; rfl) | (unfold maxLen; omega) | omega | (simp; omega) | (simp; rfl) | (simp; done))
      intro g cap wb2 hown hgrow hat hgl
      have HP : Hid (GrS W (N + 1) (.slice (some ⟨g, 0, none⟩) (j + 1) cap) ((args.take (j + 1)).map fun v => now.getD v.toNat 0) wb2) := by
        show GrS _ _ _ _ _
        rw [ht.out]
        exact (HI.out.below ((Below.refl _ _).alloc (Nat.le_refl _) _)).push (by rw [HTL.out]; rfl) hgrow hown
      clear hown hgrow hat hgl oA own HI ht HTL e1 d4 y1
      go_wp2
      go_roundw
      case rel => exact ⟨j + 1, _, _, by omega, by go_num, rfl, HP⟩
      case measure => simp [intOf]; omega
    · have hjn : j = np := by omega
      subst hjn
      obtain ⟨gs, hgs⟩ : ∃ gs, args.map (fun v => now.getD v.toNat 0) = gs := ⟨_, rfl⟩
      have HI2 : Hid (GrS W (N + 1) (.slice as' j cs') gs wr) := by
        have := HI.out
        rw [List.take_of_length_le (by have := HAS.out.2; omega), hgs] at this
        exact this
      have HGL : Hid (gs.length = j) := by show _ = _; rw [← hgs, List.length_map]; exact HAS.out.2
      have HGS : Hid (handM now ps args = setsM ps gs now) := by show _ = _; unfold handM; rw [hgs]
      have hb5 : Below wb.heap.size wb wr := HWB.out.trans (HI2.out.low.mono (by omega))
      have x1 : wr.cell? ⟨X, 1, none⟩ = some (.slice (some ⟨b5, off5, none⟩) nb cb) := (HI2.out.low.cell (show X < N + 1 by omega)).trans (HX.out.cell (i := 1) (by omega))
      have n0 : wr.cell? ⟨N, 0, none⟩ = some (.int .i64 (t : Int)) := (HI2.out.low.cell (show N < N + 1 by omega)).trans HC0.out
      have t0 : wr.cell? ⟨b5, off5 + t * 3, none⟩ = some (.slice ap j cp) := (hb5.cell (p := ⟨b5, _, none⟩) lb5).trans HT0.out
      have HXr : Hid (wr.rowIs X 37 6 (wkRow vv (.slice (some ⟨b5, off5, none⟩) nb cb) seed left (.slice (some ⟨Y, 0, none⟩) nv nv) ve)) := HX.out.of_block (HI2.out.low.block _ (by omega))
      have HYr : Hid (wr.rowIs Y 3 nv (nowF (setsM (ps.take 0) (gs.take 0) now))) := by
        show World.rowIs _ _ _ _ _
        simp only [List.take_zero, setsM]
        exact HY.out.of_block (HI2.out.low.block _ (by omega))
      have HPr : Hid (SlOf wr 1 RInt (.slice ap j cp) ps) := HPS.out.1.below hb5 fun _ _ h => h
      have HSr : Hid (SlOf wr 1 RInt (.slice as' j cs') gs) := HI2.out.sl (by rw [HGL.out]; unfold longest; omega)
      have HOn : Hid (∀ g, (Value.slice as' j cs').ownBlock = some g → g ≠ Y) := fun g hg => by have := own_base HI2.out.own hg; omega
      have HPn : Hid (ps = [] ∨ ∀ g, (Value.slice ap j cp).ownBlock = some g → g ≠ Y) := by
        obtain ⟨a', c', hv, hl', h'⟩ := HPS.out.1
        rcases h' with e | ⟨bq, offq, ha, h'⟩
        · exact Or.inl e
        · by_cases e : ps = []
          · exact Or.inl e
          · right
            intro g hg
            obtain ⟨cs, h1, h2, h3⟩ := h' 0 (List.length_pos_iff.2 e)
            have hc := h3 0 (by omega)
            have hlt := block_lt hc
            rw [hv, ha] at hg
            simp [Value.ownBlock] at hg
            omega
      have HGW : Hid (w.grownBy wr (some Y)) := gr_trans (gr_below HBW.out) (gr_below (by rw [HZ.out]; exact HI2.out.low))
      have hkt : t < nb + 1 := by omega
      have wt : IntKind.i64.wrap (t : Int) = (t : Int) := by rw [IntKind.wrap_i64]; omega
      clear HI hgs hb5 HI2 HX HY HWB hj hlt
      go_upto_region 7 with fail
      refine wp_region_X (fun w' => w'.cell? ⟨X, 1, none⟩ = some (.slice (some ⟨b5, off5, none⟩) nb cb) ∧ w'.cell? ⟨N, 0, none⟩ = some (.int .i64 (t : Int)) ∧ w'.cell? ⟨b5, off5 + t * 3, none⟩ = some (.slice ap j cp)) 99 (by kernel_rfl) ⟨x1, n0, t0⟩ (fun hHeld => ?_)
      refine wpXt (v := ?_) 0 rfl (by kernel_rfl) (fun _ _ _ h => h) (by rfl) ?_ hHeld ?_
      rotate_left
      · intro w' hSw
        go_simp <;> with_reducible rfl
      try simp only [Act.put, List.setIfInBounds_toArray, List.set_cons_zero, List.set_cons_succ]
      refine wpXt (v := ?_) 1 rfl (by kernel_rfl) (fun _ _ _ h => h) (by rfl) ?_ hHeld ?_
      rotate_left
      · intro w' hSw
        go_simp <;> with_reducible rfl
      try simp only [Act.put, List.setIfInBounds_toArray, List.set_cons_zero, List.set_cons_succ]
      refine wpXt (v := ?_) 2 rfl (by kernel_rfl) (fun _ _ _ h => h) (by rfl) ?_ hHeld ?_
      rotate_left
      · intro w' hSw
        go_simp <;> with_reducible rfl
      try simp only [Act.put, List.setIfInBounds_toArray, List.set_cons_zero, List.set_cons_succ]
      refine wpXt (v := ?_) 3 rfl (by kernel_rfl) (fun _ _ _ h => h) (by rfl) ?_ hHeld ?_
      rotate_left
      · intro w' hSw
        go_simp <;> with_reducible rfl
      try simp only [Act.put, List.setIfInBounds_toArray, List.set_cons_zero, List.set_cons_succ]
      refine wpXt (v := ?_) 4 rfl (by kernel_rfl) (fun _ _ _ h => h) (by rfl) ?_ hHeld ?_
      rotate_left
      · intro w' hSw
        go_simp <;> with_reducible rfl
      try simp only [Act.put, List.setIfInBounds_toArray, List.set_cons_zero, List.set_cons_succ]
      refine wpXt (v := ?_) 5 rfl (by kernel_rfl) (fun _ _ _ h => h) (by rfl) ?_ hHeld ?_
      rotate_left
      · intro w' hSw
        go_simp <;> with_reducible rfl
      try simp only [Act.put, List.setIfInBounds_toArray, List.set_cons_zero, List.set_cons_succ]
      refine wpXt (v := ?_) 6 rfl (by kernel_rfl) (fun _ _ _ h => h) (by rfl) ?_ hHeld ?_
      rotate_left
      · intro w' hSw
        go_simp <;> with_reducible rfl
      try simp only [Act.put, List.setIfInBounds_toArray, List.set_cons_zero, List.set_cons_succ]
      refine wpXt (v := ?_) 7 rfl (by kernel_rfl) (fun _ _ _ h => h) (by rfl) ?_ hHeld ?_
      rotate_left
      · intro w' hSw
        go_simp <;> with_reducible rfl
      try simp only [Act.put, List.setIfInBounds_toArray, List.set_cons_zero, List.set_cons_succ]
      refine wpXt (v := ?_) 8 rfl (by kernel_rfl) (fun _ _ _ h => h) (by rfl) ?_ hHeld ?_
      rotate_left
      · intro w' hSw
        go_simp <;> with_reducible rfl
      try simp only [Act.put, List.setIfInBounds_toArray, List.set_cons_zero, List.set_cons_succ]
      refine wpXt (v := ?_) 9 rfl (by kernel_rfl) (fun _ _ _ h => h) (by rfl) ?_ hHeld ?_
      rotate_left
      · intro w' hSw
        go_simp <;> with_reducible rfl
      try simp only [Act.put, List.setIfInBounds_toArray, List.set_cons_zero, List.set_cons_succ]
      refine wpXt (v := ?_) 10 rfl (by kernel_rfl) (fun _ _ _ h => h) (by rfl) ?_ hHeld ?_
      rotate_left
      · intro w' hSw
        go_simp <;> with_reducible rfl
      try simp only [Act.put, List.setIfInBounds_toArray, List.set_cons_zero, List.set_cons_succ]
      refine wpXt (v := ?_) 11 rfl (by kernel_rfl) (fun _ _ _ h => h) (by rfl) ?_ hHeld ?_
      rotate_left
      · intro w' hSw
        go_simp <;> with_reducible rfl
      try simp only [Act.put, List.setIfInBounds_toArray, List.set_cons_zero, List.set_cons_succ]
      refine wpAnyX_done (by kernel_rfl) ?_ _

      clear x1 n0 t0
      go_wp2_with fail
      obtain ⟨W7, hW7⟩ : ∃ W7, W7 = wr.drew := ⟨_, rfl⟩
      rw [← hW7]
      have HX7 : Hid (W7.rowIs X 37 6 (wkRow vv (.slice (some ⟨b5, off5, none⟩) nb cb) seed left (.slice (some ⟨Y, 0, none⟩) nv nv) ve)) := by rw [hW7]; exact HXr
      have HY7 : Hid (W7.rowIs Y 3 nv (nowF (setsM (ps.take 0) (gs.take 0) now))) := by rw [hW7]; exact HYr
      have HP7 : Hid (SlOf W7 1 RInt (.slice ap j cp) ps) := by
        rw [hW7]
        have hd7 : Below wr.heap.size wr wr.drew := (Below.refl _ _).drew
        exact HPr.out.below hd7 fun _ _ h => h
      have HS7 : Hid (SlOf W7 1 RInt (.slice as' j cs') gs) := by
        rw [hW7]
        have hd7 : Below wr.heap.size wr wr.drew := (Below.refl _ _).drew
        exact HSr.out.below hd7 fun _ _ h => h
      have HG7 : Hid (w.grownBy W7 (some Y)) := by
        rw [hW7]
        have hd7 : Below wr.heap.size wr wr.drew := (Below.refl _ _).drew
        exact gr_trans HGW.out (gr_below hd7)
      clear hW7 HXr HYr HPr HSr HGW
      go_loopw [42] (fun i w2 => ∃ j' : Nat, j' ≤ j ∧ i = .int .i64 j' ∧ Hid (w2.rowIs Y 3 nv (nowF (setsM (ps.take j') (gs.take j') now))) ∧ Hid (W7.grownBy w2 (some Y))) (fun i _ => j - (intOf i).toNat)
      case atStart => exact ⟨0, Nat.zero_le _, rfl, HY7, gr_below (Below.refl _ _)⟩
      case round =>
        clear HY7
        obtain ⟨k, hk, rfl, HI, HG⟩ := hrel
        by_cases hlt : k < j
        · have hkp : k < ps.length := by rw [HPS.out.2]; exact hlt
          have hkg : k < gs.length := by rw [HGL.out]; exact hlt
          obtain ⟨b1, o1, rfl, hb1, e0⟩ := ru_at HP7.out k hkp
          obtain ⟨b2, o2, rfl, hb2, f0⟩ := ru_at HS7.out k hkg
          have nb1 : b1 ≠ Y := by
            rcases HPn.out with e | h
            · rw [e] at hkp; simp at hkp
            · exact h b1 rfl
          have nb2 : b2 ≠ Y := HOn.out b2 rfl
          have e1 := gr_cell HG.out nb1 e0
          have f1 := gr_cell HG.out nb2 f0
          have d4 := gr_cell HG.out hXY (HX7.out.cell (i := 4) (by omega))
          have hpd := HPD.out ps[k] (List.getElem_mem hkp)
          have eg : ps.getD k 0 = ps[k] := by rw [List.getD_eq_getElem?_getD, List.getElem?_eq_getElem hkp]; rfl
          have hst := sets_take ps gs now k hkp hkg
          rw [eg] at e1 hst
          clear e0 f0 eg
          generalize ps[k] = v at *
          obtain ⟨V, hV⟩ : ∃ V : Nat, v = V := ⟨v.toNat, by omega⟩
          subst hV
          have v1 : V < nv := by omega
          rw [Int.toNat_natCast] at hst
          generalize gs.getD k 0 = g at *
          have y1 := HI.out.cell v1
          have z1 := HI.out.frozen V
          have HR3 : Hid ((wr.setCell ⟨Y, V, none⟩ (.int .i64 g)).drew.rowIs Y 3 nv (nowF (setsM (ps.take (k + 1)) (gs.take (k + 1)) now))) := by
            show World.rowIs _ _ _ _ _
            rw [hst]
            exact ((HI.out.set V (.int .i64 g)).congr fun i hi => nowF_set _ V nv g (by rw [setsM_length]; exact HLN.out) i hi).drew
          have HG3 : Hid (W7.grownBy (wr.setCell ⟨Y, V, none⟩ (.int .i64 g)).drew (some Y)) := by
            have hd7 : Below (wr.setCell ⟨Y, V, none⟩ (.int .i64 g)).heap.size (wr.setCell ⟨Y, V, none⟩ (.int .i64 g)) (wr.setCell ⟨Y, V, none⟩ (.int .i64 g)).drew := (Below.refl _ _).drew
            exact gr_trans (gr_trans HG.out gr_set) (gr_below hd7)
          have HSF : Hid (∀ w', wr.grownBy w' (some Y) → (fun w' => w'.cell? ⟨X, 4, none⟩ = some (.slice (some ⟨Y, 0, none⟩) nv nv) ∧ w'.cell? ⟨b2, o2 + k, none⟩ = some (.int .i64 g)) w') := fun w' hh => ⟨gr_cell hh hXY d4, gr_cell hh nb2 f1⟩
          have hkj : k < j + 1 := by omega
          have wk : IntKind.i64.wrap (k : Int) = (k : Int) := by rw [IntKind.wrap_i64]; omega
          clear hst hpd HI HG
          go_upto_region 10 with fail
          clear e1 d4 f1
          refine wp_region_X (fun w' => w'.cell? ⟨X, 4, none⟩ = some (.slice (some ⟨Y, 0, none⟩) nv nv) ∧ w'.cell? ⟨b2, o2 + k, none⟩ = some (.int .i64 g)) 99 (by kernel_rfl) (HSF.out _ (gr_below (Below.refl _ _).drew)) (fun hHeld => ?_)
          refine wpXt (v := ?_) 0 rfl (by kernel_rfl) (fun _ _ _ h => h) (by rfl) ?_ hHeld ?_
          rotate_left
          · intro w' hSw
            go_simp <;> with_reducible rfl
          try simp only [Act.put, List.setIfInBounds_toArray, List.set_cons_zero, List.set_cons_succ]
          refine wpXt (v := ?_) 1 rfl (by kernel_rfl) (fun _ _ _ h => h) (by rfl) ?_ hHeld ?_
          rotate_left
          · intro w' hSw
            go_simp <;> with_reducible rfl
          try simp only [Act.put, List.setIfInBounds_toArray, List.set_cons_zero, List.set_cons_succ]
          refine wpXt (v := ?_) 2 rfl (by kernel_rfl) (fun _ _ _ h => h) (by rfl) ?_ hHeld ?_
          rotate_left
          · intro w' hSw
            go_simp <;> with_reducible rfl
          try simp only [Act.put, List.setIfInBounds_toArray, List.set_cons_zero, List.set_cons_succ]
          refine wpXt (v := ?_) 3 rfl (by kernel_rfl) (fun _ _ _ h => h) (by rfl) ?_ hHeld ?_
          rotate_left
          · intro w' hSw
            go_simp <;> with_reducible rfl
          try simp only [Act.put, List.setIfInBounds_toArray, List.set_cons_zero, List.set_cons_succ]
          refine wpXt (v := ?_) 4 rfl (by kernel_rfl) (fun _ _ _ h => h) (by rfl) ?_ hHeld ?_
          rotate_left
          · intro w' hSw
            go_simp <;> with_reducible rfl
          try simp only [Act.put, List.setIfInBounds_toArray, List.set_cons_zero, List.set_cons_succ]
          refine wpXt (v := ?_) 5 rfl (by kernel_rfl) (fun _ _ _ h => h) (by rfl) ?_ hHeld ?_
          rotate_left
          · intro w' hSw
            go_simp <;> with_reducible rfl
          try simp only [Act.put, List.setIfInBounds_toArray, List.set_cons_zero, List.set_cons_succ]
          refine wpXt (v := ?_) 6 rfl (by kernel_rfl) (fun _ _ _ h => h) (by rfl) ?_ hHeld ?_
          rotate_left
          · intro w' hSw
            go_simp <;> with_reducible rfl
          try simp only [Act.put, List.setIfInBounds_toArray, List.set_cons_zero, List.set_cons_succ]
          refine wpXt (v := ?_) 7 rfl (by kernel_rfl) (fun _ _ _ h => h) (by rfl) ?_ hHeld ?_
          rotate_left
          · intro w' hSw
            go_simp <;> with_reducible rfl
          try simp only [Act.put, List.setIfInBounds_toArray, List.set_cons_zero, List.set_cons_succ]
          refine wpXt (v := ?_) 8 rfl (by kernel_rfl) (fun _ _ _ h => h) (by rfl) ?_ hHeld ?_
          rotate_left
          · intro w' hSw
            go_simp <;> with_reducible rfl
          try simp only [Act.put, List.setIfInBounds_toArray, List.set_cons_zero, List.set_cons_succ]
          refine wpXt (v := ?_) 9 rfl (by kernel_rfl) (fun _ _ _ h => h) (by rfl) ?_ hHeld ?_
          rotate_left
          · intro w' hSw
            go_simp <;> with_reducible rfl
          try simp only [Act.put, List.setIfInBounds_toArray, List.set_cons_zero, List.set_cons_succ]
          refine wpXs 10 rfl (by kernel_rfl) (fun K hK => ?_)
          go_simp
          refine hK.out _ _ (HSF.out _ (gr_trans (gr_below (Below.refl _ _).drew) gr_set)) (fun hHeld => ?_)
          clear hK K
          try simp only [Act.put, List.setIfInBounds_toArray, List.set_cons_zero, List.set_cons_succ]
          refine wpAnyX_done (by kernel_rfl) ?_ _
          go_wp2
          go_roundw
          case rel => exact ⟨k + 1, by omega, by go_num, HR3, HG3⟩
          case measure => simp [intOf]; omega

        · have HE : Hid (wr.rowIs Y 3 nv (nowF (handM now ps args)) ∧ w.grownBy wr (some Y)) := by
            have h1 := HI.out
            rw [List.take_of_length_le (by have := HPS.out.2; omega), List.take_of_length_le (by have := HGL.out; omega), ← HGS.out] at h1
            exact ⟨h1, gr_trans HG7.out HG.out⟩
          clear HI HG
          go_wp2
          go_end0
          exact ⟨rfl, HE.out⟩
end Go.Proofs.Ytmkloakahefjiaa
namespace Go.Proofs.Ytmkloakahefjiaa
open Go.RowKit
set_option linter.unusedVariables false

def cV (p : Evt × Value) : List Value := [.int .i64 p.1.block, .int .i64 p.1.place, p.2, .int .i64 p.1.edge]
/-- What an event has read lies in a block of its own. -/
def RdOk (w : World) (B : Nat) (ve : Value) (p : Evt × Value) : Prop := SlOf w 1 RInt p.2 p.1.read ∧ (p.1.read = [] ∨ ∀ g, p.2.ownBlock = some g → B ≤ g ∧ g < w.heap.size ∧ some g ≠ ve.ownBlock)
structure WkS (wb : World) (B X Y : Nat) (vv vb : Value) (nv : Nat) (seed left : Int) (now : List Int) (ve : Value) (es : List (Evt × Value)) (w : World) : Prop where
  bx : w.rowIs X 37 6 (wkRow vv vb seed left (.slice (some ⟨Y, 0, none⟩) nv nv) ve)
  nw : w.rowIs Y 3 nv (nowF now)
  ln : now.length = nv
  own : w.ownsRow B 53 4 ve es.length (es.flatMap cV)
  rd : ∀ p ∈ es, RdOk w B ve p
  low : Below wb.heap.size wb w
  xy : X ≠ Y
  hX : wb.heap.size ≤ X
  hY : wb.heap.size ≤ Y
  lX : X < B
  lY : Y < B
  lB : B ≤ w.heap.size
theorem sl_keep {w w' : World} {v : Value} {l : List Int} (h : SlOf w 1 RInt v l) (hn : l = [] ∨ ∀ g, v.ownBlock = some g → w'.heap[g]? = w.heap[g]?) : SlOf w' 1 RInt v l := by
  obtain ⟨a', c', hv, hl, h1⟩ := h
  refine ⟨a', c', hv, hl, ?_⟩
  rcases hn with e | hn
  · exact Or.inl e
  · refine h1.imp id ?_
    rintro ⟨b, off, ha, h2⟩
    refine ⟨b, off, ha, fun i hi => ?_⟩
    obtain ⟨cs, h3, h4, h5⟩ := h2 i hi
    have hb : w'.heap[b]? = w.heap[b]? := hn b (by rw [hv, ha]; rfl)
    exact ⟨cs, h3, h4, fun j hj => (World.cell?_of_block (a := ⟨b, off + i * 1 + j, none⟩) hb).trans (h5 j hj)⟩
theorem RdOk.keep {w w' : World} {B : Nat} {ve ve' : Value} {p : Evt × Value} (h : RdOk w B ve p) (hs : w.heap.size ≤ w'.heap.size) (hb : ∀ g, B ≤ g → g < w.heap.size → some g ≠ ve.ownBlock → w'.heap[g]? = w.heap[g]? ∧ some g ≠ ve'.ownBlock) : RdOk w' B ve' p := by
  obtain ⟨h1, h2⟩ := h
  refine ⟨sl_keep h1 (h2.imp id fun h g hg => ?_), h2.imp id fun h g hg => ?_⟩
  · obtain ⟨a, b, c⟩ := h g hg
    exact (hb g a b c).1
  · obtain ⟨a, b, c⟩ := h g hg
    exact ⟨a, by omega, (hb g a b c).2⟩
section
variable {wb : World} {B X Y : Nat} {vv vb : Value} {nv : Nat} {seed left : Int} {now : List Int} {ve : Value} {es : List (Evt × Value)} {w w' : World}
theorem WkS.below (h : WkS wb B X Y vv vb nv seed left now ve es w) (hb : Below w.heap.size w w') : WkS wb B X Y vv vb nv seed left now ve es w' :=
  ⟨h.bx.of_block (hb.block _ h.bx.lt), h.nw.of_block (hb.block _ h.nw.lt), h.ln, own_keep h.own fun g _ _ hg => hb.block g hg, fun p hp => (h.rd p hp).keep hb.size fun g _ hg hn => ⟨hb.block g hg, hn⟩, h.low.trans (hb.mono h.low.size), h.xy, h.hX, h.hY, h.lX, h.lY, Nat.le_trans h.lB hb.size⟩
theorem WkS.keep {left' : Int} {now' : List Int} {Z : Nat} (h : WkS wb B X Y vv vb nv seed left now ve es w) (hZ : Z = X ∨ Z = Y) (hg : w.grownBy w' (some Z)) (hbx : w'.rowIs X 37 6 (wkRow vv vb seed left' (.slice (some ⟨Y, 0, none⟩) nv nv) ve)) (hnw : w'.rowIs Y 3 nv (nowF now')) (hln : now'.length = nv) : WkS wb B X Y vv vb nv seed left' now' ve es w' := by
  have lX := h.lX
  have lY := h.lY
  have hX := h.hX
  have hY := h.hY
  have ne : ∀ g, B ≤ g → some g ≠ some Z := fun g hg e => by simp at e; omega
  exact ⟨hbx, hnw, hln, own_keep h.own fun g _ hB hlt => hg.block g hlt (ne g hB), fun p hp => (h.rd p hp).keep hg.size fun g hB hlt hn => ⟨hg.block g hlt (ne g hB), hn⟩, h.low.trans (gr_low hg h.low.size (by omega)), h.xy, hX, hY, lX, lY, Nat.le_trans h.lB hg.size⟩
theorem WkS.gone (h : WkS wb B X Y vv vb nv seed left now ve es w) : WkS wb B X Y vv vb nv seed (left - 1) now ve es (w.setCell ⟨X, 3, none⟩ (.int .i64 (left - 1))) :=
  h.keep (Or.inl rfl) gr_set ((h.bx.set 3 _).congr fun i hi => by
    match i, hi with | 0, _ => rfl | 1, _ => rfl | 2, _ => rfl | 3, _ => rfl | 4, _ => rfl | 5, _ => rfl) (h.nw.setOther (Ne.symm h.xy) _) h.ln
theorem WkS.made {now' : List Int} (h : WkS wb B X Y vv vb nv seed left now ve es w) (hg : w.grownBy w' (some Y)) (hnw : w'.rowIs Y 3 nv (nowF now')) (hln : now'.length = nv) : WkS wb B X Y vv vb nv seed left now' ve es w' :=
  h.keep (Or.inr rfl) hg (h.bx.of_block (hg.block _ h.bx.lt (fun e => h.xy (by simpa using e)))) hnw hln
theorem WkS.push {vr : Value} {e : Evt} {wa w1 : World} {g cap n : Nat} (h : WkS wb B X Y vv vb nv seed left now ve es w) (hrd : RdOk w B ve (e, vr)) (hwa : Below w.heap.size w wa) (hgrow : wa.grownBy w1 ve.ownBlock) (hn : es.length = n) (hown : w1.ownsRow B 53 4 (.slice (some ⟨g, 0, none⟩) (n + 1) cap) (n + 1) (es.flatMap cV ++ cV (e, vr))) (hat : ve.ownBlock = some g ∨ w.heap.size ≤ g) :
    WkS wb B X Y vv vb nv seed left now (.slice (some ⟨g, 0, none⟩) (n + 1) cap) (es ++ [(e, vr)]) (w1.setCell ⟨X, 5, none⟩ (.slice (some ⟨g, 0, none⟩) (n + 1) cap)) := by
  have lX := h.lX
  have lY := h.lY
  have hX := h.hX
  have lB := h.lB
  have hz := hwa.size
  have nX : some X ≠ ve.ownBlock := fun e => by have := own_base h.own e.symm; omega
  have nY : some Y ≠ ve.ownBlock := fun e => by have := own_base h.own e.symm; omega
  have bx1 := h.bx.of_block ((hgrow.block X (by have := h.bx.lt; omega) nX).trans (hwa.block X h.bx.lt))
  have nw1 := h.nw.of_block ((hgrow.block Y (by have := h.nw.lt; omega) nY).trans (hwa.block Y h.nw.lt))
  have hg1 : B ≤ g := (own_base hown rfl).1
  have blk : ∀ q, B ≤ q → q < w.heap.size → some q ≠ ve.ownBlock → (w1.setCell ⟨X, 5, none⟩ (.slice (some ⟨g, 0, none⟩) (n + 1) cap)).heap[q]? = w.heap[q]? ∧ some q ≠ (Value.slice (some ⟨g, 0, none⟩) (n + 1) cap).ownBlock := fun q hq hlt hne => by
    refine ⟨(Below.heap_setCell _ _ _ _ (by show q ≠ X; omega)).trans ((hgrow.block q (by omega) hne).trans (hwa.block q hlt)), fun e => ?_⟩
    have e' : q = g := by simpa [Value.ownBlock] using e
    rcases hat with h1 | h1
    · exact hne (by rw [h1, e'])
    · omega
  have hs : w.heap.size ≤ (w1.setCell ⟨X, 5, none⟩ (.slice (some ⟨g, 0, none⟩) (n + 1) cap)).heap.size := by
    have := hgrow.size
    have e : (w1.setCell ⟨X, 5, none⟩ (.slice (some ⟨g, 0, none⟩) (n + 1) cap)).heap.size = w1.heap.size := by simp [World.setCell]
    omega
  refine ⟨(bx1.set 5 _).congr fun i hi => ?_, nw1.setOther (Ne.symm h.xy) _, h.ln, ?_, ?_, ?_, h.xy, hX, h.hY, lX, lY, by omega⟩
  · match i, hi with | 0, _ => rfl | 1, _ => rfl | 2, _ => rfl | 3, _ => rfl | 4, _ => rfl | 5, _ => rfl
  · rw [List.length_append, hn, List.flatMap_append]
    have e1 : [(e, vr)].flatMap cV = cV (e, vr) := by simp
    rw [e1]
    exact own_keep hown fun q hq hB _ => Below.heap_setCell _ _ _ _ (by show q ≠ X; omega)
  · intro p hp
    rcases List.mem_append.1 hp with h1 | h1
    · exact (h.rd p h1).keep hs blk
    · have e1 : p = (e, vr) := by simpa using h1
      rw [e1]
      exact hrd.keep hs blk
  · exact (((h.low.trans (hwa.mono h.low.size)).grown hgrow (by have := h.low.size; omega) fun q hq => by have := own_base h.own hq; omega)).setCell hX _
end
/-- What holds of a function that may be. -/
structure FitsR (nv : Nat) (bs : List Blk) : Prop where
  ins : ∀ b ∈ bs, b.instrs.length ≤ 1000 ∧ ∀ x ∈ b.instrs, x.operands.length ≤ 1000 ∧ ∀ o ∈ x.operands, 0 ≤ o.value ∧ o.value < (nv : Int)
  edg : ∀ b ∈ bs, b.edges.length ≤ 1000 ∧ ∀ e ∈ b.edges, (0 ≤ e.block ∧ e.block < (bs.length : Int)) ∧ e.args.length ≤ 1000 ∧ (∀ v ∈ e.args, 0 ≤ v ∧ v < (nv : Int)) ∧ (bs.getD e.block.toNat emptyB).params.length = e.args.length
  par : ∀ b ∈ bs, ∀ v ∈ b.params, 0 ≤ v ∧ v < (nv : Int)
theorem takes_bd (seed : Int) (xs : List Ins) (ne k : Nat) (read : List Int) (hk : k + 1 = xs.length) : ne = 0 ∨ 0 ≤ takesM seed xs ne (k : Int) read ∧ takesM seed xs ne (k : Int) read < (ne : Int) := by
  by_cases h : ne = 0
  · exact Or.inl h
  · right
    unfold takesM
    rw [if_neg (by omega)]
    exact ⟨Int.emod_nonneg _ (by omega), Int.emod_lt_of_pos _ (by omega)⟩
end Go.Proofs.Ytmkloakahefjiaa
