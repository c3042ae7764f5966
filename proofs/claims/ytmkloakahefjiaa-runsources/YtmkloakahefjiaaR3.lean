/-
  The contract of 'makes': what an instruction makes of what it read.
-/
import Derived.Test.YtmkloakahefjiaaR2
namespace Go.Proofs.Ytmkloakahefjiaa
open Go.RowKit
set_option linter.unusedVariables false

theorem makes_take (seed op : Int) (read : List Int) : ∀ (os : List Opr) (k : Nat) (now : List Int) (j : Nat) (h : j < os.length), makesM seed op read k (os.take (j + 1)) now = if os[j].kind = 2 then (makesM seed op read k (os.take j) now).set os[j].value.toNat (mixL 7 ([seed, op, ((k + j : Nat) : Int)] ++ read)) else makesM seed op read k (os.take j) now
  | [], _, _, _, h => by simp at h
  | o :: r, k, now, 0, _ => by
    simp only [List.take_succ_cons, List.take_zero, makesM, List.getElem_cons_zero, Nat.add_zero]
  | o :: r, k, now, j + 1, h => by
    have ih := makes_take seed op read r (k + 1) (if o.kind = 2 then now.set o.value.toNat (mixL 7 ([seed, op, (k : Int)] ++ read)) else now) j (by simpa using h)
    rw [List.take_succ_cons, List.take_succ_cons]
    simp only [makesM, List.getElem_cons_succ]
    rw [ih, show k + 1 + j = k + (j + 1) by omega]
theorem nowF_set (now : List Int) (V nv : Nat) (x : Int) (hl : now.length = nv) (i : Nat) (hi : i < nv) : (if i = V then Value.int .i64 x else nowF now i) = nowF (now.set V x) i := by
  unfold nowF
  by_cases e : i = V
  · subst e
    simp [List.getD_eq_getElem?_getD, hl, hi]
  · rw [if_neg e]
    simp [List.getD_eq_getElem?_getD, List.getElem?_set_ne (Ne.symm e)]

set_option maxHeartbeats 4000000 in
theorem wmakes_any (X Y nv no co nr cr : Nat) (vv vb ve vs : Value) (seed left op : Int) (now read : List Int) (os : List Opr) (ao ar : Option Addr) (w : World) (hx : w.rowIs X 37 6 (wkRow vv vb seed left (.slice (some ⟨Y, 0, none⟩) nv nv) ve)) (hy : w.rowIs Y 3 nv (nowF now)) (hXY : X ≠ Y) (hln : now.length = nv) (hos : SlOf w 5 ROpr (.slice ao no co) os) (hoY : os = [] ∨ ∀ g, (Value.slice ao no co).ownBlock = some g → g ≠ Y) (hl : os.length = no) (hd : ∀ o ∈ os, 0 ≤ o.value ∧ o.value < (nv : Int)) (hno : no ≤ 1000) (hnv : nv ≤ 1000) (hrd : SlOf w 1 RInt (.slice ar nr cr) read) (hrl : read.length = nr) (hrY : read = [] ∨ ∀ g, (Value.slice ar nr cr).ownBlock = some g → g ≠ Y) :
    Calls Try.prog 17 #[.pointer (some ⟨X, 0, none⟩), .agg #[.int .i64 op, .slice ao no co, vs], .slice ar nr cr] w fun e w' => e = .returned (.tuple #[]) ∧ w'.rowIs Y 3 nv (nowF (makesM seed op read 0 os now)) ∧ w.grownBy w' (some Y) := by
  obtain ⟨N, hN⟩ : ∃ N, w.heap.size = N := ⟨_, rfl⟩
  obtain ⟨W, hW⟩ : ∃ W, W = w.alloc (.cells #[.int .i64 op, .slice ao no co, vs] 47) := ⟨_, rfl⟩
  have hbw : Below w.heap.size w W := by rw [hW]; exact (Below.refl _ _).alloc (Nat.le_refl _) _
  have c0 : W.cell? ⟨N, 0, none⟩ = some (.int .i64 op) := by rw [hW, ← hN]; simp
  have c1 : W.cell? ⟨N, 1, none⟩ = some (.slice ao no co) := by rw [hW, ← hN]; simp
  have c2 : W.cell? ⟨N, 2, none⟩ = some vs := by rw [hW, ← hN]; simp
  have lN : N < W.heap.size := by rw [hW, ← hN]; simp
  have lX : X < N := by rw [← hN]; exact hx.lt
  have lY : Y < N := by rw [← hN]; exact hy.lt
  have HX : Hid (W.rowIs X 37 6 (wkRow vv vb seed left (.slice (some ⟨Y, 0, none⟩) nv nv) ve)) := hx.of_block (hbw.block _ hx.lt)
  have HY : Hid (W.rowIs Y 3 nv (nowF (makesM seed op read 0 (os.take 0) now))) := hy.of_block (hbw.block _ hy.lt)
  have HOS : Hid (SlOf W 5 ROpr (.slice ao no co) os ∧ os.length = no) := ⟨hos.below hbw fun _ _ h => h, hl⟩
  have HOY : Hid (os = [] ∨ ∀ g, (Value.slice ao no co).ownBlock = some g → g ≠ Y) := hoY
  have HRY : Hid (read = [] ∨ ∀ g, (Value.slice ar nr cr).ownBlock = some g → g ≠ Y) := hrY
  have HRD : Hid (SlOf W 1 RInt (.slice ar nr cr) read ∧ read.length = nr) := ⟨hrd.below hbw fun _ _ h => h, hrl⟩
  have HD : Hid (∀ o ∈ os, 0 ≤ o.value ∧ o.value < (nv : Int)) := hd
  have HLN : Hid (now.length = nv) := hln
  have HW : Hid (W = w.alloc (.cells #[.int .i64 op, .slice ao no co, vs] 47)) := hW
  have HN : Hid (w.heap.size = N) := hN
  have HBW : Hid (Below w.heap.size w W) := hbw
  have HC0 : Hid (W.cell? ⟨N, 0, none⟩ = some (.int .i64 op) ∧ W.cell? ⟨N, 1, none⟩ = some (.slice ao no co) ∧ W.cell? ⟨N, 2, none⟩ = some vs) := ⟨c0, c1, c2⟩
  clear hx hy hos hl hd hW hN hoY hrY hrd hrl hln hbw
  go_enter Try.func17, Try.ntmps17
  go_upto_region 1 with fail
  rw [← HW.out, HN.out]
  clear HW
  go_wp2_with fail
  clear c0 c1 c2
  go_loopw [11] (fun i wr => ∃ j : Nat, j ≤ no ∧ i = .int .i64 j ∧ Hid (wr.rowIs Y 3 nv (nowF (makesM seed op read 0 (os.take j) now))) ∧ Hid (W.grownBy wr (some Y))) (fun i _ => no - (intOf i).toNat)
  case atStart => exact ⟨0, Nat.zero_le _, rfl, HY, gr_below (Below.refl _ _)⟩
  case round =>
    clear HY
    obtain ⟨j, hj, rfl, HI, HG⟩ := hrel
    by_cases hlt : j < no
    · have hjl : j < os.length := by rw [HOS.out.2]; exact hlt
      obtain ⟨b8, off8, rfl, hb8, o0, o1, o2, o3, o4⟩ := opr_cells HOS.out.1 j hjl
      have nb8 : b8 ≠ Y := by
        rcases HOY.out with e | h
        · rw [e] at hjl; simp at hjl
        · exact h b8 rfl
      have e0 := gr_cell HG.out nb8 o0
      have e1 := gr_cell HG.out nb8 o1
      have e2 := gr_cell HG.out nb8 o2
      have e3 := gr_cell HG.out nb8 o3
      have e4 := gr_cell HG.out nb8 o4
      have hdo := HD.out os[j] (List.getElem_mem hjl)
      have HT := makes_take seed op read os 0 now j hjl
      rw [Nat.zero_add] at HT
      clear o0 o1 o2 o3 o4 hb8 nb8
      generalize os[j] = o at *
      by_cases hk1 : o.kind = 2
      · have q : (o.kind == 2) = true := by simp [hk1]
        rw [if_pos hk1] at HT
        obtain ⟨V, hV⟩ : ∃ V : Nat, o.value = V := ⟨o.value.toNat, by omega⟩
        have v1 : V < nv := by omega
        rw [hV, Int.toNat_natCast] at HT
        rw [hV] at e1
        obtain ⟨okd, ovl, olt, olm, onn⟩ := o
        simp only at hk1 q e0 e1 e2 e3 e4
        obtain ⟨x, hx⟩ : ∃ x, mixL 7 ([seed, op, (j : Int)] ++ read) = x := ⟨_, rfl⟩
        rw [hx] at HT
        have HE : Hid (makesM seed op read 0 (os.take (j + 1)) now = (makesM seed op read 0 (os.take j) now).set V x) := HT
        clear HT hV hdo hk1
        go_upto_region 5 with fail
        obtain ⟨W5, hW5⟩ : ∃ W5, W5 = wr.alloc (.cells #[.int .i64 okd, .int .i64 V, .bool olt, .int .i64 olm, .int .i64 onn] 49) := ⟨_, rfl⟩
        obtain ⟨Q, hQ⟩ : ∃ Q, wr.heap.size = Q := ⟨_, rfl⟩
        have b5 : Below wr.heap.size wr W5 := by rw [hW5]; exact (Below.refl _ _).alloc (Nat.le_refl _) _
        have q1 : W5.cell? ⟨Q, 1, none⟩ = some (.int .i64 V) := by rw [hW5, ← hQ]; simp
        have lQ : Q < W5.heap.size := by rw [hW5, ← hQ]; simp
        have g5 : W.grownBy W5 (some Y) := gr_trans HG.out (gr_below b5)
        have hNQ : N < Q := by rw [← hQ]; exact Nat.lt_of_lt_of_le lN HG.out.size
        have d4 := gr_cell g5 hXY (HX.out.cell (i := 4) (by omega))
        have d2 := gr_cell g5 hXY (HX.out.cell (i := 2) (by omega))
        have hNY : N ≠ Y := by omega
        have hQY : Q ≠ Y := by omega
        have n0 := gr_cell g5 hNY HC0.out.1
        have n1 := gr_cell g5 hNY HC0.out.2.1
        have n2 := gr_cell g5 hNY HC0.out.2.2
        have HY5 : Hid (W5.rowIs Y 3 nv (nowF (makesM seed op read 0 (os.take j) now))) := HI.out.of_block (b5.block _ HI.out.lt)
        have HG5 : Hid (W.grownBy W5 (some Y)) := g5
        have HSF : Hid (∀ w', W5.grownBy w' (some Y) → (fun w' => w'.cell? ⟨X, 4, none⟩ = some (.slice (some ⟨Y, 0, none⟩) nv nv) ∧ w'.cell? ⟨X, 2, none⟩ = some (.int .i64 seed) ∧ w'.cell? ⟨Q, 1, none⟩ = some (.int .i64 V) ∧ w'.cell? ⟨N, 0, none⟩ = some (.int .i64 op) ∧ w'.cell? ⟨N, 1, none⟩ = some (.slice (some ⟨b8, off8, none⟩) no co) ∧ w'.cell? ⟨N, 2, none⟩ = some vs) w') := fun w' hh => ⟨gr_cell hh hXY d4, gr_cell hh hXY d2, gr_cell hh hQY q1, gr_cell hh hNY n0, gr_cell hh hNY n1, gr_cell hh hNY n2⟩
        have HC := made_any seed op j (.slice (some ⟨b8, off8, none⟩) no co) vs read ar nr cr x W5.drew HRD.out.2 (sl_far HRD.out.1 (gr_trans g5 (gr_below (Below.refl _ _).drew)) HRY.out) hx
        rw [← hW5, hQ]
        clear hW5 hQ b5 g5 e0 e1 e2 e3 e4 d4 d2 n0 n1 n2 q1 hx HI HG
        refine wp_region_X (fun w' => w'.cell? ⟨X, 4, none⟩ = some (.slice (some ⟨Y, 0, none⟩) nv nv) ∧ w'.cell? ⟨X, 2, none⟩ = some (.int .i64 seed) ∧ w'.cell? ⟨Q, 1, none⟩ = some (.int .i64 V) ∧ w'.cell? ⟨N, 0, none⟩ = some (.int .i64 op) ∧ w'.cell? ⟨N, 1, none⟩ = some (.slice (some ⟨b8, off8, none⟩) no co) ∧ w'.cell? ⟨N, 2, none⟩ = some vs) 99 (by kernel_rfl) (HSF.out _ (gr_below (Below.refl _ _).drew)) (fun hHeld => ?_)
        refine wpXt (v := ?_) 0 rfl (by kernel_rfl) (fun _ _ _ h => h) (by rfl) ?_ hHeld ?_
        rotate_left
        · intro w' hSw
          go_simp <;> with_reducible rfl
        try simp only [Act.put, List.setIfInBounds_toArray, List.set_cons_zero, List.set_cons_succ]
        refine wpXt (v := ?_) 1 rfl (by kernel_rfl) (fun _ _ _ h => h) (by rfl) ?_ hHeld ?_
        rotate_left
        · intro w' hSw
          go_simp <;> with_reducible rfl
        try simp only [Act.put, List.setIfInBounds_toArray, List.set_cons_zero, List.set_cons_succ]
        refine wpXt (v := ?_) 2 rfl (by kernel_rfl) (fun _ _ _ h => h) (by rfl) ?_ hHeld ?_
        rotate_left
        · intro w' hSw
          go_simp <;> with_reducible rfl
        try simp only [Act.put, List.setIfInBounds_toArray, List.set_cons_zero, List.set_cons_succ]
        refine wpXt (v := ?_) 3 rfl (by kernel_rfl) (fun _ _ _ h => h) (by rfl) ?_ hHeld ?_
        rotate_left
        · intro w' hSw
          go_simp <;> with_reducible rfl
        try simp only [Act.put, List.setIfInBounds_toArray, List.set_cons_zero, List.set_cons_succ]
        refine wpXt (v := ?_) 4 rfl (by kernel_rfl) (fun _ _ _ h => h) (by rfl) ?_ hHeld ?_
        rotate_left
        · intro w' hSw
          go_simp <;> with_reducible rfl
        try simp only [Act.put, List.setIfInBounds_toArray, List.set_cons_zero, List.set_cons_succ]
        refine wpXt (v := ?_) 5 rfl (by kernel_rfl) (fun _ _ _ h => h) (by rfl) ?_ hHeld ?_
        rotate_left
        · intro w' hSw
          go_simp <;> with_reducible rfl
        try simp only [Act.put, List.setIfInBounds_toArray, List.set_cons_zero, List.set_cons_succ]
        refine wpXt (v := ?_) 6 rfl (by kernel_rfl) (fun _ _ _ h => h) (by rfl) ?_ hHeld ?_
        rotate_left
        · intro w' hSw
          go_simp <;> with_reducible rfl
        try simp only [Act.put, List.setIfInBounds_toArray, List.set_cons_zero, List.set_cons_succ]
        refine wpXt (v := ?_) 7 rfl (by kernel_rfl) (fun _ _ _ h => h) (by rfl) ?_ hHeld ?_
        rotate_left
        · intro w' hSw
          go_simp <;> with_reducible rfl
        try simp only [Act.put, List.setIfInBounds_toArray, List.set_cons_zero, List.set_cons_succ]
        refine wpXt (v := ?_) 8 rfl (by kernel_rfl) (fun _ _ _ h => h) (by rfl) ?_ hHeld ?_
        rotate_left
        · intro w' hSw
          go_simp <;> with_reducible rfl
        try simp only [Act.put, List.setIfInBounds_toArray, List.set_cons_zero, List.set_cons_succ]
        refine wpXt (v := ?_) 9 rfl (by kernel_rfl) (fun _ _ _ h => h) (by rfl) ?_ hHeld ?_
        rotate_left
        · intro w' hSw
          go_simp <;> with_reducible rfl
        try simp only [Act.put, List.setIfInBounds_toArray, List.set_cons_zero, List.set_cons_succ]
        refine wpXt (v := ?_) 10 rfl (by kernel_rfl) (fun _ _ _ h => h) (by rfl) ?_ hHeld ?_
        rotate_left
        · intro w' hSw
          go_simp <;> with_reducible rfl
        try simp only [Act.put, List.setIfInBounds_toArray, List.set_cons_zero, List.set_cons_succ]
        refine wpXt (v := ?_) 11 rfl (by kernel_rfl) (fun _ _ _ h => h) (by rfl) ?_ hHeld ?_
        rotate_left
        · intro w' hSw
          go_simp <;> with_reducible rfl
        try simp only [Act.put, List.setIfInBounds_toArray, List.set_cons_zero, List.set_cons_succ]
        refine wpXt (v := ?_) 12 rfl (by kernel_rfl) (fun _ _ _ h => h) (by rfl) ?_ hHeld ?_
        rotate_left
        · intro w' hSw
          go_simp <;> with_reducible rfl
        try simp only [Act.put, List.setIfInBounds_toArray, List.set_cons_zero, List.set_cons_succ]
        refine wpXs 13 rfl (by kernel_rfl) (fun K hK => ?_)
        go_simp
        refine HC.mono ?_
        clear HC
        rintro e w3 ⟨rfl, hb3⟩
        have hb3' : Below W5.heap.size W5 w3 := ((Below.refl _ _).drew).trans hb3
        have r3 : w3.rowIs Y 3 nv (nowF (makesM seed op read 0 (os.take j) now)) := HY5.out.of_block (hb3'.block _ HY5.out.lt)
        have y3 := r3.cell v1
        have z3 := r3.frozen V
        have g3 : W5.grownBy w3 (some Y) := gr_below hb3'
        have HR3 : Hid ((w3.setCell ⟨Y, V, none⟩ (.int .i64 x)).rowIs Y 3 nv (nowF (makesM seed op read 0 (os.take (j + 1)) now))) := by
          show World.rowIs _ _ _ _ _
          rw [HE.out]
          exact (r3.set V (.int .i64 x)).congr fun i hi => nowF_set _ V nv x (by rw [makesM_length]; exact HLN.out) i hi
        have HG3 : Hid (W5.grownBy w3 (some Y)) := g3
        have HG4 : Hid (W5.grownBy (w3.setCell ⟨Y, V, none⟩ (.int .i64 x)) (some Y)) := gr_trans g3 gr_set
        clear hb3 hb3' r3 g3
        refine hK.out _ _ (HSF.out _ HG3.out) (fun hHeld => ?_)
        clear hK K
        try simp only [Act.put, List.setIfInBounds_toArray, List.set_cons_zero, List.set_cons_succ]
        refine wpXt (v := ?_) 14 rfl (by kernel_rfl) (fun _ _ _ h => h) (by rfl) ?_ hHeld ?_
        rotate_left
        · intro w' hSw
          go_simp <;> with_reducible rfl
        try simp only [Act.put, List.setIfInBounds_toArray, List.set_cons_zero, List.set_cons_succ]
        refine wpXs 15 rfl (by kernel_rfl) (fun K hK => ?_)
        go_simp
        refine hK.out _ _ (HSF.out _ HG4.out) (fun hHeld => ?_)
        clear hK K
        try simp only [Act.put, List.setIfInBounds_toArray, List.set_cons_zero, List.set_cons_succ]
        refine wpAnyX_done (by kernel_rfl) ?_ _
        go_wp2
        go_roundw
        case rel => exact ⟨j + 1, by omega, by go_num, HR3, gr_trans HG5.out HG4.out⟩
        case measure => simp [intOf]; omega

      · have q : (o.kind == 2) = false := by simp [hk1]
        rw [if_neg hk1] at HT
        have b5 : Below wr.heap.size wr (wr.alloc (.cells #[.int .i64 o.kind, .int .i64 o.value, .bool o.late, .int .i64 o.limit, .int .i64 o.n] 49)) := (Below.refl _ _).alloc (Nat.le_refl _) _
        have HX2 : Hid ((wr.alloc (.cells #[.int .i64 o.kind, .int .i64 o.value, .bool o.late, .int .i64 o.limit, .int .i64 o.n] 49)).rowIs Y 3 nv (nowF (makesM seed op read 0 (os.take (j + 1)) now))) := by
          show World.rowIs _ _ _ _ _
          rw [HT]
          exact HI.out.of_block (b5.block _ HI.out.lt)
        have HG2 : Hid (W.grownBy (wr.alloc (.cells #[.int .i64 o.kind, .int .i64 o.value, .bool o.late, .int .i64 o.limit, .int .i64 o.n] 49)) (some Y)) := gr_trans HG.out (gr_below b5)
        clear HT hdo hk1 HI HG b5
        go_wp2
        go_roundw
        case rel => exact ⟨j + 1, by omega, by go_num, HX2, HG2⟩
        case measure => simp [intOf]; omega
    · have HE : Hid (wr.rowIs Y 3 nv (nowF (makesM seed op read 0 os now)) ∧ w.grownBy wr (some Y)) := by
        have h1 := HI.out
        rw [List.take_of_length_le (by have := HOS.out.2; omega)] at h1
        exact ⟨h1, gr_trans (gr_below HBW.out) HG.out⟩
      clear HI HG
      go_wp2
      go_end0
      exact ⟨rfl, HE.out⟩
end Go.Proofs.Ytmkloakahefjiaa
