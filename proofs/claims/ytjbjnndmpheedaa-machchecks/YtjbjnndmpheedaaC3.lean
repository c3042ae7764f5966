/-
  The contract of the reference's 'instrFault' (P1.4 to P1.7).
-/
import Derived.Test.YtjbjnndmpheedaaC2
import Derived.Test.YtjbjnndmpheedaaA2
import Derived.Deep.DeepCutAuto
import Derived.Deep.CutBlock
namespace Go.Proofs.Ytjbjnndmpheedaa
open Go.RowKit
set_option linter.unusedVariables false

theorem instrErr_sp (values : List Int) (m0 m1 : Int) (x : Ins) (e : Int) (hop : ¬ (x.op < 0 ∨ 255 < x.op)) (h1 : firstE (oprErr values m0 m1) x.operands = 0) (h2 : firstE (reE values x) x.operands = 0) (h : spErr m0 m1 none x.spoils = e) (he : ¬ e = 0) : instrErr values m0 m1 x = e := by
  unfold instrErr
  rw [if_neg hop, h1, if_neg (by simp), h2, if_neg (by simp), h, if_pos he]
theorem instrErr_cl (values : List Int) (m0 m1 : Int) (x : Ins) (hop : ¬ (x.op < 0 ∨ 255 < x.op)) (h1 : firstE (oprErr values m0 m1) x.operands = 0) (h2 : firstE (reE values x) x.operands = 0) (h3 : spErr m0 m1 none x.spoils = 0) (h : clashB values x = true) : instrErr values m0 m1 x = 12 := by
  unfold instrErr
  rw [if_neg hop, h1, if_neg (by simp), h2, if_neg (by simp), h3, if_neg (by simp), if_pos h]
theorem instrErr_fu (values : List Int) (m0 m1 : Int) (x : Ins) (hop : ¬ (x.op < 0 ∨ 255 < x.op)) (h1 : firstE (oprErr values m0 m1) x.operands = 0) (h2 : firstE (reE values x) x.operands = 0) (h3 : spErr m0 m1 none x.spoils = 0) (h4 : clashB values x = false) : instrErr values m0 m1 x = if fullB values m0 m1 x = true then 8 else 0 := by
  unfold instrErr
  rw [if_neg hop, h1, if_neg (by simp), h2, if_neg (by simp), h3, if_neg (by simp), if_neg (by simp [h4])]
theorem oprErr_kind {values : List Int} {m0 m1 : Int} {o : Opr} (h : oprErr values m0 m1 o = 0) : o.kind = 1 ∨ o.kind = 2 := by
  unfold oprErr at h
  by_cases hk : o.kind = 1 ∨ o.kind = 2
  · exact hk
  · rw [if_pos hk] at h; simp at h
theorem oprErr_fixed {values : List Int} {m0 m1 : Int} {o : Opr} (h : oprErr values m0 m1 o = 0) (h4 : o.limit = 4) (ha : m0 ≤ 10) (hb : m1 ≤ 10) : 0 ≤ o.n ∧ o.n ≤ 9 := by
  have hv := oprErr_value h
  have hk := oprErr_kind h
  unfold oprErr at h
  rw [if_neg (fun h => h hk), if_neg (by omega), if_neg (by simp [hv]), if_pos h4] at h
  cases hg : givB m0 m1 (classAt values o.value) o.n
  · rw [hg] at h; simp at h
  · have := giv_bounds hg ha hb
    omega
theorem named_fixed {values : List Int} {m0 m1 : Int} (all : List Opr) (o : Opr) (ho : o ∈ all) (hN : ∀ o ∈ all, o.limit = 5 → 0 ≤ o.n ∧ o.n < (all.length : Int)) (hE : ∀ o ∈ all, oprErr values m0 m1 o = 0) (ha : m0 ≤ 10) (hb : m1 ≤ 10) (h4 : (named all o).limit = 4) : 0 ≤ (named all o).n ∧ (named all o).n ≤ 9 := by
  unfold named at h4 ⊢
  by_cases h5 : o.limit = 5
  · rw [if_pos h5] at h4 ⊢
    obtain ⟨h0, h1⟩ := hN o ho h5
    have hi : o.n.toNat < all.length := by omega
    simp only [List.getD, List.getElem?_eq_getElem hi, Option.getD_some] at h4 ⊢
    exact oprErr_fixed (hE _ (List.getElem_mem hi)) h4 ha hb
  · rw [if_neg h5] at h4 ⊢
    exact oprErr_fixed (hE o ho) h4 ha hb

set_option maxRecDepth 8000 in
set_option maxHeartbeats 16000000 in
theorem instrFault_is (values : List Int) (av : Option Addr) (cv : Nat) (vb : Value) (m0 m1 : Int) (x : Ins) (ao asp : Option Addr) (co csp : Nat) (res : Int) (hres : instrErr values m0 m1 x = res) (w : World) (hv : SlOf w 1 RInt (.slice av values.length cv) values)
    (ho : SlOf w 5 ROpr (.slice ao x.operands.length co) x.operands) (hs : SlOf w 2 RRg (.slice asp x.spoils.length csp) x.spoils)
    (hcls : ∀ v, isValueB values.length v = true → classAt values v = 0 ∨ classAt values v = 1) (hm0 : 2 ≤ m0 ∧ m0 ≤ 10) (hm1 : 2 ≤ m1 ∧ m1 ≤ 10) :
    Calls Try.prog 56 #[.agg #[.slice av values.length cv, vb], .agg #[.int .i64 m0, .int .i64 m1], .agg #[.int .i64 x.op, .slice ao x.operands.length co, .slice asp x.spoils.length csp]] w fun e w' => e = .returned (.int .i64 res) ∧ Below w.heap.size w w' := by
  obtain ⟨_, _, _, lv⟩ := hv.out
  obtain ⟨_, _, _, lo⟩ := ho.out
  obtain ⟨_, _, _, ls⟩ := hs.out
  unfold longest at lv lo ls
  obtain ⟨W, hW⟩ : ∃ W, W = ((w.alloc (.cells #[.slice av values.length cv, vb] 25)).alloc (.cells #[.int .i64 m0, .int .i64 m1] 28)).alloc (.cells #[.int .i64 x.op, .slice ao x.operands.length co, .slice asp x.spoils.length csp] 45) := ⟨_, rfl⟩
  have hbw : Below w.heap.size w W := by rw [hW]; exact (((Below.refl _ _).alloc (Nat.le_refl _) _).alloc (by simp) _).alloc (by simp; omega) _
  have zW : w.heap.size + 1 + 1 < W.heap.size := by rw [hW]; simp
  obtain ⟨t0, t1, t2⟩ := three_at w #[.slice av values.length cv, vb] #[.int .i64 m0, .int .i64 m1] #[.int .i64 x.op, .slice ao x.operands.length co, .slice asp x.spoils.length csp] 25 28 45
  have f0_0 : W.cell? ⟨w.heap.size, 0, none⟩ = some (.slice av values.length cv) := by rw [hW]; exact t0 0
  have f0_1 : W.cell? ⟨w.heap.size, 1, none⟩ = some (vb) := by rw [hW]; exact t0 1
  have m1_0 : W.cell? ⟨w.heap.size + 1, 0, none⟩ = some (.int .i64 m0) := by rw [hW]; exact t1 0
  have m1_1 : W.cell? ⟨w.heap.size + 1, 1, none⟩ = some (.int .i64 m1) := by rw [hW]; exact t1 1
  have x2_0 : W.cell? ⟨w.heap.size + 1 + 1, 0, none⟩ = some (.int .i64 x.op) := by rw [hW]; exact t2 0
  have x2_1 : W.cell? ⟨w.heap.size + 1 + 1, 1, none⟩ = some (.slice ao x.operands.length co) := by rw [hW]; exact t2 1
  have x2_2 : W.cell? ⟨w.heap.size + 1 + 1, 2, none⟩ = some (.slice asp x.spoils.length csp) := by rw [hW]; exact t2 2
  have HS : Hid (∀ w', Below W.heap.size W w' → (fun w' => w'.cell? ⟨w.heap.size, 0, none⟩ = some (.slice av values.length cv) ∧ w'.cell? ⟨w.heap.size, 1, none⟩ = some (vb) ∧ w'.cell? ⟨w.heap.size + 1, 0, none⟩ = some (.int .i64 m0) ∧ w'.cell? ⟨w.heap.size + 1, 1, none⟩ = some (.int .i64 m1) ∧ w'.cell? ⟨w.heap.size + 1 + 1, 0, none⟩ = some (.int .i64 x.op) ∧ w'.cell? ⟨w.heap.size + 1 + 1, 1, none⟩ = some (.slice ao x.operands.length co) ∧ w'.cell? ⟨w.heap.size + 1 + 1, 2, none⟩ = some (.slice asp x.spoils.length csp) ∧ Below W.heap.size W w') w') := fun w' hh => ⟨(hh.cell (by simp; omega)).trans f0_0, (hh.cell (by simp; omega)).trans f0_1, (hh.cell (by simp; omega)).trans m1_0, (hh.cell (by simp; omega)).trans m1_1, (hh.cell (by simp; omega)).trans x2_0, (hh.cell (by simp; omega)).trans x2_1, (hh.cell (by simp; omega)).trans x2_2, hh⟩
  have HW : Hid (W = ((w.alloc (.cells #[.slice av values.length cv, vb] 25)).alloc (.cells #[.int .i64 m0, .int .i64 m1] 28)).alloc (.cells #[.int .i64 x.op, .slice ao x.operands.length co, .slice asp x.spoils.length csp] 45)) := hW
  clear hW t0 t1 t2
  have HRES : Hid (instrErr values m0 m1 x = res) := hres
  have HCL : Hid (∀ v, isValueB values.length v = true → classAt values v = 0 ∨ classAt values v = 1) := hcls
  obtain ⟨ha0, ha1⟩ := hm0
  obtain ⟨hc0, hc1⟩ := hm1
  clear hres hcls
  cases hi : inB x.op 0 255
  · have H : Hid (2 = res) := by show _ = _; rw [← HRES.out]; unfold instrErr; rw [if_pos]; simp [inB] at hi; omega
    go_enter Try.func56, Try.ntmps56
    go_upto_region 1 with fail
    rw [← HW.out]
    go_wp2_with fail
    refine (in_is _ _ _ _ hi _).mono ?_
    rintro e W ⟨rfl, rfl⟩
    go_wp2
    go_ret
    exact ⟨ret_int H.out, hbw⟩
  have hop : ¬ (x.op < 0 ∨ 255 < x.op) := by simp [inB] at hi; omega
  go_enter Try.func56, Try.ntmps56
  go_upto_region 1 with fail
  rw [← HW.out]
  go_wp2_with fail
  refine (in_is _ _ _ _ hi _).mono ?_
  rintro e W ⟨rfl, rfl⟩
  go_wp2
  clear hi
  go_loopw [7] (fun v wr => ∃ k : Nat, k ≤ x.operands.length ∧ v = .int .i64 k ∧ Below W.heap.size W wr ∧ Hid (firstE (oprErr values m0 m1) (x.operands.drop k) = firstE (oprErr values m0 m1) x.operands)) (fun v _ => x.operands.length - (intOf v).toNat)
  case atStart => exact ⟨0, Nat.zero_le _, rfl, Below.refl _ _, rfl⟩
  case round =>
    obtain ⟨k, hk, rfl, hbr, HK⟩ := hrel
    have hbwr : Below w.heap.size w wr := hbw.trans (hbr.mono hbw.size)
    have zr := hbr.size
    obtain ⟨f0_0', f0_1', m1_0', m1_1', x2_0', x2_1', x2_2', _⟩ := HS.out _ hbr
    clear f0_0 f0_1 m1_0 m1_1 x2_0 x2_1 x2_2
    by_cases hlt : k < x.operands.length
    · obtain ⟨b5, off5, rfl, hb5, c0, c1, c2, c3, c4⟩ := opr_cells (ho.below hbwr fun _ _ h => h) k hlt
      obtain ⟨er, her⟩ : ∃ er, oprErr values m0 m1 x.operands[k] = er := ⟨_, rfl⟩
      have HER : Hid (oprErr values m0 m1 x.operands[k] = er) := her
      have hbd : Below wr.heap.size wr wr.drew := (Below.refl _ _).drew
      have HSk : Hid (∀ w', Below wr.heap.size wr w' → (fun w' => w'.cell? ⟨w.heap.size, 0, none⟩ = some (.slice av values.length cv) ∧ w'.cell? ⟨w.heap.size, 1, none⟩ = some (vb) ∧ w'.cell? ⟨w.heap.size + 1, 0, none⟩ = some (.int .i64 m0) ∧ w'.cell? ⟨w.heap.size + 1, 1, none⟩ = some (.int .i64 m1) ∧ w'.cell? ⟨w.heap.size + 1 + 1, 0, none⟩ = some (.int .i64 x.op) ∧ w'.cell? ⟨w.heap.size + 1 + 1, 1, none⟩ = some (.slice (some ⟨b5, off5, none⟩) x.operands.length co) ∧ w'.cell? ⟨w.heap.size + 1 + 1, 2, none⟩ = some (.slice asp x.spoils.length csp) ∧ w'.cell? ⟨b5, off5 + k * 5, none⟩ = some (.int .i64 x.operands[k].kind) ∧ w'.cell? ⟨b5, off5 + k * 5 + 1, none⟩ = some (.int .i64 x.operands[k].value) ∧ w'.cell? ⟨b5, off5 + k * 5 + 2, none⟩ = some (.bool x.operands[k].late) ∧ w'.cell? ⟨b5, off5 + k * 5 + 3, none⟩ = some (.int .i64 x.operands[k].limit) ∧ w'.cell? ⟨b5, off5 + k * 5 + 4, none⟩ = some (.int .i64 x.operands[k].n) ∧ Below wr.heap.size wr w') w') := fun w' hh => ⟨(hh.cell (by simp; omega)).trans f0_0', (hh.cell (by simp; omega)).trans f0_1', (hh.cell (by simp; omega)).trans m1_0', (hh.cell (by simp; omega)).trans m1_1', (hh.cell (by simp; omega)).trans x2_0', (hh.cell (by simp; omega)).trans x2_1', (hh.cell (by simp; omega)).trans x2_2', (hh.cell (by simp; omega)).trans c0, (hh.cell (by simp; omega)).trans c1, (hh.cell (by simp; omega)).trans c2, (hh.cell (by simp; omega)).trans c3, (hh.cell (by simp; omega)).trans c4, hh⟩
      clear her
      have her := HER
      go_upto_region 6 with fail
      refine wp_region_X (fun w' => w'.cell? ⟨w.heap.size, 0, none⟩ = some (.slice av values.length cv) ∧ w'.cell? ⟨w.heap.size, 1, none⟩ = some (vb) ∧ w'.cell? ⟨w.heap.size + 1, 0, none⟩ = some (.int .i64 m0) ∧ w'.cell? ⟨w.heap.size + 1, 1, none⟩ = some (.int .i64 m1) ∧ w'.cell? ⟨w.heap.size + 1 + 1, 0, none⟩ = some (.int .i64 x.op) ∧ w'.cell? ⟨w.heap.size + 1 + 1, 1, none⟩ = some (.slice (some ⟨b5, off5, none⟩) x.operands.length co) ∧ w'.cell? ⟨w.heap.size + 1 + 1, 2, none⟩ = some (.slice asp x.spoils.length csp) ∧ w'.cell? ⟨b5, off5 + k * 5, none⟩ = some (.int .i64 x.operands[k].kind) ∧ w'.cell? ⟨b5, off5 + k * 5 + 1, none⟩ = some (.int .i64 x.operands[k].value) ∧ w'.cell? ⟨b5, off5 + k * 5 + 2, none⟩ = some (.bool x.operands[k].late) ∧ w'.cell? ⟨b5, off5 + k * 5 + 3, none⟩ = some (.int .i64 x.operands[k].limit) ∧ w'.cell? ⟨b5, off5 + k * 5 + 4, none⟩ = some (.int .i64 x.operands[k].n) ∧ Below wr.heap.size wr w') 99 (by kernel_rfl) (HSk.out _ hbd) (fun hHeld => ?_)
      refine wpXt 0 rfl (v := ?_) (by kernel_rfl) (fun _ _ _ h => h) (by rfl) ?_ hHeld ?_
      rotate_left
      · intro w' hSw
        go_simp <;> with_reducible rfl
      try simp only [Act.put, List.setIfInBounds_toArray, List.set_cons_zero, List.set_cons_succ]
      refine wpXt 1 rfl (v := ?_) (by kernel_rfl) (fun _ _ _ h => h) (by rfl) ?_ hHeld ?_
      rotate_left
      · intro w' hSw
        go_simp <;> with_reducible rfl
      try simp only [Act.put, List.setIfInBounds_toArray, List.set_cons_zero, List.set_cons_succ]
      refine wpXt 2 rfl (v := ?_) (by kernel_rfl) (fun _ _ _ h => h) (by rfl) ?_ hHeld ?_
      rotate_left
      · intro w' hSw
        go_simp <;> with_reducible rfl
      try simp only [Act.put, List.setIfInBounds_toArray, List.set_cons_zero, List.set_cons_succ]
      refine wpXt 3 rfl (v := ?_) (by kernel_rfl) (fun _ _ _ h => h) (by rfl) ?_ hHeld ?_
      rotate_left
      · intro w' hSw
        go_simp <;> with_reducible rfl
      try simp only [Act.put, List.setIfInBounds_toArray, List.set_cons_zero, List.set_cons_succ]
      refine wpXt 4 rfl (v := ?_) (by kernel_rfl) (fun _ _ _ h => h) (by rfl) ?_ hHeld ?_
      rotate_left
      · intro w' hSw
        go_simp <;> with_reducible rfl
      try simp only [Act.put, List.setIfInBounds_toArray, List.set_cons_zero, List.set_cons_succ]
      refine wpXt 5 rfl (v := ?_) (by kernel_rfl) (fun _ _ _ h => h) (by rfl) ?_ hHeld ?_
      rotate_left
      · intro w' hSw
        go_simp <;> with_reducible rfl
      try simp only [Act.put, List.setIfInBounds_toArray, List.set_cons_zero, List.set_cons_succ]
      refine wpXt 6 rfl (v := ?_) (by kernel_rfl) (fun _ _ _ h => h) (by rfl) ?_ hHeld ?_
      rotate_left
      · intro w' hSw
        go_simp <;> with_reducible rfl
      try simp only [Act.put, List.setIfInBounds_toArray, List.set_cons_zero, List.set_cons_succ]
      refine wpXs 7 rfl (by kernel_rfl) (fun K hK => ?_)
      go_simp
      refine (operandFault_is values _ _ _ _ _ x.operands[k] er her.out _ (hv.below (hbwr.trans (hbd.mono hbwr.size)) fun _ _ h => h) HCL.out ⟨ha0, ha1⟩ ⟨hc0, hc1⟩).mono ?_
      rintro e wn ⟨rfl, hbn0⟩
      have hbn : Below wr.heap.size wr wn := hbd.trans (hbn0.mono hbd.size)
      refine hK.out _ _ (HSk.out _ hbn) (fun hHeld => ?_)
      clear hK K
      try simp only [Act.put, List.setIfInBounds_toArray, List.set_cons_zero, List.set_cons_succ]
      refine wpXs 8 rfl (by kernel_rfl) (fun K hK => ?_)
      go_simp
      refine hK.out _ _ (HSk.out _ hbn) (fun hHeld => ?_)
      clear hK K
      try simp only [Act.put, List.setIfInBounds_toArray, List.set_cons_zero, List.set_cons_succ]
      refine wpAnyX_done (by kernel_rfl) ?_ _
      have hbWn : Below W.heap.size W wn := hbr.trans (hbn.mono hbr.size)
      by_cases h0 : er = 0
      · have H : Hid (firstE (oprErr values m0 m1) (x.operands.drop (k + 1)) = firstE (oprErr values m0 m1) x.operands) := (firstE_drop0 _ _ _ hlt (HER.out.trans h0)).trans HK.out
        subst h0
        clear f0_0' f0_1' m1_0' m1_1' x2_0' x2_1' x2_2' c0 c1 c2 c3 c4
        go_wp2
        go_roundw
        case rel => exact ⟨k + 1, by omega, by go_num, hbWn, H⟩
        case measure => simp [intOf]; omega
      · have H : Hid (er = res) := by show _ = _; rw [← HRES.out]; exact (instrErr_opr values m0 m1 x _ hop (HK.out.symm.trans ((firstE_drop1 _ _ _ hlt (by rw [HER.out]; exact h0)).trans HER.out)) h0).symm
        have hne : (er != 0) = true := by simpa using h0
        clear h0 f0_0' f0_1' m1_0' m1_1' x2_0' x2_1' x2_2' c0 c1 c2 c3 c4
        go_wp2
        go_ret
        exact ⟨ret_int H.out, hbw.trans (hbWn.mono hbw.size)⟩
    · have HE1 : Hid (firstE (oprErr values m0 m1) x.operands = 0) := by
        show _ = _
        rw [← HK.out, List.drop_of_length_le (by omega)]
        rfl
      have hE1 := firstE_zero _ _ HE1.out
      have HE0 : Hid (∀ o ∈ x.operands, oprErr values m0 m1 o = 0) := hE1
      have HOV : Hid (∀ o ∈ x.operands, isValueB values.length o.value = true) := fun o ho => oprErr_value (hE1 o ho)
      have HK12 : Hid (∀ o ∈ x.operands, o.kind = 1 ∨ o.kind = 2) := fun o ho => oprErr_kind (hE1 o ho)
      clear hE1 HK
      go_wp2
      clear f0_0' f0_1' m1_0' m1_1' x2_0' x2_1' x2_2'
      go_loopw [9] (fun v wr => ∃ k : Nat, k ≤ x.operands.length ∧ v = .int .i64 k ∧ Below W.heap.size W wr ∧ Hid (firstE (reE values x) (x.operands.drop k) = firstE (reE values x) x.operands)) (fun v _ => x.operands.length - (intOf v).toNat)
      case atStart => exact ⟨0, Nat.zero_le _, rfl, hbr, rfl⟩
      case round =>
        clear hbwr hbr hlt zr
        obtain ⟨k, hk2, rfl, hbr, HK⟩ := hrel
        have hbwr : Below w.heap.size w wr := hbw.trans (hbr.mono hbw.size)
        have zr := hbr.size
        obtain ⟨f0_0', f0_1', m1_0', m1_1', x2_0', x2_1', x2_2', _⟩ := HS.out _ hbr
        by_cases hlt : k < x.operands.length
        · obtain ⟨b5, off5, rfl, hb5, c0, c1, c2, c3, c4⟩ := opr_cells (ho.below hbwr fun _ _ h => h) k hlt
          by_cases h5 : x.operands[k].limit = 5
          · have q5 : (x.operands[k].limit == 5) = true := by simp [h5]
            have H5 : Hid (x.operands[k].limit = 5) := h5
            clear h5
            obtain ⟨er, her⟩ : ∃ er, reuseErr values x.operands[k] x.operands = er := ⟨_, rfl⟩
            have HER : Hid (reuseErr values x.operands[k] x.operands = er) := her
            have hbd : Below wr.heap.size wr wr.drew := (Below.refl _ _).drew
            have HSk : Hid (∀ w', Below wr.heap.size wr w' → (fun w' => w'.cell? ⟨w.heap.size, 0, none⟩ = some (.slice av values.length cv) ∧ w'.cell? ⟨w.heap.size, 1, none⟩ = some (vb) ∧ w'.cell? ⟨w.heap.size + 1, 0, none⟩ = some (.int .i64 m0) ∧ w'.cell? ⟨w.heap.size + 1, 1, none⟩ = some (.int .i64 m1) ∧ w'.cell? ⟨w.heap.size + 1 + 1, 0, none⟩ = some (.int .i64 x.op) ∧ w'.cell? ⟨w.heap.size + 1 + 1, 1, none⟩ = some (.slice (some ⟨b5, off5, none⟩) x.operands.length co) ∧ w'.cell? ⟨w.heap.size + 1 + 1, 2, none⟩ = some (.slice asp x.spoils.length csp) ∧ w'.cell? ⟨b5, off5 + k * 5, none⟩ = some (.int .i64 x.operands[k].kind) ∧ w'.cell? ⟨b5, off5 + k * 5 + 1, none⟩ = some (.int .i64 x.operands[k].value) ∧ w'.cell? ⟨b5, off5 + k * 5 + 2, none⟩ = some (.bool x.operands[k].late) ∧ w'.cell? ⟨b5, off5 + k * 5 + 3, none⟩ = some (.int .i64 x.operands[k].limit) ∧ w'.cell? ⟨b5, off5 + k * 5 + 4, none⟩ = some (.int .i64 x.operands[k].n) ∧ Below wr.heap.size wr w') w') := fun w' hh => ⟨(hh.cell (by simp; omega)).trans f0_0', (hh.cell (by simp; omega)).trans f0_1', (hh.cell (by simp; omega)).trans m1_0', (hh.cell (by simp; omega)).trans m1_1', (hh.cell (by simp; omega)).trans x2_0', (hh.cell (by simp; omega)).trans x2_1', (hh.cell (by simp; omega)).trans x2_2', (hh.cell (by simp; omega)).trans c0, (hh.cell (by simp; omega)).trans c1, (hh.cell (by simp; omega)).trans c2, (hh.cell (by simp; omega)).trans c3, (hh.cell (by simp; omega)).trans c4, hh⟩
            clear her
            have her := HER
            go_upto_region 13 with fail
            refine wp_region_X (fun w' => w'.cell? ⟨w.heap.size, 0, none⟩ = some (.slice av values.length cv) ∧ w'.cell? ⟨w.heap.size, 1, none⟩ = some (vb) ∧ w'.cell? ⟨w.heap.size + 1, 0, none⟩ = some (.int .i64 m0) ∧ w'.cell? ⟨w.heap.size + 1, 1, none⟩ = some (.int .i64 m1) ∧ w'.cell? ⟨w.heap.size + 1 + 1, 0, none⟩ = some (.int .i64 x.op) ∧ w'.cell? ⟨w.heap.size + 1 + 1, 1, none⟩ = some (.slice (some ⟨b5, off5, none⟩) x.operands.length co) ∧ w'.cell? ⟨w.heap.size + 1 + 1, 2, none⟩ = some (.slice asp x.spoils.length csp) ∧ w'.cell? ⟨b5, off5 + k * 5, none⟩ = some (.int .i64 x.operands[k].kind) ∧ w'.cell? ⟨b5, off5 + k * 5 + 1, none⟩ = some (.int .i64 x.operands[k].value) ∧ w'.cell? ⟨b5, off5 + k * 5 + 2, none⟩ = some (.bool x.operands[k].late) ∧ w'.cell? ⟨b5, off5 + k * 5 + 3, none⟩ = some (.int .i64 x.operands[k].limit) ∧ w'.cell? ⟨b5, off5 + k * 5 + 4, none⟩ = some (.int .i64 x.operands[k].n) ∧ Below wr.heap.size wr w') 99 (by kernel_rfl) (HSk.out _ hbd) (fun hHeld => ?_)
            refine wpXt 0 rfl (v := ?_) (by kernel_rfl) (fun _ _ _ h => h) (by rfl) ?_ hHeld ?_
            rotate_left
            · intro w' hSw
              go_simp <;> with_reducible rfl
            try simp only [Act.put, List.setIfInBounds_toArray, List.set_cons_zero, List.set_cons_succ]
            refine wpXt 1 rfl (v := ?_) (by kernel_rfl) (fun _ _ _ h => h) (by rfl) ?_ hHeld ?_
            rotate_left
            · intro w' hSw
              go_simp <;> with_reducible rfl
            try simp only [Act.put, List.setIfInBounds_toArray, List.set_cons_zero, List.set_cons_succ]
            refine wpXt 2 rfl (v := ?_) (by kernel_rfl) (fun _ _ _ h => h) (by rfl) ?_ hHeld ?_
            rotate_left
            · intro w' hSw
              go_simp <;> with_reducible rfl
            try simp only [Act.put, List.setIfInBounds_toArray, List.set_cons_zero, List.set_cons_succ]
            refine wpXt 3 rfl (v := ?_) (by kernel_rfl) (fun _ _ _ h => h) (by rfl) ?_ hHeld ?_
            rotate_left
            · intro w' hSw
              go_simp <;> with_reducible rfl
            try simp only [Act.put, List.setIfInBounds_toArray, List.set_cons_zero, List.set_cons_succ]
            refine wpXt 4 rfl (v := ?_) (by kernel_rfl) (fun _ _ _ h => h) (by rfl) ?_ hHeld ?_
            rotate_left
            · intro w' hSw
              go_simp <;> with_reducible rfl
            try simp only [Act.put, List.setIfInBounds_toArray, List.set_cons_zero, List.set_cons_succ]
            refine wpXt 5 rfl (v := ?_) (by kernel_rfl) (fun _ _ _ h => h) (by rfl) ?_ hHeld ?_
            rotate_left
            · intro w' hSw
              go_simp <;> with_reducible rfl
            try simp only [Act.put, List.setIfInBounds_toArray, List.set_cons_zero, List.set_cons_succ]
            refine wpXt 6 rfl (v := ?_) (by kernel_rfl) (fun _ _ _ h => h) (by rfl) ?_ hHeld ?_
            rotate_left
            · intro w' hSw
              go_simp <;> with_reducible rfl
            try simp only [Act.put, List.setIfInBounds_toArray, List.set_cons_zero, List.set_cons_succ]
            refine wpXs 7 rfl (by kernel_rfl) (fun K hK => ?_)
            go_simp
            refine (reuseFault_is values _ _ _ x _ _ _ _ x.operands[k] er her.out _ (hv.below (hbwr.trans (hbd.mono hbwr.size)) fun _ _ h => h) (ho.below (hbwr.trans (hbd.mono hbwr.size)) fun _ _ h => h) (HOV.out _ (List.getElem_mem hlt)) HOV.out HK12.out).mono ?_
            rintro e wn ⟨rfl, hbn0⟩
            have hbn : Below wr.heap.size wr wn := hbd.trans (hbn0.mono hbd.size)
            refine hK.out _ _ (HSk.out _ hbn) (fun hHeld => ?_)
            clear hK K
            try simp only [Act.put, List.setIfInBounds_toArray, List.set_cons_zero, List.set_cons_succ]
            refine wpXs 8 rfl (by kernel_rfl) (fun K hK => ?_)
            go_simp
            refine hK.out _ _ (HSk.out _ hbn) (fun hHeld => ?_)
            clear hK K
            try simp only [Act.put, List.setIfInBounds_toArray, List.set_cons_zero, List.set_cons_succ]
            refine wpAnyX_done (by kernel_rfl) ?_ _
            have hbWn : Below W.heap.size W wn := hbr.trans (hbn.mono hbr.size)
            by_cases h0 : er = 0
            · have H : Hid (firstE (reE values x) (x.operands.drop (k + 1)) = firstE (reE values x) x.operands) := (firstE_drop0 _ _ _ hlt (by unfold reE; rw [if_pos H5.out, HER.out]; exact h0)).trans HK.out
              subst h0
              clear f0_0' f0_1' m1_0' m1_1' x2_0' x2_1' x2_2' c0 c1 c2 c3 c4
              go_wp2
              go_roundw
              case rel => exact ⟨k + 1, by omega, by go_num, hbWn, H⟩
              case measure => simp [intOf]; omega
            · have H : Hid (er = res) := by show _ = _; rw [← HRES.out]; exact (instrErr_re values m0 m1 x _ hop HE1.out (HK.out.symm.trans ((firstE_drop1 _ _ _ hlt (by unfold reE; rw [if_pos H5.out, HER.out]; exact h0)).trans (by unfold reE; rw [if_pos H5.out, HER.out]))) h0).symm
              have hne : (er != 0) = true := by simpa using h0
              clear h0 f0_0' f0_1' m1_0' m1_1' x2_0' x2_1' x2_2' c0 c1 c2 c3 c4
              go_wp2
              go_ret
              exact ⟨ret_int H.out, hbw.trans (hbWn.mono hbw.size)⟩
          · have q5 : (x.operands[k].limit == 5) = false := by simpa using h5
            have H : Hid (firstE (reE values x) (x.operands.drop (k + 1)) = firstE (reE values x) x.operands) := (firstE_drop0 _ _ _ hlt (by unfold reE; rw [if_neg h5])).trans HK.out
            clear HK h5
            go_wp2
            go_roundw
            case rel => exact ⟨k + 1, by omega, by go_num, hbr, H⟩
            case measure => simp [intOf]; omega
        · have HE2 : Hid (firstE (reE values x) x.operands = 0) := by
            show _ = _
            rw [← HK.out, List.drop_of_length_le (by omega)]
            rfl
          have hE2 := firstE_zero _ _ HE2.out
          have HNN : Hid (∀ o ∈ x.operands, o.limit = 5 → 0 ≤ o.n ∧ o.n < (x.operands.length : Int)) := fun o ho h5 => reE_bound (hE2 o ho) h5
          clear hE2 HK
          obtain ⟨es, hes⟩ : ∃ es, spErr m0 m1 none x.spoils = es := ⟨_, rfl⟩
          have HES : Hid (spErr m0 m1 none x.spoils = es) := hes
          clear hes
          go_wp2_with fail
          refine (spoilsFault_is m0 m1 x.spoils _ _ _ es HES.out (hs.below hbwr fun _ _ h => h) ⟨ha0, ha1⟩ ⟨hc0, hc1⟩).mono ?_
          rintro e ws ⟨rfl, hbs0⟩
          have hbs : Below W.heap.size W ws := hbr.trans (hbs0.mono hbr.size)
          have hbws : Below w.heap.size w ws := hbw.trans (hbs.mono hbw.size)
          clear f0_0' f0_1' m1_0' m1_1' x2_0' x2_1' x2_2'
          obtain ⟨f0_0', f0_1', m1_0', m1_1', x2_0', x2_1', x2_2', _⟩ := HS.out _ hbs
          by_cases hes0 : es = 0
          · subst hes0
            obtain ⟨eb, heb⟩ : ∃ eb, clashB values x = eb := ⟨_, rfl⟩
            have HEB : Hid (clashB values x = eb) := heb
            clear heb
            go_wp2_with fail
            refine (clashes_is values _ _ _ x _ _ _ _ eb HEB.out _ (hv.below hbws fun _ _ h => h) (ho.below hbws fun _ _ h => h) (hs.below hbws fun _ _ h => h) HNN.out (fun o hoo => named_value x.operands o hoo HNN.out HOV.out) HCL.out (fun o hoo h4 => named_fixed x.operands o hoo HNN.out HE0.out ha1 hc1 h4) HK12.out).mono ?_
            rintro e wt ⟨rfl, hbt0⟩
            have hbt : Below W.heap.size W wt := hbs.trans (hbt0.mono hbs.size)
            have hbwt : Below w.heap.size w wt := hbw.trans (hbt.mono hbw.size)
            clear f0_0' f0_1' m1_0' m1_1' x2_0' x2_1' x2_2'
            cases eb
            case true =>
              have H : Hid (12 = res) := by show _ = _; rw [← HRES.out]; exact (instrErr_cl values m0 m1 x hop HE1.out HE2.out HES.out HEB.out).symm
              go_wp2
              go_ret
              exact ⟨ret_int H.out, hbwt⟩
            case false =>
              have HF : Hid ((if fullB values m0 m1 x = true then 8 else 0) = res) := by show _ = _; rw [← HRES.out]; exact (instrErr_fu values m0 m1 x hop HE1.out HE2.out HES.out HEB.out).symm
              go_wp2
              go_loopw [12] (fun v wr => ∃ c : Nat, c ≤ 2 ∧ v = .int .i64 c ∧ Below W.heap.size W wr ∧ Hid (1 ≤ c → (fullN values x 0 : Int) < m0) ∧ Hid (2 ≤ c → (fullN values x 1 : Int) < m1)) (fun v _ => 2 - (intOf v).toNat)
              case atStart => exact ⟨0, by omega, rfl, hbt, fun h => absurd h (by omega), fun h => absurd h (by omega)⟩
              case round =>
                clear hbwr hbr hlt zr hbs hbs0 hbws hbt hbt0 hbwt
                obtain ⟨c, hc, rfl, hbr, HF0, HF1⟩ := hrel
                have hbwr : Below w.heap.size w wr := hbw.trans (hbr.mono hbw.size)
                have zr := hbr.size
                obtain ⟨f0_0', f0_1', m1_0', m1_1', x2_0', x2_1', x2_2', _⟩ := HS.out _ hbr
                by_cases hc2 : c < 2
                · go_wp2
                  go_loop [13, 14] (fun n v => ∃ k : Nat, k ≤ x.spoils.length ∧ n = .int .i64 ((x.spoils.take k).countP (spIn c) : Nat) ∧ v = .int .i64 k) (fun _ v => x.spoils.length - (intOf v).toNat)
                  case atStart => exact ⟨0, Nat.zero_le _, by simp, rfl⟩
                  case round =>
                    obtain ⟨k, hk3, rfl, rfl⟩ := hrel
                    by_cases hlt : k < x.spoils.length
                    · obtain ⟨b2, off2, rfl, hb2, s0, s1⟩ := rg_cells (hs.below hbwr fun _ _ h => h) k hlt
                      have n0 := count_snoc x.spoils (spIn c) k hlt
                      have l0 := count_le x.spoils (spIn c) k
                      generalize x.spoils[k] = rr at *
                      generalize (x.spoils.take k).countP (spIn c) = p0 at *
                      by_cases hr : rr.cls = (c : Int)
                      · have qr : (rr.cls == (c : Int)) = true := by simpa using hr
                        have NN : Hid ((x.spoils.take (k + 1)).countP (spIn c) = p0 + 1) := by show _ = _; rw [n0]; simp [spIn, hr]
                        clear n0 hr
                        go_wp2
                        go_round
                        case rel => exact ⟨k + 1, by omega, by rw [NN.out]; go_num, by go_num⟩
                        case measure => simp [intOf]; omega
                      · have qr : (rr.cls == (c : Int)) = false := by simpa using hr
                        have NN : Hid ((x.spoils.take (k + 1)).countP (spIn c) = p0) := by show _ = _; rw [n0]; simp [spIn, hr]
                        clear n0 hr
                        go_wp2
                        go_round
                        case rel => exact ⟨k + 1, by omega, by rw [NN.out], by go_num⟩
                        case measure => simp [intOf]; omega
                    · have ek : x.spoils.take k = x.spoils := List.take_of_length_le (by omega)
                      rw [ek]
                      have hPl : x.spoils.countP (spIn c) ≤ x.spoils.length := List.countP_le_length
                      have HFN : Hid (fullN values x c = x.spoils.countP (spIn c) + x.operands.countP (opIn values c)) := rfl
                      clear ek
                      generalize x.spoils.countP (spIn c) = P at *
                      go_wp2
                      clear f0_0' f0_1' m1_0' m1_1' x2_0' x2_1' x2_2'
                      go_loopw [13, 15] (fun n v wr => ∃ k : Nat, k ≤ x.operands.length ∧ n = .int .i64 (P + (x.operands.take k).countP (opIn values c) : Nat) ∧ v = .int .i64 k ∧ Below W.heap.size W wr) (fun _ v _ => x.operands.length - (intOf v).toNat)
                      case atStart => exact ⟨0, Nat.zero_le _, by simp, rfl, hbr⟩
                      case round =>
                        clear hbwr hbr zr
                        obtain ⟨k, hk4, rfl, rfl, hbr⟩ := hrel
                        have hbwr : Below w.heap.size w wr := hbw.trans (hbr.mono hbw.size)
                        have zr := hbr.size
                        obtain ⟨f0_0', f0_1', m1_0', m1_1', x2_0', x2_1', x2_2', _⟩ := HS.out _ hbr
                        by_cases hlt : k < x.operands.length
                        · obtain ⟨b5, off5, rfl, hb5, c0, c1, c2, c3, c4⟩ := opr_cells (ho.below hbwr fun _ _ h => h) k hlt
                          have n0 := count_snoc x.operands (opIn values c) k hlt
                          have l0 := count_le x.operands (opIn values c) k
                          have hov := HOV.out _ (List.getElem_mem hlt)
                          obtain ⟨ccl, hccl⟩ : ∃ ccl, classAt values x.operands[k].value = ccl := ⟨_, rfl⟩
                          have HC5 : Hid (classAt values x.operands[k].value = ccl) := hccl
                          clear hccl
                          have hbd : Below wr.heap.size wr wr.drew := (Below.refl _ _).drew
                          have HSk : Hid (∀ w', Below wr.heap.size wr w' → (fun w' => w'.cell? ⟨w.heap.size, 0, none⟩ = some (.slice av values.length cv) ∧ w'.cell? ⟨w.heap.size, 1, none⟩ = some (vb) ∧ w'.cell? ⟨w.heap.size + 1, 0, none⟩ = some (.int .i64 m0) ∧ w'.cell? ⟨w.heap.size + 1, 1, none⟩ = some (.int .i64 m1) ∧ w'.cell? ⟨w.heap.size + 1 + 1, 0, none⟩ = some (.int .i64 x.op) ∧ w'.cell? ⟨w.heap.size + 1 + 1, 1, none⟩ = some (.slice (some ⟨b5, off5, none⟩) x.operands.length co) ∧ w'.cell? ⟨w.heap.size + 1 + 1, 2, none⟩ = some (.slice asp x.spoils.length csp) ∧ w'.cell? ⟨b5, off5 + k * 5, none⟩ = some (.int .i64 x.operands[k].kind) ∧ w'.cell? ⟨b5, off5 + k * 5 + 1, none⟩ = some (.int .i64 x.operands[k].value) ∧ w'.cell? ⟨b5, off5 + k * 5 + 2, none⟩ = some (.bool x.operands[k].late) ∧ w'.cell? ⟨b5, off5 + k * 5 + 3, none⟩ = some (.int .i64 x.operands[k].limit) ∧ w'.cell? ⟨b5, off5 + k * 5 + 4, none⟩ = some (.int .i64 x.operands[k].n) ∧ Below wr.heap.size wr w') w') := fun w' hh => ⟨(hh.cell (by simp; omega)).trans f0_0', (hh.cell (by simp; omega)).trans f0_1', (hh.cell (by simp; omega)).trans m1_0', (hh.cell (by simp; omega)).trans m1_1', (hh.cell (by simp; omega)).trans x2_0', (hh.cell (by simp; omega)).trans x2_1', (hh.cell (by simp; omega)).trans x2_2', (hh.cell (by simp; omega)).trans c0, (hh.cell (by simp; omega)).trans c1, (hh.cell (by simp; omega)).trans c2, (hh.cell (by simp; omega)).trans c3, (hh.cell (by simp; omega)).trans c4, hh⟩
                          generalize (x.operands.take k).countP (opIn values c) = p0 at *
                          by_cases hcc : ccl = (c : Int)
                          · have qc : (ccl == (c : Int)) = true := by simpa using hcc
                            by_cases hl2 : x.operands[k].limit = 2 ∨ x.operands[k].limit = 4 ∨ x.operands[k].limit = 5
                            · have NN : Hid (P + (x.operands.take (k + 1)).countP (opIn values c) = P + p0 + 1) := by show _ = _; rw [n0]; simp [opIn, hl2, HC5.out, hcc]; omega
                              have hql : (x.operands[k].limit == 2) = true ∨ ((x.operands[k].limit == 2) = false ∧ (x.operands[k].limit == 4) = true) ∨ ((x.operands[k].limit == 2) = false ∧ (x.operands[k].limit == 4) = false ∧ (x.operands[k].limit == 5) = true) := by rcases hl2 with h | h | h <;> simp [h]
                              clear n0 hl2 hcc
                              rcases hql with q2 | ⟨q2, q4⟩ | ⟨q2, q4, q5⟩
                              · go_upto_region 34 with fail
                                refine wp_region_X (fun w' => w'.cell? ⟨w.heap.size, 0, none⟩ = some (.slice av values.length cv) ∧ w'.cell? ⟨w.heap.size, 1, none⟩ = some (vb) ∧ w'.cell? ⟨w.heap.size + 1, 0, none⟩ = some (.int .i64 m0) ∧ w'.cell? ⟨w.heap.size + 1, 1, none⟩ = some (.int .i64 m1) ∧ w'.cell? ⟨w.heap.size + 1 + 1, 0, none⟩ = some (.int .i64 x.op) ∧ w'.cell? ⟨w.heap.size + 1 + 1, 1, none⟩ = some (.slice (some ⟨b5, off5, none⟩) x.operands.length co) ∧ w'.cell? ⟨w.heap.size + 1 + 1, 2, none⟩ = some (.slice asp x.spoils.length csp) ∧ w'.cell? ⟨b5, off5 + k * 5, none⟩ = some (.int .i64 x.operands[k].kind) ∧ w'.cell? ⟨b5, off5 + k * 5 + 1, none⟩ = some (.int .i64 x.operands[k].value) ∧ w'.cell? ⟨b5, off5 + k * 5 + 2, none⟩ = some (.bool x.operands[k].late) ∧ w'.cell? ⟨b5, off5 + k * 5 + 3, none⟩ = some (.int .i64 x.operands[k].limit) ∧ w'.cell? ⟨b5, off5 + k * 5 + 4, none⟩ = some (.int .i64 x.operands[k].n) ∧ Below wr.heap.size wr w') 99 (by kernel_rfl) (HSk.out _ hbd) (fun hHeld => ?_)
                                refine wpXt 0 rfl (v := ?_) (by kernel_rfl) (fun _ _ _ h => h) (by rfl) ?_ hHeld ?_
                                rotate_left
                                · intro w' hSw
                                  go_simp <;> with_reducible rfl
                                try simp only [Act.put, List.setIfInBounds_toArray, List.set_cons_zero, List.set_cons_succ]
                                refine wpXt 1 rfl (v := ?_) (by kernel_rfl) (fun _ _ _ h => h) (by rfl) ?_ hHeld ?_
                                rotate_left
                                · intro w' hSw
                                  go_simp <;> with_reducible rfl
                                try simp only [Act.put, List.setIfInBounds_toArray, List.set_cons_zero, List.set_cons_succ]
                                refine wpXt 2 rfl (v := ?_) (by kernel_rfl) (fun _ _ _ h => h) (by rfl) ?_ hHeld ?_
                                rotate_left
                                · intro w' hSw
                                  go_simp <;> with_reducible rfl
                                try simp only [Act.put, List.setIfInBounds_toArray, List.set_cons_zero, List.set_cons_succ]
                                refine wpXt 3 rfl (v := ?_) (by kernel_rfl) (fun _ _ _ h => h) (by rfl) ?_ hHeld ?_
                                rotate_left
                                · intro w' hSw
                                  go_simp <;> with_reducible rfl
                                try simp only [Act.put, List.setIfInBounds_toArray, List.set_cons_zero, List.set_cons_succ]
                                refine wpXt 4 rfl (v := ?_) (by kernel_rfl) (fun _ _ _ h => h) (by rfl) ?_ hHeld ?_
                                rotate_left
                                · intro w' hSw
                                  go_simp <;> with_reducible rfl
                                try simp only [Act.put, List.setIfInBounds_toArray, List.set_cons_zero, List.set_cons_succ]
                                refine wpXt 5 rfl (v := ?_) (by kernel_rfl) (fun _ _ _ h => h) (by rfl) ?_ hHeld ?_
                                rotate_left
                                · intro w' hSw
                                  go_simp <;> with_reducible rfl
                                try simp only [Act.put, List.setIfInBounds_toArray, List.set_cons_zero, List.set_cons_succ]
                                refine wpXt 6 rfl (v := ?_) (by kernel_rfl) (fun _ _ _ h => h) (by rfl) ?_ hHeld ?_
                                rotate_left
                                · intro w' hSw
                                  go_simp <;> with_reducible rfl
                                try simp only [Act.put, List.setIfInBounds_toArray, List.set_cons_zero, List.set_cons_succ]
                                refine wpXt 8 rfl (v := ?_) (by kernel_rfl) (fun _ _ _ h => h) (by rfl) ?_ hHeld ?_
                                rotate_left
                                · intro w' hSw
                                  go_simp <;> with_reducible rfl
                                try simp only [Act.put, List.setIfInBounds_toArray, List.set_cons_zero, List.set_cons_succ]
                                refine wpXs 7 rfl (by kernel_rfl) (fun K hK => ?_)
                                go_simp
                                refine (classOf_b values _ _ _ _ _ HC5.out _ (hv.below (hbwr.trans (hbd.mono hbwr.size)) fun _ _ h => h) hov).mono ?_
                                rintro e wn ⟨rfl, hbn0⟩
                                have hbn : Below wr.heap.size wr wn := hbd.trans (hbn0.mono hbd.size)
                                refine hK.out _ _ (HSk.out _ hbn) (fun hHeld => ?_)
                                clear hK K
                                try simp only [Act.put, List.setIfInBounds_toArray, List.set_cons_zero, List.set_cons_succ]
                                refine wpXt 9 rfl (v := ?_) (by kernel_rfl) (fun _ _ _ h => h) (by rfl) ?_ hHeld ?_
                                rotate_left
                                · intro w' hSw
                                  go_simp <;> with_reducible rfl
                                try simp only [Act.put, List.setIfInBounds_toArray, List.set_cons_zero, List.set_cons_succ]
                                refine wpXt 10 rfl (v := ?_) (by kernel_rfl) (fun _ _ _ h => h) (by rfl) ?_ hHeld ?_
                                rotate_left
                                · intro w' hSw
                                  go_simp <;> with_reducible rfl
                                try simp only [Act.put, List.setIfInBounds_toArray, List.set_cons_zero, List.set_cons_succ]
                                refine wpXt 11 rfl (v := ?_) (by kernel_rfl) (fun _ _ _ h => h) (by rfl) ?_ hHeld ?_
                                rotate_left
                                · intro w' hSw
                                  go_simp <;> with_reducible rfl
                                try simp only [Act.put, List.setIfInBounds_toArray, List.set_cons_zero, List.set_cons_succ]
                                refine wpXt 12 rfl (v := ?_) (by kernel_rfl) (fun _ _ _ h => h) (by rfl) ?_ hHeld ?_
                                rotate_left
                                · intro w' hSw
                                  go_simp <;> with_reducible rfl
                                try simp only [Act.put, List.setIfInBounds_toArray, List.set_cons_zero, List.set_cons_succ]
                                refine wpXt 13 rfl (v := ?_) (by kernel_rfl) (fun _ _ _ h => h) (by rfl) ?_ hHeld ?_
                                rotate_left
                                · intro w' hSw
                                  go_simp <;> with_reducible rfl
                                try simp only [Act.put, List.setIfInBounds_toArray, List.set_cons_zero, List.set_cons_succ]
                                refine wpXk 14 rfl (by kernel_rfl) (fun _ _ _ h => h) (by rfl) hHeld ?_
                                try simp only [Act.put, List.setIfInBounds_toArray, List.set_cons_zero, List.set_cons_succ]
                                refine wpXk 15 rfl (by kernel_rfl) (fun _ _ _ h => h) (by rfl) hHeld ?_
                                try simp only [Act.put, List.setIfInBounds_toArray, List.set_cons_zero, List.set_cons_succ]
                                refine wpXt 16 rfl (v := ?_) (by kernel_rfl) (fun _ _ _ h => h) (by rfl) ?_ hHeld ?_
                                rotate_left
                                · intro w' hSw
                                  go_simp <;> with_reducible rfl
                                try simp only [Act.put, List.setIfInBounds_toArray, List.set_cons_zero, List.set_cons_succ]
                                refine wpXt 17 rfl (v := ?_) (by kernel_rfl) (fun _ _ _ h => h) (by rfl) ?_ hHeld ?_
                                rotate_left
                                · intro w' hSw
                                  go_simp <;> with_reducible rfl
                                try simp only [Act.put, List.setIfInBounds_toArray, List.set_cons_zero, List.set_cons_succ]
                                refine wpXk 18 rfl (by kernel_rfl) (fun _ _ _ h => h) (by rfl) hHeld ?_
                                try simp only [Act.put, List.setIfInBounds_toArray, List.set_cons_zero, List.set_cons_succ]
                                refine wpXk 19 rfl (by kernel_rfl) (fun _ _ _ h => h) (by rfl) hHeld ?_
                                try simp only [Act.put, List.setIfInBounds_toArray, List.set_cons_zero, List.set_cons_succ]
                                refine wpXt 20 rfl (v := ?_) (by kernel_rfl) (fun _ _ _ h => h) (by rfl) ?_ hHeld ?_
                                rotate_left
                                · intro w' hSw
                                  go_simp <;> with_reducible rfl
                                try simp only [Act.put, List.setIfInBounds_toArray, List.set_cons_zero, List.set_cons_succ]
                                refine wpXs 21 rfl (by kernel_rfl) (fun K hK => ?_)
                                go_simp
                                refine hK.out _ _ (HSk.out _ hbn) (fun hHeld => ?_)
                                clear hK K
                                try simp only [Act.put, List.setIfInBounds_toArray, List.set_cons_zero, List.set_cons_succ]
                                refine wpAnyX_done (by kernel_rfl) ?_ _
                                have hbWn : Below W.heap.size W wn := hbr.trans (hbn.mono hbr.size)
                                go_wp2
                                go_roundw
                                case rel => exact ⟨k + 1, by omega, by rw [NN.out]; go_num, by go_num, hbWn⟩
                                case measure => simp [intOf]; omega
                              · go_upto_region 34 with fail
                                refine wp_region_X (fun w' => w'.cell? ⟨w.heap.size, 0, none⟩ = some (.slice av values.length cv) ∧ w'.cell? ⟨w.heap.size, 1, none⟩ = some (vb) ∧ w'.cell? ⟨w.heap.size + 1, 0, none⟩ = some (.int .i64 m0) ∧ w'.cell? ⟨w.heap.size + 1, 1, none⟩ = some (.int .i64 m1) ∧ w'.cell? ⟨w.heap.size + 1 + 1, 0, none⟩ = some (.int .i64 x.op) ∧ w'.cell? ⟨w.heap.size + 1 + 1, 1, none⟩ = some (.slice (some ⟨b5, off5, none⟩) x.operands.length co) ∧ w'.cell? ⟨w.heap.size + 1 + 1, 2, none⟩ = some (.slice asp x.spoils.length csp) ∧ w'.cell? ⟨b5, off5 + k * 5, none⟩ = some (.int .i64 x.operands[k].kind) ∧ w'.cell? ⟨b5, off5 + k * 5 + 1, none⟩ = some (.int .i64 x.operands[k].value) ∧ w'.cell? ⟨b5, off5 + k * 5 + 2, none⟩ = some (.bool x.operands[k].late) ∧ w'.cell? ⟨b5, off5 + k * 5 + 3, none⟩ = some (.int .i64 x.operands[k].limit) ∧ w'.cell? ⟨b5, off5 + k * 5 + 4, none⟩ = some (.int .i64 x.operands[k].n) ∧ Below wr.heap.size wr w') 99 (by kernel_rfl) (HSk.out _ hbd) (fun hHeld => ?_)
                                refine wpXt 0 rfl (v := ?_) (by kernel_rfl) (fun _ _ _ h => h) (by rfl) ?_ hHeld ?_
                                rotate_left
                                · intro w' hSw
                                  go_simp <;> with_reducible rfl
                                try simp only [Act.put, List.setIfInBounds_toArray, List.set_cons_zero, List.set_cons_succ]
                                refine wpXt 1 rfl (v := ?_) (by kernel_rfl) (fun _ _ _ h => h) (by rfl) ?_ hHeld ?_
                                rotate_left
                                · intro w' hSw
                                  go_simp <;> with_reducible rfl
                                try simp only [Act.put, List.setIfInBounds_toArray, List.set_cons_zero, List.set_cons_succ]
                                refine wpXt 2 rfl (v := ?_) (by kernel_rfl) (fun _ _ _ h => h) (by rfl) ?_ hHeld ?_
                                rotate_left
                                · intro w' hSw
                                  go_simp <;> with_reducible rfl
                                try simp only [Act.put, List.setIfInBounds_toArray, List.set_cons_zero, List.set_cons_succ]
                                refine wpXt 3 rfl (v := ?_) (by kernel_rfl) (fun _ _ _ h => h) (by rfl) ?_ hHeld ?_
                                rotate_left
                                · intro w' hSw
                                  go_simp <;> with_reducible rfl
                                try simp only [Act.put, List.setIfInBounds_toArray, List.set_cons_zero, List.set_cons_succ]
                                refine wpXt 4 rfl (v := ?_) (by kernel_rfl) (fun _ _ _ h => h) (by rfl) ?_ hHeld ?_
                                rotate_left
                                · intro w' hSw
                                  go_simp <;> with_reducible rfl
                                try simp only [Act.put, List.setIfInBounds_toArray, List.set_cons_zero, List.set_cons_succ]
                                refine wpXt 5 rfl (v := ?_) (by kernel_rfl) (fun _ _ _ h => h) (by rfl) ?_ hHeld ?_
                                rotate_left
                                · intro w' hSw
                                  go_simp <;> with_reducible rfl
                                try simp only [Act.put, List.setIfInBounds_toArray, List.set_cons_zero, List.set_cons_succ]
                                refine wpXt 6 rfl (v := ?_) (by kernel_rfl) (fun _ _ _ h => h) (by rfl) ?_ hHeld ?_
                                rotate_left
                                · intro w' hSw
                                  go_simp <;> with_reducible rfl
                                try simp only [Act.put, List.setIfInBounds_toArray, List.set_cons_zero, List.set_cons_succ]
                                refine wpXt 8 rfl (v := ?_) (by kernel_rfl) (fun _ _ _ h => h) (by rfl) ?_ hHeld ?_
                                rotate_left
                                · intro w' hSw
                                  go_simp <;> with_reducible rfl
                                try simp only [Act.put, List.setIfInBounds_toArray, List.set_cons_zero, List.set_cons_succ]
                                refine wpXs 7 rfl (by kernel_rfl) (fun K hK => ?_)
                                go_simp
                                refine (classOf_b values _ _ _ _ _ HC5.out _ (hv.below (hbwr.trans (hbd.mono hbwr.size)) fun _ _ h => h) hov).mono ?_
                                rintro e wn ⟨rfl, hbn0⟩
                                have hbn : Below wr.heap.size wr wn := hbd.trans (hbn0.mono hbd.size)
                                refine hK.out _ _ (HSk.out _ hbn) (fun hHeld => ?_)
                                clear hK K
                                try simp only [Act.put, List.setIfInBounds_toArray, List.set_cons_zero, List.set_cons_succ]
                                refine wpXt 9 rfl (v := ?_) (by kernel_rfl) (fun _ _ _ h => h) (by rfl) ?_ hHeld ?_
                                rotate_left
                                · intro w' hSw
                                  go_simp <;> with_reducible rfl
                                try simp only [Act.put, List.setIfInBounds_toArray, List.set_cons_zero, List.set_cons_succ]
                                refine wpXt 10 rfl (v := ?_) (by kernel_rfl) (fun _ _ _ h => h) (by rfl) ?_ hHeld ?_
                                rotate_left
                                · intro w' hSw
                                  go_simp <;> with_reducible rfl
                                try simp only [Act.put, List.setIfInBounds_toArray, List.set_cons_zero, List.set_cons_succ]
                                refine wpXt 11 rfl (v := ?_) (by kernel_rfl) (fun _ _ _ h => h) (by rfl) ?_ hHeld ?_
                                rotate_left
                                · intro w' hSw
                                  go_simp <;> with_reducible rfl
                                try simp only [Act.put, List.setIfInBounds_toArray, List.set_cons_zero, List.set_cons_succ]
                                refine wpXt 12 rfl (v := ?_) (by kernel_rfl) (fun _ _ _ h => h) (by rfl) ?_ hHeld ?_
                                rotate_left
                                · intro w' hSw
                                  go_simp <;> with_reducible rfl
                                try simp only [Act.put, List.setIfInBounds_toArray, List.set_cons_zero, List.set_cons_succ]
                                refine wpXt 13 rfl (v := ?_) (by kernel_rfl) (fun _ _ _ h => h) (by rfl) ?_ hHeld ?_
                                rotate_left
                                · intro w' hSw
                                  go_simp <;> with_reducible rfl
                                try simp only [Act.put, List.setIfInBounds_toArray, List.set_cons_zero, List.set_cons_succ]
                                refine wpXt 14 rfl (v := ?_) (by kernel_rfl) (fun _ _ _ h => h) (by rfl) ?_ hHeld ?_
                                rotate_left
                                · intro w' hSw
                                  go_simp <;> with_reducible rfl
                                try simp only [Act.put, List.setIfInBounds_toArray, List.set_cons_zero, List.set_cons_succ]
                                refine wpXt 15 rfl (v := ?_) (by kernel_rfl) (fun _ _ _ h => h) (by rfl) ?_ hHeld ?_
                                rotate_left
                                · intro w' hSw
                                  go_simp <;> with_reducible rfl
                                try simp only [Act.put, List.setIfInBounds_toArray, List.set_cons_zero, List.set_cons_succ]
                                refine wpXt 16 rfl (v := ?_) (by kernel_rfl) (fun _ _ _ h => h) (by rfl) ?_ hHeld ?_
                                rotate_left
                                · intro w' hSw
                                  go_simp <;> with_reducible rfl
                                try simp only [Act.put, List.setIfInBounds_toArray, List.set_cons_zero, List.set_cons_succ]
                                refine wpXt 17 rfl (v := ?_) (by kernel_rfl) (fun _ _ _ h => h) (by rfl) ?_ hHeld ?_
                                rotate_left
                                · intro w' hSw
                                  go_simp <;> with_reducible rfl
                                try simp only [Act.put, List.setIfInBounds_toArray, List.set_cons_zero, List.set_cons_succ]
                                refine wpXk 18 rfl (by kernel_rfl) (fun _ _ _ h => h) (by rfl) hHeld ?_
                                try simp only [Act.put, List.setIfInBounds_toArray, List.set_cons_zero, List.set_cons_succ]
                                refine wpXk 19 rfl (by kernel_rfl) (fun _ _ _ h => h) (by rfl) hHeld ?_
                                try simp only [Act.put, List.setIfInBounds_toArray, List.set_cons_zero, List.set_cons_succ]
                                refine wpXt 20 rfl (v := ?_) (by kernel_rfl) (fun _ _ _ h => h) (by rfl) ?_ hHeld ?_
                                rotate_left
                                · intro w' hSw
                                  go_simp <;> with_reducible rfl
                                try simp only [Act.put, List.setIfInBounds_toArray, List.set_cons_zero, List.set_cons_succ]
                                refine wpXs 21 rfl (by kernel_rfl) (fun K hK => ?_)
                                go_simp
                                refine hK.out _ _ (HSk.out _ hbn) (fun hHeld => ?_)
                                clear hK K
                                try simp only [Act.put, List.setIfInBounds_toArray, List.set_cons_zero, List.set_cons_succ]
                                refine wpAnyX_done (by kernel_rfl) ?_ _
                                have hbWn : Below W.heap.size W wn := hbr.trans (hbn.mono hbr.size)
                                go_wp2
                                go_roundw
                                case rel => exact ⟨k + 1, by omega, by rw [NN.out]; go_num, by go_num, hbWn⟩
                                case measure => simp [intOf]; omega
                              · go_upto_region 34 with fail
                                refine wp_region_X (fun w' => w'.cell? ⟨w.heap.size, 0, none⟩ = some (.slice av values.length cv) ∧ w'.cell? ⟨w.heap.size, 1, none⟩ = some (vb) ∧ w'.cell? ⟨w.heap.size + 1, 0, none⟩ = some (.int .i64 m0) ∧ w'.cell? ⟨w.heap.size + 1, 1, none⟩ = some (.int .i64 m1) ∧ w'.cell? ⟨w.heap.size + 1 + 1, 0, none⟩ = some (.int .i64 x.op) ∧ w'.cell? ⟨w.heap.size + 1 + 1, 1, none⟩ = some (.slice (some ⟨b5, off5, none⟩) x.operands.length co) ∧ w'.cell? ⟨w.heap.size + 1 + 1, 2, none⟩ = some (.slice asp x.spoils.length csp) ∧ w'.cell? ⟨b5, off5 + k * 5, none⟩ = some (.int .i64 x.operands[k].kind) ∧ w'.cell? ⟨b5, off5 + k * 5 + 1, none⟩ = some (.int .i64 x.operands[k].value) ∧ w'.cell? ⟨b5, off5 + k * 5 + 2, none⟩ = some (.bool x.operands[k].late) ∧ w'.cell? ⟨b5, off5 + k * 5 + 3, none⟩ = some (.int .i64 x.operands[k].limit) ∧ w'.cell? ⟨b5, off5 + k * 5 + 4, none⟩ = some (.int .i64 x.operands[k].n) ∧ Below wr.heap.size wr w') 99 (by kernel_rfl) (HSk.out _ hbd) (fun hHeld => ?_)
                                refine wpXt 0 rfl (v := ?_) (by kernel_rfl) (fun _ _ _ h => h) (by rfl) ?_ hHeld ?_
                                rotate_left
                                · intro w' hSw
                                  go_simp <;> with_reducible rfl
                                try simp only [Act.put, List.setIfInBounds_toArray, List.set_cons_zero, List.set_cons_succ]
                                refine wpXt 1 rfl (v := ?_) (by kernel_rfl) (fun _ _ _ h => h) (by rfl) ?_ hHeld ?_
                                rotate_left
                                · intro w' hSw
                                  go_simp <;> with_reducible rfl
                                try simp only [Act.put, List.setIfInBounds_toArray, List.set_cons_zero, List.set_cons_succ]
                                refine wpXt 2 rfl (v := ?_) (by kernel_rfl) (fun _ _ _ h => h) (by rfl) ?_ hHeld ?_
                                rotate_left
                                · intro w' hSw
                                  go_simp <;> with_reducible rfl
                                try simp only [Act.put, List.setIfInBounds_toArray, List.set_cons_zero, List.set_cons_succ]
                                refine wpXt 3 rfl (v := ?_) (by kernel_rfl) (fun _ _ _ h => h) (by rfl) ?_ hHeld ?_
                                rotate_left
                                · intro w' hSw
                                  go_simp <;> with_reducible rfl
                                try simp only [Act.put, List.setIfInBounds_toArray, List.set_cons_zero, List.set_cons_succ]
                                refine wpXt 4 rfl (v := ?_) (by kernel_rfl) (fun _ _ _ h => h) (by rfl) ?_ hHeld ?_
                                rotate_left
                                · intro w' hSw
                                  go_simp <;> with_reducible rfl
                                try simp only [Act.put, List.setIfInBounds_toArray, List.set_cons_zero, List.set_cons_succ]
                                refine wpXt 5 rfl (v := ?_) (by kernel_rfl) (fun _ _ _ h => h) (by rfl) ?_ hHeld ?_
                                rotate_left
                                · intro w' hSw
                                  go_simp <;> with_reducible rfl
                                try simp only [Act.put, List.setIfInBounds_toArray, List.set_cons_zero, List.set_cons_succ]
                                refine wpXt 6 rfl (v := ?_) (by kernel_rfl) (fun _ _ _ h => h) (by rfl) ?_ hHeld ?_
                                rotate_left
                                · intro w' hSw
                                  go_simp <;> with_reducible rfl
                                try simp only [Act.put, List.setIfInBounds_toArray, List.set_cons_zero, List.set_cons_succ]
                                refine wpXt 8 rfl (v := ?_) (by kernel_rfl) (fun _ _ _ h => h) (by rfl) ?_ hHeld ?_
                                rotate_left
                                · intro w' hSw
                                  go_simp <;> with_reducible rfl
                                try simp only [Act.put, List.setIfInBounds_toArray, List.set_cons_zero, List.set_cons_succ]
                                refine wpXs 7 rfl (by kernel_rfl) (fun K hK => ?_)
                                go_simp
                                refine (classOf_b values _ _ _ _ _ HC5.out _ (hv.below (hbwr.trans (hbd.mono hbwr.size)) fun _ _ h => h) hov).mono ?_
                                rintro e wn ⟨rfl, hbn0⟩
                                have hbn : Below wr.heap.size wr wn := hbd.trans (hbn0.mono hbd.size)
                                refine hK.out _ _ (HSk.out _ hbn) (fun hHeld => ?_)
                                clear hK K
                                try simp only [Act.put, List.setIfInBounds_toArray, List.set_cons_zero, List.set_cons_succ]
                                refine wpXt 9 rfl (v := ?_) (by kernel_rfl) (fun _ _ _ h => h) (by rfl) ?_ hHeld ?_
                                rotate_left
                                · intro w' hSw
                                  go_simp <;> with_reducible rfl
                                try simp only [Act.put, List.setIfInBounds_toArray, List.set_cons_zero, List.set_cons_succ]
                                refine wpXt 10 rfl (v := ?_) (by kernel_rfl) (fun _ _ _ h => h) (by rfl) ?_ hHeld ?_
                                rotate_left
                                · intro w' hSw
                                  go_simp <;> with_reducible rfl
                                try simp only [Act.put, List.setIfInBounds_toArray, List.set_cons_zero, List.set_cons_succ]
                                refine wpXt 11 rfl (v := ?_) (by kernel_rfl) (fun _ _ _ h => h) (by rfl) ?_ hHeld ?_
                                rotate_left
                                · intro w' hSw
                                  go_simp <;> with_reducible rfl
                                try simp only [Act.put, List.setIfInBounds_toArray, List.set_cons_zero, List.set_cons_succ]
                                refine wpXt 12 rfl (v := ?_) (by kernel_rfl) (fun _ _ _ h => h) (by rfl) ?_ hHeld ?_
                                rotate_left
                                · intro w' hSw
                                  go_simp <;> with_reducible rfl
                                try simp only [Act.put, List.setIfInBounds_toArray, List.set_cons_zero, List.set_cons_succ]
                                refine wpXt 13 rfl (v := ?_) (by kernel_rfl) (fun _ _ _ h => h) (by rfl) ?_ hHeld ?_
                                rotate_left
                                · intro w' hSw
                                  go_simp <;> with_reducible rfl
                                try simp only [Act.put, List.setIfInBounds_toArray, List.set_cons_zero, List.set_cons_succ]
                                refine wpXt 14 rfl (v := ?_) (by kernel_rfl) (fun _ _ _ h => h) (by rfl) ?_ hHeld ?_
                                rotate_left
                                · intro w' hSw
                                  go_simp <;> with_reducible rfl
                                try simp only [Act.put, List.setIfInBounds_toArray, List.set_cons_zero, List.set_cons_succ]
                                refine wpXt 15 rfl (v := ?_) (by kernel_rfl) (fun _ _ _ h => h) (by rfl) ?_ hHeld ?_
                                rotate_left
                                · intro w' hSw
                                  go_simp <;> with_reducible rfl
                                try simp only [Act.put, List.setIfInBounds_toArray, List.set_cons_zero, List.set_cons_succ]
                                refine wpXt 16 rfl (v := ?_) (by kernel_rfl) (fun _ _ _ h => h) (by rfl) ?_ hHeld ?_
                                rotate_left
                                · intro w' hSw
                                  go_simp <;> with_reducible rfl
                                try simp only [Act.put, List.setIfInBounds_toArray, List.set_cons_zero, List.set_cons_succ]
                                refine wpXt 17 rfl (v := ?_) (by kernel_rfl) (fun _ _ _ h => h) (by rfl) ?_ hHeld ?_
                                rotate_left
                                · intro w' hSw
                                  go_simp <;> with_reducible rfl
                                try simp only [Act.put, List.setIfInBounds_toArray, List.set_cons_zero, List.set_cons_succ]
                                refine wpXt 18 rfl (v := ?_) (by kernel_rfl) (fun _ _ _ h => h) (by rfl) ?_ hHeld ?_
                                rotate_left
                                · intro w' hSw
                                  go_simp <;> with_reducible rfl
                                try simp only [Act.put, List.setIfInBounds_toArray, List.set_cons_zero, List.set_cons_succ]
                                refine wpXt 19 rfl (v := ?_) (by kernel_rfl) (fun _ _ _ h => h) (by rfl) ?_ hHeld ?_
                                rotate_left
                                · intro w' hSw
                                  go_simp <;> with_reducible rfl
                                try simp only [Act.put, List.setIfInBounds_toArray, List.set_cons_zero, List.set_cons_succ]
                                refine wpXt 20 rfl (v := ?_) (by kernel_rfl) (fun _ _ _ h => h) (by rfl) ?_ hHeld ?_
                                rotate_left
                                · intro w' hSw
                                  go_simp <;> with_reducible rfl
                                try simp only [Act.put, List.setIfInBounds_toArray, List.set_cons_zero, List.set_cons_succ]
                                refine wpXs 21 rfl (by kernel_rfl) (fun K hK => ?_)
                                go_simp
                                refine hK.out _ _ (HSk.out _ hbn) (fun hHeld => ?_)
                                clear hK K
                                try simp only [Act.put, List.setIfInBounds_toArray, List.set_cons_zero, List.set_cons_succ]
                                refine wpAnyX_done (by kernel_rfl) ?_ _
                                have hbWn : Below W.heap.size W wn := hbr.trans (hbn.mono hbr.size)
                                go_wp2
                                go_roundw
                                case rel => exact ⟨k + 1, by omega, by rw [NN.out]; go_num, by go_num, hbWn⟩
                                case measure => simp [intOf]; omega
                            · have NN : Hid (P + (x.operands.take (k + 1)).countP (opIn values c) = P + p0) := by show _ = _; rw [n0]; simp [opIn]; omega
                              have q2 : (x.operands[k].limit == 2) = false := by simp; omega
                              have q4 : (x.operands[k].limit == 4) = false := by simp; omega
                              have q5 : (x.operands[k].limit == 5) = false := by simp; omega
                              clear n0 hl2 hcc
                              go_upto_region 34 with fail
                              refine wp_region_X (fun w' => w'.cell? ⟨w.heap.size, 0, none⟩ = some (.slice av values.length cv) ∧ w'.cell? ⟨w.heap.size, 1, none⟩ = some (vb) ∧ w'.cell? ⟨w.heap.size + 1, 0, none⟩ = some (.int .i64 m0) ∧ w'.cell? ⟨w.heap.size + 1, 1, none⟩ = some (.int .i64 m1) ∧ w'.cell? ⟨w.heap.size + 1 + 1, 0, none⟩ = some (.int .i64 x.op) ∧ w'.cell? ⟨w.heap.size + 1 + 1, 1, none⟩ = some (.slice (some ⟨b5, off5, none⟩) x.operands.length co) ∧ w'.cell? ⟨w.heap.size + 1 + 1, 2, none⟩ = some (.slice asp x.spoils.length csp) ∧ w'.cell? ⟨b5, off5 + k * 5, none⟩ = some (.int .i64 x.operands[k].kind) ∧ w'.cell? ⟨b5, off5 + k * 5 + 1, none⟩ = some (.int .i64 x.operands[k].value) ∧ w'.cell? ⟨b5, off5 + k * 5 + 2, none⟩ = some (.bool x.operands[k].late) ∧ w'.cell? ⟨b5, off5 + k * 5 + 3, none⟩ = some (.int .i64 x.operands[k].limit) ∧ w'.cell? ⟨b5, off5 + k * 5 + 4, none⟩ = some (.int .i64 x.operands[k].n) ∧ Below wr.heap.size wr w') 99 (by kernel_rfl) (HSk.out _ hbd) (fun hHeld => ?_)
                              refine wpXt 0 rfl (v := ?_) (by kernel_rfl) (fun _ _ _ h => h) (by rfl) ?_ hHeld ?_
                              rotate_left
                              · intro w' hSw
                                go_simp <;> with_reducible rfl
                              try simp only [Act.put, List.setIfInBounds_toArray, List.set_cons_zero, List.set_cons_succ]
                              refine wpXt 1 rfl (v := ?_) (by kernel_rfl) (fun _ _ _ h => h) (by rfl) ?_ hHeld ?_
                              rotate_left
                              · intro w' hSw
                                go_simp <;> with_reducible rfl
                              try simp only [Act.put, List.setIfInBounds_toArray, List.set_cons_zero, List.set_cons_succ]
                              refine wpXt 2 rfl (v := ?_) (by kernel_rfl) (fun _ _ _ h => h) (by rfl) ?_ hHeld ?_
                              rotate_left
                              · intro w' hSw
                                go_simp <;> with_reducible rfl
                              try simp only [Act.put, List.setIfInBounds_toArray, List.set_cons_zero, List.set_cons_succ]
                              refine wpXt 3 rfl (v := ?_) (by kernel_rfl) (fun _ _ _ h => h) (by rfl) ?_ hHeld ?_
                              rotate_left
                              · intro w' hSw
                                go_simp <;> with_reducible rfl
                              try simp only [Act.put, List.setIfInBounds_toArray, List.set_cons_zero, List.set_cons_succ]
                              refine wpXt 4 rfl (v := ?_) (by kernel_rfl) (fun _ _ _ h => h) (by rfl) ?_ hHeld ?_
                              rotate_left
                              · intro w' hSw
                                go_simp <;> with_reducible rfl
                              try simp only [Act.put, List.setIfInBounds_toArray, List.set_cons_zero, List.set_cons_succ]
                              refine wpXt 5 rfl (v := ?_) (by kernel_rfl) (fun _ _ _ h => h) (by rfl) ?_ hHeld ?_
                              rotate_left
                              · intro w' hSw
                                go_simp <;> with_reducible rfl
                              try simp only [Act.put, List.setIfInBounds_toArray, List.set_cons_zero, List.set_cons_succ]
                              refine wpXt 6 rfl (v := ?_) (by kernel_rfl) (fun _ _ _ h => h) (by rfl) ?_ hHeld ?_
                              rotate_left
                              · intro w' hSw
                                go_simp <;> with_reducible rfl
                              try simp only [Act.put, List.setIfInBounds_toArray, List.set_cons_zero, List.set_cons_succ]
                              refine wpXt 8 rfl (v := ?_) (by kernel_rfl) (fun _ _ _ h => h) (by rfl) ?_ hHeld ?_
                              rotate_left
                              · intro w' hSw
                                go_simp <;> with_reducible rfl
                              try simp only [Act.put, List.setIfInBounds_toArray, List.set_cons_zero, List.set_cons_succ]
                              refine wpXs 7 rfl (by kernel_rfl) (fun K hK => ?_)
                              go_simp
                              refine (classOf_b values _ _ _ _ _ HC5.out _ (hv.below (hbwr.trans (hbd.mono hbwr.size)) fun _ _ h => h) hov).mono ?_
                              rintro e wn ⟨rfl, hbn0⟩
                              have hbn : Below wr.heap.size wr wn := hbd.trans (hbn0.mono hbd.size)
                              refine hK.out _ _ (HSk.out _ hbn) (fun hHeld => ?_)
                              clear hK K
                              try simp only [Act.put, List.setIfInBounds_toArray, List.set_cons_zero, List.set_cons_succ]
                              refine wpXt 9 rfl (v := ?_) (by kernel_rfl) (fun _ _ _ h => h) (by rfl) ?_ hHeld ?_
                              rotate_left
                              · intro w' hSw
                                go_simp <;> with_reducible rfl
                              try simp only [Act.put, List.setIfInBounds_toArray, List.set_cons_zero, List.set_cons_succ]
                              refine wpXt 10 rfl (v := ?_) (by kernel_rfl) (fun _ _ _ h => h) (by rfl) ?_ hHeld ?_
                              rotate_left
                              · intro w' hSw
                                go_simp <;> with_reducible rfl
                              try simp only [Act.put, List.setIfInBounds_toArray, List.set_cons_zero, List.set_cons_succ]
                              refine wpXt 11 rfl (v := ?_) (by kernel_rfl) (fun _ _ _ h => h) (by rfl) ?_ hHeld ?_
                              rotate_left
                              · intro w' hSw
                                go_simp <;> with_reducible rfl
                              try simp only [Act.put, List.setIfInBounds_toArray, List.set_cons_zero, List.set_cons_succ]
                              refine wpXt 12 rfl (v := ?_) (by kernel_rfl) (fun _ _ _ h => h) (by rfl) ?_ hHeld ?_
                              rotate_left
                              · intro w' hSw
                                go_simp <;> with_reducible rfl
                              try simp only [Act.put, List.setIfInBounds_toArray, List.set_cons_zero, List.set_cons_succ]
                              refine wpXt 13 rfl (v := ?_) (by kernel_rfl) (fun _ _ _ h => h) (by rfl) ?_ hHeld ?_
                              rotate_left
                              · intro w' hSw
                                go_simp <;> with_reducible rfl
                              try simp only [Act.put, List.setIfInBounds_toArray, List.set_cons_zero, List.set_cons_succ]
                              refine wpXt 14 rfl (v := ?_) (by kernel_rfl) (fun _ _ _ h => h) (by rfl) ?_ hHeld ?_
                              rotate_left
                              · intro w' hSw
                                go_simp <;> with_reducible rfl
                              try simp only [Act.put, List.setIfInBounds_toArray, List.set_cons_zero, List.set_cons_succ]
                              refine wpXt 15 rfl (v := ?_) (by kernel_rfl) (fun _ _ _ h => h) (by rfl) ?_ hHeld ?_
                              rotate_left
                              · intro w' hSw
                                go_simp <;> with_reducible rfl
                              try simp only [Act.put, List.setIfInBounds_toArray, List.set_cons_zero, List.set_cons_succ]
                              refine wpXt 16 rfl (v := ?_) (by kernel_rfl) (fun _ _ _ h => h) (by rfl) ?_ hHeld ?_
                              rotate_left
                              · intro w' hSw
                                go_simp <;> with_reducible rfl
                              try simp only [Act.put, List.setIfInBounds_toArray, List.set_cons_zero, List.set_cons_succ]
                              refine wpXt 17 rfl (v := ?_) (by kernel_rfl) (fun _ _ _ h => h) (by rfl) ?_ hHeld ?_
                              rotate_left
                              · intro w' hSw
                                go_simp <;> with_reducible rfl
                              try simp only [Act.put, List.setIfInBounds_toArray, List.set_cons_zero, List.set_cons_succ]
                              refine wpXt 18 rfl (v := ?_) (by kernel_rfl) (fun _ _ _ h => h) (by rfl) ?_ hHeld ?_
                              rotate_left
                              · intro w' hSw
                                go_simp <;> with_reducible rfl
                              try simp only [Act.put, List.setIfInBounds_toArray, List.set_cons_zero, List.set_cons_succ]
                              refine wpXt 19 rfl (v := ?_) (by kernel_rfl) (fun _ _ _ h => h) (by rfl) ?_ hHeld ?_
                              rotate_left
                              · intro w' hSw
                                go_simp <;> with_reducible rfl
                              try simp only [Act.put, List.setIfInBounds_toArray, List.set_cons_zero, List.set_cons_succ]
                              refine wpXt 20 rfl (v := ?_) (by kernel_rfl) (fun _ _ _ h => h) (by rfl) ?_ hHeld ?_
                              rotate_left
                              · intro w' hSw
                                go_simp <;> with_reducible rfl
                              try simp only [Act.put, List.setIfInBounds_toArray, List.set_cons_zero, List.set_cons_succ]
                              refine wpXs 21 rfl (by kernel_rfl) (fun K hK => ?_)
                              go_simp
                              refine hK.out _ _ (HSk.out _ hbn) (fun hHeld => ?_)
                              clear hK K
                              try simp only [Act.put, List.setIfInBounds_toArray, List.set_cons_zero, List.set_cons_succ]
                              refine wpAnyX_done (by kernel_rfl) ?_ _
                              have hbWn : Below W.heap.size W wn := hbr.trans (hbn.mono hbr.size)
                              go_wp2
                              go_roundw
                              case rel => exact ⟨k + 1, by omega, by rw [NN.out]; go_num, by go_num, hbWn⟩
                              case measure => simp [intOf]; omega
                          · have qc : (ccl == (c : Int)) = false := by simpa using hcc
                            have NN : Hid (P + (x.operands.take (k + 1)).countP (opIn values c) = P + p0) := by show _ = _; rw [n0]; simp [opIn, HC5.out, hcc]
                            clear n0 hcc
                            go_upto_region 34 with fail
                            refine wp_region_X (fun w' => w'.cell? ⟨w.heap.size, 0, none⟩ = some (.slice av values.length cv) ∧ w'.cell? ⟨w.heap.size, 1, none⟩ = some (vb) ∧ w'.cell? ⟨w.heap.size + 1, 0, none⟩ = some (.int .i64 m0) ∧ w'.cell? ⟨w.heap.size + 1, 1, none⟩ = some (.int .i64 m1) ∧ w'.cell? ⟨w.heap.size + 1 + 1, 0, none⟩ = some (.int .i64 x.op) ∧ w'.cell? ⟨w.heap.size + 1 + 1, 1, none⟩ = some (.slice (some ⟨b5, off5, none⟩) x.operands.length co) ∧ w'.cell? ⟨w.heap.size + 1 + 1, 2, none⟩ = some (.slice asp x.spoils.length csp) ∧ w'.cell? ⟨b5, off5 + k * 5, none⟩ = some (.int .i64 x.operands[k].kind) ∧ w'.cell? ⟨b5, off5 + k * 5 + 1, none⟩ = some (.int .i64 x.operands[k].value) ∧ w'.cell? ⟨b5, off5 + k * 5 + 2, none⟩ = some (.bool x.operands[k].late) ∧ w'.cell? ⟨b5, off5 + k * 5 + 3, none⟩ = some (.int .i64 x.operands[k].limit) ∧ w'.cell? ⟨b5, off5 + k * 5 + 4, none⟩ = some (.int .i64 x.operands[k].n) ∧ Below wr.heap.size wr w') 99 (by kernel_rfl) (HSk.out _ hbd) (fun hHeld => ?_)
                            refine wpXt 0 rfl (v := ?_) (by kernel_rfl) (fun _ _ _ h => h) (by rfl) ?_ hHeld ?_
                            rotate_left
                            · intro w' hSw
                              go_simp <;> with_reducible rfl
                            try simp only [Act.put, List.setIfInBounds_toArray, List.set_cons_zero, List.set_cons_succ]
                            refine wpXt 1 rfl (v := ?_) (by kernel_rfl) (fun _ _ _ h => h) (by rfl) ?_ hHeld ?_
                            rotate_left
                            · intro w' hSw
                              go_simp <;> with_reducible rfl
                            try simp only [Act.put, List.setIfInBounds_toArray, List.set_cons_zero, List.set_cons_succ]
                            refine wpXt 2 rfl (v := ?_) (by kernel_rfl) (fun _ _ _ h => h) (by rfl) ?_ hHeld ?_
                            rotate_left
                            · intro w' hSw
                              go_simp <;> with_reducible rfl
                            try simp only [Act.put, List.setIfInBounds_toArray, List.set_cons_zero, List.set_cons_succ]
                            refine wpXt 3 rfl (v := ?_) (by kernel_rfl) (fun _ _ _ h => h) (by rfl) ?_ hHeld ?_
                            rotate_left
                            · intro w' hSw
                              go_simp <;> with_reducible rfl
                            try simp only [Act.put, List.setIfInBounds_toArray, List.set_cons_zero, List.set_cons_succ]
                            refine wpXt 4 rfl (v := ?_) (by kernel_rfl) (fun _ _ _ h => h) (by rfl) ?_ hHeld ?_
                            rotate_left
                            · intro w' hSw
                              go_simp <;> with_reducible rfl
                            try simp only [Act.put, List.setIfInBounds_toArray, List.set_cons_zero, List.set_cons_succ]
                            refine wpXt 5 rfl (v := ?_) (by kernel_rfl) (fun _ _ _ h => h) (by rfl) ?_ hHeld ?_
                            rotate_left
                            · intro w' hSw
                              go_simp <;> with_reducible rfl
                            try simp only [Act.put, List.setIfInBounds_toArray, List.set_cons_zero, List.set_cons_succ]
                            refine wpXt 6 rfl (v := ?_) (by kernel_rfl) (fun _ _ _ h => h) (by rfl) ?_ hHeld ?_
                            rotate_left
                            · intro w' hSw
                              go_simp <;> with_reducible rfl
                            try simp only [Act.put, List.setIfInBounds_toArray, List.set_cons_zero, List.set_cons_succ]
                            refine wpXt 8 rfl (v := ?_) (by kernel_rfl) (fun _ _ _ h => h) (by rfl) ?_ hHeld ?_
                            rotate_left
                            · intro w' hSw
                              go_simp <;> with_reducible rfl
                            try simp only [Act.put, List.setIfInBounds_toArray, List.set_cons_zero, List.set_cons_succ]
                            refine wpXs 7 rfl (by kernel_rfl) (fun K hK => ?_)
                            go_simp
                            refine (classOf_b values _ _ _ _ _ HC5.out _ (hv.below (hbwr.trans (hbd.mono hbwr.size)) fun _ _ h => h) hov).mono ?_
                            rintro e wn ⟨rfl, hbn0⟩
                            have hbn : Below wr.heap.size wr wn := hbd.trans (hbn0.mono hbd.size)
                            refine hK.out _ _ (HSk.out _ hbn) (fun hHeld => ?_)
                            clear hK K
                            try simp only [Act.put, List.setIfInBounds_toArray, List.set_cons_zero, List.set_cons_succ]
                            refine wpXt 9 rfl (v := ?_) (by kernel_rfl) (fun _ _ _ h => h) (by rfl) ?_ hHeld ?_
                            rotate_left
                            · intro w' hSw
                              go_simp <;> with_reducible rfl
                            try simp only [Act.put, List.setIfInBounds_toArray, List.set_cons_zero, List.set_cons_succ]
                            refine wpXt 10 rfl (v := ?_) (by kernel_rfl) (fun _ _ _ h => h) (by rfl) ?_ hHeld ?_
                            rotate_left
                            · intro w' hSw
                              go_simp <;> with_reducible rfl
                            try simp only [Act.put, List.setIfInBounds_toArray, List.set_cons_zero, List.set_cons_succ]
                            refine wpXk 11 rfl (by kernel_rfl) (fun _ _ _ h => h) (by rfl) hHeld ?_
                            try simp only [Act.put, List.setIfInBounds_toArray, List.set_cons_zero, List.set_cons_succ]
                            refine wpXk 12 rfl (by kernel_rfl) (fun _ _ _ h => h) (by rfl) hHeld ?_
                            try simp only [Act.put, List.setIfInBounds_toArray, List.set_cons_zero, List.set_cons_succ]
                            refine wpXk 13 rfl (by kernel_rfl) (fun _ _ _ h => h) (by rfl) hHeld ?_
                            try simp only [Act.put, List.setIfInBounds_toArray, List.set_cons_zero, List.set_cons_succ]
                            refine wpXk 14 rfl (by kernel_rfl) (fun _ _ _ h => h) (by rfl) hHeld ?_
                            try simp only [Act.put, List.setIfInBounds_toArray, List.set_cons_zero, List.set_cons_succ]
                            refine wpXk 15 rfl (by kernel_rfl) (fun _ _ _ h => h) (by rfl) hHeld ?_
                            try simp only [Act.put, List.setIfInBounds_toArray, List.set_cons_zero, List.set_cons_succ]
                            refine wpXk 16 rfl (by kernel_rfl) (fun _ _ _ h => h) (by rfl) hHeld ?_
                            try simp only [Act.put, List.setIfInBounds_toArray, List.set_cons_zero, List.set_cons_succ]
                            refine wpXk 17 rfl (by kernel_rfl) (fun _ _ _ h => h) (by rfl) hHeld ?_
                            try simp only [Act.put, List.setIfInBounds_toArray, List.set_cons_zero, List.set_cons_succ]
                            refine wpXk 18 rfl (by kernel_rfl) (fun _ _ _ h => h) (by rfl) hHeld ?_
                            try simp only [Act.put, List.setIfInBounds_toArray, List.set_cons_zero, List.set_cons_succ]
                            refine wpXk 19 rfl (by kernel_rfl) (fun _ _ _ h => h) (by rfl) hHeld ?_
                            try simp only [Act.put, List.setIfInBounds_toArray, List.set_cons_zero, List.set_cons_succ]
                            refine wpXk 20 rfl (by kernel_rfl) (fun _ _ _ h => h) (by rfl) hHeld ?_
                            try simp only [Act.put, List.setIfInBounds_toArray, List.set_cons_zero, List.set_cons_succ]
                            refine wpXs 21 rfl (by kernel_rfl) (fun K hK => ?_)
                            go_simp
                            refine hK.out _ _ (HSk.out _ hbn) (fun hHeld => ?_)
                            clear hK K
                            try simp only [Act.put, List.setIfInBounds_toArray, List.set_cons_zero, List.set_cons_succ]
                            refine wpAnyX_done (by kernel_rfl) ?_ _
                            have hbWn : Below W.heap.size W wn := hbr.trans (hbn.mono hbr.size)
                            go_wp2
                            go_roundw
                            case rel => exact ⟨k + 1, by omega, by rw [NN.out]; go_num, by go_num, hbWn⟩
                            case measure => simp [intOf]; omega
                        · have ek : x.operands.take k = x.operands := List.take_of_length_le (by omega)
                          rw [ek]
                          have hQl : x.operands.countP (opIn values c) ≤ x.operands.length := List.countP_le_length
                          have HFN' := HFN.out
                          clear ek HFN
                          generalize P + x.operands.countP (opIn values c) = M at *
                          have hc01 : c = 0 ∨ c = 1 := by omega
                          rcases hc01 with rfl | rfl
                          · have HFN2 : Hid (fullN values x 0 = M) := HFN'
                            clear HFN'
                            by_cases hfu : m0 ≤ (M : Int)
                            · have H : Hid (8 = res) := by
                                show _ = _
                                rw [← HF.out, if_pos]
                                unfold fullB
                                exact decide_eq_true (Or.inl (by have := HFN2.out; omega))
                              go_wp2
                              go_ret
                              exact ⟨ret_int H.out, hbwr⟩
                            · go_wp2
                              go_roundw
                              case rel => exact ⟨0 + 1, by omega, by go_num, hbr, (by have := HFN2.out; have h0 := HF0.out; exact fun hh => by omega), (by have := HFN2.out; exact fun hh => by omega)⟩
                              case measure => simp [intOf]
                          · have HFN2 : Hid (fullN values x 1 = M) := HFN'
                            clear HFN'
                            by_cases hfu : m1 ≤ (M : Int)
                            · have H : Hid (8 = res) := by
                                show _ = _
                                rw [← HF.out, if_pos]
                                unfold fullB
                                exact decide_eq_true (Or.inr (by have := HFN2.out; omega))
                              go_wp2
                              go_ret
                              exact ⟨ret_int H.out, hbwr⟩
                            · go_wp2
                              go_roundw
                              case rel => exact ⟨1 + 1, by omega, by go_num, hbr, (by have := HFN2.out; have h0 := HF0.out; exact fun hh => by exact h0 (by omega)), (by have := HFN2.out; exact fun hh => by omega)⟩
                              case measure => simp [intOf]
                · have hc2' : c = 2 := by omega
                  subst hc2'
                  have H : Hid (0 = res) := by
                    show _ = _
                    rw [← HF.out, if_neg]
                    unfold fullB
                    have h0 := HF0.out (by omega)
                    have h1 := HF1.out (by omega)
                    simp only [decide_eq_true_eq]
                    omega
                  go_wp2
                  go_ret
                  exact ⟨ret_int H.out, hbwr⟩
          · have H : Hid (es = res) := by show _ = _; rw [← HRES.out]; exact (instrErr_sp values m0 m1 x _ hop HE1.out HE2.out HES.out hes0).symm
            have hne : (es != 0) = true := by simpa using hes0
            clear hes0 f0_0' f0_1' m1_0' m1_1' x2_0' x2_1' x2_2'
            go_wp2
            go_ret
            exact ⟨ret_int H.out, hbws⟩
end Go.Proofs.Ytjbjnndmpheedaa
