/-
  The contracts of the reference's 'edgeFault' (P1.8) and 'has'.
-/
import Derived.Test.YtnghhhlcifpiaaaRefE
import Derived.Test.YtnghhhlcifpiaaaEdge
import Derived.Deep.DeepCutAuto
import Derived.Deep.CutBlock
namespace Go.Proofs.Ytnghhhlcifpiaaa
open Go.RowKit
set_option linter.unusedVariables false

theorem argsErr_drop (values : List Int) (l1 l2 : List Int) (k : Nat) (h1 : k < l1.length) (h2 : k < l2.length) : argsErr values (l1.drop k) (l2.drop k) = if isValueB values.length l1[k] = false then 2 else if isValueB values.length l2[k] = false ∨ ¬ classAt values l1[k] = classAt values l2[k] then 17 else argsErr values (l1.drop (k + 1)) (l2.drop (k + 1)) := by
  rw [List.drop_eq_getElem_cons h1, List.drop_eq_getElem_cons h2, argsErr]

set_option maxRecDepth 4000 in
set_option maxHeartbeats 16000000 in
theorem edgeFault_is (values : List Int) (av : Option Addr) (cv : Nat) (blocks : List Blk) (ab : Option Addr) (cb : Nat) (e : Edg) (aa : Option Addr) (ca : Nat) (res : Int) (hres : edgeErr values blocks e = res) (w : World) (hv : SlOf w 1 RInt (.slice av values.length cv) values)
    (hbl : SlOf w 3 (RBlk w) (.slice ab blocks.length cb) blocks) (ha : SlOf w 1 RInt (.slice aa e.args.length ca) e.args) :
    Calls Try.prog 24 #[.agg #[.slice av values.length cv, .slice ab blocks.length cb], .agg #[.int .i64 e.block, .slice aa e.args.length ca]] w fun e w' => e = .returned (.int .i64 res) ∧ Below w.heap.size w w' := by
  obtain ⟨_, _, _, lv⟩ := hv.out
  have lv0 := lv
  obtain ⟨_, _, _, lb⟩ := hbl.out
  obtain ⟨_, _, _, la⟩ := ha.out
  unfold longest at lv lb la
  obtain ⟨W, hW⟩ : ∃ W, W = (w.alloc (.cells #[.slice av values.length cv, .slice ab blocks.length cb] 31)).alloc (.cells #[.int .i64 e.block, .slice aa e.args.length ca] 65) := ⟨_, rfl⟩
  have hbw : Below w.heap.size w W := by rw [hW]; exact ((Below.refl _ _).alloc (Nat.le_refl _) _).alloc (by simp) _
  have zW : w.heap.size + 1 < W.heap.size := by rw [hW]; simp
  obtain ⟨t0, t1⟩ := two_at w #[.slice av values.length cv, .slice ab blocks.length cb] #[.int .i64 e.block, .slice aa e.args.length ca] 31 65
  have f0_0 : W.cell? ⟨w.heap.size, 0, none⟩ = some (.slice av values.length cv) := by rw [hW]; exact t0 0
  have f0_1 : W.cell? ⟨w.heap.size, 1, none⟩ = some (.slice ab blocks.length cb) := by rw [hW]; exact t0 1
  have e1_0 : W.cell? ⟨w.heap.size + 1, 0, none⟩ = some (.int .i64 e.block) := by rw [hW]; exact t1 0
  have e1_1 : W.cell? ⟨w.heap.size + 1, 1, none⟩ = some (.slice aa e.args.length ca) := by rw [hW]; exact t1 1
  have HS : Hid (∀ w', Below W.heap.size W w' → (fun w' => w'.cell? ⟨w.heap.size, 0, none⟩ = some (.slice av values.length cv) ∧ w'.cell? ⟨w.heap.size, 1, none⟩ = some (.slice ab blocks.length cb) ∧ w'.cell? ⟨w.heap.size + 1, 0, none⟩ = some (.int .i64 e.block) ∧ w'.cell? ⟨w.heap.size + 1, 1, none⟩ = some (.slice aa e.args.length ca) ∧ Below W.heap.size W w') w') := fun w' hh => ⟨(hh.cell (by simp; omega)).trans f0_0, (hh.cell (by simp; omega)).trans f0_1, (hh.cell (by simp; omega)).trans e1_0, (hh.cell (by simp; omega)).trans e1_1, hh⟩
  have HW : Hid (W = (w.alloc (.cells #[.slice av values.length cv, .slice ab blocks.length cb] 31)).alloc (.cells #[.int .i64 e.block, .slice aa e.args.length ca] 65)) := hW
  clear hW t0 t1
  unfold edgeErr at hres
  by_cases hb : e.block ≤ 0 ∨ (blocks.length : Int) ≤ e.block
  · rw [if_pos hb] at hres
    subst hres
    have hi : inB e.block 1 ((blocks.length : Int) - 1) = false := by simp [inB]; omega
    clear hb
    go_enter Try.func24, Try.ntmps24
    go_upto_region 1 with fail
    rw [← HW.out]
    go_wp2_with fail
    refine (in_is _ _ _ _ hi _).mono ?_
    rintro e W ⟨rfl, rfl⟩
    go_wp2
    go_ret
    exact ⟨rfl, hbw⟩
  rw [if_neg hb] at hres
  have n0 : 0 ≤ e.block := by omega
  have n1 : e.block < (blocks.length : Int) := by omega
  have hi : inB e.block 1 ((blocks.length : Int) - 1) = true := by simp [inB]; omega
  have hlt0 : e.block.toNat < blocks.length := by omega
  rw [List.getElem?_eq_getElem hlt0] at hres
  simp only at hres
  obtain ⟨b3, off3, cs, rfl, hcl, ⟨vp, vi, ve, rfl, hp, _, _⟩, hc⟩ := (hbl.below hbw (RBlk.below hbw)).at e.block.toNat hlt0
  obtain ⟨ap, cp, rfl, lp⟩ := hp.out
  have d0 := hc 0 (by simp)
  simp at d0
  unfold longest at lp
  clear hc hcl hb
  generalize blocks[e.block.toNat] = bk at *
  have HRES : Hid ((if e.args.length = bk.params.length then argsErr values e.args bk.params else 4) = res) := hres
  clear hres
  go_enter Try.func24, Try.ntmps24
  go_upto_region 1 with fail
  rw [← HW.out]
  go_wp2_with fail
  refine (in_is _ _ _ _ hi _).mono ?_
  rintro e W ⟨rfl, rfl⟩
  go_upto_region 4 with fail
  clear d0 n0 n1 hlt0 hi
  by_cases hle : e.args.length = bk.params.length
  · have HR2 : Hid (argsErr values e.args bk.params = res) := by show _ = _; rw [← HRES.out, if_pos hle]
    have ql : ((bk.params.length : Int) != (e.args.length : Int)) = false := by simp [hle]
    have HLE : Hid (e.args.length = bk.params.length) := hle
    clear hle HRES
    go_wp2
    go_loopw [6] (fun v wr => ∃ k : Nat, k ≤ bk.params.length ∧ v = .int .i64 k ∧ Below W.heap.size W wr ∧ Hid (argsErr values (e.args.drop k) (bk.params.drop k) = res)) (fun v _ => bk.params.length - (intOf v).toNat)
    case atStart => exact ⟨0, Nat.zero_le _, rfl, Below.refl _ _, HR2.out⟩
    case round =>
      obtain ⟨k, hk, rfl, hbr, HK⟩ := hrel
      have hbwr : Below w.heap.size w wr := hbw.trans (hbr.mono hbw.size)
      have zr := hbr.size
      obtain ⟨f0_0', f0_1', e1_0', e1_1', _⟩ := HS.out _ hbr
      clear f0_0 f0_1 e1_0 e1_1
      by_cases hlt : k < bk.params.length
      · have hlta : k < e.args.length := by have := HLE.out; omega
        have hkI : (k : Int) < (e.args.length : Int) := by omega
        obtain ⟨ba, offa, rfl, hba, a0⟩ := int_cell (ha.below hbwr fun _ _ h => h) k hlta
        obtain ⟨bp, offp, rfl, hbp, p0⟩ := int_cell (hp.below hbr fun _ _ h => h) k hlt
        have HD := argsErr_drop values e.args bk.params k hlta hlt
        have hbd : Below wr.heap.size wr wr.drew := (Below.refl _ _).drew
        have HSk : Hid (∀ w', Below wr.heap.size wr w' → (fun w' => w'.cell? ⟨w.heap.size, 0, none⟩ = some (.slice av values.length cv) ∧ w'.cell? ⟨w.heap.size, 1, none⟩ = some (.slice (some ⟨b3, off3, none⟩) blocks.length cb) ∧ w'.cell? ⟨w.heap.size + 1, 0, none⟩ = some (.int .i64 e.block) ∧ w'.cell? ⟨w.heap.size + 1, 1, none⟩ = some (.slice (some ⟨ba, offa, none⟩) e.args.length ca) ∧ w'.cell? ⟨ba, offa + k, none⟩ = some (.int .i64 e.args[k]) ∧ w'.cell? ⟨bp, offp + k, none⟩ = some (.int .i64 bk.params[k]) ∧ Below wr.heap.size wr w') w') := fun w' hh => ⟨(hh.cell (by simp; omega)).trans f0_0', (hh.cell (by simp; omega)).trans f0_1', (hh.cell (by simp; omega)).trans e1_0', (hh.cell (by simp; omega)).trans e1_1', (hh.cell (by simp; omega)).trans a0, (hh.cell (by simp; omega)).trans p0, hh⟩
        cases hav : isValueB values.length e.args[k]
        · have H : Hid (2 = res) := by show _ = _; rw [← HK.out, HD, if_pos hav]
          clear HK HD
          go_upto_region 9 with fail
          refine wp_region_X (fun w' => w'.cell? ⟨w.heap.size, 0, none⟩ = some (.slice av values.length cv) ∧ w'.cell? ⟨w.heap.size, 1, none⟩ = some (.slice (some ⟨b3, off3, none⟩) blocks.length cb) ∧ w'.cell? ⟨w.heap.size + 1, 0, none⟩ = some (.int .i64 e.block) ∧ w'.cell? ⟨w.heap.size + 1, 1, none⟩ = some (.slice (some ⟨ba, offa, none⟩) e.args.length ca) ∧ w'.cell? ⟨ba, offa + k, none⟩ = some (.int .i64 e.args[k]) ∧ w'.cell? ⟨bp, offp + k, none⟩ = some (.int .i64 bk.params[k]) ∧ Below wr.heap.size wr w') 99 (by kernel_rfl) (HSk.out _ hbd) (fun hHeld => ?_)
          refine wpX_takeg0 (v := ?_) (by kernel_rfl) (fun _ _ _ h => h) (by rfl) ?_ hHeld ?_
          rotate_left
          · intro w' hSw
            go_simp <;> with_reducible rfl
          try simp only [Act.put, List.setIfInBounds_toArray, List.set_cons_zero, List.set_cons_succ]
          refine wpX_takeg1 (v := ?_) (by kernel_rfl) (fun _ _ _ h => h) (by rfl) ?_ hHeld ?_
          rotate_left
          · intro w' hSw
            go_simp <;> with_reducible rfl
          try simp only [Act.put, List.setIfInBounds_toArray, List.set_cons_zero, List.set_cons_succ]
          refine wpX_takeg2 (v := ?_) (by kernel_rfl) (fun _ _ _ h => h) (by rfl) ?_ hHeld ?_
          rotate_left
          · intro w' hSw
            go_simp <;> with_reducible rfl
          try simp only [Act.put, List.setIfInBounds_toArray, List.set_cons_zero, List.set_cons_succ]
          refine wpX_takeg3 (v := ?_) (by kernel_rfl) (fun _ _ _ h => h) (by rfl) ?_ hHeld ?_
          rotate_left
          · intro w' hSw
            go_simp <;> with_reducible rfl
          try simp only [Act.put, List.setIfInBounds_toArray, List.set_cons_zero, List.set_cons_succ]
          refine wpX_takeg4 (v := ?_) (by kernel_rfl) (fun _ _ _ h => h) (by rfl) ?_ hHeld ?_
          rotate_left
          · intro w' hSw
            go_simp <;> with_reducible rfl
          try simp only [Act.put, List.setIfInBounds_toArray, List.set_cons_zero, List.set_cons_succ]
          refine wpX_takeg5 (v := ?_) (by kernel_rfl) (fun _ _ _ h => h) (by rfl) ?_ hHeld ?_
          rotate_left
          · intro w' hSw
            go_simp <;> with_reducible rfl
          try simp only [Act.put, List.setIfInBounds_toArray, List.set_cons_zero, List.set_cons_succ]
          refine wpX_step6 (by kernel_rfl) (fun K hK => ?_)
          go_simp
          refine (valueMay_b _ _ _ _ _ _ hav _ lv0).mono ?_
          rintro e wn ⟨rfl, hwn0⟩
          have hwn : Below wr.heap.size wr wn := hbd.trans (hwn0.mono hbd.size)
          refine hK.out _ _ (HSk.out _ hwn) (fun hHeld => ?_)
          clear hK K
          try simp only [Act.put, List.setIfInBounds_toArray, List.set_cons_zero, List.set_cons_succ]
          refine wpX_step7 (by kernel_rfl) (fun K hK => ?_)
          go_simp
          refine hK.out _ _ (HSk.out _ hwn) (fun hHeld => ?_)
          clear hK K
          try simp only [Act.put, List.setIfInBounds_toArray, List.set_cons_zero, List.set_cons_succ]
          refine wpAnyX_done (by kernel_rfl) ?_ _
          go_wp2
          go_ret
          exact ⟨ret_int H.out, hbwr.trans (hwn.mono hbwr.size)⟩
        · rw [if_neg (by simp [hav])] at HD
          have HD' : Hid (argsErr values (e.args.drop k) (bk.params.drop k) = if isValueB values.length bk.params[k] = false ∨ ¬ classAt values e.args[k] = classAt values bk.params[k] then 17 else argsErr values (e.args.drop (k + 1)) (bk.params.drop (k + 1))) := HD
          clear HD
          go_upto_region 9 with fail
          refine wp_region_X (fun w' => w'.cell? ⟨w.heap.size, 0, none⟩ = some (.slice av values.length cv) ∧ w'.cell? ⟨w.heap.size, 1, none⟩ = some (.slice (some ⟨b3, off3, none⟩) blocks.length cb) ∧ w'.cell? ⟨w.heap.size + 1, 0, none⟩ = some (.int .i64 e.block) ∧ w'.cell? ⟨w.heap.size + 1, 1, none⟩ = some (.slice (some ⟨ba, offa, none⟩) e.args.length ca) ∧ w'.cell? ⟨ba, offa + k, none⟩ = some (.int .i64 e.args[k]) ∧ w'.cell? ⟨bp, offp + k, none⟩ = some (.int .i64 bk.params[k]) ∧ Below wr.heap.size wr w') 99 (by kernel_rfl) (HSk.out _ hbd) (fun hHeld => ?_)
          refine wpX_takeg0 (v := ?_) (by kernel_rfl) (fun _ _ _ h => h) (by rfl) ?_ hHeld ?_
          rotate_left
          · intro w' hSw
            go_simp <;> with_reducible rfl
          try simp only [Act.put, List.setIfInBounds_toArray, List.set_cons_zero, List.set_cons_succ]
          refine wpX_takeg1 (v := ?_) (by kernel_rfl) (fun _ _ _ h => h) (by rfl) ?_ hHeld ?_
          rotate_left
          · intro w' hSw
            go_simp <;> with_reducible rfl
          try simp only [Act.put, List.setIfInBounds_toArray, List.set_cons_zero, List.set_cons_succ]
          refine wpX_takeg2 (v := ?_) (by kernel_rfl) (fun _ _ _ h => h) (by rfl) ?_ hHeld ?_
          rotate_left
          · intro w' hSw
            go_simp <;> with_reducible rfl
          try simp only [Act.put, List.setIfInBounds_toArray, List.set_cons_zero, List.set_cons_succ]
          refine wpX_takeg3 (v := ?_) (by kernel_rfl) (fun _ _ _ h => h) (by rfl) ?_ hHeld ?_
          rotate_left
          · intro w' hSw
            go_simp <;> with_reducible rfl
          try simp only [Act.put, List.setIfInBounds_toArray, List.set_cons_zero, List.set_cons_succ]
          refine wpX_takeg4 (v := ?_) (by kernel_rfl) (fun _ _ _ h => h) (by rfl) ?_ hHeld ?_
          rotate_left
          · intro w' hSw
            go_simp <;> with_reducible rfl
          try simp only [Act.put, List.setIfInBounds_toArray, List.set_cons_zero, List.set_cons_succ]
          refine wpX_takeg5 (v := ?_) (by kernel_rfl) (fun _ _ _ h => h) (by rfl) ?_ hHeld ?_
          rotate_left
          · intro w' hSw
            go_simp <;> with_reducible rfl
          try simp only [Act.put, List.setIfInBounds_toArray, List.set_cons_zero, List.set_cons_succ]
          refine wpX_step6 (by kernel_rfl) (fun K hK => ?_)
          go_simp
          refine (valueMay_b _ _ _ _ _ _ hav _ lv0).mono ?_
          rintro e wn ⟨rfl, hwn0⟩
          have hwn : Below wr.heap.size wr wn := hbd.trans (hwn0.mono hbd.size)
          refine hK.out _ _ (HSk.out _ hwn) (fun hHeld => ?_)
          clear hK K
          try simp only [Act.put, List.setIfInBounds_toArray, List.set_cons_zero, List.set_cons_succ]
          refine wpX_step7 (by kernel_rfl) (fun K hK => ?_)
          go_simp
          refine hK.out _ _ (HSk.out _ hwn) (fun hHeld => ?_)
          clear hK K
          try simp only [Act.put, List.setIfInBounds_toArray, List.set_cons_zero, List.set_cons_succ]
          refine wpAnyX_done (by kernel_rfl) ?_ _
          have hwnd : Below wr.heap.size wr wn.drew := hwn.drew
          cases hpv : isValueB values.length bk.params[k]
          · have H : Hid (17 = res) := by show _ = _; rw [← HK.out, HD'.out, if_pos (Or.inl hpv)]
            go_upto_region 11 with fail
            refine wp_region_X (fun w' => w'.cell? ⟨w.heap.size, 0, none⟩ = some (.slice av values.length cv) ∧ w'.cell? ⟨w.heap.size, 1, none⟩ = some (.slice (some ⟨b3, off3, none⟩) blocks.length cb) ∧ w'.cell? ⟨w.heap.size + 1, 0, none⟩ = some (.int .i64 e.block) ∧ w'.cell? ⟨w.heap.size + 1, 1, none⟩ = some (.slice (some ⟨ba, offa, none⟩) e.args.length ca) ∧ w'.cell? ⟨ba, offa + k, none⟩ = some (.int .i64 e.args[k]) ∧ w'.cell? ⟨bp, offp + k, none⟩ = some (.int .i64 bk.params[k]) ∧ Below wr.heap.size wr w') 99 (by kernel_rfl) (HSk.out _ hwnd) (fun hHeld => ?_)
            refine wpX_takeg0 (v := ?_) (by kernel_rfl) (fun _ _ _ h => h) (by rfl) ?_ hHeld ?_
            rotate_left
            · intro w' hSw
              go_simp <;> with_reducible rfl
            try simp only [Act.put, List.setIfInBounds_toArray, List.set_cons_zero, List.set_cons_succ]
            refine wpX_takeg1 (v := ?_) (by kernel_rfl) (fun _ _ _ h => h) (by rfl) ?_ hHeld ?_
            rotate_left
            · intro w' hSw
              go_simp <;> with_reducible rfl
            try simp only [Act.put, List.setIfInBounds_toArray, List.set_cons_zero, List.set_cons_succ]
            refine wpX_takeg2 (v := ?_) (by kernel_rfl) (fun _ _ _ h => h) (by rfl) ?_ hHeld ?_
            rotate_left
            · intro w' hSw
              go_simp <;> with_reducible rfl
            try simp only [Act.put, List.setIfInBounds_toArray, List.set_cons_zero, List.set_cons_succ]
            refine wpX_takeg3 (v := ?_) (by kernel_rfl) (fun _ _ _ h => h) (by rfl) ?_ hHeld ?_
            rotate_left
            · intro w' hSw
              go_simp <;> with_reducible rfl
            try simp only [Act.put, List.setIfInBounds_toArray, List.set_cons_zero, List.set_cons_succ]
            refine wpX_takeg4 (v := ?_) (by kernel_rfl) (fun _ _ _ h => h) (by rfl) ?_ hHeld ?_
            rotate_left
            · intro w' hSw
              go_simp <;> with_reducible rfl
            try simp only [Act.put, List.setIfInBounds_toArray, List.set_cons_zero, List.set_cons_succ]
            refine wpX_step5 (by kernel_rfl) (fun K hK => ?_)
            go_simp
            refine (valueMay_b _ _ _ _ _ _ hpv _ lv0).mono ?_
            rintro e wq ⟨rfl, hwq0⟩
            have hwq : Below wr.heap.size wr wq := hwnd.trans (hwq0.mono hwnd.size)
            refine hK.out _ _ (HSk.out _ hwq) (fun hHeld => ?_)
            clear hK K
            try simp only [Act.put, List.setIfInBounds_toArray, List.set_cons_zero, List.set_cons_succ]
            refine wpX_takeg6 (v := ?_) (by kernel_rfl) (fun _ _ _ h => h) (by rfl) ?_ hHeld ?_
            rotate_left
            · intro w' hSw
              go_simp <;> with_reducible rfl
            try simp only [Act.put, List.setIfInBounds_toArray, List.set_cons_zero, List.set_cons_succ]
            refine wpX_takeg7 (v := ?_) (by kernel_rfl) (fun _ _ _ h => h) (by rfl) ?_ hHeld ?_
            rotate_left
            · intro w' hSw
              go_simp <;> with_reducible rfl
            try simp only [Act.put, List.setIfInBounds_toArray, List.set_cons_zero, List.set_cons_succ]
            refine wpX_skip8 (by kernel_rfl) (fun _ _ _ h => h) (by rfl) hHeld ?_
            try simp only [Act.put, List.setIfInBounds_toArray, List.set_cons_zero, List.set_cons_succ]
            refine wpX_skip9 (by kernel_rfl) (fun _ _ _ h => h) (by rfl) hHeld ?_
            try simp only [Act.put, List.setIfInBounds_toArray, List.set_cons_zero, List.set_cons_succ]
            refine wpX_skip10 (by kernel_rfl) (fun _ _ _ h => h) (by rfl) hHeld ?_
            try simp only [Act.put, List.setIfInBounds_toArray, List.set_cons_zero, List.set_cons_succ]
            refine wpX_skip11 (by kernel_rfl) (fun _ _ _ h => h) (by rfl) hHeld ?_
            try simp only [Act.put, List.setIfInBounds_toArray, List.set_cons_zero, List.set_cons_succ]
            refine wpX_skip12 (by kernel_rfl) (fun _ _ _ h => h) (by rfl) hHeld ?_
            try simp only [Act.put, List.setIfInBounds_toArray, List.set_cons_zero, List.set_cons_succ]
            refine wpX_skip13 (by kernel_rfl) (fun _ _ _ h => h) (by rfl) hHeld ?_
            try simp only [Act.put, List.setIfInBounds_toArray, List.set_cons_zero, List.set_cons_succ]
            refine wpX_skip14 (by kernel_rfl) (fun _ _ _ h => h) (by rfl) hHeld ?_
            try simp only [Act.put, List.setIfInBounds_toArray, List.set_cons_zero, List.set_cons_succ]
            refine wpX_skip15 (by kernel_rfl) (fun _ _ _ h => h) (by rfl) hHeld ?_
            try simp only [Act.put, List.setIfInBounds_toArray, List.set_cons_zero, List.set_cons_succ]
            refine wpX_skip16 (by kernel_rfl) (fun _ _ _ h => h) (by rfl) hHeld ?_
            try simp only [Act.put, List.setIfInBounds_toArray, List.set_cons_zero, List.set_cons_succ]
            refine wpX_skip17 (by kernel_rfl) (fun _ _ _ h => h) (by rfl) hHeld ?_
            try simp only [Act.put, List.setIfInBounds_toArray, List.set_cons_zero, List.set_cons_succ]
            refine wpX_skip18 (by kernel_rfl) (fun _ _ _ h => h) (by rfl) hHeld ?_
            try simp only [Act.put, List.setIfInBounds_toArray, List.set_cons_zero, List.set_cons_succ]
            refine wpX_skip19 (by kernel_rfl) (fun _ _ _ h => h) (by rfl) hHeld ?_
            try simp only [Act.put, List.setIfInBounds_toArray, List.set_cons_zero, List.set_cons_succ]
            refine wpX_skip20 (by kernel_rfl) (fun _ _ _ h => h) (by rfl) hHeld ?_
            try simp only [Act.put, List.setIfInBounds_toArray, List.set_cons_zero, List.set_cons_succ]
            refine wpX_skip21 (by kernel_rfl) (fun _ _ _ h => h) (by rfl) hHeld ?_
            try simp only [Act.put, List.setIfInBounds_toArray, List.set_cons_zero, List.set_cons_succ]
            refine wpX_step22 (by kernel_rfl) (fun K hK => ?_)
            go_simp
            refine hK.out _ _ (HSk.out _ hwq) (fun hHeld => ?_)
            clear hK K
            try simp only [Act.put, List.setIfInBounds_toArray, List.set_cons_zero, List.set_cons_succ]
            refine wpAnyX_done (by kernel_rfl) ?_ _
            go_wp2
            go_ret
            exact ⟨ret_int H.out, hbwr.trans (hwq.mono hbwr.size)⟩
          · obtain ⟨ca', hca'⟩ : ∃ ca', classAt values e.args[k] = ca' := ⟨_, rfl⟩
            obtain ⟨cp', hcp'⟩ : ∃ cp', classAt values bk.params[k] = cp' := ⟨_, rfl⟩
            have HCA : Hid (classAt values e.args[k] = ca') := hca'
            have HCP : Hid (classAt values bk.params[k] = cp') := hcp'
            clear hca' hcp'
            by_cases hcc : ca' = cp'
            · have H : Hid (argsErr values (e.args.drop (k + 1)) (bk.params.drop (k + 1)) = res) := by show _ = _; rw [← HK.out, HD'.out, if_neg]; rw [HCA.out, HCP.out, hpv]; simp [hcc]
              have qc : (cp' != ca') = false := by simp [hcc]
              clear hcc
              go_upto_region 11 with fail
              refine wp_region_X (fun w' => w'.cell? ⟨w.heap.size, 0, none⟩ = some (.slice av values.length cv) ∧ w'.cell? ⟨w.heap.size, 1, none⟩ = some (.slice (some ⟨b3, off3, none⟩) blocks.length cb) ∧ w'.cell? ⟨w.heap.size + 1, 0, none⟩ = some (.int .i64 e.block) ∧ w'.cell? ⟨w.heap.size + 1, 1, none⟩ = some (.slice (some ⟨ba, offa, none⟩) e.args.length ca) ∧ w'.cell? ⟨ba, offa + k, none⟩ = some (.int .i64 e.args[k]) ∧ w'.cell? ⟨bp, offp + k, none⟩ = some (.int .i64 bk.params[k]) ∧ Below wr.heap.size wr w') 99 (by kernel_rfl) (HSk.out _ hwnd) (fun hHeld => ?_)
              refine wpX_takeg0 (v := ?_) (by kernel_rfl) (fun _ _ _ h => h) (by rfl) ?_ hHeld ?_
              rotate_left
              · intro w' hSw
                go_simp <;> with_reducible rfl
              try simp only [Act.put, List.setIfInBounds_toArray, List.set_cons_zero, List.set_cons_succ]
              refine wpX_takeg1 (v := ?_) (by kernel_rfl) (fun _ _ _ h => h) (by rfl) ?_ hHeld ?_
              rotate_left
              · intro w' hSw
                go_simp <;> with_reducible rfl
              try simp only [Act.put, List.setIfInBounds_toArray, List.set_cons_zero, List.set_cons_succ]
              refine wpX_takeg2 (v := ?_) (by kernel_rfl) (fun _ _ _ h => h) (by rfl) ?_ hHeld ?_
              rotate_left
              · intro w' hSw
                go_simp <;> with_reducible rfl
              try simp only [Act.put, List.setIfInBounds_toArray, List.set_cons_zero, List.set_cons_succ]
              refine wpX_takeg3 (v := ?_) (by kernel_rfl) (fun _ _ _ h => h) (by rfl) ?_ hHeld ?_
              rotate_left
              · intro w' hSw
                go_simp <;> with_reducible rfl
              try simp only [Act.put, List.setIfInBounds_toArray, List.set_cons_zero, List.set_cons_succ]
              refine wpX_takeg4 (v := ?_) (by kernel_rfl) (fun _ _ _ h => h) (by rfl) ?_ hHeld ?_
              rotate_left
              · intro w' hSw
                go_simp <;> with_reducible rfl
              try simp only [Act.put, List.setIfInBounds_toArray, List.set_cons_zero, List.set_cons_succ]
              refine wpX_step5 (by kernel_rfl) (fun K hK => ?_)
              go_simp
              refine (valueMay_b _ _ _ _ _ _ hpv _ lv0).mono ?_
              rintro e wq ⟨rfl, hwq0⟩
              have hwq : Below wr.heap.size wr wq := hwnd.trans (hwq0.mono hwnd.size)
              refine hK.out _ _ (HSk.out _ hwq) (fun hHeld => ?_)
              clear hK K
              try simp only [Act.put, List.setIfInBounds_toArray, List.set_cons_zero, List.set_cons_succ]
              refine wpX_takeg6 (v := ?_) (by kernel_rfl) (fun _ _ _ h => h) (by rfl) ?_ hHeld ?_
              rotate_left
              · intro w' hSw
                go_simp <;> with_reducible rfl
              try simp only [Act.put, List.setIfInBounds_toArray, List.set_cons_zero, List.set_cons_succ]
              refine wpX_takeg7 (v := ?_) (by kernel_rfl) (fun _ _ _ h => h) (by rfl) ?_ hHeld ?_
              rotate_left
              · intro w' hSw
                go_simp <;> with_reducible rfl
              try simp only [Act.put, List.setIfInBounds_toArray, List.set_cons_zero, List.set_cons_succ]
              refine wpX_takeg8 (v := ?_) (by kernel_rfl) (fun _ _ _ h => h) (by rfl) ?_ hHeld ?_
              rotate_left
              · intro w' hSw
                go_simp <;> with_reducible rfl
              try simp only [Act.put, List.setIfInBounds_toArray, List.set_cons_zero, List.set_cons_succ]
              refine wpX_takeg9 (v := ?_) (by kernel_rfl) (fun _ _ _ h => h) (by rfl) ?_ hHeld ?_
              rotate_left
              · intro w' hSw
                go_simp <;> with_reducible rfl
              try simp only [Act.put, List.setIfInBounds_toArray, List.set_cons_zero, List.set_cons_succ]
              refine wpX_takeg10 (v := ?_) (by kernel_rfl) (fun _ _ _ h => h) (by rfl) ?_ hHeld ?_
              rotate_left
              · intro w' hSw
                go_simp <;> with_reducible rfl
              try simp only [Act.put, List.setIfInBounds_toArray, List.set_cons_zero, List.set_cons_succ]
              refine wpX_takeg11 (v := ?_) (by kernel_rfl) (fun _ _ _ h => h) (by rfl) ?_ hHeld ?_
              rotate_left
              · intro w' hSw
                go_simp <;> with_reducible rfl
              try simp only [Act.put, List.setIfInBounds_toArray, List.set_cons_zero, List.set_cons_succ]
              refine wpX_takeg12 (v := ?_) (by kernel_rfl) (fun _ _ _ h => h) (by rfl) ?_ hHeld ?_
              rotate_left
              · intro w' hSw
                go_simp <;> with_reducible rfl
              try simp only [Act.put, List.setIfInBounds_toArray, List.set_cons_zero, List.set_cons_succ]
              refine wpX_takeg14 (v := ?_) (by kernel_rfl) (fun _ _ _ h => h) (by rfl) ?_ hHeld ?_
              rotate_left
              · intro w' hSw
                go_simp <;> with_reducible rfl
              try simp only [Act.put, List.setIfInBounds_toArray, List.set_cons_zero, List.set_cons_succ]
              refine wpX_takeg15 (v := ?_) (by kernel_rfl) (fun _ _ _ h => h) (by rfl) ?_ hHeld ?_
              rotate_left
              · intro w' hSw
                go_simp <;> with_reducible rfl
              try simp only [Act.put, List.setIfInBounds_toArray, List.set_cons_zero, List.set_cons_succ]
              refine wpX_takeg16 (v := ?_) (by kernel_rfl) (fun _ _ _ h => h) (by rfl) ?_ hHeld ?_
              rotate_left
              · intro w' hSw
                go_simp <;> with_reducible rfl
              try simp only [Act.put, List.setIfInBounds_toArray, List.set_cons_zero, List.set_cons_succ]
              refine wpX_takeg17 (v := ?_) (by kernel_rfl) (fun _ _ _ h => h) (by rfl) ?_ hHeld ?_
              rotate_left
              · intro w' hSw
                go_simp <;> with_reducible rfl
              try simp only [Act.put, List.setIfInBounds_toArray, List.set_cons_zero, List.set_cons_succ]
              refine wpX_takeg18 (v := ?_) (by kernel_rfl) (fun _ _ _ h => h) (by rfl) ?_ hHeld ?_
              rotate_left
              · intro w' hSw
                go_simp <;> with_reducible rfl
              try simp only [Act.put, List.setIfInBounds_toArray, List.set_cons_zero, List.set_cons_succ]
              refine wpX_takeg19 (v := ?_) (by kernel_rfl) (fun _ _ _ h => h) (by rfl) ?_ hHeld ?_
              rotate_left
              · intro w' hSw
                go_simp <;> with_reducible rfl
              try simp only [Act.put, List.setIfInBounds_toArray, List.set_cons_zero, List.set_cons_succ]
              refine wpX_step13 (by kernel_rfl) (fun K hK => ?_)
              go_simp
              refine (classOf_b values _ _ _ _ _ HCP.out _ (hv.below (hbwr.trans (hwq.mono hbwr.size)) fun _ _ h => h) hpv).mono ?_
              rintro e wu ⟨rfl, hwu0⟩
              have hwu : Below wr.heap.size wr wu := hwq.trans (hwu0.mono hwq.size)
              refine hK.out _ _ (HSk.out _ hwu) (fun hHeld => ?_)
              clear hK K
              try simp only [Act.put, List.setIfInBounds_toArray, List.set_cons_zero, List.set_cons_succ]
              refine wpX_step20 (by kernel_rfl) (fun K hK => ?_)
              go_simp
              refine (classOf_b values _ _ _ _ _ HCA.out _ (hv.below (hbwr.trans (hwu.mono hbwr.size)) fun _ _ h => h) hav).mono ?_
              rintro e wv ⟨rfl, hwv0⟩
              have hwv : Below wr.heap.size wr wv := hwu.trans (hwv0.mono hwu.size)
              refine hK.out _ _ (HSk.out _ hwv) (fun hHeld => ?_)
              clear hK K
              try simp only [Act.put, List.setIfInBounds_toArray, List.set_cons_zero, List.set_cons_succ]
              refine wpX_takeg21 (v := ?_) (by kernel_rfl) (fun _ _ _ h => h) (by rfl) ?_ hHeld ?_
              rotate_left
              · intro w' hSw
                go_simp <;> with_reducible rfl
              try simp only [Act.put, List.setIfInBounds_toArray, List.set_cons_zero, List.set_cons_succ]
              refine wpX_step22 (by kernel_rfl) (fun K hK => ?_)
              go_simp
              refine hK.out _ _ (HSk.out _ hwv) (fun hHeld => ?_)
              clear hK K
              try simp only [Act.put, List.setIfInBounds_toArray, List.set_cons_zero, List.set_cons_succ]
              refine wpAnyX_done (by kernel_rfl) ?_ _
              go_wp2
              go_roundw
              case rel => exact ⟨k + 1, by omega, by go_num, hbr.trans (hwv.mono hbr.size), H⟩
              case measure => simp [intOf]; omega
            · have H : Hid (17 = res) := by show _ = _; rw [← HK.out, HD'.out, if_pos]; right; rw [HCA.out, HCP.out]; exact hcc
              have qc : (cp' != ca') = true := by simpa using fun h => hcc h.symm
              clear hcc
              go_upto_region 11 with fail
              refine wp_region_X (fun w' => w'.cell? ⟨w.heap.size, 0, none⟩ = some (.slice av values.length cv) ∧ w'.cell? ⟨w.heap.size, 1, none⟩ = some (.slice (some ⟨b3, off3, none⟩) blocks.length cb) ∧ w'.cell? ⟨w.heap.size + 1, 0, none⟩ = some (.int .i64 e.block) ∧ w'.cell? ⟨w.heap.size + 1, 1, none⟩ = some (.slice (some ⟨ba, offa, none⟩) e.args.length ca) ∧ w'.cell? ⟨ba, offa + k, none⟩ = some (.int .i64 e.args[k]) ∧ w'.cell? ⟨bp, offp + k, none⟩ = some (.int .i64 bk.params[k]) ∧ Below wr.heap.size wr w') 99 (by kernel_rfl) (HSk.out _ hwnd) (fun hHeld => ?_)
              refine wpX_takeg0 (v := ?_) (by kernel_rfl) (fun _ _ _ h => h) (by rfl) ?_ hHeld ?_
              rotate_left
              · intro w' hSw
                go_simp <;> with_reducible rfl
              try simp only [Act.put, List.setIfInBounds_toArray, List.set_cons_zero, List.set_cons_succ]
              refine wpX_takeg1 (v := ?_) (by kernel_rfl) (fun _ _ _ h => h) (by rfl) ?_ hHeld ?_
              rotate_left
              · intro w' hSw
                go_simp <;> with_reducible rfl
              try simp only [Act.put, List.setIfInBounds_toArray, List.set_cons_zero, List.set_cons_succ]
              refine wpX_takeg2 (v := ?_) (by kernel_rfl) (fun _ _ _ h => h) (by rfl) ?_ hHeld ?_
              rotate_left
              · intro w' hSw
                go_simp <;> with_reducible rfl
              try simp only [Act.put, List.setIfInBounds_toArray, List.set_cons_zero, List.set_cons_succ]
              refine wpX_takeg3 (v := ?_) (by kernel_rfl) (fun _ _ _ h => h) (by rfl) ?_ hHeld ?_
              rotate_left
              · intro w' hSw
                go_simp <;> with_reducible rfl
              try simp only [Act.put, List.setIfInBounds_toArray, List.set_cons_zero, List.set_cons_succ]
              refine wpX_takeg4 (v := ?_) (by kernel_rfl) (fun _ _ _ h => h) (by rfl) ?_ hHeld ?_
              rotate_left
              · intro w' hSw
                go_simp <;> with_reducible rfl
              try simp only [Act.put, List.setIfInBounds_toArray, List.set_cons_zero, List.set_cons_succ]
              refine wpX_step5 (by kernel_rfl) (fun K hK => ?_)
              go_simp
              refine (valueMay_b _ _ _ _ _ _ hpv _ lv0).mono ?_
              rintro e wq ⟨rfl, hwq0⟩
              have hwq : Below wr.heap.size wr wq := hwnd.trans (hwq0.mono hwnd.size)
              refine hK.out _ _ (HSk.out _ hwq) (fun hHeld => ?_)
              clear hK K
              try simp only [Act.put, List.setIfInBounds_toArray, List.set_cons_zero, List.set_cons_succ]
              refine wpX_takeg6 (v := ?_) (by kernel_rfl) (fun _ _ _ h => h) (by rfl) ?_ hHeld ?_
              rotate_left
              · intro w' hSw
                go_simp <;> with_reducible rfl
              try simp only [Act.put, List.setIfInBounds_toArray, List.set_cons_zero, List.set_cons_succ]
              refine wpX_takeg7 (v := ?_) (by kernel_rfl) (fun _ _ _ h => h) (by rfl) ?_ hHeld ?_
              rotate_left
              · intro w' hSw
                go_simp <;> with_reducible rfl
              try simp only [Act.put, List.setIfInBounds_toArray, List.set_cons_zero, List.set_cons_succ]
              refine wpX_takeg8 (v := ?_) (by kernel_rfl) (fun _ _ _ h => h) (by rfl) ?_ hHeld ?_
              rotate_left
              · intro w' hSw
                go_simp <;> with_reducible rfl
              try simp only [Act.put, List.setIfInBounds_toArray, List.set_cons_zero, List.set_cons_succ]
              refine wpX_takeg9 (v := ?_) (by kernel_rfl) (fun _ _ _ h => h) (by rfl) ?_ hHeld ?_
              rotate_left
              · intro w' hSw
                go_simp <;> with_reducible rfl
              try simp only [Act.put, List.setIfInBounds_toArray, List.set_cons_zero, List.set_cons_succ]
              refine wpX_takeg10 (v := ?_) (by kernel_rfl) (fun _ _ _ h => h) (by rfl) ?_ hHeld ?_
              rotate_left
              · intro w' hSw
                go_simp <;> with_reducible rfl
              try simp only [Act.put, List.setIfInBounds_toArray, List.set_cons_zero, List.set_cons_succ]
              refine wpX_takeg11 (v := ?_) (by kernel_rfl) (fun _ _ _ h => h) (by rfl) ?_ hHeld ?_
              rotate_left
              · intro w' hSw
                go_simp <;> with_reducible rfl
              try simp only [Act.put, List.setIfInBounds_toArray, List.set_cons_zero, List.set_cons_succ]
              refine wpX_takeg12 (v := ?_) (by kernel_rfl) (fun _ _ _ h => h) (by rfl) ?_ hHeld ?_
              rotate_left
              · intro w' hSw
                go_simp <;> with_reducible rfl
              try simp only [Act.put, List.setIfInBounds_toArray, List.set_cons_zero, List.set_cons_succ]
              refine wpX_takeg14 (v := ?_) (by kernel_rfl) (fun _ _ _ h => h) (by rfl) ?_ hHeld ?_
              rotate_left
              · intro w' hSw
                go_simp <;> with_reducible rfl
              try simp only [Act.put, List.setIfInBounds_toArray, List.set_cons_zero, List.set_cons_succ]
              refine wpX_takeg15 (v := ?_) (by kernel_rfl) (fun _ _ _ h => h) (by rfl) ?_ hHeld ?_
              rotate_left
              · intro w' hSw
                go_simp <;> with_reducible rfl
              try simp only [Act.put, List.setIfInBounds_toArray, List.set_cons_zero, List.set_cons_succ]
              refine wpX_takeg16 (v := ?_) (by kernel_rfl) (fun _ _ _ h => h) (by rfl) ?_ hHeld ?_
              rotate_left
              · intro w' hSw
                go_simp <;> with_reducible rfl
              try simp only [Act.put, List.setIfInBounds_toArray, List.set_cons_zero, List.set_cons_succ]
              refine wpX_takeg17 (v := ?_) (by kernel_rfl) (fun _ _ _ h => h) (by rfl) ?_ hHeld ?_
              rotate_left
              · intro w' hSw
                go_simp <;> with_reducible rfl
              try simp only [Act.put, List.setIfInBounds_toArray, List.set_cons_zero, List.set_cons_succ]
              refine wpX_takeg18 (v := ?_) (by kernel_rfl) (fun _ _ _ h => h) (by rfl) ?_ hHeld ?_
              rotate_left
              · intro w' hSw
                go_simp <;> with_reducible rfl
              try simp only [Act.put, List.setIfInBounds_toArray, List.set_cons_zero, List.set_cons_succ]
              refine wpX_takeg19 (v := ?_) (by kernel_rfl) (fun _ _ _ h => h) (by rfl) ?_ hHeld ?_
              rotate_left
              · intro w' hSw
                go_simp <;> with_reducible rfl
              try simp only [Act.put, List.setIfInBounds_toArray, List.set_cons_zero, List.set_cons_succ]
              refine wpX_step13 (by kernel_rfl) (fun K hK => ?_)
              go_simp
              refine (classOf_b values _ _ _ _ _ HCP.out _ (hv.below (hbwr.trans (hwq.mono hbwr.size)) fun _ _ h => h) hpv).mono ?_
              rintro e wu ⟨rfl, hwu0⟩
              have hwu : Below wr.heap.size wr wu := hwq.trans (hwu0.mono hwq.size)
              refine hK.out _ _ (HSk.out _ hwu) (fun hHeld => ?_)
              clear hK K
              try simp only [Act.put, List.setIfInBounds_toArray, List.set_cons_zero, List.set_cons_succ]
              refine wpX_step20 (by kernel_rfl) (fun K hK => ?_)
              go_simp
              refine (classOf_b values _ _ _ _ _ HCA.out _ (hv.below (hbwr.trans (hwu.mono hbwr.size)) fun _ _ h => h) hav).mono ?_
              rintro e wv ⟨rfl, hwv0⟩
              have hwv : Below wr.heap.size wr wv := hwu.trans (hwv0.mono hwu.size)
              refine hK.out _ _ (HSk.out _ hwv) (fun hHeld => ?_)
              clear hK K
              try simp only [Act.put, List.setIfInBounds_toArray, List.set_cons_zero, List.set_cons_succ]
              refine wpX_takeg21 (v := ?_) (by kernel_rfl) (fun _ _ _ h => h) (by rfl) ?_ hHeld ?_
              rotate_left
              · intro w' hSw
                go_simp <;> with_reducible rfl
              try simp only [Act.put, List.setIfInBounds_toArray, List.set_cons_zero, List.set_cons_succ]
              refine wpX_step22 (by kernel_rfl) (fun K hK => ?_)
              go_simp
              refine hK.out _ _ (HSk.out _ hwv) (fun hHeld => ?_)
              clear hK K
              try simp only [Act.put, List.setIfInBounds_toArray, List.set_cons_zero, List.set_cons_succ]
              refine wpAnyX_done (by kernel_rfl) ?_ _
              go_wp2
              go_ret
              exact ⟨ret_int H.out, hbwr.trans (hwv.mono hbwr.size)⟩
      · have H : Hid (0 = res) := by
          show _ = _
          rw [← HK.out, List.drop_of_length_le (l := bk.params) (by omega)]
          cases (e.args.drop k) <;> rfl
        clear HK
        go_wp2
        go_ret
        exact ⟨ret_int H.out, hbwr⟩
  · have H : Hid (4 = res) := by show _ = _; rw [← HRES.out, if_neg hle]
    have ql : ((bk.params.length : Int) != (e.args.length : Int)) = true := by simp; omega
    clear hle
    go_wp2
    go_ret
    exact ⟨ret_int H.out, hbw⟩

def hasI (l : List Int) (n : Int) : Bool := l.any (· == n)
theorem has_is (l : List Int) (al : Option Addr) (cl : Nat) (n : Int) (b : Bool) (hb : hasI l n = b) (w : World) (hl : SlOf w 1 RInt (.slice al l.length cl) l) :
    Calls Try.prog 27 #[.slice al l.length cl, .int .i64 n] w fun e w' => e = .returned (.bool b) ∧ Below w.heap.size w w' := by
  obtain ⟨_, _, _, la⟩ := hl.out
  unfold longest at la
  have HB : Hid (hasI l n = b) := hb
  clear hb
  go_enter Try.func27, Try.ntmps27
  go_wp2
  go_loop [5] (fun i => ∃ k : Nat, k ≤ l.length ∧ i = .int .i64 k ∧ Hid ((l.take k).any (· == n) = false)) (fun i => l.length - (intOf i).toNat)
  case atStart => exact ⟨0, Nat.zero_le _, rfl, rfl⟩
  case round =>
    obtain ⟨k, hk, rfl, HA⟩ := hrel
    by_cases hlt : k < l.length
    · obtain ⟨b2, off2, rfl, hb2, c0⟩ := int_cell hl k hlt
      cases q1 : (l[k] == n)
      · have H : Hid ((l.take (k + 1)).any (· == n) = false) := any_snoc _ _ _ hlt HA.out q1
        clear HA
        go_wp2
        go_round
        case rel => exact ⟨k + 1, by omega, by go_num, H⟩
        case measure => simp [intOf]; omega
      · have H : Hid (true = b) := by show _ = _; rw [← HB.out]; exact (any_at _ _ _ hlt q1).symm
        clear HA
        go_wp2
        go_ret
        exact ⟨ret_bool H.out, Below.refl _ _⟩
    · have H : Hid (false = b) := by show _ = _; rw [← HB.out]; exact (any_none _ _ k (by omega) HA.out).symm
      clear HA
      go_wp2
      go_ret
      exact ⟨ret_bool H.out, Below.refl _ _⟩
end Go.Proofs.Ytnghhhlcifpiaaa
